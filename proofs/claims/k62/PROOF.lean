import PyProof.Rows.All
import Wide.All
import OpenK.AllK
import Wide.FinOn
import HandS.ForMost
import HandS.Conv
import HandS.Wide
import HandS.IsInst
import HandS.Defaults
import HandS.WideBits
import KE.IntBitsLaws
import PySem.Challenge.RW_timegranary_k62_edges
set_option Elab.async false
set_option linter.all false
set_option maxRecDepth 100000
namespace Tg
open PySem PySem.Spec PyProof.Rows L2

/-! ### rules of my own: a call by keywords alone; list(range(a, b, c)) -/
section
variable {X : Cx} {CX : CXT} {k : Nat} {f : Addr} {fd : FuncData} {ps ks : List Str} {sp : Sp} {E : XK} {x : Str} {p pos : Pos} {kws : List Keyword} {tk : TA}
  {g : List Value → List Value → List Value} {gV : List V → List V → List V}
def tKw0 (n : Nat) (sp : Sp) (gV : List V → List V → List V) (E : XK) (tk : TA) : TE :=
  fun σ H Q => tk σ H fun zs H2 => zs.length = n ∧ sp (gV [] zs) H2 Q E
theorem pe_kw0 (F : FnOk X.prog X.w X.K X.mg X.base CX k f fd ps sp) (room : Room k X.A) (gl : Gl X x) (at_x : X.mg x = some (.ref f)) (kept : PySem.W.keepIn X.K (.ref f) = true) (binds : KBn X.K fd ps 0 ks g gV) (lets : Passes CX X E) (vals : PK X kws tk)
    (named : (backToKw pos (keywordEach kws X.env)).all (·.1.isSome) = true := by rfl) (names : (backToKw pos (keywordEach kws X.env)).filterMap (·.1) = ks := by rfl) (nodebug : (x == ("__debug__" : Str)) = false := by decide)
    (nostar : ((backTo pos (starEach [] X.env)).any (·.1) || (backToKw pos (keywordEach kws X.env)).any (·.1.isNone)) = false := by rfl) : PE X (.Call (.Name x p) [] kws pos) (tKw0 ks.length sp gV E tk) := by
  constructor
  intro pins s σ H Q I read
  refine wpAny_Call_Name_kw (ld_glob I gl at_x (PySem.W.callWith_KW0 (h₀ := X.base) I.ok.mod.kin kept named (thn (vals.run pos pins s σ H _ I read) fun ws s2 y => ?_) nostar) nodebug)
  obtain ⟨zs, H2, J, rel, many, h⟩ := y
  rw [names]
  exact ⟨J.kIn, run_fnN (us := []) (vs := []) F room binds lets J .nil rel rfl many h⟩
end

/-- two keywords, the second parameter's first -/
def sw2 {α : Type} : List α → List α
  | [y, x] => [x, y]
  | _ => []
/-- three keywords, the parameters' from the last on -/
def sw3 {α : Type} : List α → List α
  | [z, y, x] => [x, y, z]
  | _ => []
theorem sw2_rel : ∀ {zs : List V} {ws : List Value}, Vals zs ws → Vals (sw2 zs) (sw2 ws)
  | _, _, .nil => .nil
  | _, _, .cons _ .nil => .nil
  | _, _, .cons a (.cons b .nil) => .cons b (.cons a .nil)
  | _, _, .cons _ (.cons _ (.cons _ _)) => .nil
theorem sw3_rel : ∀ {zs : List V} {ws : List Value}, Vals zs ws → Vals (sw3 zs) (sw3 ws)
  | _, _, .nil => .nil
  | _, _, .cons _ .nil => .nil
  | _, _, .cons _ (.cons _ .nil) => .nil
  | _, _, .cons a (.cons b (.cons c .nil)) => .cons c (.cons b (.cons a .nil))
  | _, _, .cons _ (.cons _ (.cons _ (.cons _ _))) => .nil

section
variable {X : Cx} {a b c : Expr} {ta : TA}
def rg3 (a c : Int) (n : Nat) : List V := (List.range n).map fun i => V.int (a + (i : Nat) * c)
theorem rg3_length (a c : Int) (n : Nat) : (rg3 a c n).length = n := by
  simp [rg3]
def R3 (a b c : Int) (n : Nat) : Prop :=
  c ≠ 0 ∧ c.natAbs.log2 < 9000 ∧ Builtin.Range.small a b c = true ∧ Builtin.Range.rangeSize a b c = n ∧ n ≤ 2 ^ 24
def tLst3 (ta : TA) : TE := fun σ H Q => ta σ H fun vs H1 => ∃ (a b c : Int) (n : Nat), vs = [.int a, .int b, .int c] ∧ R3 a b c n ∧
  ∀ q, H1 q = none → Q (.ref q) (upd H1 q (.lst (rg3 a c n)))
theorem pe_lst3 {p p2 pos pos2 : Pos} (calm : X.calm = true) (gl : Gl X "list") (nl : X.mg "list" = none) (gr : Gl X "range") (nr : X.mg "range" = none) (args : PA X [a, b, c] ta)
    (one : starEach [a, b, c] X.env = (false, eval a X.env) :: starEach [b, c] X.env := by rfl) (nostar : (backTo pos2 (starEach [b, c] X.env)).any (·.1) = false := by rfl)
    (whole : starEach [.Call (.Name "range" p2) [a, b, c] [] pos2] X.env = (false, eval (.Call (.Name "range" p2) [a, b, c] [] pos2) X.env) :: starEach [] X.env := by rfl) :
    PE X (.Call (.Name "list" p) [.Call (.Name "range" p2) [a, b, c] [] pos2] [] pos) (tLst3 ta) := by
  constructor
  intro pins s σ H Q I read
  refine Call_ (ld_blt I gl nl boot_list (PyProof.Rows.callWith_type1 (args_cons (Call_ (ld_blt I gr nr boot_range (PyProof.Rows.callWith_type1 (thn (args.run pos2 pins s σ H _ I read) fun us s1 y => ?_) one nostar))) whole) whole))
  obtain ⟨zs, H1, J, rel, i, j, k, n, e, ⟨c0, c1, c2, c3, c4⟩, h⟩ := y
  subst e
  match us, rel with
  | [_, _, _], .cons ⟨t, ei⟩ (.cons ⟨u, ej⟩ (.cons ⟨v, ek⟩ .nil)) =>
    subst ei
    subst ej
    subst ek
    refine call_range_3 c0 (args_nil ?_) (.inl (PyProof.noPylong_of_log2 c1))
    obtain ⟨hx, ehx⟩ : ∃ hx, hx = s1.heap.push { cls := .type "range", data := .fields #[.int i t, .int j u, .int k v] } := ⟨_, rfl⟩
    have J2 : Inv X pins σ H1 { s1 with heap := hx } := by
      rw [ehx]
      exact J.kept (t' := s1.toks) fun _ _ z => Heap.get?_push_of_some _ z
    rw [← ehx]
    refine call_list_range (s := { s1 with heap := hx }) (n := n) (J2.ok.hd calm) (by rw [ehx]; exact IsRange.new ..) c2 c3 c4 fun h' tk acc cc kp made items => ?_
    have len : acc.toList.length = n := Array.length_toList.trans items.1
    have vals : Vals (rg3 i k n) acc.toList := by
      have z := vals_of_get acc.toList (fun m : Nat => V.int (i + m * k)) fun m w hw => by
        obtain ⟨tw, ew⟩ := items.2 m w (by rw [← hw, Array.getElem?_toList])
        exact ⟨tw, ew⟩
      rw [len] at z
      exact z
    refine ⟨.ref hx.objs.size, upd H1 hx.objs.size (.lst (rg3 i k n)), J2.laid kp (Nat.le_refl _) (show ObjOk X.prog X.w _ _ _ (.lst (rg3 i k n)) from ⟨?_, acc.toList, cc, vals, ?_⟩), rfl, h _ (J2.hok.fresh (Nat.le_refl _))⟩
    · rw [rg3_length, sizeLine_eq]
      omega
    · rw [Array.toArray_toList]
      exact made
end

/-! ### lists of ints, compared -/
theorem dp_ints {K : PySem.W.Frag} {H : Hp} : ∀ ns : List Int, DpAll K H (ns.map V.int) (ns.map PyData.int)
  | [] => .nil
  | n :: r => .cons (.int n) (dp_ints r)
theorem lay_ints : ∀ ns : List Int, PyData.canLayAll0 (ns.map PyData.int) = true
  | [] => rfl
  | n :: r => by
    show (true && PyData.canLayAll0 (r.map PyData.int)) = true
    rw [lay_ints r]
    rfl
theorem depth_ints : ∀ ns : List Int, PyData.depthAll (ns.map PyData.int) = 0
  | [] => rfl
  | n :: r => by
    show max 0 (PyData.depthAll (r.map PyData.int)) = 0
    rw [depth_ints r]
    rfl
theorem shaped_ints (ns : List Int) : SeqAt.shaped (.list (ns.map PyData.int)) = true := by
  unfold SeqAt.shaped
  have h1 : PyData.canLay0 (.list (ns.map PyData.int)) = true := lay_ints ns
  have h2 : PyData.depth (.list (ns.map PyData.int)) = 1 := by
    show PyData.depthAll (ns.map PyData.int) + 1 = 1
    rw [depth_ints]
  rw [h1, h2]
  rfl
theorem eqv_ints : ∀ ns : List Int, PyData.eqvAll (ns.map PyData.int) (ns.map PyData.int) = true
  | [] => rfl
  | n :: r => by
    show ((n == n) && PyData.eqvAll (r.map PyData.int) (r.map PyData.int)) = true
    rw [eqv_ints r, beq_self_eq_true]
    rfl
theorem dp_lst {K : PySem.W.Frag} {H : Hp} {a : Addr} {ns : List Int} (h : SqL K H a (ns.map V.int)) : Dp K H (.ref a) (.list (ns.map PyData.int)) := .lst h (dp_ints ns)
end Tg

namespace Tg
open PySem PySem.Spec PyProof.Rows L2
/-! ### defs, methods and classes as a caller needs them -/
section
variable (P : Program) (w : World) (K : PySem.W.Frag) (mg : Str → Option Value) (base : Heap)
/-- the def x is there, and keeps sp by level k -/
def Cal (k : Nat) (x : Str) (ps : List Str) (sp : Sp) : Prop := ∃ f fd, FnOk P w K mg base CX0 k f fd ps sp ∧ mg x = some (.ref f) ∧ PySem.W.keepIn K (.ref f) = true ∧ Binds K fd ps []
/-- the places that is tells, out of a list -/
def prm {α : Type} (is : List Nat) (zs : List α) : List α := is.filterMap fun i => zs[i]?
/-- the same with keywords alone, ks in this order; is: the places of the parameters among them -/
def CalK (k : Nat) (x : Str) (ps ks : List Str) (is : List Nat) (sp : Sp) : Prop := ∃ f fd, FnOk P w K mg base CX0 k f fd ps sp ∧ mg x = some (.ref f) ∧ PySem.W.keepIn K (.ref f) = true ∧ KBn K fd ps 0 ks (fun _ ws => prm is ws) (fun _ zs => prm is zs)
/-- a method of the class C -/
def CalM (k : Nat) (C : Addr) (m : Str) (ps : List Str) (sp : Sp) : Prop := ∃ f fd, FnOk P w K mg base CX0 k f fd ps sp ∧ Meth K C m f ∧ Binds K fd ps []
def CalMK (k : Nat) (C : Addr) (m : Str) (ps ks : List Str) (is : List Nat) (sp : Sp) : Prop := ∃ f fd, FnOk P w K mg base CX0 k f fd ps sp ∧ Meth K C m f ∧ KBn K fd ps 1 ks (fun us ws => us ++ prm is ws) (fun vs zs => vs ++ prm is zs)
/-- a class, by its __init__ -/
def CalC (k : Nat) (x : Str) (C : Addr) (ps : List Str) (sp : Sp) : Prop := ∃ f fd, FnOk P w K mg base CX0 k f fd ps sp ∧ mg x = some (.ref C) ∧ Mk K C f ∧ Binds K fd ps []
end
theorem vals_at : ∀ {zs : List V} {ws : List Value}, Vals zs ws → ∀ i : Nat, (zs[i]? = none ∧ ws[i]? = none) ∨ ∃ z w, zs[i]? = some z ∧ ws[i]? = some w ∧ RelV z w
  | _, _, .nil, i => .inl ⟨by simp, by simp⟩
  | _, _, .cons a b, i => by
    cases i with
    | zero => exact .inr ⟨_, _, rfl, rfl, a⟩
    | succ i => exact vals_at b i
theorem prm_rel {zs : List V} {ws : List Value} (h : Vals zs ws) : ∀ is : List Nat, Vals (prm is zs) (prm is ws)
  | [] => .nil
  | i :: r => by
    have ih := prm_rel h r
    unfold prm at ih ⊢
    rcases vals_at h i with ⟨h1, h2⟩ | ⟨z, w, h1, h2, h3⟩
    · rw [List.filterMap_cons_none h1, List.filterMap_cons_none h2]
      exact ih
    · rw [List.filterMap_cons_some h1, List.filterMap_cons_some h2]
      exact .cons h3 ih
section
variable {X : Cx} {k : Nat} {ps ks : List Str} {is : List Nat} {sp : Sp} {x m : Str} {C : Addr} {o e : Expr} {es : List Expr} {p pos apos : Pos} {kws : List Keyword} {ta t tk : TA} {to : TE}
theorem pe_cal (c : Cal X.prog X.w X.K X.mg X.base k x ps sp) (hr : Room k X.A) (gl : Gl X x) (ha : PA X (e :: es) t) (hdb : (x == ("__debug__" : Str)) = false := by decide)
    (he : starEach (e :: es) X.env = (false, eval e X.env) :: starEach es X.env := by rfl) (hpl : (backTo pos (starEach es X.env)).any (·.1) = false := by rfl) : PE X (.Call (.Name x p) (e :: es) [] pos) (tCall sp [] E0 t) := by
  obtain ⟨f, fd, F, hm, hk, hb⟩ := c
  exact pe_call F hr gl hm hk hb .nil pass0 ha hdb he hpl
theorem pe_calK (c : CalK X.prog X.w X.K X.mg X.base k x ps ks is sp) (hr : Room k X.A) (gl : Gl X x) (vals : PK X kws tk)
    (named : (backToKw pos (keywordEach kws X.env)).all (·.1.isSome) = true := by rfl) (names : (backToKw pos (keywordEach kws X.env)).filterMap (·.1) = ks := by rfl) (nodebug : (x == ("__debug__" : Str)) = false := by decide)
    (nostar : ((backTo pos (starEach [] X.env)).any (·.1) || (backToKw pos (keywordEach kws X.env)).any (·.1.isNone)) = false := by rfl) :
    PE X (.Call (.Name x p) [] kws pos) (tKw0 ks.length sp (fun _ zs => prm is zs) E0 tk) := by
  obtain ⟨f, fd, F, hm, hk, hb⟩ := c
  exact pe_kw0 F hr gl hm hk hb pass0 vals named names nodebug nostar
theorem pe_calM {pl : Sem Bool} (he : PE X o to) (cl : Cls X.K C) (c : CalM X.prog X.w X.K X.mg X.base k C m ps sp) (hr : Room k X.A) (ha : PA X (e :: es) t)
    (hst : starEach (e :: es) X.env = (false, eval e X.env) :: starEach es X.env := by rfl) (hpl : (backTo pos (starEach es X.env)).any (·.1) = false := by rfl) (ht : eval (.Call (.Attribute o m apos) (e :: es) [] pos) X.env = (do let ov ← eval o X.env; standAt apos.atName; let (f, first) ← holding [ov] (getMethod ov m pl); callWith pos f first (backTo pos (starEach (e :: es) X.env)) (backToKw pos (keywordEach [] X.env))) := by rfl) :
    PE X (.Call (.Attribute o m apos) (e :: es) [] pos) (tMeth C m sp [] E0 to t) := by
  obtain ⟨f, fd, F, hm, hb⟩ := c
  exact pe_meth (pl := pl) he cl hm F hr hb .nil pass0 ha hst hpl ht
theorem pe_calM0 {pl : Sem Bool} (he : PE X o to) (cl : Cls X.K C) (c : CalM X.prog X.w X.K X.mg X.base k C m ps sp) (hr : Room k X.A)
    (ht : eval (.Call (.Attribute o m apos) [] [] pos) X.env = (do let ov ← eval o X.env; standAt apos.atName; let (f, first) ← holding [ov] (getMethod ov m pl); callWith pos f first (backTo pos (starEach [] X.env)) (backToKw pos (keywordEach [] X.env))) := by rfl) :
    PE X (.Call (.Attribute o m apos) [] [] pos) (tMeth C m sp [] E0 to tNil) := by
  obtain ⟨f, fd, F, hm, hb⟩ := c
  exact pe_meth0 (pl := pl) he cl hm F hr hb .nil pass0 ht
/-- o.m(k = v, ..) -/
def tMethK (C : Addr) (m : Str) (n : Nat) (sp : Sp) (is : List Nat) (E : XK) (to : TE) (tk : TA) : TE := fun σ H Q => to σ H fun x H1 => ∃ a dx fs, x = .ref a ∧ H1 a = some (.ins C dx fs) ∧ fs.lookup m = none ∧ tk σ H1 fun zs H2 => zs.length = n ∧ sp (x :: prm is zs) H2 Q E
theorem pe_calMK {pl : Sem Bool} (he : PE X o to) (cl : Cls X.K C) (c : CalMK X.prog X.w X.K X.mg X.base k C m ps ks is sp) (hr : Room k X.A) (vals : PK X kws tk)
    (named : (backToKw pos (keywordEach kws X.env)).all (·.1.isSome) = true := by rfl) (names : (backToKw pos (keywordEach kws X.env)).filterMap (·.1) = ks := by rfl)
    (nostar : ((backTo pos (starEach [] X.env)).any (·.1) || (backToKw pos (keywordEach kws X.env)).any (·.1.isNone)) = false := by rfl)
    (ht : eval (.Call (.Attribute o m apos) [] kws pos) X.env = (do let ov ← eval o X.env; standAt apos.atName; let (f, first) ← holding [ov] (getMethod ov m pl); callWith pos f first (backTo pos (starEach [] X.env)) (backToKw pos (keywordEach kws X.env))) := by rfl) :
    PE X (.Call (.Attribute o m apos) [] kws pos) (tMethK C m ks.length sp is E0 to tk) := by
  obtain ⟨f, fd, F, hm, hb⟩ := c
  constructor
  intro pins s σ H Q I read
  refine PySem.W.methodCall_KW (pl := pl) (thn (he.run pins s σ H _ I read) fun u s1 ⟨x, H1, I1, rx, a, dx, fs, ex, ea, l, q⟩ => ?_) ht
  subst ex
  obtain rfl : u = .ref a := rx
  refine getmeth_ok I1 ea cl hm l ?_
  refine PySem.W.callWith_KW0 (first := [.ref a]) (h₀ := X.base) I.ok.mod.kin hm.kp named (thn (vals.run pos pins s1 σ H1 _ I1 q) fun ws s2 y => ?_) nostar
  obtain ⟨zs, H2, J, rel, many, h⟩ := y
  rw [names]
  exact ⟨J.kIn, run_fnN (E := E0) (us := [.ref a]) (vs := [.ref a]) F hr hb pass0 J (.cons rfl .nil) rel rfl many h⟩
theorem pe_calC0 (c : CalC X.prog X.w X.K X.mg X.base k x C ps sp) (hr : Room (k + 1) X.A) (gl : Gl X x) (hdb : (x == ("__debug__" : Str)) = false := by decide) : PE X (.Call (.Name x p) [] [] pos) (tMake C sp [] E0 tNil) := by
  obtain ⟨f, fd, F, hm, M, hb⟩ := c
  exact pe_make0 M F hr gl hm hb .nil pass0 hdb
theorem pe_calC (c : CalC X.prog X.w X.K X.mg X.base k x C ps sp) (hr : Room (k + 1) X.A) (gl : Gl X x) (ha : PA X (e :: es) t) (hdb : (x == ("__debug__" : Str)) = false := by decide)
    (he : starEach (e :: es) X.env = (false, eval e X.env) :: starEach es X.env := by rfl) (hpl : (backTo pos (starEach es X.env)).any (·.1) = false := by rfl) : PE X (.Call (.Name x p) (e :: es) [] pos) (tMake C sp [] E0 t) := by
  obtain ⟨f, fd, F, hm, M, hb⟩ := c
  exact pe_make M F hr gl hm hb .nil pass0 ha hdb he hpl
end
end Tg

namespace Tg
open PySem PySem.Spec PyProof.Rows L2
/-! ### the heap: what stands -/
/-- all but p stands as it stood -/
def Kp (p : Addr) (H H' : Hp) : Prop := ∀ b o, b ≠ p → H b = some o → H' b = some o
theorem Kp.refl (p : Addr) (H : Hp) : Kp p H H := fun _ _ _ h => h
theorem Kp.trans {p : Addr} {H H1 H2 : Hp} (a : Kp p H H1) (b : Kp p H1 H2) : Kp p H H2 := fun c o hc h => b c o hc (a c o hc h)
theorem Kp.of {p : Addr} {H H' : Hp} (s : Same H H') : Kp p H H' := fun c o _ h => s c o h
theorem Kp.put {p : Addr} {H : Hp} {o : HO} : Kp p H (upd H p o) := fun c u hc h => by
  rw [upd_ne hc]
  exact h
/-- what is new stays apart -/
theorem Kp.same {p : Addr} {H H1 H2 : Hp} (s : Same H H1) (n : H p = none) (k : Kp p H1 H2) : Same H H2 := fun b o h => k b o (ne_of_none h n) (s b o h)
theorem same_new {H : Hp} {p : Addr} {o : HO} (h : H p = none) : Same H (upd H p o) := fun b x e => by
  rw [upd_ne (ne_of_none e h)]
  exact e
theorem same_put {H H' : Hp} {D : Addr} {o : HO} (n : H D = none) (s : Same H H') : Same H (upd H' D o) := fun b x e => by
  rw [upd_ne (ne_of_none e n)]
  exact s _ _ e
/-- what can't be changed: tuples, and what is locked -/
def Fix : HO → Prop
  | .tup _ => True
  | .frz _ _ => True
  | _ => False
/-- all that can't be changed stands -/
def KT (H H' : Hp) : Prop := ∀ a o, Fix o → H a = some o → H' a = some o
theorem KT.refl (H : Hp) : KT H H := fun _ _ _ h => h
theorem KT.trans {H H1 H2 : Hp} (a : KT H H1) (b : KT H1 H2) : KT H H2 := fun c o f h => b c o f (a c o f h)
theorem KT.of {H H' : Hp} (s : Same H H') : KT H H' := fun c o _ h => s c o h
theorem KT.kp {p : Addr} {H H' : Hp} {o : HO} (k : Kp p H H') (h : H p = some o) (n : ¬ Fix o) : KT H H' := fun a u f e => k a u (fun z => n (by
  rw [z, h] at e
  cases e
  exact f)) e
theorem KT.put {p : Addr} {H : Hp} {o u : HO} (h : H p = some o) (n : ¬ Fix o) : KT H (upd H p u) := KT.kp Kp.put h n
theorem KT.new {p : Addr} {H : Hp} {u : HO} (h : H p = none) : KT H (upd H p u) := KT.of (same_new h)
theorem nfix_lst {xs : List V} : ¬ Fix (.lst xs) := fun z => z
theorem nfix_dK {xs : List (Key × V)} : ¬ Fix (.dK xs) := fun z => z
theorem nfix_ins {C dx : Addr} {fs : List (Str × V)} : ¬ Fix (.ins C dx fs) := fun z => z
/-! ### data -/
theorem rd_same {H H' : Hp} {a : Addr} {o : HO} (s : Same H H') (h : Rd H a o) : Rd H' a o := by
  rcases h with h | ⟨ob, h⟩
  · exact .inl (s _ _ h)
  · exact .inr ⟨ob, s _ _ h⟩
theorem sqL_same {K : PySem.W.Frag} {H H' : Hp} {a : Addr} {xs : List V} (s : Same H H') (h : SqL K H a xs) : SqL K H' a xs := h.imp (rd_same s) id
theorem sqT_same {K : PySem.W.Frag} {H H' : Hp} {a : Addr} {xs : List V} (s : Same H H') (h : SqT K H a xs) : SqT K H' a xs := h.imp (rd_same s) id
theorem sqT_kt {K : PySem.W.Frag} {H H' : Hp} {a : Addr} {xs : List V} (s : KT H H') (h : SqT K H a xs) : SqT K H' a xs := by
  refine h.imp (fun h => ?_) id
  rcases h with h | ⟨ob, h⟩
  · exact .inl (s _ _ trivial h)
  · exact .inr ⟨ob, s _ _ trivial h⟩
mutual
theorem dp_same {K : PySem.W.Frag} {H H' : Hp} (s : Same H H') : ∀ {x : V} {d : PyData}, Dp K H x d → Dp K H' x d
  | _, _, .non => .non
  | _, _, .bl b => .bl b
  | _, _, .int i => .int i
  | _, _, .str z => .str z
  | _, _, .lst a b => .lst (sqL_same s a) (dpAll_same s b)
  | _, _, .tup a b => .tup (sqT_same s a) (dpAll_same s b)
theorem dpAll_same {K : PySem.W.Frag} {H H' : Hp} (s : Same H H') : ∀ {xs : List V} {ds : List PyData}, DpAll K H xs ds → DpAll K H' xs ds
  | _, _, .nil => .nil
  | _, _, .cons a b => .cons (dp_same s a) (dpAll_same s b)
end
/-- no list and no dict in it -/
inductive TD : PyData → Prop
  | non : TD .none
  | bl (b : Bool) : TD (.bool b)
  | int (i : Int) : TD (.int i)
  | str (z : Str) : TD (.str z)
  | tup {ds : List PyData} : (∀ d, d ∈ ds → TD d) → TD (.tuple ds)
mutual
theorem dp_kt {K : PySem.W.Frag} {H H' : Hp} (s : KT H H') : ∀ {x : V} {d : PyData}, Dp K H x d → TD d → Dp K H' x d
  | _, _, .non, _ => .non
  | _, _, .bl b, _ => .bl b
  | _, _, .int i, _ => .int i
  | _, _, .str z, _ => .str z
  | _, _, .lst _ _, t => nomatch t
  | _, _, .tup a b, .tup t => .tup (sqT_kt s a) (dpAll_kt s b t)
theorem dpAll_kt {K : PySem.W.Frag} {H H' : Hp} (s : KT H H') : ∀ {xs : List V} {ds : List PyData}, DpAll K H xs ds → (∀ d, d ∈ ds → TD d) → DpAll K H' xs ds
  | _, _, .nil, _ => .nil
  | _, _, .cons a b, t => .cons (dp_kt s a (t _ List.mem_cons_self)) (dpAll_kt s b fun d hd => t d (List.mem_cons_of_mem _ hd))
end
theorem dpAll_len {K : PySem.W.Frag} {H : Hp} : ∀ {xs : List V} {ds : List PyData}, DpAll K H xs ds → xs.length = ds.length
  | _, _, .nil => rfl
  | _, _, .cons _ b => congrArg Nat.succ (dpAll_len b)
theorem dpAll_at {K : PySem.W.Frag} {H : Hp} : ∀ {xs : List V} {ds : List PyData}, DpAll K H xs ds → ∀ (i : Nat) (x : V), xs[i]? = some x → ∃ d, ds[i]? = some d ∧ Dp K H x d
  | _, _, .nil => fun i x h => by simp at h
  | _, _, .cons a b => fun i x h => by
    cases i with
    | zero =>
      simp only [Option.some.injEq, List.getElem?_cons_zero] at h
      subst h
      exact ⟨_, rfl, a⟩
    | succ i =>
      rw [List.getElem?_cons_succ] at h ⊢
      exact dpAll_at b i x h
theorem dpAll_tk {K : PySem.W.Frag} {H : Hp} : ∀ {xs : List V} {ds : List PyData}, DpAll K H xs ds → ∀ (i : Nat) (d : PyData), ds[i]? = some d → ∃ x, xs[i]? = some x ∧ Dp K H x d
  | _, _, .nil => fun i x h => by simp at h
  | _, _, .cons a b => fun i x h => by
    cases i with
    | zero =>
      simp only [Option.some.injEq, List.getElem?_cons_zero] at h
      subst h
      exact ⟨_, rfl, a⟩
    | succ i =>
      rw [List.getElem?_cons_succ] at h ⊢
      exact dpAll_tk b i x h
theorem dpAll_app {K : PySem.W.Frag} {H : Hp} : ∀ {xs ys : List V} {ds es : List PyData}, DpAll K H xs ds → DpAll K H ys es → DpAll K H (xs ++ ys) (ds ++ es)
  | _, _, _, _, .nil, h => h
  | _, _, _, _, .cons a b, h => .cons a (dpAll_app b h)
theorem dpAll_snoc {K : PySem.W.Frag} {H : Hp} {xs : List V} {ds : List PyData} {y : V} {e : PyData} (h : DpAll K H xs ds) (a : Dp K H y e) : DpAll K H (xs ++ [y]) (ds ++ [e]) := dpAll_app h (.cons a .nil)
/-- a list of data that can't be changed itself -/
def LD (K : PySem.W.Frag) (H : Hp) (a : Addr) (ds : List PyData) : Prop := ∃ xs, H a = some (.lst xs) ∧ DpAll K H xs ds
theorem LD.dp {K : PySem.W.Frag} {H : Hp} {a : Addr} {ds : List PyData} (h : LD K H a ds) : Dp K H (.ref a) (.list ds) := by
  obtain ⟨xs, h1, h2⟩ := h
  exact .lst (SqL.of h1) h2
theorem LD.same {K : PySem.W.Frag} {H H' : Hp} {a : Addr} {ds : List PyData} (s : Same H H') (h : LD K H a ds) : LD K H' a ds := by
  obtain ⟨xs, h1, h2⟩ := h
  exact ⟨xs, s _ _ h1, dpAll_same s h2⟩
/-- where the list itself stands and all tuples do -/
theorem LD.kt {K : PySem.W.Frag} {H H' : Hp} {a : Addr} {ds : List PyData} (s : KT H H') (e : ∀ o, H a = some o → H' a = some o) (t : ∀ d, d ∈ ds → TD d) (h : LD K H a ds) : LD K H' a ds := by
  obtain ⟨xs, h1, h2⟩ := h
  exact ⟨xs, e _ h1, dpAll_kt s h2 t⟩
theorem LD.kp {K : PySem.W.Frag} {H H' : Hp} {a p : Addr} {o : HO} {ds : List PyData} (k : Kp p H H') (hp : H p = some o) (n : ¬ Fix o) (ne : a ≠ p) (t : ∀ d, d ∈ ds → TD d) (h : LD K H a ds) : LD K H' a ds :=
  h.kt (KT.kp k hp n) (fun u e => k _ _ ne e) t
/-- one more at the end -/
theorem LD.snoc {K : PySem.W.Frag} {H H1 : Hp} {a : Addr} {xs : List V} {ds : List PyData} {y : V} {e : PyData} (k : KT H H1) (h1 : H1 a = some (.lst xs)) (hd : DpAll K H xs ds) (t : ∀ d, d ∈ ds → TD d) (hy : Dp K H1 y e) (te : TD e) :
    LD K (upd H1 a (.lst (xs ++ [y]))) a (ds ++ [e]) :=
  ⟨_, upd_same, dpAll_snoc (dpAll_kt (k.trans (KT.put h1 nfix_lst)) hd t) (dp_kt (KT.put h1 nfix_lst) hy te)⟩
theorem shaped_of {d : PyData} (h1 : d.canLay0 = true) (h2 : d.depth ≤ 64) : SeqAt.shaped d = true := by
  unfold SeqAt.shaped
  rw [h1, decide_eq_true h2]
  rfl
theorem if_f {A B : Prop} (h : B) : if false = true then A else B := by
  rw [if_neg (by decide)]
  exact h
theorem if_t {A B : Prop} (h : A) : if true = true then A else B := by
  rw [if_pos rfl]
  exact h
theorem atI_mem {xs : List Int} {i : Int} (h0 : 0 ≤ i) (h1 : i < xs.length) : ∃ v, v ∈ xs ∧ atI (xs.map V.int) i = some (.int v) := by
  have hn : i.toNat < xs.length := by omega
  obtain ⟨j, rfl⟩ : ∃ j : Nat, i = (j : Int) := ⟨i.toNat, by omega⟩
  have hj : j < xs.length := by omega
  refine ⟨xs[j], List.getElem_mem hj, atI_nat ?_⟩
  rw [List.getElem?_map, List.getElem?_eq_getElem hj]
  rfl
end Tg

namespace Tg
open PySem PySem.Spec PyProof.Rows L2
/-! ### the text -/
def topS (i : Nat) : Stmt := PySem.Challenge.pw_timegranary_k62_edges.main.body.getD i (.Pass ⟨0, 0, 0, 0⟩)
abbrev sMixed : Stmt := topS 4
abbrev sPurse : Stmt := topS 5
abbrev sDraw : Stmt := topS 6
theorem scMixed : FnScope ["_law_cell", "_law_k", "_law_number"] ["_law_cell", "_law_k"] (defScope sMixed) := ⟨rfl, rfl, rfl, by decide +kernel, rfl, by decide +kernel, by decide +kernel⟩
theorem scPurse : FnScope ["_law_script", "_law_at", "_law_cell", "_law_cut", "_law_k"] ["_law_script", "_law_at"] (defScope sPurse) := ⟨rfl, rfl, rfl, by decide +kernel, rfl, by decide +kernel, by decide +kernel⟩
theorem scDraw : FnScope ["_law_purse_here", "_law_out_of", "_law_drawn", "_law_number", "_law_k"] ["_law_purse_here", "_law_out_of"] (defScope sDraw) := ⟨rfl, rfl, rfl, by decide +kernel, rfl, by decide +kernel, by decide +kernel⟩
/-! ### purses: what is drawn from -/
/-- a purse at p, from which at most n were drawn -/
def Pu (H : Hp) (p : Addr) (n : Nat) : Prop := ∃ a c k : Int, H p = some (.lst [.int a, .int c, .int k]) ∧ 0 ≤ k ∧ k ≤ n
theorem Pu.same {H H' : Hp} {p : Addr} {n : Nat} (s : Same H H') (h : Pu H p n) : Pu H' p n := by
  obtain ⟨a, c, k, e, r⟩ := h
  exact ⟨a, c, k, s _ _ e, r⟩
theorem Pu.ne {H : Hp} {p l : Addr} {n : Nat} (d : Pu H p n) (h : H l = none) : l ≠ p := fun z => by
  obtain ⟨_, _, _, z2, _⟩ := d
  rw [z, z2] at h
  cases h
theorem Pu.kt {H H' : Hp} {p : Addr} {n : Nat} (d : Pu H p n) (k : Kp p H H') : KT H H' := by
  obtain ⟨_, _, _, z2, _⟩ := d
  exact KT.kp k z2 nfix_lst
theorem Pu.mono {H : Hp} {p : Addr} {n m : Nat} (d : Pu H p n) (h : n ≤ m) : Pu H p m := by
  obtain ⟨a, c, k, e, r0, r1⟩ := d
  exact ⟨a, c, k, e, r0, by omega⟩
section
variable {P : Program} {w : World} {K : PySem.W.Frag} {mg : Str → Option Value} {base : Heap}
def spMixed : Sp := fun vs H Q _ => ∃ c k : Int, vs = [.int c, .int k] ∧ 0 ≤ k ∧ k < 2 ^ 40 ∧ ∀ v : Int, Q (.int v) H
theorem ok_mixed {f : Addr} {fd : FuncData} {k : Nat} (F : Fun K "_law_mixed" "_law_mixed" sMixed f fd) : FnOk P w K mg base CX0 (k + 1) f fd ["_law_cell", "_law_k"] spMixed := by
  refine F.ok scMixed (fun vs H Q E h => ?_) (fun cdv A outer s H vs Q E hr h => ?_)
  · obtain ⟨c, k, rfl, _⟩ := h
    rfl
  · obtain ⟨c, k, rfl, k0, k1, q⟩ := h
    refine ⟨_, pss_cons (ps_set (i := 2) scMixed.nd rfl (.inl rfl) (pe_op op_mod (pe_op op_add (pe_op op_add (pe_op op_add (pe_op op_mul (pv 0) pe_int) (pe_op op_mul (pe_op op_mul pe_int (pv 1)) (pv 1))) (pv 1)) pe_int) pe_int))
      (pss_cons (ps_set (i := 2) scMixed.nd rfl (.inl rfl) (pe_op op_mod (pe_op op_add (pe_op op_mul (pv 2) (pv 2)) pe_int) pe_int))
      (pss_one (ps_ret (pe_op op_mod (pe_op op_mul (pv 2) pe_int) pe_int)))), ?_⟩
    refine ⟨_, rfl, _, _, rfl, rfl, .inr ⟨by decide, by decide⟩, _, rfl, _, _, rfl, rfl, .inl ⟨by decide, by decide⟩, _, rfl, _, _, rfl, rfl, .inr ⟨by omega, by omega⟩, _, _, rfl, rfl, _, rfl, _, _, rfl, rfl, _, _, rfl, rfl, _, _, rfl, rfl, (by show (0 : Int) < 2147483647; decide), ?_⟩
    generalize (c * 1103515245 + 7919 * k * k + k + 1) = y
    have y0 := Int.emod_nonneg y (show (2147483647 : Int) ≠ 0 by decide)
    have y1 := Int.emod_lt_of_pos y (show (0 : Int) < 2147483647 by decide)
    refine ⟨_, rfl, _, rfl, _, _, rfl, rfl, .inl ⟨by omega, by omega⟩, _, _, rfl, rfl, _, _, rfl, rfl, (by show (0 : Int) < 2147483629; decide), ?_⟩
    exact ⟨_, rfl, _, _, rfl, rfl, .inr ⟨by decide, by decide⟩, _, _, rfl, rfl, (by show (0 : Int) < 2147483587; decide), q _⟩
def spDraw : Sp := fun vs H Q _ => ∃ (p : Addr) (n : Nat) (m : Int), vs = [.ref p, .int m] ∧ Pu H p n ∧ n < 2 ^ 38 ∧ 0 < m ∧ m < 2 ^ 50 ∧
  ∀ (v : Int) (H' : Hp), Kp p H H' → Pu H' p (n + 2) → 0 ≤ v → v < m → Q (.int v) H'
theorem ok_draw {f : Addr} {fd : FuncData} {k : Nat} (F : Fun K "_law_draw" "_law_draw" sDraw f fd) (C_mixed : Cal P w K mg base k "_law_mixed" ["_law_cell", "_law_k"] spMixed) (m_range : mg "range" = none) :
    FnOk P w K mg base CX0 (k + 1) f fd ["_law_purse_here", "_law_out_of"] spDraw := by
  refine F.ok scDraw (fun vs H Q E h => ?_) (fun cdv A outer s H vs Q E hr h => ?_)
  · obtain ⟨p, n, m, rfl, _⟩ := h
    rfl
  · obtain ⟨p, n, m, rfl, ⟨a, c, k, hp, k0, k1⟩, hn, m0, m1, q⟩ := h
    refine ⟨_, pss_cons (ps_if (pt_cmpR op_gt (pe_ix ix_list (pv 0) pe_int (fun _ _ => rfl)) pe_int (nomark _))
        (pss_cons (ps_set (i := 2) scDraw.nd rfl (.inl rfl) (pe_op op_mod (pe_ix ix_list (pv 0) pe_int (fun _ _ => rfl)) (pv 1)))
        (pss_cons (ps_asg (pe_op op_fdivW (pe_ix ix_list (pv 0) pe_int (fun _ _ => rfl)) (pv 1)) (pg_sub (pv 0) pe_int set_list))
        (pss_one (ps_ret (pv 2)))))
        pss_nil)
      (pss_cons (ps_set (i := 3) scDraw.nd rfl (.inl rfl) pe_int)
      (pss_cons (ps_for PassesOwn.never rfl (pi_range1 (by rfl) m_range (pa_cons (pe_op op_add pe_int (pe_op op_fdiv (pe_bits (pv 1)) pe_int)) pa_nil)) (pg_name (i := 4) scDraw.nd rfl (.inl rfl))
        (pss_cons (ps_asg (pe_op op_add (pe_ix ix_list (pv 0) pe_int (fun _ _ => rfl)) pe_int) (pg_sub (pv 0) pe_int set_list))
        (pss_one (ps_set (i := 3) scDraw.nd rfl (.inl rfl) (pe_op op_add (pe_op op_mul (pv 3) pe_int) (pe_cal C_mixed (hr.mono (by omega)) (by rfl) (pa_cons (pe_ix ix_list (pv 0) pe_int (fun _ _ => rfl)) (pa_cons (pe_ix ix_list (pv 0) pe_int (fun _ _ => rfl)) pa_nil))))))))
      (pss_one (ps_ret (pe_op op_mod (pv 3) (pv 1)))))), ?_⟩
    have e0 := Int.emod_nonneg a (show m ≠ 0 by omega)
    have e1 := Int.emod_lt_of_pos a m0
    refine ⟨_, rfl, p, _, 0, .int a, rfl, rfl, SqL.of hp, rfl, _, _, rfl, rfl, _, rfl, ite2 (fun g => ?_) (fun g => ?_)⟩
    · refine ⟨_, rfl, p, _, 0, .int a, rfl, rfl, SqL.of hp, rfl, _, rfl, _, _, rfl, rfl, m0, ?_⟩
      refine ⟨_, rfl, p, _, 0, .int a, rfl, rfl, SqL.of hp, rfl, _, rfl, _, _, rfl, rfl, wide_div (b := 50) m0 (by omega) (by decide) (by decide), _, rfl, p, _, 0, 0, rfl, rfl, hp, rfl, _, rfl, ?_⟩
      exact q _ _ Kp.put ⟨_, _, _, upd_same, k0, by omega⟩ e0 e1
    · have b0 : Builtin.Int.intBits m ≤ 50 := intBits_le_iff.mpr (by omega)
      refine ⟨_, rfl, _, rfl, _, _, rfl, rfl, ⟨by decide, by decide⟩, _, _, rfl, rfl, _, rfl, ?_, ?_, ?_⟩
      · omega
      · omega
      · obtain ⟨cn, ec⟩ : ∃ cn : Nat, (1 + ((Builtin.Int.intBits m : Nat) : Int) / 30).toNat = cn := ⟨_, rfl⟩
        have c2 : cn ≤ 2 := by omega
        rw [ec]
        refine for_range (n := cn) (fun i σ H2 => ∃ (num k' : Int) (z : Option V), σ = [some (.ref p), some (.int m), none, some (.int num), z] ∧ Kp p H H2 ∧ H2 p = some (.lst [.int a, .int c, .int k']) ∧ 0 ≤ k' ∧ k' ≤ n + i) ?_ ?_ ?_
        · exact ⟨0, k, none, rfl, Kp.refl _ _, hp, k0, by omega⟩
        · rintro i σ H2 hi ⟨num, k', z, rfl, kp, h2, k0', k1'⟩
          refine ⟨_, rfl, p, _, 2, .int k', rfl, rfl, SqL.of h2, rfl, _, _, rfl, rfl, _, rfl, p, _, 2, 2, rfl, rfl, h2, rfl, ?_⟩
          have h3 : (upd H2 p (.lst [.int a, .int c, .int (k' + 1)])) p = some (.lst [.int a, .int c, .int (k' + 1)]) := upd_same
          refine ⟨_, rfl, _, _, rfl, rfl, .inr ⟨by decide, by decide⟩, _, rfl, p, _, 1, .int c, rfl, rfl, SqL.of h3, rfl, _, rfl, p, _, 2, .int (k' + 1), rfl, rfl, SqL.of h3, rfl, c, k' + 1, rfl, by omega, by omega, fun v => ?_⟩
          exact ⟨_, _, rfl, rfl, _, _, _, rfl, kp.trans Kp.put, h3, by omega, by omega⟩
        · rintro σ H2 ⟨num, k', z, rfl, kp, h2, k0', k1'⟩
          refine ⟨_, rfl, _, rfl, _, _, rfl, rfl, m0, ?_⟩
          exact q _ _ kp ⟨_, _, _, h2, k0', by omega⟩ (Int.emod_nonneg _ (by omega)) (Int.emod_lt_of_pos _ m0)
def spPurse (K : PySem.W.Frag) : Sp := fun vs H Q _ => ∃ (sa : Addr) (ns : List Int) (at_ : Int), vs = [.ref sa, .int at_] ∧ SqL K H sa (ns.map V.int) ∧ ns.length ≤ 63 ∧ 0 ≤ at_ ∧ at_ ≤ 1000 ∧
  ∀ (p : Addr) (H' : Hp), Same H H' → H p = none → Pu H' p 1000000 → Q (.ref p) H'
theorem cut_ints (ns : List Int) (lo hi : Option Int) : ∃ ms : List Int, cutV (ns.map V.int) lo hi = ms.map V.int ∧ ms.length ≤ ns.length := by
  unfold cutV
  refine ⟨(ns.drop (HT.sIx (ns.map V.int).length 0 lo)).take (HT.sIx (ns.map V.int).length (ns.map V.int).length hi - HT.sIx (ns.map V.int).length 0 lo), ?_, ?_⟩
  · rw [List.map_take, List.map_drop]
  · rw [List.length_take, List.length_drop]
    omega
theorem ok_purse {f : Addr} {fd : FuncData} {k : Nat} (F : Fun K "_law_purse" "_law_purse" sPurse f fd) (m_range : mg "range" = none) (m_max : mg "max" = none) :
    FnOk P w K mg base CX0 (k + 1) f fd ["_law_script", "_law_at"] (spPurse K) := by
  refine F.ok scPurse (fun vs H Q E h => ?_) (fun cdv A outer s H vs Q E hr h => ?_)
  · obtain ⟨sa, ns, at_, rfl, _⟩ := h
    rfl
  · obtain ⟨sa, ns, at_, rfl, hS, hl, a0, a1, q⟩ := h
    refine ⟨_, pss_cons (ps_set (i := 2) scPurse.nd rfl (.inl rfl) (pe_ix ix_list (pe_op op_cat (pe_slice sl_list (pv 0) (po_some (pv 1)) (po_some (pe_op op_add (pv 1) pe_int))) (pe_lst (pa_cons pe_int pa_nil))) pe_int (fun _ _ => rfl)))
      (pss_cons (ps_set (i := 3) scPurse.nd rfl (.inl rfl) (pe_op op_pow pe_int pe_int))
      (pss_cons (ps_for PassesOwn.never rfl (pi_range1 (by rfl) m_range (pa_cons pe_int pa_nil)) (pg_name (i := 4) scPurse.nd rfl (.inl rfl))
        (pss_one (ps_set (i := 3) scPurse.nd rfl (.inl rfl) (pe_op op_mulW (pv 3) (pv 3)))))
      (pss_one (ps_ret (pe_lst (pa_cons (pe_op op_mod (pe_callB (call_max2 rfl) (by rfl) m_max boot_max (pa_cons (pe_op op_sub (pv 2) (pe_op op_pow pe_int pe_int)) (pa_cons pe_int pa_nil))) (pv 3)) (pa_cons (pe_op op_mod (pv 2) pe_int) (pa_cons (pe_op op_mul pe_int (pv 1)) pa_nil)))))))), ?_⟩
    obtain ⟨ms, em, lm⟩ := cut_ints ns (some at_) (some (at_ + 1))
    refine ⟨_, rfl, _, rfl, at_, rfl, _, rfl, _, _, rfl, rfl, at_ + 1, rfl, sa, _, rfl, hS, fun l1 n1 => ?_⟩
    rw [em]
    refine ⟨by show 1 ≤ sizeLine; decide, fun l2 n2 => ?_⟩
    have s1 : Same H (upd H l1 (.lst (ms.map V.int))) := same_new n1
    have s2 := same_new (o := .lst [.int 0]) n2
    have m1 : (upd (upd H l1 (.lst (ms.map V.int))) l2 (.lst [.int 0])) l1 = some (.lst (ms.map V.int)) := s2 _ _ upd_same
    refine ⟨l1, l2, _, _, rfl, rfl, m1, upd_same, ?_, fun l3 n3 => ?_⟩
    · rw [List.length_map]
      exact Nat.le_of_lt (small1000 (by show ms.length + 1 ≤ 1000; omega))
    · have s3 := same_new (o := .lst (ms.map V.int ++ [.int 0])) n3
      obtain ⟨c, ec⟩ : ∃ c : Int, atI (ms.map V.int ++ [.int 0]) 0 = some (.int c) := by
        cases ms with
        | nil => exact ⟨0, rfl⟩
        | cons x r =>
          refine ⟨x, ?_⟩
          show atI _ ((0 : Nat) : Int) = _
          exact atI_nat rfl
      have s4 : Same H (upd (upd (upd H l1 (.lst (ms.map V.int))) l2 (.lst [.int 0])) l3 (.lst (ms.map V.int ++ [.int 0]))) := (s1.trans s2).trans s3
      refine ⟨l3, _, 0, .int c, rfl, rfl, SqL.of upd_same, ec, ?_⟩
      refine ⟨10, 60, rfl, rfl, ⟨by decide, by decide, by decide⟩, ?_⟩
      revert s4
      generalize upd (upd (upd H l1 (.lst (ms.map V.int))) l2 (.lst [.int 0])) l3 (.lst (ms.map V.int ++ [.int 0])) = H4
      intro s4
      refine ⟨5, rfl, by decide, by decide, for_range (n := 5) (fun i σ H2 => ∃ (x : Int) (y : Option V), σ = [some (.ref sa), some (.int at_), some (.int c), some (.int x), y] ∧ H2 = H4 ∧ 0 < x ∧ x.natAbs < 2 ^ (200 * 2 ^ i)) ?_ ?_ ?_⟩
      · exact ⟨_, none, rfl, rfl, by decide, by decide⟩
      · rintro i σ H2 hi ⟨x, y, rfl, rfl, hx, hb⟩
        refine ⟨_, rfl, _, rfl, x, x, rfl, rfl, ?_, x * x, _, rfl, rfl, Int.mul_pos hx hx, ?_⟩
        · have h7 : 2 ^ i ≤ 2 ^ 6 := Nat.pow_le_pow_right (by decide) (by omega)
          have h0 : 0 < 2 ^ i := Nat.pow_pos (by decide)
          exact wide_mul hb hb (by omega) (by omega) (by omega)
        · have e := wide_lt hb hb
          rw [show 200 * 2 ^ (i + 1) = 200 * 2 ^ i + 200 * 2 ^ i by rw [Nat.pow_succ]; omega]
          exact e
      · rintro σ H2 ⟨x, y, rfl, rfl, hx, _⟩
        refine ⟨_, rfl, 10, 18, rfl, rfl, ⟨by decide, by decide, by decide⟩, _, _, rfl, rfl, _, _, rfl, _, rfl, _, _, rfl, rfl, hx, _, rfl, _, _, rfl, rfl, (by show (0 : Int) < 2147483647; decide), _, rfl, _, _, rfl, rfl, .inl ⟨by decide, by decide⟩, by show 3 ≤ sizeLine; decide, fun p np => ?_⟩
        exact q p _ (s4.trans (same_new np)) (s4.free np) ⟨_, _, _, upd_same, by omega, by omega⟩
end
end Tg

namespace Tg
open PySem PySem.Spec PyProof.Rows L2
abbrev sPoints : Stmt := topS 7
abbrev sHorizon : Stmt := topS 8
abbrev sDue : Stmt := topS 9
theorem scPoints : FnScope ["_law_purse_here", "_law_base", "_law_time", "_law_found", "_law_k"] ["_law_purse_here", "_law_base"] (defScope sPoints) := ⟨rfl, rfl, rfl, by decide +kernel, rfl, by decide +kernel, by decide +kernel⟩
theorem scHorizon : FnScope ["_law_purse_here", "_law_base", "_law_some_points"] ["_law_purse_here", "_law_base", "_law_some_points"] (defScope sHorizon) := ⟨rfl, rfl, rfl, by decide +kernel, rfl, by decide +kernel, by decide +kernel⟩
theorem scDue : FnScope ["_law_kept", "_law_some_points", "_law_an_end", "_law_found", "_law_time", "_law_worth"] ["_law_kept", "_law_some_points", "_law_an_end"] (defScope sDue) := ⟨rfl, rfl, rfl, by decide +kernel, rfl, by decide +kernel, by decide +kernel⟩
/-! ### points as data -/
abbrev Pt := Int × Int
def pd (x : Pt) : PyData := .tuple [.int x.1, .int x.2]
def od : Option Pt → PyData
  | none => .none
  | some x => pd x
theorem td_pd (x : Pt) : TD (pd x) := .tup fun d hd => by
  simp only [List.mem_cons, List.not_mem_nil, or_false] at hd
  rcases hd with rfl | rfl
  · exact .int _
  · exact .int _
theorem td_od : ∀ o : Option Pt, TD (od o)
  | none => .non
  | some x => td_pd x
theorem td_pds (ps : List Pt) : ∀ d, d ∈ ps.map pd → TD d := fun d hd => by
  obtain ⟨x, _, rfl⟩ := List.mem_map.mp hd
  exact td_pd x
theorem pd_all (ps : List Pt) : PyData.canLayAll0 (ps.map pd) = true ∧ PyData.depthAll (ps.map pd) ≤ 1 ∧ PyData.eqvAll (ps.map pd) (ps.map pd) = true := by
  induction ps with
  | nil => exact ⟨rfl, Nat.zero_le _, rfl⟩
  | cons x r ih =>
    obtain ⟨h1, h2, h3⟩ := ih
    refine ⟨?_, ?_, ?_⟩
    · show (true && PyData.canLayAll0 (r.map pd)) = true
      rw [h1]
      rfl
    · show max 1 (PyData.depthAll (r.map pd)) ≤ 1
      omega
    · show (((x.1 == x.1) && ((x.2 == x.2) && true)) && PyData.eqvAll (r.map pd) (r.map pd)) = true
      rw [h3, beq_self_eq_true, beq_self_eq_true]
      rfl
theorem sh_pds (ps : List Pt) : SeqAt.shaped (.list (ps.map pd)) = true := by
  refine shaped_of (pd_all ps).1 ?_
  show PyData.depthAll (ps.map pd) + 1 ≤ 64
  have := (pd_all ps).2.1
  omega
theorem eq_pds (ps : List Pt) : PyData.eqv (.list (ps.map pd)) (.list (ps.map pd)) = true := (pd_all ps).2.2
theorem sh_od : ∀ o : Option Pt, SeqAt.shaped (od o) = true
  | none => by decide +kernel
  | some x => shaped_of rfl (by show 1 ≤ 64; decide)
theorem eq_od : ∀ o : Option Pt, PyData.eqv (od o) (od o) = true
  | none => rfl
  | some x => by
    show ((x.1 == x.1) && ((x.2 == x.2) && true)) = true
    rw [beq_self_eq_true, beq_self_eq_true]
    rfl
theorem dp_pd {K : PySem.W.Frag} {H : Hp} {v : V} {x : Pt} (h : Dp K H v (pd x)) : ∃ a, v = .ref a ∧ SqT K H a [.int x.1, .int x.2] := by
  cases h with
  | tup a b =>
    cases b with
    | cons h1 b =>
      cases b with
      | cons h2 b =>
        cases b
        cases h1
        cases h2
        exact ⟨_, rfl, a⟩
theorem dp_new {K : PySem.W.Frag} {H : Hp} {a : Addr} {x : Pt} (h : H a = some (.tup [.int x.1, .int x.2])) : Dp K H (.ref a) (pd x) := .tup (SqT.of h) (.cons (.int _) (.cons (.int _) .nil))
/-- an item of a list of points -/
theorem ld_at {K : PySem.W.Frag} {H : Hp} {xs : List V} {ps : List Pt} (h : DpAll K H xs (ps.map pd)) {i : Nat} {v : V} (e : xs[i]? = some v) : ∃ x, ps[i]? = some x ∧ Dp K H v (pd x) := by
  obtain ⟨d, h1, h2⟩ := dpAll_at h i v e
  rw [List.getElem?_map] at h1
  obtain ⟨x, h3, rfl⟩ := Option.map_eq_some_iff.mp h1
  exact ⟨x, h3, h2⟩
theorem ld_get {K : PySem.W.Frag} {H : Hp} {xs : List V} {ps : List Pt} (h : DpAll K H xs (ps.map pd)) {i : Nat} {x : Pt} (e : ps[i]? = some x) : ∃ v, xs[i]? = some v ∧ Dp K H v (pd x) := dpAll_tk h i (pd x) (by rw [List.getElem?_map, e]; rfl)
section
variable {P : Program} {w : World} {K : PySem.W.Frag} {mg : Str → Option Value} {base : Heap}
/-! ### _law_points -/
def spPoints (K : PySem.W.Frag) : Sp := fun vs H Q _ => ∃ (p : Addr) (n : Nat) (b : Int), vs = [.ref p, .int b] ∧ Pu H p n ∧ n < 2 ^ 37 ∧
  ∀ (l : Addr) (ps : List Pt) (H' : Hp), Kp p H H' → Pu H' p (n + 1000) → H l = none → LD K H' l (ps.map pd) → ps.Pairwise (fun x y => x.1 < y.1) → ps.length ≤ 6 → Q (.ref l) H'
theorem ok_points {f : Addr} {fd : FuncData} {k : Nat} (F : Fun K "_law_points" "_law_points" sPoints f fd) (C_draw : Cal P w K mg base k "_law_draw" ["_law_purse_here", "_law_out_of"] spDraw) (m_range : mg "range" = none) :
    FnOk P w K mg base CX0 (k + 1) f fd ["_law_purse_here", "_law_base"] (spPoints K) := by
  refine F.ok scPoints (fun vs H Q E h => ?_) (fun cdv A outer s H vs Q E hr h => ?_)
  · obtain ⟨p, n, b, rfl, _⟩ := h
    rfl
  · obtain ⟨p, n, b, rfl, hp, hn, q⟩ := h
    refine ⟨_, pss_cons (ps_set (i := 2) scPoints.nd rfl (.inl rfl) (pe_op op_sub (pe_op op_add (pv 1) (pe_cal C_draw (hr.mono (by omega)) (by rfl) (pa_cons (pv 0) (pa_cons pe_int pa_nil)))) pe_int))
      (pss_cons (ps_set (i := 3) scPoints.nd rfl (.inl rfl) (pe_lst pa_nil))
      (pss_cons (ps_for PassesOwn.never rfl (pi_range1 (by rfl) m_range (pa_cons (pe_cal C_draw (hr.mono (by omega)) (by rfl) (pa_cons (pv 0) (pa_cons pe_int pa_nil))) pa_nil)) (pg_name (i := 4) scPoints.nd rfl (.inl rfl))
        (pss_cons (ps_expr (pe_bm PySem.F.plainAttrs_list PySem.F.slot_list_append PySem.F.type_list_append mt_append (pv 3) (pa_cons (pe_tup (pa_cons (pv 2) (pa_cons (pe_ix ix_list (pe_lst (pa_cons pe_int (pa_cons pe_int (pa_cons (pe_op op_sub pe_int pe_int) (pa_cons (pe_cal C_draw (hr.mono (by omega)) (by rfl) (pa_cons (pv 0) (pa_cons (pe_op op_pow pe_int pe_int) pa_nil))) pa_nil))))) (pe_cal C_draw (hr.mono (by omega)) (by rfl) (pa_cons (pv 0) (pa_cons pe_int pa_nil))) (fun _ _ => rfl)) pa_nil))) pa_nil)))
        (pss_one (ps_set (i := 2) scPoints.nd rfl (.inl rfl) (pe_op op_add (pe_op op_add (pv 2) pe_int) (pe_ix ix_list (pe_lst (pa_cons pe_int (pa_cons pe_int (pa_cons (pe_cal C_draw (hr.mono (by omega)) (by rfl) (pa_cons (pv 0) (pa_cons pe_int pa_nil))) pa_nil)))) (pe_cal C_draw (hr.mono (by omega)) (by rfl) (pa_cons (pv 0) (pa_cons pe_int pa_nil))) (fun _ _ => rfl)))))))
      (pss_one (ps_ret (pv 3))))), ?_⟩
    refine ⟨_, rfl, _, rfl, p, n, 60, rfl, hp, by omega, by decide, by decide, fun v1 H1 k1 p1 _ _ => ?_⟩
    refine ⟨_, _, rfl, rfl, _, _, rfl, rfl, ?_⟩
    refine ⟨Nat.zero_le _, fun l nl => ?_⟩
    have nlp : l ≠ p := p1.ne nl
    have nlH : H l = none := by
      cases e : H l with
      | none => rfl
      | some o =>
        rw [k1 _ _ nlp e] at nl
        cases nl
    have p2 : Pu (upd H1 l (.lst [])) p (n + 2) := p1.same (same_new nl)
    refine ⟨_, rfl, p, n + 2, 7, rfl, p2, by omega, by decide, by decide, fun v2 H2 k2 p3 c0 c1 => ?_⟩
    have hl2 : H2 l = some (.lst []) := k2 _ _ nlp upd_same
    refine ⟨v2, rfl, by omega, by omega, ?_⟩
    obtain ⟨cn, ec⟩ : ∃ cn : Nat, v2.toNat = cn := ⟨_, rfl⟩
    rw [ec]
    refine for_range (n := cn) (fun i σ H3 => ∃ (tm : Int) (ps : List Pt) (z : Option V), σ = [some (.ref p), some (.int b), some (.int tm), some (.ref l), z] ∧ Kp p H H3 ∧ Pu H3 p (n + 4 + 8 * i) ∧ LD K H3 l (ps.map pd) ∧ ps.Pairwise (fun x y => x.1 < y.1) ∧ (∀ x, x ∈ ps → x.1 < tm) ∧ ps.length = i) ?_ ?_ ?_
    · refine ⟨_, [], none, rfl, ?_, p3, ⟨[], hl2, .nil⟩, .nil, (fun _ h => nomatch h), rfl⟩
      exact (k1.trans (.of (same_new nl))).trans k2
    · rintro i σ H3 hi ⟨tm, ps, z, rfl, kp, pu, ⟨xs, hx, hd⟩, hpw, hlt, hlen⟩
      have len : xs.length = i := by
        have := dpAll_len hd
        rw [List.length_map] at this
        omega
      refine ⟨_, rfl, .inl ⟨rfl, _, SqL.of hx⟩, _, rfl, _, _, rfl, rfl, _, rfl, 10, 14, rfl, rfl, ⟨by decide, by decide, by decide⟩, p, _, _, rfl, pu, by omega, by decide, by decide, fun v3 H4 k4 p4 _ _ => ?_⟩
      refine ⟨by show 4 ≤ sizeLine; decide, fun l1 n1 => ?_⟩
      have s5 := same_new (o := .lst [.int 0, .int 5, .int (0 - 7), .int v3]) n1
      refine ⟨_, rfl, p, _, 4, rfl, p4.same s5, by omega, by decide, by decide, fun v4 H5 k5 p5 c2 c3 => ?_⟩
      have m5 : H5 l1 = some (.lst ([0, 5, 0 - 7, v3].map V.int)) := k5 _ _ (p4.ne n1) upd_same
      obtain ⟨wv, _, ew⟩ := atI_mem (xs := [0, 5, 0 - 7, v3]) (i := v4) c2 c3
      refine ⟨l1, _, v4, .int wv, rfl, rfl, SqL.of m5, ew, by show 2 ≤ sizeLine; decide, fun t nt => ?_⟩
      have kk : Kp p H3 H5 := (k4.trans (.of s5)).trans k5
      have hl5 : H5 l = some (.lst xs) := kk _ _ nlp hx
      have hl6 : (upd H5 t (.tup [.int tm, .int wv])) l = some (.lst xs) := same_new nt _ _ hl5
      refine ⟨l, _, _, rfl, rfl, hl6, small1000 (by omega), ?_⟩
      have dt : Dp K (upd H5 t (.tup [.int tm, .int wv])) (.ref t) (pd (tm, wv)) := dp_new upd_same
      have kt3 : KT H3 (upd H5 t (.tup [.int tm, .int wv])) := (pu.kt kk).trans (.new nt)
      have ld6 := LD.snoc kt3 hl6 hd (td_pds ps) dt (td_pd _)
      have p6 : Pu (upd (upd H5 t (.tup [.int tm, .int wv])) l (.lst (xs ++ [.ref t]))) p (n + 4 + 8 * i + 2 + 2) := by
        obtain ⟨pa, pb, pc, h1, h2⟩ := p5.same (same_new (o := .tup [.int tm, .int wv]) nt)
        exact ⟨pa, pb, pc, by rw [upd_ne nlp.symm]; exact h1, h2⟩
      have k6 : Kp p H (upd (upd H5 t (.tup [.int tm, .int wv])) l (.lst (xs ++ [.ref t]))) := fun c o hc e => by
        rw [upd_ne (ne_of_none e nlH)]
        exact same_new nt _ _ (kk _ _ hc (kp _ _ hc e))
      have hl7 : (upd (upd H5 t (.tup [.int tm, .int wv])) l (.lst (xs ++ [.ref t]))) l = some (.lst (xs ++ [.ref t])) := upd_same
      revert ld6 p6 k6 hl7
      generalize upd (upd H5 t (.tup [.int tm, .int wv])) l (.lst (xs ++ [.ref t])) = H7
      intro ld6 p6 k6 hl7
      refine ⟨_, rfl, _, _, rfl, rfl, _, rfl, p, _, 20, rfl, p6, by omega, by decide, by decide, fun v5 H8 k8 p8 c4 c5 => ?_⟩
      refine ⟨by show 3 ≤ sizeLine; decide, fun l2 n2 => ?_⟩
      have s9 := same_new (o := .lst [.int 0, .int 1, .int v5]) n2
      refine ⟨_, rfl, p, _, 3, rfl, p8.same s9, by omega, by decide, by decide, fun v6 H9 k9 p9 c6 c7 => ?_⟩
      have m9 : H9 l2 = some (.lst ([0, 1, v5].map V.int)) := k9 _ _ (p8.ne n2) upd_same
      obtain ⟨sv, hsv, es⟩ := atI_mem (xs := [0, 1, v5]) (i := v6) c6 c7
      have kk9 : Kp p H7 H9 := (k8.trans (.of s9)).trans k9
      obtain ⟨pa, pb, pc, hp7, _⟩ := p6
      refine ⟨l2, _, v6, .int sv, rfl, rfl, SqL.of m9, es, _, _, rfl, rfl, ?_⟩
      have ld9 := ld6.kp kk9 hp7 nfix_lst nlp (fun d hd => by
        rcases List.mem_append.mp hd with h | h
        · exact td_pds ps d h
        · rw [List.mem_singleton.mp h]
          exact td_pd _)
      have sv0 : 0 ≤ sv := by
        simp only [List.mem_cons, List.not_mem_nil, or_false] at hsv
        rcases hsv with rfl | rfl | rfl <;> omega
      refine ⟨tm + 1 + sv, ps ++ [(tm, wv)], _, rfl, k6.trans kk9, p9.mono (by omega), ?_, ?_, ?_, ?_⟩
      · rw [List.map_append]
        exact ld9
      · rw [List.pairwise_append]
        refine ⟨hpw, List.pairwise_singleton _ _, fun x hx y hy => ?_⟩
        rw [List.mem_singleton.mp hy]
        exact hlt x hx
      · intro x hx
        rcases List.mem_append.mp hx with h | h
        · have := hlt x h
          omega
        · rw [List.mem_singleton.mp h]
          show tm < _
          omega
      · rw [List.length_append, hlen]
        rfl
    · rintro σ H3 ⟨tm, ps, z, rfl, kp, pu, ld, hpw, hlt, hlen⟩
      exact ⟨_, rfl, q l ps H3 kp (pu.mono (by omega)) nlH ld hpw (by omega)⟩
/-! ### _law_horizon -/
def spHorizon (K : PySem.W.Frag) : Sp := fun vs H Q _ => ∃ (p l : Addr) (n : Nat) (b : Int) (ps : List Pt), vs = [.ref p, .int b, .ref l] ∧ Pu H p n ∧ n < 2 ^ 37 ∧ l ≠ p ∧ LD K H l (ps.map pd) ∧ ps.length ≤ 6 ∧
  ∀ (v : Int) (H' : Hp), Kp p H H' → Pu H' p (n + 1000) → Q (.int v) H'
theorem ok_horizon {f : Addr} {fd : FuncData} {k : Nat} (F : Fun K "_law_horizon" "_law_horizon" sHorizon f fd) (C_draw : Cal P w K mg base k "_law_draw" ["_law_purse_here", "_law_out_of"] spDraw) (m_len : mg "len" = none) :
    FnOk P w K mg base CX0 (k + 1) f fd ["_law_purse_here", "_law_base", "_law_some_points"] (spHorizon K) := by
  refine F.ok scHorizon (fun vs H Q E h => ?_) (fun cdv A outer s H vs Q E hr h => ?_)
  · obtain ⟨p, l, n, b, ps, rfl, _⟩ := h
    rfl
  · obtain ⟨p, l, n, b, ps, rfl, hp, hn, nlp, ld, hlen, q⟩ := h
    have hu := hr.units
    refine ⟨_, pss_cons (ps_if (PW.pt (pw_or (pt_cmpR (op_eqD hu) (pv 2) (pe_lst pa_nil) (nomark _)) (pw_or1 (pt_cmpR op_eq (pe_cal C_draw (hr.mono (by omega)) (by rfl) (pa_cons (pv 0) (pa_cons pe_int pa_nil))) pe_int (nomark _)))))
        (pss_one (ps_ret (pe_op op_sub (pe_op op_add (pv 1) (pe_cal C_draw (hr.mono (by omega)) (by rfl) (pa_cons (pv 0) (pa_cons pe_int pa_nil)))) pe_int)))
        pss_nil)
      (pss_one (ps_ret (pe_op op_sub (pe_op op_add (pe_ix ix_tup (pe_ix ix_list (pv 2) (pe_cal C_draw (hr.mono (by omega)) (by rfl) (pa_cons (pv 0) (pa_cons (pe_callB call_len_seq (by rfl) m_len PySem.boot_len (pa_cons (pv 2) pa_nil)) pa_nil))) (fun _ _ => rfl)) pe_int (fun _ _ => rfl)) (pe_cal C_draw (hr.mono (by omega)) (by rfl) (pa_cons (pv 0) (pa_cons pe_int pa_nil)))) pe_int))), ?_⟩
    refine ⟨_, rfl, Nat.zero_le _, fun l1 n1 => ?_⟩
    have s1 : Same H (upd H l1 (.lst [])) := same_new n1
    have hp1 := hp.same s1
    have far : ∀ H1 : Hp, Kp p H H1 → ∀ m, Pu H1 p m → m ≤ n + 2 → spDraw [.ref p, .int 90] H1 (fun z H2 => ∃ i j, V.int b = .int i ∧ z = .int j ∧ ∃ i' j', V.int (i + j) = .int i' ∧ V.int 45 = .int j' ∧ Q (.int (i' - j')) H2) E0 := fun H1 k1 m hm le =>
      ⟨p, m, 90, rfl, hm, by omega, by decide, by decide, fun v H2 k2 p2 _ _ => ⟨_, _, rfl, rfl, _, _, rfl, rfl, q _ _ (k1.trans k2) (p2.mono (by omega))⟩⟩
    refine ⟨_, .list [], (ld.same s1).dp, .lst (SqL.of upd_same) .nil, sh_pds ps, by decide +kernel, _, rfl, ite2 (fun g => ?_) (fun g => ?_)⟩
    · exact if_t ⟨_, rfl, _, rfl, far _ (.of s1) n hp1 (by omega)⟩
    · refine ⟨_, rfl, p, n, 4, rfl, hp1, by omega, by decide, by decide, fun v H2 k2 p2 c0 c1 => ⟨rfl, _, rfl, ite2 (fun g2 => ?_) (fun g2 => ?_)⟩⟩
      · exact ⟨_, rfl, _, rfl, far _ ((Kp.of s1).trans k2) (n + 2) p2 (by omega)⟩
      · have k3 : Kp p H H2 := (Kp.of s1).trans k2
        have ne : ps ≠ [] := fun z => g (by subst z; rfl)
        obtain ⟨pa, pb, pc, hp0, _⟩ := id hp
        obtain ⟨xs, hx, hd⟩ := ld.kp k3 hp0 nfix_lst nlp (td_pds ps)
        have len : xs.length = ps.length := by
          have := dpAll_len hd
          rw [List.length_map] at this
          omega
        have pos : 0 < ps.length := List.length_pos_iff.mpr ne
        refine ⟨_, rfl, _, rfl, _, rfl, l, _, rfl, .inl (SqL.of hx), p, _, _, rfl, p2, by omega, by omega, by omega, fun v4 H4 k4 p4 c2 c3 => ?_⟩
        obtain ⟨j, rfl⟩ : ∃ j : Nat, v4 = (j : Int) := ⟨v4.toNat, by omega⟩
        have hj : j < ps.length := by omega
        obtain ⟨xv, hxv, dxv⟩ := ld_get hd (List.getElem?_eq_getElem hj)
        obtain ⟨t, rfl, ht⟩ := dp_pd (dp_kt (p2.kt k4) dxv (td_pd _))
        refine ⟨l, _, _, _, rfl, rfl, SqL.of (k4 _ _ nlp hx), atI_nat hxv, t, _, 0, .int ps[j].1, rfl, rfl, ht, rfl, _, rfl, p, _, 3, rfl, p4, by omega, by decide, by decide, fun v5 H5 k5 p5 c4 c5 => ?_⟩
        exact ⟨_, _, rfl, rfl, _, _, rfl, rfl, q _ _ ((k3.trans k4).trans k5) (p5.mono (by omega))⟩
/-! ### _law_due -/
/-- the later one of what is kept and the last point below the end, one by one -/
def step1 (h : Int) (f : Option Pt) (x : Pt) : Option Pt := if x.1 < h ∧ (∀ y, f = some y → y.1 ≤ x.1) then some x else f
def dueE (f : Option Pt) (ps : List Pt) (h : Int) : Option Pt := ps.foldl (step1 h) f
def spDue (K : PySem.W.Frag) : Sp := fun vs H Q _ => ∃ (v : V) (l : Addr) (f : Option Pt) (ps : List Pt) (h : Int), vs = [v, .ref l, .int h] ∧ Dp K H v (od f) ∧ LD K H l (ps.map pd) ∧
  ∀ (v' : V) (H' : Hp), Same H H' → Dp K H' v' (od (dueE f ps h)) → Q v' H'
theorem isn_od {K : PySem.W.Frag} {H : Hp} {v : V} {f : Option Pt} (h : Dp K H v (od f)) : decide (v = .non) = f.isNone := by
  cases f with
  | none =>
    cases h
    rfl
  | some x =>
    obtain ⟨a, rfl, _⟩ := dp_pd h
    rfl
theorem ok_due {f : Addr} {fd : FuncData} {k : Nat} (F : Fun K "_law_due" "_law_due" sDue f fd) : FnOk P w K mg base CX0 (k + 1) f fd ["_law_kept", "_law_some_points", "_law_an_end"] (spDue K) := by
  refine F.ok scDue (fun vs H Q E h => ?_) (fun cdv A outer s H vs Q E hr h => ?_)
  · obtain ⟨v, l, f, ps, h, rfl, _⟩ := h
    rfl
  · obtain ⟨v, l, f, ps, h, rfl, dv, ⟨xs, hx, hd⟩, q⟩ := h
    refine ⟨_, pss_cons (ps_set (i := 3) scDue.nd rfl (.inl rfl) (pv 0))
      (pss_cons (ps_for PassesOwn.never rfl (pi_list (pv 1)) (pg_tup rfl (pgs_cons (pg_name (i := 4) scDue.nd rfl (.inl rfl)) (pgs_cons (pg_name (i := 5) scDue.nd rfl (.inl rfl)) pgs_nil)))
        (pss_one (ps_if (PW.pt (pw_and (pt_cmpR op_lt (pv 4) (pv 2) (nomark _)) (pw_and1 (PW.pt (pw_or (pt_cmpR op_isN (pv 3) pe_non (nomark _)) (pw_or1 (pt_cmpR op_ge (pv 4) (pe_ix ix_tup (pv 3) pe_int (fun _ _ => rfl)) (nomark _))))))))
          (pss_one (ps_set (i := 3) scDue.nd rfl (.inl rfl) (pe_tup (pa_cons (pv 4) (pa_cons (pv 5) pa_nil)))))
          pss_nil)))
      (pss_one (ps_ret (pv 3)))), ?_⟩
    refine ⟨_, rfl, _, rfl, l, rfl, ⟨_, SqL.of hx⟩, for_list (K := K) (a := l) (xs := xs) (fun i σ H2 => ∃ (u : V) (z4 z5 : Option V), σ = [some v, some (.ref l), some (.int h), some u, z4, z5] ∧ Same H H2 ∧ Dp K H2 u (od (dueE f (ps.take i) h))) ?_ ?_ ?_ ?_⟩
    · exact ⟨v, none, none, rfl, Same.refl _, dv⟩
    · rintro i σ H2 _ ⟨_, _, _, _, sm, _⟩
      exact SqL.of (sm _ _ hx)
    · rintro i x σ H2 hi ⟨u, z4, z5, rfl, sm, du⟩
      obtain ⟨pt, hpt, dpt⟩ := ld_at hd hi
      obtain ⟨t, rfl, ht⟩ := dp_pd (dp_same sm dpt)
      have et : dueE f (ps.take (i + 1)) h = step1 h (dueE f (ps.take i) h) pt := by
        unfold dueE
        rw [List.take_add_one, hpt, List.foldl_append]
        rfl
      refine ⟨t, _, rfl, ht, rfl, .int pt.1, [.int pt.2], rfl, .int pt.2, [], rfl, rfl, ?_⟩
      have yes : pt.1 < h → (∀ y, dueE f (ps.take i) h = some y → y.1 ≤ pt.1) → ∀ t2, H2 t2 = none → Same H (upd H2 t2 (.tup [.int pt.1, .int pt.2])) ∧ Dp K (upd H2 t2 (.tup [.int pt.1, .int pt.2])) (.ref t2) (od (dueE f (ps.take (i + 1)) h)) := fun h1 h2 t2 n2 => by
        refine ⟨sm.trans (same_new n2), ?_⟩
        rw [et]
        unfold step1
        rw [if_pos ⟨h1, h2⟩]
        exact dp_new upd_same
      have no : ¬ (pt.1 < h ∧ (∀ y, dueE f (ps.take i) h = some y → y.1 ≤ pt.1)) → Dp K H2 u (od (dueE f (ps.take (i + 1)) h)) := fun h1 => by
        rw [et]
        unfold step1
        rw [if_neg h1]
        exact du
      refine ⟨_, rfl, _, rfl, _, _, rfl, rfl, _, rfl, ite2 (fun g => ?_) (fun g => ?_)⟩
      · have g1 : pt.1 < h := of_decide_eq_true g
        refine ⟨_, rfl, rfl, _, rfl, ?_⟩
        rw [isn_od du]
        cases e : dueE f (ps.take i) h with
        | none =>
          refine if_t (if_t ?_)
          refine ⟨_, rfl, _, rfl, by show 2 ≤ sizeLine; decide, fun t2 n2 => ?_⟩
          obtain ⟨y1, y2⟩ := yes g1 (fun y hy => by rw [e] at hy; cases hy) t2 n2
          exact ⟨_, _, _, rfl, y1, y2⟩
        | some y =>
          rw [e] at du
          obtain ⟨a, rfl, ha⟩ := dp_pd du
          refine if_f ?_
          refine ⟨_, rfl, _, rfl, a, _, 0, .int y.1, rfl, rfl, ha, rfl, _, _, rfl, rfl, _, rfl, ite2 (fun g2 => ?_) (fun g2 => ?_)⟩
          · have g3 : y.1 ≤ pt.1 := of_decide_eq_true g2
            refine ⟨_, rfl, _, rfl, by show 2 ≤ sizeLine; decide, fun t2 n2 => ?_⟩
            obtain ⟨y1, y2⟩ := yes g1 (fun y' hy => by rw [e] at hy; cases hy; exact g3) t2 n2
            exact ⟨_, _, _, rfl, y1, y2⟩
          · exact ⟨_, _, _, rfl, sm, no fun z => g2 (decide_eq_true (z.2 y e))⟩
      · exact if_f ⟨_, _, _, rfl, sm, no fun z => g (decide_eq_true z.1)⟩
    · rintro σ H2 ⟨u, z4, z5, rfl, sm, du⟩
      have len : xs.length = ps.length := by
        have := dpAll_len hd
        rw [List.length_map] at this
        omega
      rw [len, List.take_length] at du
      exact ⟨_, rfl, q _ _ sm du⟩
end
end Tg

namespace Tg
open PySem PySem.Spec PyProof.Rows L2
abbrev sInit : Stmt := inClass (topS 2) 0
abbrev sMoved : Stmt := inClass (topS 2) 1
abbrev sEdge : Stmt := inClass (topS 2) 2
abbrev sStands : Stmt := topS 10
abbrev NMv : List Str := ["self", "place", "points", "horizon", "below", "point", "edge"]
theorem scInit : FnScope ["self"] ["self"] (defScope sInit) := ⟨rfl, rfl, rfl, by decide +kernel, rfl, by decide +kernel, by decide +kernel⟩
theorem scMoved : FnScope NMv ["self", "place", "points", "horizon"] (defScope sMoved) := ⟨rfl, rfl, rfl, by decide +kernel, rfl, by decide +kernel, by decide +kernel⟩
theorem scEdge : FnScope ["self", "place"] ["self", "place"] (defScope sEdge) := ⟨rfl, rfl, rfl, by decide +kernel, rfl, by decide +kernel, by decide +kernel⟩
theorem scStands : FnScope ["_law_edges", "_law_places", "_law_kept", "_law_turn", "_law_a_place"] ["_law_edges", "_law_places", "_law_kept"] (defScope sStands) := ⟨rfl, rfl, rfl, by decide +kernel, rfl, by decide +kernel, by decide +kernel⟩
/-! ### the mathematics -/
/-- as the program goes: the last one below the horizon, unless what is kept is later -/
def newE (f : Option Pt) (ps : List Pt) (h : Int) : Option Pt := match (ps.filter fun x => decide (x.1 < h)).getLast? with
  | none => f
  | some x => if ∀ y, f = some y → y.1 ≤ x.1 then some x else f
theorem due_new {f : Option Pt} {h : Int} (ps : List Pt) (hp : ps.Pairwise fun x y => x.1 < y.1) : dueE f ps h = newE f ps h := by
  obtain ⟨n, hn⟩ : ∃ n, ps.length = n := ⟨_, rfl⟩
  induction n generalizing ps with
  | zero =>
    rw [List.length_eq_zero_iff.mp hn]
    rfl
  | succ n ih =>
    rcases List.eq_nil_or_concat ps with rfl | ⟨r, x, e⟩
    · rfl
    · rw [List.concat_eq_append] at e
      subst e
      rw [List.length_append] at hn
      obtain ⟨h1, _, h3⟩ := List.pairwise_append.mp hp
      have i1 := ih r h1 (by simp at hn; exact hn)
      have e1 : dueE f (r ++ [x]) h = step1 h (dueE f r h) x := by
        unfold dueE
        rw [List.foldl_append]
        rfl
      rw [e1, i1]
      unfold step1
      by_cases g : x.1 < h
      · have e2 : newE f (r ++ [x]) h = if ∀ y, f = some y → y.1 ≤ x.1 then some x else f := by
          unfold newE
          rw [List.filter_append, List.filter_cons, if_pos (decide_eq_true g), List.filter_nil, List.getLast?_append]
          rfl
        rw [e2]
        have same : (x.1 < h ∧ ∀ y, newE f r h = some y → y.1 ≤ x.1) ↔ ∀ y, f = some y → y.1 ≤ x.1 := by
          unfold newE
          cases e3 : (r.filter fun x => decide (x.1 < h)).getLast? with
          | none =>
            show (x.1 < h ∧ ∀ y, f = some y → y.1 ≤ x.1) ↔ _
            exact ⟨fun z => z.2, fun z => ⟨g, z⟩⟩
          | some l =>
            have ml : l ∈ r := (List.mem_filter.mp (List.mem_of_getLast? e3)).1
            have ll : l.1 < x.1 := h3 l ml x (List.mem_singleton.mpr rfl)
            show (x.1 < h ∧ ∀ y, (if ∀ y, f = some y → y.1 ≤ l.1 then some l else f) = some y → y.1 ≤ x.1) ↔ _
            by_cases c : ∀ y, f = some y → y.1 ≤ l.1
            · rw [if_pos c]
              constructor
              · intro _ y hy
                have := c y hy
                omega
              · intro _
                refine ⟨g, fun y hy => ?_⟩
                cases hy
                omega
            · rw [if_neg c]
              exact ⟨fun z => z.2, fun z => ⟨g, z⟩⟩
        by_cases c : ∀ y, f = some y → y.1 ≤ x.1
        · rw [if_pos (same.mpr c), if_pos c]
        · rw [if_neg (fun z => c (same.mp z)), if_neg c]
          unfold newE
          cases e3 : (r.filter fun x => decide (x.1 < h)).getLast? with
          | none => rfl
          | some l =>
            have ml : l ∈ r := (List.mem_filter.mp (List.mem_of_getLast? e3)).1
            have ll : l.1 < x.1 := h3 l ml x (List.mem_singleton.mpr rfl)
            refine if_neg fun z => c fun y hy => ?_
            have := z y hy
            omega
      · rw [if_neg (fun z => g z.1)]
        unfold newE
        rw [List.filter_append, List.filter_cons, if_neg (fun z => g (of_decide_eq_true z)), List.filter_nil, List.append_nil]
/-! ### the edges in the heap -/
/-- what a dict has at a place -/
def OV (K : PySem.W.Frag) (H : Hp) (o : Option V) : Option Pt → Prop
  | none => o = none
  | some x => ∃ v, o = some v ∧ Dp K H v (pd x)
/-- the dict of the edges: at most n places -/
def EdD (K : PySem.W.Frag) (H : Hp) (d : Addr) (n : Nat) (M : Int → Option Pt) : Prop := ∃ kvs : List (Key × V), H d = some (.dK kvs) ∧ kvs.length ≤ n ∧ ∀ j : Int, OV K H (valV kvs (Sum.inl j)) (M j)
/-- the law's own: a value at each of the places -/
def LwD (K : PySem.W.Frag) (H : Hp) (d : Addr) (pl : List Int) (M : Int → Option Pt) : Prop := ∃ kvs : List (Key × V), H d = some (.dK kvs) ∧ kvs.length ≤ 100 ∧ ∀ j : Int, j ∈ pl → ∃ v, valV kvs (Sum.inl j : Key) = some v ∧ Dp K H v (od (M j))
def EdO (C : Addr) (H : Hp) (e d : Addr) : Prop := ∃ dx, H e = some (.ins C dx [("kept", .ref d)])
theorem OV.kt {K : PySem.W.Frag} {H H' : Hp} {o : Option V} (k : KT H H') : ∀ {m : Option Pt}, OV K H o m → OV K H' o m
  | none, h => h
  | some x, ⟨v, h1, h2⟩ => ⟨v, h1, dp_kt k h2 (td_pd x)⟩
theorem EdD.kt {K : PySem.W.Frag} {H H' : Hp} {d : Addr} {n : Nat} {M : Int → Option Pt} (k : KT H H') (s : ∀ o, H d = some o → H' d = some o) (h : EdD K H d n M) : EdD K H' d n M := by
  obtain ⟨kvs, h1, h2, h3⟩ := h
  exact ⟨kvs, s _ h1, h2, fun j => (h3 j).kt k⟩
theorem LwD.kt {K : PySem.W.Frag} {H H' : Hp} {d : Addr} {pl : List Int} {M : Int → Option Pt} (k : KT H H') (s : ∀ o, H d = some o → H' d = some o) (h : LwD K H d pl M) : LwD K H' d pl M := by
  obtain ⟨kvs, h1, h2, h3⟩ := h
  refine ⟨kvs, s _ h1, h2, fun j hj => ?_⟩
  obtain ⟨v, e, dv⟩ := h3 j hj
  exact ⟨v, e, dp_kt k dv (td_od _)⟩
def setM (M : Int → Option Pt) (i : Int) (x : Option Pt) : Int → Option Pt := fun j => if j = i then x else M j
/-- what the class is by the top -/
structure TEdge (K : PySem.W.Frag) (C : Addr) : Prop where
  cl : Cls K C
  nk : NoAttr K C "kept"
section
variable {P : Program} {w : World} {K : PySem.W.Frag} {mg : Str → Option Value} {base : Heap} {C : Addr}
def spInit (C : Addr) : Sp := fun vs H Q _ => ∃ (p dx : Addr), vs = [.ref p] ∧ H p = some (.ins C dx []) ∧ ∀ (d : Addr) (H' : Hp), H d = none → EdO C H' p d → H' d = some (.dK []) → (∀ b o, b ≠ p → H b = some o → H' b = some o) → Q .non H'
theorem ok_init {f : Addr} {fd : FuncData} {k : Nat} (F : Fun K "__init__" "Edges.__init__" sInit f fd) (T : TEdge K C) : FnOk P w K mg base CX0 (k + 1) f fd ["self"] (spInit C) := by
  refine F.ok scInit (fun vs H Q E h => ?_) (fun cdv A outer s H vs Q E hr h => ?_)
  · obtain ⟨p, dx, rfl, _⟩ := h
    rfl
  · obtain ⟨p, dx, rfl, hp, q⟩ := h
    refine ⟨_, pss_one (ps_fld (pv 0) pe_dnewK rfl), ?_⟩
    intro d hd
    have npd : p ≠ d := ne_of_none hp hd
    refine ⟨_, rfl, p, C, dx, [], rfl, (by rw [upd_ne npd]; exact hp), T.cl, T.nk, (by show 0 < 1000; decide), ?_⟩
    refine q d _ hd ⟨dx, upd_same⟩ (by rw [upd_ne npd.symm, upd_same]) fun b o hb e => ?_
    rw [upd_ne hb, upd_ne (ne_of_none e hd)]
    exact e
def spEdge (C : Addr) : Sp := fun vs H Q _ => ∃ (e d : Addr) (kvs : List (Key × V)) (i : Int), vs = [.ref e, .int i] ∧ EdO C H e d ∧ H d = some (.dK kvs) ∧ Q ((valV kvs (Sum.inl i : Key)).getD .non) H
theorem ok_edge {f : Addr} {fd : FuncData} {k : Nat} (F : Fun K "edge_of" "Edges.edge_of" sEdge f fd) (T : TEdge K C) : FnOk P w K mg base CX0 (k + 1) f fd ["self", "place"] (spEdge C) := by
  refine F.ok scEdge (fun vs H Q E h => ?_) (fun cdv A outer s H vs Q E hr h => ?_)
  · obtain ⟨e, d, kvs, i, rfl, _⟩ := h
    rfl
  · obtain ⟨e, d, kvs, i, rfl, ⟨dx, he⟩, hd, q⟩ := h
    have hu := hu_of hr
    refine ⟨_, pss_one (ps_ret (pe_dget1 hu (pe_fld (pv 0) rfl) (pv 1) ⟨rfl, rfl, rfl, rfl⟩)), ?_⟩
    exact ⟨_, rfl, e, C, dx, _, .ref d, rfl, he, T.cl, T.nk, rfl, d, rfl, .inl ⟨_, .inl hd⟩, _, rfl, _, DGet.k (k := Sum.inl i) hd, q⟩
def spMoved (K : PySem.W.Frag) (C : Addr) : Sp := fun vs H Q _ => ∃ (e d l : Addr) (n : Nat) (M : Int → Option Pt) (i h : Int) (ps : List Pt), vs = [.ref e, .int i, .ref l, .int h] ∧ EdO C H e d ∧ EdD K H d n M ∧ n < 900 ∧ LD K H l (ps.map pd) ∧ ps.length ≤ 6 ∧
  ∀ (v : V) (H' : Hp), Kp d H H' → EdD K H' d (n + 1) (setM M i (newE (M i) ps h)) → Dp K H' v (od (newE (M i) ps h)) → Q v H'
theorem ok_moved {f : Addr} {fd : FuncData} {k : Nat} (F : Fun K "moved" "Edges.moved" sMoved f fd) (T : TEdge K C) : FnOk P w K mg base CX0 (k + 1) f fd ["self", "place", "points", "horizon"] (spMoved K C) := by
  refine F.ok scMoved (fun vs H Q E h => ?_) (fun cdv A outer s H vs Q E hr h => ?_)
  · obtain ⟨e, d, l, n, M, i, h, ps, rfl, _⟩ := h
    rfl
  · obtain ⟨e, d, l, n, M, i, h, ps, rfl, ⟨dx, he⟩, ⟨kvs, hd, hn, hM⟩, n9, ⟨xs, hx, hdx⟩, lp, q⟩ := h
    have hu := hu_of hr
    refine ⟨_, pss_cons (ps_set (i := 4) scMoved.nd rfl (.inl rfl) (pe_ifExp (pt_cmpR op_isN (pv 3) pe_non (nomark _)) (pe_lst pa_nil) (pe_lc (own := [("point", 5)]) (g := (gName 5)) rfl scMoved.nd (pi_list (pv 2)) (blkOk_by (own := [("point", 5)]) (N := NMv) (sc := defScope sMoved) (by decide +kernel)) (fun _ _ _ _ _ => (pg_name (i := 5) scMoved.nd rfl (.inl rfl))) (fun _ _ _ _ _ => pts_one (pt_cmpR op_lt (pe_ix (r := rIxT K) ix_tup (pv 5) pe_int (fun _ _ => rfl)) (pv 3) (nomark _))) (fun _ _ _ _ _ => (pv 5)))))
      (pss_cons (ps_set (i := 6) scMoved.nd rfl (.inl rfl) (pe_dget1 hu (pe_fld (pv 0) rfl) (pv 1) ⟨rfl, rfl, rfl, rfl⟩))
      (pss_cons (ps_if (PW.pt (pw_and (pt_truth (pv 4) (fun _ => rfl)) (pw_and1 (PW.pt (pw_or (pt_cmpR op_isN (pv 6) pe_non (nomark _)) (pw_or1 (pt_cmpR op_le (pe_ix ix_tup (pv 6) pe_int (fun _ _ => rfl)) (pe_ix ix_tup (pe_ix ix_list (pv 4) (pe_un un_neg pe_int) (fun _ _ => rfl)) pe_int (fun _ _ => rfl)) (nomark _))))))))
        (pss_cons (ps_set (i := 6) scMoved.nd rfl (.inl rfl) (pe_ix ix_list (pv 4) (pe_un un_neg pe_int) (fun _ _ => rfl)))
        (pss_one (ps_dput hu (pe_fld (pv 0) rfl) (pv 1) (pv 6) rfl)))
        pss_nil)
      (pss_one (ps_ret (pv 6))))), ?_⟩
    have len : xs.length = ps.length := by
      have := dpAll_len hdx
      rw [List.length_map] at this
      omega
    -- below
    refine ⟨_, rfl, rfl, _, rfl, if_f ?_⟩
    refine ⟨_, rfl, l, rfl, ⟨_, SqL.of hx⟩, fun D nD => lc_list (K := K) (a := l) (xs := xs) (fun j Hc => Same H Hc ∧ LD K Hc D (((ps.take j).filter fun x => decide (x.1 < h)).map pd)) ?_ ?_ ?_ ?_⟩
    · exact ⟨same_new nD, [], upd_same, .nil⟩
    · rintro j Hc _ ⟨sc, _⟩
      exact SqL.of (sc _ _ hx)
    · rintro j x Hc hj ⟨sc, ys, hD, hdy⟩
      obtain ⟨pt, hpt, dpt⟩ := ld_at hdx hj
      have dpc := dp_same sc dpt
      obtain ⟨t, rfl, ht⟩ := dp_pd dpc
      have et : ps.take (j + 1) = ps.take j ++ [pt] := by
        rw [List.take_add_one, hpt]
        rfl
      have ly : ys.length ≤ 6 := by
        have h1 := dpAll_len hdy
        rw [List.length_map] at h1
        have h2 := List.length_filter_le (fun x : Pt => decide (x.1 < h)) (ps.take j)
        rw [List.length_take] at h2
        omega
      refine ⟨rfl, _, rfl, t, _, 0, .int pt.1, rfl, rfl, ht, rfl, _, rfl, _, _, rfl, rfl, _, rfl, ite2 (fun g => ?_) (fun g => ?_)⟩
      · refine ⟨_, rfl, _, hD, small1000 (by omega), same_put nD sc, ?_⟩
        rw [et, List.filter_append, List.filter_cons, if_pos g, List.filter_nil, List.map_append]
        exact LD.snoc (KT.refl _) hD hdy (td_pds _) dpc (td_pd _)
      · refine ⟨sc, ys, hD, ?_⟩
        rw [et, List.filter_append, List.filter_cons, if_neg g, List.filter_nil, List.append_nil]
        exact hdy
    · rintro Hc ⟨sc, ys, hD, hdy⟩
      rw [len, List.take_length] at hdy
      have hdc := sc _ _ hd
      have hec := sc _ _ he
      -- edge
      refine ⟨_, rfl, e, C, dx, _, .ref d, rfl, hec, T.cl, T.nk, rfl, d, rfl, .inl ⟨_, .inl hdc⟩, _, rfl, _, DGet.k (k := Sum.inl i) hdc, ?_⟩
      have ev : Dp K Hc ((valV kvs (Sum.inl i : Key)).getD .non) (od (M i)) := by
        have z := hM i
        revert z
        cases M i with
        | none =>
          intro z
          rw [show valV kvs (Sum.inl i : Key) = none from z]
          exact .non
        | some x =>
          rintro ⟨v, h1, h2⟩
          rw [h1]
          exact dp_same sc h2
      obtain ⟨u, eu⟩ : ∃ u, (valV kvs (Sum.inl i : Key)).getD .non = u := ⟨_, rfl⟩
      rw [eu] at ev ⊢
      -- nothing changes
      have stay : newE (M i) ps h = M i → Q u Hc := fun z => by
        refine q u Hc (.of sc) ⟨kvs, hdc, by omega, fun j => ?_⟩ (by rw [z]; exact ev)
        have hj := (hM j).kt (KT.of sc)
        rw [z]
        unfold setM
        by_cases c : j = i
        · rw [if_pos c, ← c]
          exact hj
        · rw [if_neg c]
          exact hj
      -- the last one below is put
      have put : ∀ x : Pt, (ps.filter fun x => decide (x.1 < h)).getLast? = some x → (∀ y, M i = some y → y.1 ≤ x.1) → ∀ lv, Dp K Hc lv (pd x) → Q lv (upd Hc d (.dK (putK kvs (Sum.inl i) lv))) := fun x hl c lv dl => by
        have z : newE (M i) ps h = some x := by
          unfold newE
          rw [hl]
          exact if_pos c
        have kt : KT Hc (upd Hc d (.dK (putK kvs (Sum.inl i) lv))) := KT.put hdc nfix_dK
        refine q lv _ ((Kp.of sc).trans .put) ⟨_, upd_same, ?_, fun j => ?_⟩ (by rw [z]; exact dp_kt kt dl (td_pd _))
        · have : (putK kvs (Sum.inl i : Key) lv).length ≤ kvs.length + 1 := by
            unfold putK
            split
            · rw [List.length_map]
              omega
            · rw [List.length_append]
              exact Nat.le_refl _
          omega
        · rw [z, valV_put]
          unfold setM
          by_cases cj : j = i
          · rw [if_pos cj, if_pos (congrArg Sum.inl cj)]
            exact ⟨lv, rfl, dp_kt kt dl (td_pd _)⟩
          · rw [if_neg cj, if_neg (fun y => cj (Sum.inl.inj y))]
            exact (hM j).kt ((KT.of sc).trans kt)
      rcases List.eq_nil_or_concat (ps.filter fun x => decide (x.1 < h)) with eb | ⟨r, x, eb⟩
      · rw [eb] at hdy
        cases hdy
        refine ⟨_, rfl, false, .inl ⟨_, SqL.of hD, rfl⟩, if_f (if_f ?_)⟩
        refine ⟨_, rfl, stay ?_⟩
        unfold newE
        rw [eb]
        rfl
      · rw [List.concat_eq_append] at eb
        have hl : (ps.filter fun x => decide (x.1 < h)).getLast? = some x := by
          rw [eb, List.getLast?_concat]
        rw [eb, List.map_append] at hdy
        obtain ⟨ys1, lv, rfl, dl⟩ : ∃ ys1 lv, ys = ys1 ++ [lv] ∧ Dp K Hc lv (pd x) := by
          rcases List.eq_nil_or_concat ys with e0 | ⟨y1, lv, e0⟩
          · have := dpAll_len hdy
            rw [e0, List.length_append] at this
            simp at this
          · rw [List.concat_eq_append] at e0
            refine ⟨y1, lv, e0, ?_⟩
            have h1 := dpAll_len hdy
            rw [e0, List.length_append, List.length_append] at h1
            simp only [List.length_cons, List.length_nil, List.length_map] at h1
            obtain ⟨v, h2, h3⟩ := dpAll_tk hdy r.length (pd x) (by rw [List.getElem?_append_right (by rw [List.length_map]; exact Nat.le_refl _), List.length_map, Nat.sub_self]; rfl)
            rw [e0, List.getElem?_append_right (by omega), show r.length - y1.length = 0 by omega] at h2
            cases h2
            exact h3
        obtain ⟨t, rfl, ht⟩ := dp_pd dl
        have tru : (!(ys1 ++ [V.ref t]).isEmpty) = true := by
          cases ys1 <;> rfl
        refine ⟨_, rfl, true, .inl ⟨_, SqL.of hD, tru.symm⟩, if_t ?_⟩
        refine ⟨_, rfl, rfl, _, rfl, ?_⟩
        rw [isn_od ev]
        cases em : M i with
        | none =>
          refine if_t (if_t ?_)
          refine ⟨_, rfl, 1, rfl, D, _, -1, .ref t, rfl, rfl, SqL.of hD, atI_last _ _, ?_⟩
          refine ⟨_, rfl, _, rfl, e, C, dx, _, .ref d, rfl, hec, T.cl, T.nk, rfl, _, rfl, d, _, rfl, DPut.k (k := Sum.inl i) hdc (small1000 (by omega)), ?_⟩
          exact ⟨_, rfl, put x hl (fun y hy => by rw [em] at hy; cases hy) _ dl⟩
        | some y =>
          rw [em] at ev
          obtain ⟨a, rfl, ha⟩ := dp_pd ev
          refine if_f ?_
          refine ⟨_, rfl, a, _, 0, .int y.1, rfl, rfl, ha, rfl, _, rfl, 1, rfl, D, _, -1, .ref t, rfl, rfl, SqL.of hD, atI_last _ _, t, _, 0, .int x.1, rfl, rfl, ht, rfl, _, _, rfl, rfl, _, rfl, ite2 (fun g => ?_) (fun g => ?_)⟩
          · have g1 : y.1 ≤ x.1 := of_decide_eq_true g
            refine ⟨_, rfl, 1, rfl, D, _, -1, .ref t, rfl, rfl, SqL.of hD, atI_last _ _, ?_⟩
            refine ⟨_, rfl, _, rfl, e, C, dx, _, .ref d, rfl, hec, T.cl, T.nk, rfl, _, rfl, d, _, rfl, DPut.k (k := Sum.inl i) hdc (small1000 (by omega)), ?_⟩
            exact ⟨_, rfl, put x hl (fun y' hy => by rw [em] at hy; cases hy; exact g1) _ dl⟩
          · refine ⟨_, rfl, stay ?_⟩
            unfold newE
            rw [hl]
            exact if_neg fun z => g (decide_eq_true (z y em))
/-! ### _law_stands -/
def spStands (K : PySem.W.Frag) (C : Addr) : Sp := fun vs H Q _ => ∃ (e de pl d : Addr) (n : Nat) (ks : List Int) (M : Int → Option Pt), vs = [.ref e, .ref pl, .ref d] ∧ EdO C H e de ∧ EdD K H de n M ∧ H pl = some (.lst (ks.map V.int)) ∧ ks ≠ [] ∧ (∀ j, ks.getLast? = some j → M (j + 1) = none) ∧ LwD K H d ks M ∧ Q (.bl true) H
theorem ev_dp {H : Hp} {kvs : List (Key × V)} {M : Int → Option Pt} (hM : ∀ j : Int, OV K H (valV kvs (Sum.inl j)) (M j)) (i : Int) : Dp K H ((valV kvs (Sum.inl i : Key)).getD .non) (od (M i)) := by
  have z := hM i
  revert z
  cases M i with
  | none =>
    intro z
    rw [show valV kvs (Sum.inl i : Key) = none from z]
    exact .non
  | some x =>
    rintro ⟨v, h1, h2⟩
    rw [h1]
    exact h2
theorem ok_stands {f : Addr} {fd : FuncData} {k : Nat} (F : Fun K "_law_stands" "_law_stands" sStands f fd) (T : TEdge K C) (CM : CalM P w K mg base k C "edge_of" ["self", "place"] (spEdge C)) (CMK : CalMK P w K mg base k C "edge_of" ["self", "place"] ["place"] [0] (spEdge C)) (m_range : mg "range" = none) :
    FnOk P w K mg base CX0 (k + 1) f fd ["_law_edges", "_law_places", "_law_kept"] (spStands K C) := by
  refine F.ok scStands (fun vs H Q E h => ?_) (fun cdv A outer s H vs Q E hr h => ?_)
  · obtain ⟨e, de, pl, d, n, ks, M, rfl, _⟩ := h
    rfl
  · obtain ⟨e, de, pl, d, n, ks, M, rfl, ⟨dx, he⟩, ⟨kve, hde, hn, hM⟩, hpl, hne, hlast, ⟨kvs, hd, hn2, hL⟩, q⟩ := h
    have hu := hr.units
    have hu1 := hu_of hr
    refine ⟨_, pss_cons (ps_for PassesOwn.never rfl (pi_range1 (by rfl) m_range (pa_cons pe_int pa_nil)) (pg_name (i := 3) scStands.nd rfl (.inl rfl))
        (pss_one (ps_for PassesOwn.never rfl (pi_list (pv 1)) (pg_name (i := 4) scStands.nd rfl (.inl rfl))
          (pss_one (ps_if (pt_cmpR (op_neD hu) (pe_calM (pv 0) T.cl CM (hr.mono (by omega)) (pa_cons (pv 4) pa_nil)) (pe_dget hu1 (pv 2) (pv 4) (fun _ _ => rfl)) (nomark _))
            (pss_one (ps_ret pe_bl))
            pss_nil)))))
      (pss_one (ps_ret (pe_and (pe_cmpR op_isN (pe_calM (pv 0) T.cl CM (hr.mono (by omega)) (pa_cons (pe_op op_add (pe_ix ix_list (pv 1) (pe_un un_neg pe_int) (fun _ _ => rfl)) pe_int) pa_nil)) pe_non (nomark _)) (pe_one (pe_cmpR (op_eqD hu) (pe_calMK (pv 0) T.cl CMK (hr.mono (by omega)) (pk_cons (pe_ix ix_list (pv 1) pe_int (fun _ _ => rfl)) pk_nil)) (pe_dget hu1 (pv 2) (pe_ix ix_list (pv 1) pe_int (fun _ _ => rfl)) (fun _ _ => rfl)) (nomark _)))))), ?_⟩
    refine ⟨2, rfl, by decide, by decide, for_range (n := 2) (fun i σ H2 => ∃ z3 z4 : Option V, σ = [some (.ref e), some (.ref pl), some (.ref d), z3, z4] ∧ H2 = H) ⟨none, none, rfl, rfl⟩ ?_ ?_⟩
    · rintro i σ H2 hi ⟨z3, z4, rfl, rfl⟩
      refine ⟨_, rfl, pl, rfl, ⟨_, SqL.of hpl⟩, for_list (K := K) (a := pl) (xs := ks.map V.int) (fun i σ H3 => ∃ z3 z4 : Option V, σ = [some (.ref e), some (.ref pl), some (.ref d), z3, z4] ∧ H3 = H2) ⟨_, _, rfl, rfl⟩ ?_ ?_ ?_⟩
      · rintro j σ H3 _ ⟨_, _, _, rfl⟩
        exact SqL.of hpl
      · rintro j x σ H3 hj ⟨z3, z4, rfl, rfl⟩
        rw [List.getElem?_map] at hj
        obtain ⟨y, hy, rfl⟩ := Option.map_eq_some_iff.mp hj
        obtain ⟨v, hv, dv⟩ := hL y (List.mem_of_getElem? hy)
        refine ⟨_, rfl, e, dx, _, rfl, he, rfl, _, rfl, e, de, kve, y, rfl, ⟨dx, he⟩, hde, ?_⟩
        refine ⟨_, rfl, _, rfl, d, v, rfl, hv ▸ DGet.k (k := Sum.inl y) hd, ?_⟩
        refine ⟨od (M y), od (M y), ev_dp hM y, dv, sh_od _, sh_od _, false, ?_, if_f ⟨_, _, rfl, rfl⟩⟩
        rw [eq_od]
        rfl
      · rintro σ H3 ⟨z3, z4, rfl, rfl⟩
        exact ⟨_, _, rfl, rfl⟩
    · rintro σ H2 ⟨z3, z4, rfl, rfl⟩
      rcases List.eq_nil_or_concat ks with e0 | ⟨kr, kl, e0⟩
      · exact absurd e0 hne
      rw [List.concat_eq_append] at e0
      have hml : M (kl + 1) = none := hlast kl (by rw [e0, List.getLast?_concat])
      have hal : atI (ks.map V.int) (-1) = some (.int kl) := by
        rw [e0, List.map_append]
        exact atI_last _ _
      refine ⟨_, rfl, e, dx, _, rfl, he, rfl, _, rfl, 1, rfl, pl, _, -1, .int kl, rfl, rfl, SqL.of hpl, hal, _, _, rfl, rfl, e, de, kve, kl + 1, rfl, ⟨dx, he⟩, hde, ?_⟩
      have zl : valV kve (Sum.inl (kl + 1) : Key) = none := by
        have := hM (kl + 1)
        rw [hml] at this
        exact this
      rw [zl]
      refine ⟨rfl, true, rfl, if_t ?_⟩
      obtain ⟨k0, kr2, e1⟩ : ∃ k0 kr2, ks = k0 :: kr2 := by
        cases ks with
        | nil => exact absurd rfl hne
        | cons a b => exact ⟨a, b, rfl⟩
      have h0 : atI (ks.map V.int) 0 = some (.int k0) := by
        rw [e1]
        show atI _ ((0 : Nat) : Int) = _
        exact atI_nat rfl
      obtain ⟨v, hv, dv⟩ := hL k0 (by rw [e1]; exact List.mem_cons_self)
      refine ⟨_, rfl, e, dx, _, rfl, he, rfl, _, rfl, pl, _, 0, .int k0, rfl, rfl, SqL.of hpl, h0, rfl, e, de, kve, k0, rfl, ⟨dx, he⟩, hde, ?_⟩
      refine ⟨_, rfl, _, rfl, pl, _, 0, .int k0, rfl, rfl, SqL.of hpl, h0, d, v, rfl, hv ▸ DGet.k (k := Sum.inl k0) hd, ?_⟩
      refine ⟨od (M k0), od (M k0), ev_dp hM k0, dv, sh_od _, sh_od _, ?_⟩
      rw [eq_od]
      exact q
end
end Tg

set_option maxHeartbeats 1000000
namespace Tg
open PySem PySem.Spec PyProof.Rows L2
abbrev sLaw : Stmt := topS 11
abbrev NL : List Str := ["_law_script", "_law_purse_here", "_law_far", "_law_base", "_law_first", "_law_places", "_law_k", "_law_kept", "_law_a_place", "_law_edges", "_law_cell", "_law_some_points", "_law_an_end", "_law_handed", "_law_told"]
theorem scLaw : FnScope NL ["_law_script"] (defScope sLaw) := ⟨rfl, rfl, rfl, by decide +kernel, rfl, by decide +kernel, by decide +kernel⟩
theorem tyT {K : PySem.W.Frag} {H : Hp} {a : Addr} {xs : List V} (h : SqT K H a xs) : TyX K H (.ref a) (.type "tuple") := by
  rcases h with (h | ⟨o, h⟩) | ⟨o, its, n, h1, h2, _⟩
  · exact .base (.tup h)
  · exact .fTuple h
  · exact .kTuple h1 h2
/-- the places from one on -/
def plc (f : Int) (n : Nat) : List Int := (List.range n).map fun i => f + (0 + (i : Nat))
theorem plc_succ (f : Int) (n : Nat) : plc f (n + 1) = plc f n ++ [f + (0 + (n : Nat))] := by
  unfold plc
  rw [List.range_succ, List.map_append]
  rfl
theorem plc_len (f : Int) (n : Nat) : (plc f n).length = n := by simp [plc]
theorem plc_last {f : Int} {n : Nat} {j : Int} (h : (plc f n).getLast? = some j) : ¬ (j + 1) ∈ plc f n := by
  cases n with
  | zero => cases h
  | succ n =>
    rw [plc_succ, List.getLast?_concat] at h
    cases h
    intro z
    unfold plc at z
    obtain ⟨i, hi, e⟩ := List.mem_map.mp z
    have := List.mem_range.mp hi
    omega
/-- what stands between two turns -/
structure Wd (K : PySem.W.Frag) (C : Addr) (H0 : Hp) (lp d e de : Addr) (ks : List Int) (n : Nat) (M : Int → Option Pt) (H2 : Hp) : Prop where
  sm : Same H0 H2
  hl : H2 lp = some (.lst (ks.map V.int))
  lw : LwD K H2 d ks M
  eo : EdO C H2 e de
  ed : EdD K H2 de n M
theorem Wd.step {K : PySem.W.Frag} {C : Addr} {H0 H2 H3 : Hp} {lp d e de : Addr} {ks : List Int} {n : Nat} {M : Int → Option Pt} (W : Wd K C H0 lp d e de ks n M H2) (s : Same H0 H3) (kt : KT H2 H3)
    (st : ∀ a o, a = lp ∨ a = d ∨ a = e ∨ a = de → H2 a = some o → H3 a = some o) : Wd K C H0 lp d e de ks n M H3 := by
  refine ⟨s, st _ _ (.inl rfl) W.hl, W.lw.kt kt fun o h => st _ _ (.inr (.inl rfl)) h, ?_, W.ed.kt kt fun o h => st _ _ (.inr (.inr (.inr rfl))) h⟩
  obtain ⟨dx, h⟩ := W.eo
  exact ⟨dx, st _ _ (.inr (.inr (.inl rfl))) h⟩
theorem Wd.same {K : PySem.W.Frag} {C : Addr} {H0 H2 H3 : Hp} {lp d e de : Addr} {ks : List Int} {n : Nat} {M : Int → Option Pt} (W : Wd K C H0 lp d e de ks n M H2) (s : Same H2 H3) : Wd K C H0 lp d e de ks n M H3 :=
  W.step (W.sm.trans s) (.of s) fun a o _ h => s a o h
/-- what is apart from all that: fresh at some time since -/
def Apart (H0 : Hp) (lp d e de p : Addr) : Prop := H0 p = none ∧ p ≠ lp ∧ p ≠ d ∧ p ≠ e ∧ p ≠ de
theorem Wd.apart {K : PySem.W.Frag} {C : Addr} {H0 H2 : Hp} {lp d e de p : Addr} {ks : List Int} {n : Nat} {M : Int → Option Pt} (W : Wd K C H0 lp d e de ks n M H2) (h : H2 p = none) : Apart H0 lp d e de p := by
  obtain ⟨kvs, h1, _⟩ := W.lw
  obtain ⟨kve, h2, _⟩ := W.ed
  obtain ⟨dx, h3⟩ := W.eo
  exact ⟨W.sm.free h, (ne_of_none W.hl h).symm, (ne_of_none h1 h).symm, (ne_of_none h3 h).symm, (ne_of_none h2 h).symm⟩
theorem Wd.kp {K : PySem.W.Frag} {C : Addr} {H0 H2 H3 : Hp} {lp d e de p : Addr} {ks : List Int} {n : Nat} {M : Int → Option Pt} {o : HO} (W : Wd K C H0 lp d e de ks n M H2) (k : Kp p H2 H3) (hp : H2 p = some o) (nf : ¬ Fix o) (a : Apart H0 lp d e de p) : Wd K C H0 lp d e de ks n M H3 := by
  obtain ⟨a1, a2, a3, a4, a5⟩ := a
  refine W.step (Kp.same W.sm a1 k) (KT.kp k hp nf) fun b o hb h => k b o ?_ h
  rcases hb with rfl | rfl | rfl | rfl -- one of the four
  · exact a2.symm
  · exact a3.symm
  · exact a4.symm
  · exact a5.symm
section
variable {P : Program} {w : World} {K : PySem.W.Frag} {mg : Str → Option Value} {base : Heap} {C : Addr}
def spLaw (K : PySem.W.Frag) : Sp := fun vs H Q _ => ∃ (a : Addr) (ns : List Int), vs = [.ref a] ∧ SqL K H a (ns.map V.int) ∧ ns.length ≤ 63 ∧ ∀ H', Q (.bl true) H'
/-- what the law calls -/
structure Fns (P : Program) (w : World) (K : PySem.W.Frag) (mg : Str → Option Value) (base : Heap) (C : Addr) (k : Nat) : Prop where
  purse : Cal P w K mg base k "_law_purse" ["_law_script", "_law_at"] (spPurse K)
  draw : Cal P w K mg base k "_law_draw" ["_law_purse_here", "_law_out_of"] spDraw
  points : Cal P w K mg base k "_law_points" ["_law_purse_here", "_law_base"] (spPoints K)
  horizon : Cal P w K mg base k "_law_horizon" ["_law_purse_here", "_law_base", "_law_some_points"] (spHorizon K)
  due : Cal P w K mg base k "_law_due" ["_law_kept", "_law_some_points", "_law_an_end"] (spDue K)
  stands : Cal P w K mg base k "_law_stands" ["_law_edges", "_law_places", "_law_kept"] (spStands K C)
  edges : CalC P w K mg base k "Edges" C ["self"] (spInit C)
  moved : CalM P w K mg base k C "moved" ["self", "place", "points", "horizon"] (spMoved K C)
  movedK : CalMK P w K mg base k C "moved" ["self", "place", "points", "horizon"] ["points", "horizon", "place"] [2, 0, 1] (spMoved K C)
  T : TEdge K C
  m_range : mg "range" = none
  m_len : mg "len" = none
  m_max : mg "max" = none
  m_list : mg "list" = none
  m_isi : mg "isinstance" = none
  m_tuple : mg "tuple" = none
theorem ok_law {f : Addr} {fd : FuncData} {k : Nat} (F : Fun K "law" "law" sLaw f fd) (Z : Fns P w K mg base C k) : FnOk P w K mg base CX0 (k + 2) f fd ["_law_script"] (spLaw K) := by
  obtain ⟨C_purse, C_draw, C_points, C_horizon, C_due, C_stands, M_Edges, CM_moved, CMK_moved, T, m_range, m_len, m_max, m_list, m_isinstance, m_tuple⟩ := Z
  refine F.ok scLaw (fun vs H Q E h => ?_) (fun cdv A outer s H vs Q E hr h => ?_)
  · obtain ⟨a, ns, rfl, _⟩ := h
    rfl
  · obtain ⟨sa, ns, rfl, hS, hlen, q⟩ := h
    have hu := hr.units
    have hu1 := hu_of hr
    refine ⟨_, pss_cons (ps_set (i := 1) scLaw.nd rfl (.inl rfl) (pe_cal C_purse (hr.mono (by omega)) (by rfl) (pa_cons (pv 0) (pa_cons pe_int pa_nil))))
      (pss_cons (ps_set (i := 2) scLaw.nd rfl (.inl rfl) (pe_cal C_draw (hr.mono (by omega)) (by rfl) (pa_cons (pv 1) (pa_cons (pe_op op_pow pe_int pe_int) pa_nil))))
      (pss_cons (ps_set (i := 3) scLaw.nd rfl (.inl rfl) (pe_ix ix_list (pe_lst (pa_cons pe_int (pa_cons (pv 2) (pa_cons (pe_op op_sub pe_int (pv 2)) (pa_cons pe_int pa_nil))))) (pe_cal C_draw (hr.mono (by omega)) (by rfl) (pa_cons (pv 1) (pa_cons pe_int pa_nil))) (fun _ _ => rfl)))
      (pss_cons (ps_set (i := 4) scLaw.nd rfl (.inr rfl) (pe_cal C_draw (hr.mono (by omega)) (by rfl) (pa_cons (pv 1) (pa_cons pe_int pa_nil))))
      (pss_cons (ps_setLc (i := 5) (own := [("_law_k", 6)]) (g := (gName 6)) (tt := tYes) rfl scLaw.nd rfl rfl (sw_true rfl rfl rfl (by decide +kernel)) (pi_range1 (by rfl) m_range (pa_cons (pe_op op_add pe_int (pe_cal C_draw (hr.mono (by omega)) (by rfl) (pa_cons (pv 1) (pa_cons pe_int pa_nil)))) pa_nil)) (blkOk_by (own := [("_law_k", 6)]) (N := NL) (sc := defScope sLaw) (by decide +kernel)) (fun _ _ _ _ _ => (pg_name (i := 6) scLaw.nd rfl (.inl rfl))) (fun _ _ _ _ _ => pts_nil) (fun _ _ _ _ _ => (pe_op op_add (pv 4) (pv 6))))
      (pss_cons (ps_set (i := 7) scLaw.nd rfl (.inl rfl) pe_dnewK)
      (pss_cons (ps_for PassesOwn.never rfl (pi_list (pv 5)) (pg_name (i := 8) scLaw.nd rfl (.inl rfl))
        (pss_one (ps_dput hu1 (pv 7) (pv 8) pe_non rfl)))
      (pss_cons (ps_set (i := 9) scLaw.nd rfl (.inl rfl) (pe_calC0 M_Edges (hr.mono (by omega)) (by rfl)))
      (pss_cons (ps_for PassesOwn.never rfl (pi_range2 (by rfl) m_range (pa_cons pe_int (pa_cons (pe_callB (call_max2 rfl) (by rfl) m_max boot_max (pa_cons pe_int (pa_cons (pe_callB call_len_seq (by rfl) m_len PySem.boot_len (pa_cons (pe_slice sl_list (pv 0) po_none (po_some pe_int)) pa_nil)) pa_nil))) pa_nil))) (pg_name (i := 10) scLaw.nd rfl (.inl rfl))
        (pss_cons (ps_set (i := 1) scLaw.nd rfl (.inl rfl) (pe_cal C_purse (hr.mono (by omega)) (by rfl) (pa_cons (pv 0) (pa_cons (pv 10) pa_nil))))
        (pss_cons (ps_set (i := 8) scLaw.nd rfl (.inl rfl) (pe_ix ix_list (pv 5) (pe_cal C_draw (hr.mono (by omega)) (by rfl) (pa_cons (pv 1) (pa_cons (pe_callB call_len_seq (by rfl) m_len PySem.boot_len (pa_cons (pv 5) pa_nil)) pa_nil))) (fun _ _ => rfl)))
        (pss_cons (ps_set (i := 11) scLaw.nd rfl (.inl rfl) (pe_cal C_points (hr.mono (by omega)) (by rfl) (pa_cons (pv 1) (pa_cons (pv 3) pa_nil))))
        (pss_cons (ps_set (i := 12) scLaw.nd rfl (.inl rfl) (pe_cal C_horizon (hr.mono (by omega)) (by rfl) (pa_cons (pv 1) (pa_cons (pv 3) (pa_cons (pv 11) pa_nil)))))
        (pss_cons (ps_set (i := 13) scLaw.nd rfl (.inl rfl) (pe_callTy call_list_of (by rfl) m_list boot_list (pa_cons (pv 11) pa_nil)))
        (pss_cons (ps_dput hu1 (pv 7) (pv 8) (pe_cal C_due (hr.mono (by omega)) (by rfl) (pa_cons (pe_dget hu1 (pv 7) (pv 8) (fun _ _ => rfl)) (pa_cons (pv 11) (pa_cons (pv 12) pa_nil)))) rfl)
        (pss_cons (ps_if (pt_cmpR op_eq (pe_cal C_draw (hr.mono (by omega)) (by rfl) (pa_cons (pv 1) (pa_cons pe_int pa_nil))) pe_int (nomark _))
          (pss_one (ps_set (i := 14) scLaw.nd rfl (.inl rfl) (pe_calMK (pv 9) T.cl CMK_moved (hr.mono (by omega)) (pk_cons (pv 13) (pk_cons (pv 12) (pk_cons (pv 8) pk_nil))))))
          (pss_one (ps_set (i := 14) scLaw.nd rfl (.inl rfl) (pe_calM (pv 9) T.cl CM_moved (hr.mono (by omega)) (pa_cons (pv 8) (pa_cons (pv 13) (pa_cons (pv 12) pa_nil)))))))
        (pss_cons (ps_if (PW.pt (pw_or (pt_cmpR (op_neD hu) (pv 14) (pe_dget hu1 (pv 7) (pv 8) (fun _ _ => rfl)) (nomark _)) (pw_or (pt_cmpR (op_neD hu) (pv 13) (pv 11) (nomark _)) (pw_or1 (pt_not (pt_val (pe_cal C_stands (hr.mono (by omega)) (by rfl) (pa_cons (pv 9) (pa_cons (pv 5) (pa_cons (pv 7) pa_nil))))))))))
          (pss_one (ps_ret pe_bl))
          pss_nil)
        (pss_cons (ps_expr (pe_bm0 PySem.F.plainAttrs_list PySem.F.slot_list_clear PySem.F.type_list_clear mt_clear (pv 13)))
        (pss_one (ps_if (PW.pt (pw_and (pt_cmpR op_notN (pv 14) pe_non (nomark _)) (pw_and1 (pt_not (pt_val (pe_callB call_isi (by rfl) m_isinstance PyProof.Rows.boot_isinstance (pa_cons (pv 14) (pa_cons (pe_bltn (v := .ty "tuple") (by rfl) m_tuple PyProof.Rows.Boot.«tuple» rfl) pa_nil))))))))
          (pss_one (ps_ret pe_bl))
          pss_nil))))))))))))
      (pss_one (ps_ret (pe_cal C_stands (hr.mono (by omega)) (by rfl) (pa_cons (pv 9) (pa_cons (pv 5) (pa_cons (pv 7) pa_nil)))))))))))))), ?_⟩
    -- purse, far
    refine ⟨_, rfl, sa, ns, 0, rfl, hS, hlen, by decide, by decide, fun p H1 s1 np u1 => ?_⟩
    refine ⟨_, rfl, 10, 14, rfl, rfl, ⟨by decide, by decide, by decide⟩, p, _, _, rfl, u1, by decide, by decide, by decide, fun far H2 k2 u2 _ _ => ?_⟩
    -- base
    refine ⟨_, rfl, _, rfl, _, _, rfl, rfl, ?_⟩
    refine ⟨by show 4 ≤ sizeLine; decide, fun l1 n1 => ?_⟩
    have s3 := same_new (o := .lst [.int 0, .int far, .int (0 - far), .int 25]) n1
    refine ⟨_, rfl, p, _, 4, rfl, u2.same s3, by decide, by decide, by decide, fun v4 H4 k4 u4 c0 c1 => ?_⟩
    have m4 : H4 l1 = some (.lst ([0, far, 0 - far, 25].map V.int)) := k4 _ _ (u2.ne n1) upd_same
    obtain ⟨bs, _, ebs⟩ := atI_mem (xs := [0, far, 0 - far, 25]) (i := v4) c0 c1
    refine ⟨l1, _, v4, .int bs, rfl, rfl, SqL.of m4, ebs, ?_⟩
    -- first, places
    refine ⟨_, rfl, p, _, 30, rfl, u4, by decide, by decide, by decide, fun fst H5 k5 u5 _ _ => ?_⟩
    refine ⟨_, rfl, p, _, 4, rfl, u5, by decide, by decide, by decide, fun v6 H6 k6 u6 c2 c3 => ?_⟩
    have s6 : Same H H6 := Kp.same s1 np (((k2.trans (.of s3)).trans k4).trans (k5.trans k6))
    refine ⟨_, _, rfl, rfl, _, rfl, by omega, by omega, ?_⟩
    obtain ⟨cn, ec⟩ : ∃ cn : Nat, (1 + v6).toNat = cn := ⟨_, rfl⟩
    have cn1 : 1 ≤ cn ∧ cn ≤ 4 := by omega
    rw [ec]
    intro lp nlp
    refine lc_range (n := cn) (fun j Hc => Same H6 Hc ∧ Hc lp = some (.lst ((plc fst j).map V.int))) ⟨same_new nlp, upd_same⟩ ?_ ?_
    · rintro j Hc hj ⟨sc, hD⟩
      refine ⟨rfl, ?_⟩
      unfold tYes
      dsimp only
      rw [if_pos rfl]
      refine ⟨_, rfl, _, rfl, _, _, rfl, rfl, _, hD, ?_, same_put nlp sc, ?_⟩
      · rw [List.length_map, plc_len]
        exact small1000 (by omega)
      · rw [upd_same, plc_succ, List.map_append]
        rfl
    rintro H7 ⟨s7, hlp⟩
    obtain ⟨ks, eks⟩ : ∃ ks, plc fst cn = ks := ⟨_, rfl⟩
    have klen : ks.length = cn := by rw [← eks]; exact plc_len _ _
    have klast : ∀ j, ks.getLast? = some j → ¬ (j + 1) ∈ ks := fun j hj => by
      rw [← eks] at hj ⊢
      exact plc_last hj
    rw [eks] at hlp
    have s7H := s6.trans s7
    -- kept = {}
    intro d nd
    have sd := same_new (o := .dK []) nd
    refine ⟨_, rfl, lp, rfl, ⟨_, SqL.of (sd _ _ hlp)⟩, for_list (K := K) (a := lp) (xs := ks.map V.int) (fun j σ Hc => ∃ (z : Option V) (kvs : List (Key × V)), σ = [some (.ref sa), some (.ref p), some (.int far), some (.int bs), some (.int fst), some (.ref lp), none, some (.ref d), z, none, none, none, none, none, none] ∧ Same H7 Hc ∧ Hc d = some (.dK kvs) ∧ kvs.length ≤ j ∧ ∀ y, y ∈ ks.take j → valV kvs (Sum.inl y : Key) = some .non) ?_ ?_ ?_ ?_⟩
    · exact ⟨none, [], rfl, sd, upd_same, Nat.le_refl _, fun y hy => by simp at hy⟩
    · rintro j σ Hc _ ⟨_, _, _, sc, _⟩
      exact SqL.of (sc _ _ hlp)
    · rintro j x σ Hc hj ⟨z, kvs, rfl, sc, hd, hl, hv⟩
      have jl : j < ks.length := by
        have := (List.getElem?_eq_some_iff.mp hj).1
        rw [List.length_map] at this
        exact this
      rw [List.getElem?_map] at hj
      obtain ⟨y, hy, rfl⟩ := Option.map_eq_some_iff.mp hj
      refine ⟨_, rfl, _, rfl, d, _, rfl, DPut.k (k := Sum.inl y) hd (small1000 (by omega)), ?_⟩
      refine ⟨_, _, rfl, same_put nd sc, upd_same, ?_, fun y' hy' => ?_⟩
      · unfold putK
        split
        · rw [List.length_map]
          omega
        · rw [List.length_append]
          show kvs.length + 1 ≤ j + 1
          omega
      · rw [valV_put]
        by_cases c : y' = y
        · rw [if_pos (congrArg Sum.inl c)]
        · rw [if_neg (fun z => c (Sum.inl.inj z))]
          rw [List.take_add_one, hy] at hy'
          rcases List.mem_append.mp hy' with h | h
          · exact hv y' h
          · exact absurd (List.mem_singleton.mp h) c
    rintro σ H8 ⟨z8, kvs0, rfl, s8, hd8, hl8, hv8⟩
    rw [List.length_map, List.take_length] at hv8
    rw [List.length_map] at hl8
    -- edges
    intro e dx ne ndx nex
    refine ⟨e, dx, rfl, upd_same, fun de H9 nde eo9 hde9 k9 => ⟨rfl, ?_⟩⟩
    have s9a : Same H8 (upd (upd H8 dx (.own e)) e (.ins C dx [])) := fun b o h => by
      rw [upd_ne (ne_of_none h ne), upd_ne (ne_of_none h ndx)]
      exact h
    have s9 : Same H8 H9 := fun b o h => k9 b o (ne_of_none h ne) (s9a b o h)
    have W9 : Wd K C H lp d e de ks 0 (fun _ => none) H9 := by
      refine ⟨(s7H.trans s8).trans s9, s9 _ _ (s8 _ _ hlp), ⟨kvs0, s9 _ _ hd8, by omega, fun j hj => ⟨_, hv8 j hj, .non⟩⟩, eo9, ⟨[], hde9, Nat.le_refl _, fun j => rfl⟩⟩
    have hne : ks ≠ [] := fun z => by
      rw [z] at klen
      simp at klen
      omega
    -- the range
    obtain ⟨ms, em, lm⟩ : ∃ ms : List Int, cutV (ns.map V.int) none (some 31) = ms.map V.int ∧ ms.length ≤ ns.length := cut_ints ns _ _
    refine ⟨_, rfl, 31, rfl, sa, _, rfl, sqL_same W9.sm hS, fun l2 n2 => ?_⟩
    rw [em]
    refine ⟨l2, _, rfl, .inl (SqL.of upd_same), _, _, rfl, _, _, rfl, ?_, ?_⟩
    · rw [List.length_map]
      refine ⟨by decide, by decide, ?_, ?_⟩
      · split <;> omega
      · split <;> omega
    obtain ⟨tn, et⟩ : ∃ tn : Nat, ((if ((ms.map V.int).length : Int) > 8 then ((ms.map V.int).length : Int) else 8) - 1).toNat = tn := ⟨_, rfl⟩
    have tn6 : tn ≤ 63 := by
      rw [List.length_map] at et
      split at et <;> omega
    rw [et]
    have WA : Wd K C H lp d e de ks 0 (fun _ => none) (upd H9 l2 (.lst (ms.map V.int))) := W9.same (same_new n2)
    refine for_range (n := tn) (fun i σ Hc => ∃ (M : Int → Option Pt) (z1 z8 z10 z11 z12 z13 z14 : Option V), σ = [some (.ref sa), z1, some (.int far), some (.int bs), some (.int fst), some (.ref lp), none, some (.ref d), z8, some (.ref e), z10, z11, z12, z13, z14] ∧ Wd K C H lp d e de ks i M Hc ∧ ∀ y, ¬ y ∈ ks → M y = none) ?_ ?_ ?_
    · exact ⟨_, _, _, _, _, _, _, _, rfl, WA, fun y _ => rfl⟩
    · rintro i σ Hc hi ⟨M, z1, z8', z10, z11, z12, z13, z14, rfl, W, hM⟩
      -- purse
      refine ⟨_, rfl, _, rfl, sa, ns, 1 + i, rfl, sqL_same W.sm hS, hlen, by omega, by omega, fun p2 Ha sA np2 uA => ?_⟩
      have Wa := W.same sA
      have ap := W.apart np2
      -- a_place
      refine ⟨_, rfl, _, rfl, _, rfl, lp, _, rfl, .inl (SqL.of Wa.hl), p2, _, _, rfl, uA, by decide, by rw [List.length_map]; omega, by rw [List.length_map]; omega, fun v1 Hb kB uB d0 d1 => ?_⟩
      obtain ⟨_, _, _, hpA, _⟩ := id uA
      have Wb := Wa.kp kB hpA nfix_lst ap
      rw [List.length_map] at d1
      obtain ⟨y, hy, ey⟩ := atI_mem (xs := ks) (i := v1) d0 d1
      refine ⟨lp, _, v1, .int y, rfl, rfl, SqL.of Wb.hl, ey, ?_⟩
      -- points
      refine ⟨_, rfl, _, rfl, p2, _, bs, rfl, uB, by decide, fun l3 ps Hd kD uD nl3 ld3 hpw hpl => ?_⟩
      obtain ⟨_, _, _, hpB, _⟩ := id uB
      have Wc := Wb.kp kD hpB nfix_lst ap
      have al := Wb.apart nl3
      have l3p : l3 ≠ p2 := uB.ne nl3
      -- horizon
      refine ⟨_, rfl, _, rfl, _, rfl, p2, l3, _, bs, ps, rfl, uD, by decide, l3p, ld3, hpl, fun hz He kE uE => ?_⟩
      obtain ⟨_, _, _, hpD, _⟩ := id uD
      have We := Wc.kp kE hpD nfix_lst ap
      have ld4 := ld3.kp kE hpD nfix_lst l3p (td_pds ps)
      obtain ⟨xs, hx, hdx⟩ := id ld4
      -- handed
      refine ⟨_, rfl, l3, xs, rfl, .inl (SqL.of hx), fun hh nh => ?_⟩
      have sf := same_new (o := .lst xs) nh
      have Wf := We.same sf
      have ah := We.apart nh
      have uF := uE.same sf
      have hhp : hh ≠ p2 := uE.ne nh
      have hl3 : hh ≠ l3 := (ne_of_none hx nh).symm
      have ld5 := ld4.same sf
      have ldh : LD K (upd He hh (.lst xs)) hh (ps.map pd) := ⟨xs, upd_same, dpAll_same sf hdx⟩
      revert Wf uF ld5 ldh
      generalize upd He hh (.lst xs) = Hf
      intro Wf uF ld5 ldh
      -- kept[a_place] = due(..)
      obtain ⟨kvs, hdk, hk1, hkv⟩ := Wf.lw
      obtain ⟨v0, hv0, dv0⟩ := hkv y hy
      refine ⟨_, rfl, _, rfl, d, v0, rfl, hv0 ▸ DGet.k (k := Sum.inl y) hdk, _, rfl, _, rfl, v0, l3, M y, ps, hz, rfl, dv0, ld5, fun v2 Hg sg dv2 => ?_⟩
      have Wg := Wf.same sg
      refine ⟨_, rfl, _, rfl, d, _, rfl, DPut.k (k := Sum.inl y) (sg _ _ hdk) (small1000 (by omega)), ?_⟩
      rw [due_new ps hpw] at dv2
      obtain ⟨M2, eM⟩ : ∃ M2, setM M y (newE (M y) ps hz) = M2 := ⟨_, rfl⟩
      have ktg : KT Hg (upd Hg d (.dK (putK kvs (Sum.inl y) v2))) := KT.put (sg _ _ hdk) nfix_dK
      have kpg : Kp d Hg (upd Hg d (.dK (putK kvs (Sum.inl y) v2))) := .put
      have ndy : H d = none := s7H.free nd
      have nld : lp ≠ d := ne_of_none hlp nd
      have dme : e ≠ d := by
        obtain ⟨_, h1⟩ := Wg.eo
        exact ne_of h1 (sg _ _ hdk) (by intro z; cases z)
      have ddde : de ≠ d := fun z => by
        have h1 : H8 d = none := by
          rw [← z]
          exact s9a.free nde
        rw [hd8] at h1
        cases h1
      have lw2 : LwD K (upd Hg d (.dK (putK kvs (Sum.inl y) v2))) d ks M2 := by
        refine ⟨_, upd_same, ?_, fun j hj => ?_⟩
        · have e1 : putK kvs (Sum.inl y : Key) v2 = kvs.map fun kv => if kv.1 = Sum.inl y then (kv.1, v2) else kv := by
            unfold putK
            rw [valV_any, hv0]
            exact if_pos rfl
          rw [e1, List.length_map]
          exact hk1
        · rw [valV_put, ← eM]
          unfold setM
          by_cases c : j = y
          · rw [if_pos (congrArg Sum.inl c), if_pos c]
            exact ⟨v2, rfl, dp_kt ktg dv2 (td_od _)⟩
          · rw [if_neg (fun z => c (Sum.inl.inj z)), if_neg c]
            obtain ⟨v, h1, h2⟩ := hkv j hj
            exact ⟨v, h1, dp_kt ((KT.of sg).trans ktg) h2 (td_od _)⟩
      have s10 : Same H (upd Hg d (.dK (putK kvs (Sum.inl y) v2))) := same_put ndy Wg.sm
      have hl10 := kpg _ _ nld Wg.hl
      have eo10 : EdO C (upd Hg d (.dK (putK kvs (Sum.inl y) v2))) e de := by
        obtain ⟨dx', h1⟩ := Wg.eo
        exact ⟨dx', kpg _ _ dme h1⟩
      have ed10 : EdD K (upd Hg d (.dK (putK kvs (Sum.inl y) v2))) de i M := Wg.ed.kt ktg fun o h => kpg _ _ ddde h
      have u10 : Pu (upd Hg d (.dK (putK kvs (Sum.inl y) v2))) p2 (1000000 + 2 + 1000 + 1000) := by
        obtain ⟨a1, a2, a3, h1, h2⟩ := uF.same sg
        exact ⟨a1, a2, a3, kpg _ _ ap.2.2.1 h1, h2⟩
      have ldp10 : LD K (upd Hg d (.dK (putK kvs (Sum.inl y) v2))) l3 (ps.map pd) := (ld5.same sg).kt ktg (fun o h => kpg _ _ al.2.2.1 h) (td_pds ps)
      have ldh10 : LD K (upd Hg d (.dK (putK kvs (Sum.inl y) v2))) hh (ps.map pd) := (ldh.same sg).kt ktg (fun o h => kpg _ _ ah.2.2.1 h) (td_pds ps)
      revert lw2 s10 hl10 eo10 ed10 u10 ldp10 ldh10
      generalize upd Hg d (.dK (putK kvs (Sum.inl y) v2)) = Hh
      intro lw2 s10 hl10 eo10 ed10 u10 ldp10 ldh10
      -- draw
      refine ⟨_, rfl, p2, _, 3, rfl, u10, by decide, by decide, by decide, fun v3 Hi kI uI _ _ => ?_⟩
      obtain ⟨_, _, _, hp10, _⟩ := id u10
      have ktI := KT.kp kI hp10 nfix_lst
      have lwI : LwD K Hi d ks M2 := lw2.kt ktI fun o h => kI _ _ ap.2.2.1.symm h
      have sI : Same H Hi := Kp.same s10 ap.1 kI
      have hlI := kI _ _ ap.2.1.symm hl10
      have eoI : EdO C Hi e de := by
        obtain ⟨dx', h1⟩ := eo10
        exact ⟨dx', kI _ _ ap.2.2.2.1.symm h1⟩
      have edI : EdD K Hi de i M := ed10.kt ktI fun o h => kI _ _ ap.2.2.2.2.symm h
      have ldpI : LD K Hi l3 (ps.map pd) := ldp10.kp kI hp10 nfix_lst l3p (td_pds ps)
      have ldhI : LD K Hi hh (ps.map pd) := ldh10.kp kI hp10 nfix_lst hhp (td_pds ps)
      obtain ⟨dxI, heI⟩ := id eoI
      refine ⟨rfl, _, rfl, ite2 (fun g => ⟨_, rfl, e, dxI, _, rfl, heI, rfl, _, rfl, _, rfl, _, rfl, rfl, e, de, hh, i, M, y, hz, ps, rfl, eoI, edI, by omega, ldhI, hpl, fun tv Hj kJ edJ dtv => ?_⟩) (fun g => ⟨_, rfl, e, dxI, _, rfl, heI, rfl, _, rfl, _, rfl, _, rfl, e, de, hh, i, M, y, hz, ps, rfl, eoI, edI, by omega, ldhI, hpl, fun tv Hj kJ edJ dtv => ?_⟩)⟩
      all_goals
        rw [eM] at edJ
        obtain ⟨kve, hdeI, _⟩ := id edI
        have ktJ := KT.kp kJ hdeI nfix_dK
        have lpde : lp ≠ de := ne_of hlI hdeI (by intro z; cases z)
        have WJ : Wd K C H lp d e de ks (i + 1) M2 Hj := by
          refine ⟨Kp.same sI ((s7H.trans s8).free (s9a.free nde)) kJ, kJ _ _ lpde hlI, lwI.kt ktJ fun o h => kJ _ _ ddde.symm h, ?_, edJ⟩
          obtain ⟨_, h1⟩ := eoI
          exact ⟨_, kJ _ _ (ne_of h1 hdeI (by intro z; cases z)) h1⟩
        have ldpJ : LD K Hj l3 (ps.map pd) := ldpI.kp kJ hdeI nfix_dK al.2.2.2.2 (td_pds ps)
        have ldhJ : LD K Hj hh (ps.map pd) := ldhI.kp kJ hdeI nfix_dK ah.2.2.2.2 (td_pds ps)
        have hM2 : ∀ y', ¬ y' ∈ ks → M2 y' = none := fun y' hy' => by
          rw [← eM]
          unfold setM
          rw [if_neg (fun z : y' = y => hy' (by rw [z]; exact hy))]
          exact hM y' hy'
        obtain ⟨kvJ, hdJ, _, hvJ⟩ := id WJ.lw
        obtain ⟨v5, hv5, dv5⟩ := hvJ y hy
        have eMy : M2 y = newE (M y) ps hz := by
          rw [← eM]
          unfold setM
          rw [if_pos rfl]
        rw [eMy] at dv5
        -- told != kept[a_place] or handed != points or not stands
        refine ⟨_, rfl, _, rfl, _, rfl, d, v5, rfl, hv5 ▸ DGet.k (k := Sum.inl y) hdJ, od (newE (M y) ps hz), od (newE (M y) ps hz), dtv, dv5, sh_od _, sh_od _, false, (by rw [eq_od]; rfl), if_f ?_⟩
        refine ⟨_, rfl, _, rfl, .list (ps.map pd), .list (ps.map pd), ldhJ.dp, ldpJ.dp, sh_pds _, sh_pds _, false, (by rw [eq_pds]; rfl), if_f ?_⟩
        refine ⟨_, rfl, _, rfl, _, rfl, e, de, lp, d, i + 1, ks, M2, rfl, WJ.eo, WJ.ed, WJ.hl, hne, (fun j hj => hM2 _ (klast j hj)), WJ.lw, true, rfl, if_f ?_⟩
        -- handed.clear()
        obtain ⟨ys, hhJ, _⟩ := id ldhJ
        refine ⟨_, rfl, .inl ⟨rfl, _, SqL.of hhJ⟩, hh, _, rfl, rfl, hhJ, ?_⟩
        have WK := WJ.kp (Kp.put (o := .lst [])) hhJ nfix_lst ah
        -- a tuple
        cases en : newE (M y) ps hz with
        | none =>
          rw [en] at dtv
          cases dtv
          exact ⟨_, rfl, rfl, _, rfl, if_f (if_f ⟨_, _, _, _, _, _, _, _, rfl, WK, hM2⟩)⟩
        | some x =>
          rw [en] at dtv
          obtain ⟨t, rfl, ht⟩ := dp_pd dtv
          refine ⟨_, rfl, rfl, _, rfl, if_t ?_⟩
          refine ⟨_, rfl, .ref t, .ty "tuple", .type "tuple", .type "tuple", true, rfl, .ty "tuple", tyT (sqT_kt (KT.put hhJ nfix_lst) ht), kit_ty (by decide +kernel), true, rfl, if_f ?_⟩
          exact ⟨_, _, _, _, _, _, _, _, rfl, WK, hM2⟩
    · rintro σ Hc ⟨M, z1, z8', z10, z11, z12, z13, z14, rfl, W, hM⟩
      exact ⟨_, rfl, _, rfl, _, rfl, e, de, lp, d, tn, ks, M, rfl, W.eo, W.ed, W.hl, hne, (fun j hj => hM _ (klast j hj)), W.lw, q _⟩
end
end Tg

namespace Tg
open PySem PySem.Spec PyProof.Rows L2
section
variable {K : PySem.W.Frag}
theorem kbn_moved {f : Addr} {fd : FuncData} (F : Fun K "moved" "Edges.moved" sMoved f fd) : KBn K fd ["self", "place", "points", "horizon"] 1 ["points", "horizon", "place"] (fun us ws => us ++ prm [2, 0, 1] ws) (fun vs zs => vs ++ prm [2, 0, 1] zs) := by
  obtain ⟨_, _, kV, doc, pm, an, cdv, ct, _, rfl, _, _⟩ := F.ex
  exact ⟨fun s us ws _ h0 h2 => match us, ws, h0, h2 with | [_], [_, _, _], _, _ => .of_eq rfl, fun r1 r => r1.append (prm_rel r _)⟩
theorem kbn_edge {f : Addr} {fd : FuncData} (F : Fun K "edge_of" "Edges.edge_of" sEdge f fd) : KBn K fd ["self", "place"] 1 ["place"] (fun us ws => us ++ prm [0] ws) (fun vs zs => vs ++ prm [0] zs) := by
  obtain ⟨_, _, kV, doc, pm, an, cdv, ct, _, rfl, _, _⟩ := F.ex
  exact ⟨fun s us ws _ h0 h2 => match us, ws, h0, h2 with | [_], [_], _, _ => .of_eq rfl, fun r1 r => r1.append (prm_rel r _)⟩
end
/-! ### what the top has written; the law's own head -/
theorem all_mk {l : PySem.W.OpenLaw} {w : World} {K : PySem.W.Frag} {h : Heap} {mg : Str → Option Value} {fa C1 f1 f2 f3 f4 f5 f6 f7 f8 f9 f10 f11 : Addr} (X : K.In h) (G : h.Ns mainGlobals mg) (hfa : mg "law" = some (.ref fa))
    {od1 an1 od2 an2 od3 an3 od4 an4 od5 an5 od6 an6 od7 an7 od8 an8 od9 an9 od10 an10 od11 an11 : Option Addr} {sl1 sl2 sl3 sl4 sl5 sl6 sl7 sl8 sl9 sl10 sl11 : Array (Option Value)} {oc1 kV1 dc1 pm1 cd1 ct1 oc2 kV2 dc2 pm2 cd2 ct2 oc3 kV3 dc3 pm3 cd3 ct3 oc4 kV4 dc4 pm4 cd4 ct4 oc5 kV5 dc5 pm5 cd5 ct5 oc6 kV6 dc6 pm6 cd6 ct6 oc7 kV7 dc7 pm7 cd7 ct7 oc8 kV8 dc8 pm8 cd8 ct8 oc9 kV9 dc9 pm9 cd9 ct9 oc10 kV10 dc10 pm10 cd10 ct10 oc11 kV11 dc11 pm11 cd11 ct11 : Value}
    (aC1 : PySem.W.nsIn K mainGlobals "Edges" = some (some (.ref C1)))
    (pgC1 : PySem.W.plainGet K C1 Str.empty = true)
    (hdC1 : PySem.W.hasDictIn K C1 = true)
    (poC1 : PySem.W.plainOver K C1 = true)
    (saC1 : PySem.W.findIn K (.ref C1) "__setattr__" = some (some (.builtin "object.__setattr__")))
    (mkC1 : PySem.W.makesIn K C1 = true)
    (kcC1 : PySem.W.keepIn K (.ref C1) = true)
    (noC1_kept : PySem.W.findIn K (.ref C1) "kept" = some none)
    (a1 : PySem.W.findIn K (.ref C1) "__init__" = some (some (.ref f1)))
    (i1 : PySem.W.isFn K (.ref f1) = true)
    (l1 : K.lookup f1 = some ⟨oc1, od1, .func (PySem.W.fnOf "__init__" "Edges.__init__" (defArgs sInit) (defBody sInit) (defScope sInit) .none kV1 dc1 pm1 an1 cd1 ct1), sl1⟩)
    (c1 : PySem.W.codeIn K cd1 "Edges.__init__" = true)
    (k1 : PySem.W.keepIn K (.ref f1) = true)
    (a2 : PySem.W.findIn K (.ref C1) "moved" = some (some (.ref f2)))
    (i2 : PySem.W.isFn K (.ref f2) = true)
    (l2 : K.lookup f2 = some ⟨oc2, od2, .func (PySem.W.fnOf "moved" "Edges.moved" (defArgs sMoved) (defBody sMoved) (defScope sMoved) .none kV2 dc2 pm2 an2 cd2 ct2), sl2⟩)
    (c2 : PySem.W.codeIn K cd2 "Edges.moved" = true)
    (k2 : PySem.W.keepIn K (.ref f2) = true)
    (a3 : PySem.W.findIn K (.ref C1) "edge_of" = some (some (.ref f3)))
    (i3 : PySem.W.isFn K (.ref f3) = true)
    (l3 : K.lookup f3 = some ⟨oc3, od3, .func (PySem.W.fnOf "edge_of" "Edges.edge_of" (defArgs sEdge) (defBody sEdge) (defScope sEdge) .none kV3 dc3 pm3 an3 cd3 ct3), sl3⟩)
    (c3 : PySem.W.codeIn K cd3 "Edges.edge_of" = true)
    (k3 : PySem.W.keepIn K (.ref f3) = true)
    (a4 : PySem.W.nsIn K mainGlobals "_law_mixed" = some (some (.ref f4)))
    (l4 : K.lookup f4 = some ⟨oc4, od4, .func (PySem.W.fnOf "_law_mixed" "_law_mixed" (defArgs sMixed) (defBody sMixed) (defScope sMixed) .none kV4 dc4 pm4 an4 cd4 ct4), sl4⟩)
    (c4 : PySem.W.codeIn K cd4 "_law_mixed" = true)
    (k4 : PySem.W.keepIn K (.ref f4) = true)
    (a5 : PySem.W.nsIn K mainGlobals "_law_purse" = some (some (.ref f5)))
    (l5 : K.lookup f5 = some ⟨oc5, od5, .func (PySem.W.fnOf "_law_purse" "_law_purse" (defArgs sPurse) (defBody sPurse) (defScope sPurse) .none kV5 dc5 pm5 an5 cd5 ct5), sl5⟩)
    (c5 : PySem.W.codeIn K cd5 "_law_purse" = true)
    (k5 : PySem.W.keepIn K (.ref f5) = true)
    (a6 : PySem.W.nsIn K mainGlobals "_law_draw" = some (some (.ref f6)))
    (l6 : K.lookup f6 = some ⟨oc6, od6, .func (PySem.W.fnOf "_law_draw" "_law_draw" (defArgs sDraw) (defBody sDraw) (defScope sDraw) .none kV6 dc6 pm6 an6 cd6 ct6), sl6⟩)
    (c6 : PySem.W.codeIn K cd6 "_law_draw" = true)
    (k6 : PySem.W.keepIn K (.ref f6) = true)
    (a7 : PySem.W.nsIn K mainGlobals "_law_points" = some (some (.ref f7)))
    (l7 : K.lookup f7 = some ⟨oc7, od7, .func (PySem.W.fnOf "_law_points" "_law_points" (defArgs sPoints) (defBody sPoints) (defScope sPoints) .none kV7 dc7 pm7 an7 cd7 ct7), sl7⟩)
    (c7 : PySem.W.codeIn K cd7 "_law_points" = true)
    (k7 : PySem.W.keepIn K (.ref f7) = true)
    (a8 : PySem.W.nsIn K mainGlobals "_law_horizon" = some (some (.ref f8)))
    (l8 : K.lookup f8 = some ⟨oc8, od8, .func (PySem.W.fnOf "_law_horizon" "_law_horizon" (defArgs sHorizon) (defBody sHorizon) (defScope sHorizon) .none kV8 dc8 pm8 an8 cd8 ct8), sl8⟩)
    (c8 : PySem.W.codeIn K cd8 "_law_horizon" = true)
    (k8 : PySem.W.keepIn K (.ref f8) = true)
    (a9 : PySem.W.nsIn K mainGlobals "_law_due" = some (some (.ref f9)))
    (l9 : K.lookup f9 = some ⟨oc9, od9, .func (PySem.W.fnOf "_law_due" "_law_due" (defArgs sDue) (defBody sDue) (defScope sDue) .none kV9 dc9 pm9 an9 cd9 ct9), sl9⟩)
    (c9 : PySem.W.codeIn K cd9 "_law_due" = true)
    (k9 : PySem.W.keepIn K (.ref f9) = true)
    (a10 : PySem.W.nsIn K mainGlobals "_law_stands" = some (some (.ref f10)))
    (l10 : K.lookup f10 = some ⟨oc10, od10, .func (PySem.W.fnOf "_law_stands" "_law_stands" (defArgs sStands) (defBody sStands) (defScope sStands) .none kV10 dc10 pm10 an10 cd10 ct10), sl10⟩)
    (c10 : PySem.W.codeIn K cd10 "_law_stands" = true)
    (k10 : PySem.W.keepIn K (.ref f10) = true)
    (a11 : PySem.W.nsIn K mainGlobals "law" = some (some (.ref f11)))
    (l11 : K.lookup f11 = some ⟨oc11, od11, .func (PySem.W.fnOf "law" "law" (defArgs sLaw) (defBody sLaw) (defScope sLaw) .none kV11 dc11 pm11 an11 cd11 ct11), sl11⟩)
    (c11 : PySem.W.codeIn K cd11 "law" = true)
    (k11 : PySem.W.keepIn K (.ref f11) = true)
    (z_range : PySem.W.nsIn K mainGlobals "range" = some none)
    (z_len : PySem.W.nsIn K mainGlobals "len" = some none)
    (z_max : PySem.W.nsIn K mainGlobals "max" = some none)
    (z_list : PySem.W.nsIn K mainGlobals "list" = some none)
    (z_isinstance : PySem.W.nsIn K mainGlobals "isinstance" = some none)
    (z_tuple : PySem.W.nsIn K mainGlobals "tuple" = some none)
    : ∃ fd : FuncData, (∀ (s : Shared) (v : Value), BindsTo s fd ⟨[v], []⟩ [("_law_script", v)]) ∧ ∀ base : Heap, K.In base → base.Ns mainGlobals mg → FnOk l.prog w K mg base CX0 5 fa fd ["_law_script"] (spLaw K) := by
  have e := hfa.symm.trans (PySem.W.mg_of X G a11)
  cases e
  have F1 := fun_mk (st := sInit) l1 c1 k1
  have F2 := fun_mk (st := sMoved) l2 c2 k2
  have F3 := fun_mk (st := sEdge) l3 c3 k3
  have F4 := fun_mk (st := sMixed) l4 c4 k4
  have F5 := fun_mk (st := sPurse) l5 c5 k5
  have F6 := fun_mk (st := sDraw) l6 c6 k6
  have F7 := fun_mk (st := sPoints) l7 c7 k7
  have F8 := fun_mk (st := sHorizon) l8 c8 k8
  have F9 := fun_mk (st := sDue) l9 c9 k9
  have F10 := fun_mk (st := sStands) l10 c10 k10
  have F11 := fun_mk (st := sLaw) l11 c11 k11
  have b1 := F1.binds (ps := ["self"]) fun _ _ _ _ _ _ us hl => match us, hl with | [_], _ => rfl
  have b2 := F2.binds (ps := ["self", "place", "points", "horizon"]) fun _ _ _ _ _ _ us hl => match us, hl with | [_, _, _, _], _ => rfl
  have b3 := F3.binds (ps := ["self", "place"]) fun _ _ _ _ _ _ us hl => match us, hl with | [_, _], _ => rfl
  have b4 := F4.binds (ps := ["_law_cell", "_law_k"]) fun _ _ _ _ _ _ us hl => match us, hl with | [_, _], _ => rfl
  have b5 := F5.binds (ps := ["_law_script", "_law_at"]) fun _ _ _ _ _ _ us hl => match us, hl with | [_, _], _ => rfl
  have b6 := F6.binds (ps := ["_law_purse_here", "_law_out_of"]) fun _ _ _ _ _ _ us hl => match us, hl with | [_, _], _ => rfl
  have b7 := F7.binds (ps := ["_law_purse_here", "_law_base"]) fun _ _ _ _ _ _ us hl => match us, hl with | [_, _], _ => rfl
  have b8 := F8.binds (ps := ["_law_purse_here", "_law_base", "_law_some_points"]) fun _ _ _ _ _ _ us hl => match us, hl with | [_, _, _], _ => rfl
  have b9 := F9.binds (ps := ["_law_kept", "_law_some_points", "_law_an_end"]) fun _ _ _ _ _ _ us hl => match us, hl with | [_, _, _], _ => rfl
  have b10 := F10.binds (ps := ["_law_edges", "_law_places", "_law_kept"]) fun _ _ _ _ _ _ us hl => match us, hl with | [_, _, _], _ => rfl
  have g4 := PySem.W.mg_of X G a4
  have g5 := PySem.W.mg_of X G a5
  have g6 := PySem.W.mg_of X G a6
  have g7 := PySem.W.mg_of X G a7
  have g8 := PySem.W.mg_of X G a8
  have g9 := PySem.W.mg_of X G a9
  have g10 := PySem.W.mg_of X G a10
  have gC1 := PySem.W.mg_of X G aC1
  have m_range := PySem.W.mg_none_of X G z_range
  have m_len := PySem.W.mg_none_of X G z_len
  have m_max := PySem.W.mg_none_of X G z_max
  have m_list := PySem.W.mg_none_of X G z_list
  have m_isinstance := PySem.W.mg_none_of X G z_isinstance
  have m_tuple := PySem.W.mg_none_of X G z_tuple
  refine ⟨PySem.W.fnOf "law" "law" (defArgs sLaw) (defBody sLaw) (defScope sLaw) .none kV11 dc11 pm11 an11 cd11 ct11, fun s v => .of_eq rfl, fun base _ _ => ?_⟩
  have T : TEdge K C1 := ⟨⟨pgC1, hdC1, poC1, saC1⟩, noC1_kept⟩
  have D : ∀ j, Cal l.prog w K mg base (j + 2) "_law_draw" ["_law_purse_here", "_law_out_of"] spDraw := fun j => ⟨f6, _, ok_draw F6 ⟨f4, _, ok_mixed F4, g4, k4, b4⟩ m_range, g6, k6, b6⟩
  refine ok_law F11 ⟨⟨f5, _, ok_purse (k := 2) F5 m_range m_max, g5, k5, b5⟩, D 1, ⟨f7, _, ok_points F7 (D 0) m_range, g7, k7, b7⟩, ⟨f8, _, ok_horizon F8 (D 0) m_len, g8, k8, b8⟩, ⟨f9, _, ok_due F9, g9, k9, b9⟩,
    ⟨f10, _, ok_stands F10 T ⟨f3, _, ok_edge (k := 1) F3 T, ⟨a3, i3, k3⟩, b3⟩ ⟨f3, _, ok_edge (k := 1) F3 T, ⟨a3, i3, k3⟩, kbn_edge F3⟩ m_range, g10, k10, b10⟩,
    ⟨f1, _, ok_init F1 T, gC1, ⟨mkC1, a1, i1, kcC1⟩, b1⟩, ⟨f2, _, ok_moved F2 T, ⟨a2, i2, k2⟩, b2⟩, ⟨f2, _, ok_moved F2 T, ⟨a2, i2, k2⟩, kbn_moved F2⟩, T, m_range, m_len, m_max, m_list, m_isinstance, m_tuple⟩
end Tg
open PySem PySem.W PyProof.Rows
set_option maxRecDepth 100000 in
set_option maxHeartbeats 0 in
theorem PySem.Challenge.cw_timegranary_k62_edges_holds : PySem.Challenge.rw_timegranary_k62_edges.Holds := by
  w_on; o_law; k_head; (case hw => w_witness2)
  k_fill
  refine L2.walk_of (l := PySem.Challenge.rw_timegranary_k62_edges) (n := 63) (k := 5) (x := "_law_script") (CX := fun _ => L2.CX0) (sp := fun w => Tg.spLaw _) rfl (by decide) rfl ⟨rfl, by decide, by decide⟩ (fun w h Y => PySem.W.kIn_of Y) ?F (fun _ _ a ns hl _ hS => ⟨a, ns, rfl, hS, hl, fun _ => rfl⟩) (fun _ _ _ _ _ h => h)
  case F =>
    intro w mg fa h KX G hmg
    refine' Tg.all_mk KX G hmg ?aC1 ?pgC1 ?hdC1 ?poC1 ?saC1 ?mkC1 ?kcC1 ?noC1_kept ?a1 ?i1 ?l1 ?c1 ?k1 ?a2 ?i2 ?l2 ?c2 ?k2 ?a3 ?i3 ?l3 ?c3 ?k3 ?a4 ?l4 ?c4 ?k4 ?a5 ?l5 ?c5 ?k5 ?a6 ?l6 ?c6 ?k6 ?a7 ?l7 ?c7 ?k7 ?a8 ?l8 ?c8 ?k8 ?a9 ?l9 ?c9 ?k9 ?a10 ?l10 ?c10 ?k10 ?a11 ?l11 ?c11 ?k11 ?z_range ?z_len ?z_max ?z_list ?z_isinstance ?z_tuple
    (case aC1 => k_is); (case pgC1 => k_is); (case hdC1 => k_is); (case poC1 => k_is); (case saC1 => k_is); (case mkC1 => k_is)
    (case kcC1 => k_is); (case noC1_kept => k_is); (case a1 => k_is); (case i1 => k_is); (case l1 => k_is); (case c1 => k_is)
    (case k1 => k_is); (case a2 => k_is); (case i2 => k_is); (case l2 => k_is); (case c2 => k_is); (case k2 => k_is)
    (case a3 => k_is); (case i3 => k_is); (case l3 => k_is); (case c3 => k_is); (case k3 => k_is); (case a4 => k_is)
    (case l4 => k_is); (case c4 => k_is); (case k4 => k_is); (case a5 => k_is); (case l5 => k_is); (case c5 => k_is)
    (case k5 => k_is); (case a6 => k_is); (case l6 => k_is); (case c6 => k_is); (case k6 => k_is); (case a7 => k_is)
    (case l7 => k_is); (case c7 => k_is); (case k7 => k_is); (case a8 => k_is); (case l8 => k_is); (case c8 => k_is)
    (case k8 => k_is); (case a9 => k_is); (case l9 => k_is); (case c9 => k_is); (case k9 => k_is); (case a10 => k_is)
    (case l10 => k_is); (case c10 => k_is); (case k10 => k_is); (case a11 => k_is); (case l11 => k_is); (case c11 => k_is)
    (case k11 => k_is); (case z_range => k_is); (case z_len => k_is); (case z_max => k_is); (case z_list => k_is); (case z_isinstance => k_is)
    (case z_tuple => k_is)

