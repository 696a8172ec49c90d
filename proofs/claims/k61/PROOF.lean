import PyProof.Rows.All
import Wide.All
import OpenK.AllK
import Wide.FinOn
import HandS.ForMost
import HandS.Conv
import HandS.Wide
import HandS.IsInst
import HandS.Defaults
import HandS.Iter
import HandS.Walk
import HandS.Zip
import KE.GoesNew
import KE.GoesMore
import KE.GoesEnum
import KE.KIndexOf
import HandS.WideBits
import KE.IntBitsLaws
import PySem.Challenge.RW_timegranary_k61_horizons
import HandS.TupAny
import HandS.TupMul
import HandS.Deep
import HandS.MakeKwOnly
import HandS.MakeKw
set_option Elab.async false
set_option linter.all false
set_option maxRecDepth 100000
namespace Tg
open PySem PySem.Spec PyProof.Rows L2

/-! ### rules of my own: a call by keywords alone; list(range(a, b, c)) -/
section
variable {X : Cx} {CX : CXT} {k : Nat} {f : Addr} {fd : FuncData} {ps ks : List Str} {sp : Sp} {E : XK} {x : Str} {p pos : Pos} {kws : List Keyword} {tk : TA}
  {g : List Value → List Value → List Value} {gV : List V → List V → List V}
def tKw0 (n : Nat) (sp : Sp) (gV : List V → List V → List V) (E : XK) (tk : TA) : TE :=
  fun σ H Q => tk σ H fun zs H2 => zs.length = n ∧ sp (gV [] zs) H2 Q E
theorem pe_kw0 (F : FnOk X.prog X.w X.K X.mg X.base CX k f fd ps sp) (room : Room k X.A) (gl : Gl X x) (at_x : X.mg x = some (.ref f)) (kept : PySem.W.keepIn X.K (.ref f) = true) (binds : KBn X.K fd ps 0 ks g gV) (lets : Passes CX X E) (vals : PK X kws tk)
    (named : (backToKw pos (keywordEach kws X.env)).all (·.1.isSome) = true := by rfl) (names : (backToKw pos (keywordEach kws X.env)).filterMap (·.1) = ks := by rfl) (nodebug : (x == ("__debug__" : Str)) = false := by decide)
    (nostar : ((backTo pos (starEach [] X.env)).any (·.1) || (backToKw pos (keywordEach kws X.env)).any (·.1.isNone)) = false := by rfl) : PE X (.Call (.Name x p) [] kws pos) (tKw0 ks.length sp gV E tk) := by
  constructor
  intro pins s σ H Q I read
  refine wpAny_Call_Name_kw (ld_glob I gl at_x (PySem.W.callWith_KW0 (h₀ := X.base) I.ok.mod.kin kept named (thn (vals.run pos pins s σ H _ I read) fun ws s2 y => ?_) nostar) nodebug)
  obtain ⟨zs, H2, J, rel, many, h⟩ := y
  rw [names]
  exact ⟨J.kIn, run_fnN (us := []) (vs := []) F room binds lets J .nil rel rfl many h⟩
end

/-- two keywords, the second parameter's first -/
def sw2 {α : Type} : List α → List α
  | [y, x] => [x, y]
  | _ => []
/-- three keywords, the parameters' from the last on -/
def sw3 {α : Type} : List α → List α
  | [z, y, x] => [x, y, z]
  | _ => []
theorem sw2_rel : ∀ {zs : List V} {ws : List Value}, Vals zs ws → Vals (sw2 zs) (sw2 ws)
  | _, _, .nil => .nil
  | _, _, .cons _ .nil => .nil
  | _, _, .cons a (.cons b .nil) => .cons b (.cons a .nil)
  | _, _, .cons _ (.cons _ (.cons _ _)) => .nil
theorem sw3_rel : ∀ {zs : List V} {ws : List Value}, Vals zs ws → Vals (sw3 zs) (sw3 ws)
  | _, _, .nil => .nil
  | _, _, .cons _ .nil => .nil
  | _, _, .cons _ (.cons _ .nil) => .nil
  | _, _, .cons a (.cons b (.cons c .nil)) => .cons c (.cons b (.cons a .nil))
  | _, _, .cons _ (.cons _ (.cons _ (.cons _ _))) => .nil

section
variable {X : Cx} {a b c : Expr} {ta : TA}
def rg3 (a c : Int) (n : Nat) : List V := (List.range n).map fun i => V.int (a + (i : Nat) * c)
theorem rg3_length (a c : Int) (n : Nat) : (rg3 a c n).length = n := by
  simp [rg3]
def R3 (a b c : Int) (n : Nat) : Prop :=
  c ≠ 0 ∧ c.natAbs.log2 < 9000 ∧ Builtin.Range.small a b c = true ∧ Builtin.Range.rangeSize a b c = n ∧ n ≤ 2 ^ 24
def tLst3 (ta : TA) : TE := fun σ H Q => ta σ H fun vs H1 => ∃ (a b c : Int) (n : Nat), vs = [.int a, .int b, .int c] ∧ R3 a b c n ∧
  ∀ q, H1 q = none → Q (.ref q) (upd H1 q (.lst (rg3 a c n)))
theorem pe_lst3 {p p2 pos pos2 : Pos} (calm : X.calm = true) (gl : Gl X "list") (nl : X.mg "list" = none) (gr : Gl X "range") (nr : X.mg "range" = none) (args : PA X [a, b, c] ta)
    (one : starEach [a, b, c] X.env = (false, eval a X.env) :: starEach [b, c] X.env := by rfl) (nostar : (backTo pos2 (starEach [b, c] X.env)).any (·.1) = false := by rfl)
    (whole : starEach [.Call (.Name "range" p2) [a, b, c] [] pos2] X.env = (false, eval (.Call (.Name "range" p2) [a, b, c] [] pos2) X.env) :: starEach [] X.env := by rfl) :
    PE X (.Call (.Name "list" p) [.Call (.Name "range" p2) [a, b, c] [] pos2] [] pos) (tLst3 ta) := by
  constructor
  intro pins s σ H Q I read
  refine Call_ (ld_blt I gl nl boot_list (PyProof.Rows.callWith_type1 (args_cons (Call_ (ld_blt I gr nr boot_range (PyProof.Rows.callWith_type1 (thn (args.run pos2 pins s σ H _ I read) fun us s1 y => ?_) one nostar))) whole) whole))
  obtain ⟨zs, H1, J, rel, i, j, k, n, e, ⟨c0, c1, c2, c3, c4⟩, h⟩ := y
  subst e
  match us, rel with
  | [_, _, _], .cons ⟨t, ei⟩ (.cons ⟨u, ej⟩ (.cons ⟨v, ek⟩ .nil)) =>
    subst ei
    subst ej
    subst ek
    refine call_range_3 c0 (args_nil ?_) (.inl (PyProof.noPylong_of_log2 c1))
    obtain ⟨hx, ehx⟩ : ∃ hx, hx = s1.heap.push { cls := .type "range", data := .fields #[.int i t, .int j u, .int k v] } := ⟨_, rfl⟩
    have J2 : Inv X pins σ H1 { s1 with heap := hx } := by
      rw [ehx]
      exact J.kept (t' := s1.toks) fun _ _ z => Heap.get?_push_of_some _ z
    rw [← ehx]
    refine call_list_range (s := { s1 with heap := hx }) (n := n) (J2.ok.hd calm) (by rw [ehx]; exact IsRange.new ..) c2 c3 c4 fun h' tk acc cc kp made items => ?_
    have len : acc.toList.length = n := Array.length_toList.trans items.1
    have vals : Vals (rg3 i k n) acc.toList := by
      have z := vals_of_get acc.toList (fun m : Nat => V.int (i + m * k)) fun m w hw => by
        obtain ⟨tw, ew⟩ := items.2 m w (by rw [← hw, Array.getElem?_toList])
        exact ⟨tw, ew⟩
      rw [len] at z
      exact z
    refine ⟨.ref hx.objs.size, upd H1 hx.objs.size (.lst (rg3 i k n)), J2.laid kp (Nat.le_refl _) (show ObjOk X.prog X.w _ _ _ (.lst (rg3 i k n)) from ⟨?_, acc.toList, cc, vals, ?_⟩), rfl, h _ (J2.hok.fresh (Nat.le_refl _))⟩
    · rw [rg3_length, sizeLine_eq]
      omega
    · rw [Array.toArray_toList]
      exact made
end

/-! ### lists of ints, compared -/
theorem dp_ints {K : PySem.W.Frag} {H : Hp} : ∀ ns : List Int, DpAll K H (ns.map V.int) (ns.map PyData.int)
  | [] => .nil
  | n :: r => .cons (.int n) (dp_ints r)
theorem lay_ints : ∀ ns : List Int, PyData.canLayAll0 (ns.map PyData.int) = true
  | [] => rfl
  | n :: r => by
    show (true && PyData.canLayAll0 (r.map PyData.int)) = true
    rw [lay_ints r]
    rfl
theorem depth_ints : ∀ ns : List Int, PyData.depthAll (ns.map PyData.int) = 0
  | [] => rfl
  | n :: r => by
    show max 0 (PyData.depthAll (r.map PyData.int)) = 0
    rw [depth_ints r]
    rfl
theorem shaped_ints (ns : List Int) : SeqAt.shaped (.list (ns.map PyData.int)) = true := by
  unfold SeqAt.shaped
  have h1 : PyData.canLay0 (.list (ns.map PyData.int)) = true := lay_ints ns
  have h2 : PyData.depth (.list (ns.map PyData.int)) = 1 := by
    show PyData.depthAll (ns.map PyData.int) + 1 = 1
    rw [depth_ints]
  rw [h1, h2]
  rfl
theorem eqv_ints : ∀ ns : List Int, PyData.eqvAll (ns.map PyData.int) (ns.map PyData.int) = true
  | [] => rfl
  | n :: r => by
    show ((n == n) && PyData.eqvAll (r.map PyData.int) (r.map PyData.int)) = true
    rw [eqv_ints r, beq_self_eq_true]
    rfl
theorem dp_lst {K : PySem.W.Frag} {H : Hp} {a : Addr} {ns : List Int} (h : SqL K H a (ns.map V.int)) : Dp K H (.ref a) (.list (ns.map PyData.int)) := .lst h (dp_ints ns)
end Tg

namespace Tg
open PySem PySem.Spec PyProof.Rows L2
/-! ### defs, methods and classes as a caller needs them -/
section
variable (P : Program) (w : World) (K : PySem.W.Frag) (mg : Str → Option Value) (base : Heap)
/-- the def x is there, and keeps sp by level k -/
def Cal (k : Nat) (x : Str) (ps : List Str) (sp : Sp) : Prop := ∃ f fd, FnOk P w K mg base CX0 k f fd ps sp ∧ mg x = some (.ref f) ∧ PySem.W.keepIn K (.ref f) = true ∧ Binds K fd ps []
/-- the places that is tells, out of a list -/
def prm {α : Type} (is : List Nat) (zs : List α) : List α := is.filterMap fun i => zs[i]?
/-- the same with keywords alone, ks in this order; is: the places of the parameters among them -/
def CalK (k : Nat) (x : Str) (ps ks : List Str) (is : List Nat) (sp : Sp) : Prop := ∃ f fd, FnOk P w K mg base CX0 k f fd ps sp ∧ mg x = some (.ref f) ∧ PySem.W.keepIn K (.ref f) = true ∧ KBn K fd ps 0 ks (fun _ ws => prm is ws) (fun _ zs => prm is zs)
/-- a method of the class C -/
def CalM (k : Nat) (C : Addr) (m : Str) (ps : List Str) (sp : Sp) : Prop := ∃ f fd, FnOk P w K mg base CX0 k f fd ps sp ∧ Meth K C m f ∧ Binds K fd ps []
def CalMK (k : Nat) (C : Addr) (m : Str) (ps ks : List Str) (is : List Nat) (sp : Sp) : Prop := ∃ f fd, FnOk P w K mg base CX0 k f fd ps sp ∧ Meth K C m f ∧ KBn K fd ps 1 ks (fun us ws => us ++ prm is ws) (fun vs zs => vs ++ prm is zs)
/-- a class, by its __init__ -/
def CalC (k : Nat) (x : Str) (C : Addr) (ps : List Str) (sp : Sp) : Prop := ∃ f fd, FnOk P w K mg base CX0 k f fd ps sp ∧ mg x = some (.ref C) ∧ Mk K C f ∧ Binds K fd ps []
end
theorem vals_at : ∀ {zs : List V} {ws : List Value}, Vals zs ws → ∀ i : Nat, (zs[i]? = none ∧ ws[i]? = none) ∨ ∃ z w, zs[i]? = some z ∧ ws[i]? = some w ∧ RelV z w
  | _, _, .nil, i => .inl ⟨by simp, by simp⟩
  | _, _, .cons a b, i => by
    cases i with
    | zero => exact .inr ⟨_, _, rfl, rfl, a⟩
    | succ i => exact vals_at b i
theorem prm_rel {zs : List V} {ws : List Value} (h : Vals zs ws) : ∀ is : List Nat, Vals (prm is zs) (prm is ws)
  | [] => .nil
  | i :: r => by
    have ih := prm_rel h r
    unfold prm at ih ⊢
    rcases vals_at h i with ⟨h1, h2⟩ | ⟨z, w, h1, h2, h3⟩
    · rw [List.filterMap_cons_none h1, List.filterMap_cons_none h2]
      exact ih
    · rw [List.filterMap_cons_some h1, List.filterMap_cons_some h2]
      exact .cons h3 ih
section
variable {X : Cx} {k : Nat} {ps ks : List Str} {is : List Nat} {sp : Sp} {x m : Str} {C : Addr} {o e : Expr} {es : List Expr} {p pos apos : Pos} {kws : List Keyword} {ta t tk : TA} {to : TE}
theorem pe_cal (c : Cal X.prog X.w X.K X.mg X.base k x ps sp) (hr : Room k X.A) (gl : Gl X x) (ha : PA X (e :: es) t) (hdb : (x == ("__debug__" : Str)) = false := by decide)
    (he : starEach (e :: es) X.env = (false, eval e X.env) :: starEach es X.env := by rfl) (hpl : (backTo pos (starEach es X.env)).any (·.1) = false := by rfl) : PE X (.Call (.Name x p) (e :: es) [] pos) (tCall sp [] E0 t) := by
  obtain ⟨f, fd, F, hm, hk, hb⟩ := c
  exact pe_call F hr gl hm hk hb .nil pass0 ha hdb he hpl
theorem pe_calK (c : CalK X.prog X.w X.K X.mg X.base k x ps ks is sp) (hr : Room k X.A) (gl : Gl X x) (vals : PK X kws tk)
    (named : (backToKw pos (keywordEach kws X.env)).all (·.1.isSome) = true := by rfl) (names : (backToKw pos (keywordEach kws X.env)).filterMap (·.1) = ks := by rfl) (nodebug : (x == ("__debug__" : Str)) = false := by decide)
    (nostar : ((backTo pos (starEach [] X.env)).any (·.1) || (backToKw pos (keywordEach kws X.env)).any (·.1.isNone)) = false := by rfl) :
    PE X (.Call (.Name x p) [] kws pos) (tKw0 ks.length sp (fun _ zs => prm is zs) E0 tk) := by
  obtain ⟨f, fd, F, hm, hk, hb⟩ := c
  exact pe_kw0 F hr gl hm hk hb pass0 vals named names nodebug nostar
theorem pe_calM {pl : Sem Bool} (he : PE X o to) (cl : Cls X.K C) (c : CalM X.prog X.w X.K X.mg X.base k C m ps sp) (hr : Room k X.A) (ha : PA X (e :: es) t)
    (hst : starEach (e :: es) X.env = (false, eval e X.env) :: starEach es X.env := by rfl) (hpl : (backTo pos (starEach es X.env)).any (·.1) = false := by rfl) (ht : eval (.Call (.Attribute o m apos) (e :: es) [] pos) X.env = (do let ov ← eval o X.env; standAt apos.atName; let (f, first) ← holding [ov] (getMethod ov m pl); callWith pos f first (backTo pos (starEach (e :: es) X.env)) (backToKw pos (keywordEach [] X.env))) := by rfl) :
    PE X (.Call (.Attribute o m apos) (e :: es) [] pos) (tMeth C m sp [] E0 to t) := by
  obtain ⟨f, fd, F, hm, hb⟩ := c
  exact pe_meth (pl := pl) he cl hm F hr hb .nil pass0 ha hst hpl ht
theorem pe_calM0 {pl : Sem Bool} (he : PE X o to) (cl : Cls X.K C) (c : CalM X.prog X.w X.K X.mg X.base k C m ps sp) (hr : Room k X.A)
    (ht : eval (.Call (.Attribute o m apos) [] [] pos) X.env = (do let ov ← eval o X.env; standAt apos.atName; let (f, first) ← holding [ov] (getMethod ov m pl); callWith pos f first (backTo pos (starEach [] X.env)) (backToKw pos (keywordEach [] X.env))) := by rfl) :
    PE X (.Call (.Attribute o m apos) [] [] pos) (tMeth C m sp [] E0 to tNil) := by
  obtain ⟨f, fd, F, hm, hb⟩ := c
  exact pe_meth0 (pl := pl) he cl hm F hr hb .nil pass0 ht
/-- o.m(k = v, ..) -/
def tMethK (C : Addr) (m : Str) (n : Nat) (sp : Sp) (is : List Nat) (E : XK) (to : TE) (tk : TA) : TE := fun σ H Q => to σ H fun x H1 => ∃ a dx fs, x = .ref a ∧ H1 a = some (.ins C dx fs) ∧ fs.lookup m = none ∧ tk σ H1 fun zs H2 => zs.length = n ∧ sp (x :: prm is zs) H2 Q E
theorem pe_calMK {pl : Sem Bool} (he : PE X o to) (cl : Cls X.K C) (c : CalMK X.prog X.w X.K X.mg X.base k C m ps ks is sp) (hr : Room k X.A) (vals : PK X kws tk)
    (named : (backToKw pos (keywordEach kws X.env)).all (·.1.isSome) = true := by rfl) (names : (backToKw pos (keywordEach kws X.env)).filterMap (·.1) = ks := by rfl)
    (nostar : ((backTo pos (starEach [] X.env)).any (·.1) || (backToKw pos (keywordEach kws X.env)).any (·.1.isNone)) = false := by rfl)
    (ht : eval (.Call (.Attribute o m apos) [] kws pos) X.env = (do let ov ← eval o X.env; standAt apos.atName; let (f, first) ← holding [ov] (getMethod ov m pl); callWith pos f first (backTo pos (starEach [] X.env)) (backToKw pos (keywordEach kws X.env))) := by rfl) :
    PE X (.Call (.Attribute o m apos) [] kws pos) (tMethK C m ks.length sp is E0 to tk) := by
  obtain ⟨f, fd, F, hm, hb⟩ := c
  constructor
  intro pins s σ H Q I read
  refine PySem.W.methodCall_KW (pl := pl) (thn (he.run pins s σ H _ I read) fun u s1 ⟨x, H1, I1, rx, a, dx, fs, ex, ea, l, q⟩ => ?_) ht
  subst ex
  obtain rfl : u = .ref a := rx
  refine getmeth_ok I1 ea cl hm l ?_
  refine PySem.W.callWith_KW0 (first := [.ref a]) (h₀ := X.base) I.ok.mod.kin hm.kp named (thn (vals.run pos pins s1 σ H1 _ I1 q) fun ws s2 y => ?_) nostar
  obtain ⟨zs, H2, J, rel, many, h⟩ := y
  rw [names]
  exact ⟨J.kIn, run_fnN (E := E0) (us := [.ref a]) (vs := [.ref a]) F hr hb pass0 J (.cons rfl .nil) rel rfl many h⟩
theorem pe_calC0 (c : CalC X.prog X.w X.K X.mg X.base k x C ps sp) (hr : Room (k + 1) X.A) (gl : Gl X x) (hdb : (x == ("__debug__" : Str)) = false := by decide) : PE X (.Call (.Name x p) [] [] pos) (tMake C sp [] E0 tNil) := by
  obtain ⟨f, fd, F, hm, M, hb⟩ := c
  exact pe_make0 M F hr gl hm hb .nil pass0 hdb
theorem pe_calC (c : CalC X.prog X.w X.K X.mg X.base k x C ps sp) (hr : Room (k + 1) X.A) (gl : Gl X x) (ha : PA X (e :: es) t) (hdb : (x == ("__debug__" : Str)) = false := by decide)
    (he : starEach (e :: es) X.env = (false, eval e X.env) :: starEach es X.env := by rfl) (hpl : (backTo pos (starEach es X.env)).any (·.1) = false := by rfl) : PE X (.Call (.Name x p) (e :: es) [] pos) (tMake C sp [] E0 t) := by
  obtain ⟨f, fd, F, hm, M, hb⟩ := c
  exact pe_make M F hr gl hm hb .nil pass0 ha hdb he hpl
end
end Tg

namespace Tg
open PySem PySem.Spec PyProof.Rows L2
/-! ### the heap: what stands -/
/-- all but p stands as it stood -/
def Kp (p : Addr) (H H' : Hp) : Prop := ∀ b o, b ≠ p → H b = some o → H' b = some o
theorem Kp.refl (p : Addr) (H : Hp) : Kp p H H := fun _ _ _ h => h
theorem Kp.trans {p : Addr} {H H1 H2 : Hp} (a : Kp p H H1) (b : Kp p H1 H2) : Kp p H H2 := fun c o hc h => b c o hc (a c o hc h)
theorem Kp.of {p : Addr} {H H' : Hp} (s : Same H H') : Kp p H H' := fun c o _ h => s c o h
theorem Kp.put {p : Addr} {H : Hp} {o : HO} : Kp p H (upd H p o) := fun c u hc h => by
  rw [upd_ne hc]
  exact h
/-- what is new stays apart -/
theorem Kp.same {p : Addr} {H H1 H2 : Hp} (s : Same H H1) (n : H p = none) (k : Kp p H1 H2) : Same H H2 := fun b o h => k b o (ne_of_none h n) (s b o h)
theorem same_new {H : Hp} {p : Addr} {o : HO} (h : H p = none) : Same H (upd H p o) := fun b x e => by
  rw [upd_ne (ne_of_none e h)]
  exact e
theorem same_put {H H' : Hp} {D : Addr} {o : HO} (n : H D = none) (s : Same H H') : Same H (upd H' D o) := fun b x e => by
  rw [upd_ne (ne_of_none e n)]
  exact s _ _ e
/-- what can't be changed: tuples, and what is locked -/
def Fix : HO → Prop
  | .tup _ => True
  | .frz _ _ => True
  | _ => False
/-- all that can't be changed stands -/
def KT (H H' : Hp) : Prop := ∀ a o, Fix o → H a = some o → H' a = some o
theorem KT.refl (H : Hp) : KT H H := fun _ _ _ h => h
theorem KT.trans {H H1 H2 : Hp} (a : KT H H1) (b : KT H1 H2) : KT H H2 := fun c o f h => b c o f (a c o f h)
theorem KT.of {H H' : Hp} (s : Same H H') : KT H H' := fun c o _ h => s c o h
theorem KT.kp {p : Addr} {H H' : Hp} {o : HO} (k : Kp p H H') (h : H p = some o) (n : ¬ Fix o) : KT H H' := fun a u f e => k a u (fun z => n (by
  rw [z, h] at e
  cases e
  exact f)) e
theorem KT.put {p : Addr} {H : Hp} {o u : HO} (h : H p = some o) (n : ¬ Fix o) : KT H (upd H p u) := KT.kp Kp.put h n
theorem KT.new {p : Addr} {H : Hp} {u : HO} (h : H p = none) : KT H (upd H p u) := KT.of (same_new h)
theorem nfix_lst {xs : List V} : ¬ Fix (.lst xs) := fun z => z
theorem nfix_dK {xs : List (Key × V)} : ¬ Fix (.dK xs) := fun z => z
theorem nfix_ins {C dx : Addr} {fs : List (Str × V)} : ¬ Fix (.ins C dx fs) := fun z => z
/-! ### data -/
theorem rd_same {H H' : Hp} {a : Addr} {o : HO} (s : Same H H') (h : Rd H a o) : Rd H' a o := by
  rcases h with h | ⟨ob, h⟩
  · exact .inl (s _ _ h)
  · exact .inr ⟨ob, s _ _ h⟩
theorem sqL_same {K : PySem.W.Frag} {H H' : Hp} {a : Addr} {xs : List V} (s : Same H H') (h : SqL K H a xs) : SqL K H' a xs := h.imp (rd_same s) id
theorem sqT_same {K : PySem.W.Frag} {H H' : Hp} {a : Addr} {xs : List V} (s : Same H H') (h : SqT K H a xs) : SqT K H' a xs := h.imp (rd_same s) id
theorem sqT_kt {K : PySem.W.Frag} {H H' : Hp} {a : Addr} {xs : List V} (s : KT H H') (h : SqT K H a xs) : SqT K H' a xs := by
  refine h.imp (fun h => ?_) id
  rcases h with h | ⟨ob, h⟩
  · exact .inl (s _ _ trivial h)
  · exact .inr ⟨ob, s _ _ trivial h⟩
mutual
theorem dp_same {K : PySem.W.Frag} {H H' : Hp} (s : Same H H') : ∀ {x : V} {d : PyData}, Dp K H x d → Dp K H' x d
  | _, _, .non => .non
  | _, _, .bl b => .bl b
  | _, _, .int i => .int i
  | _, _, .str z => .str z
  | _, _, .lst a b => .lst (sqL_same s a) (dpAll_same s b)
  | _, _, .tup a b => .tup (sqT_same s a) (dpAll_same s b)
theorem dpAll_same {K : PySem.W.Frag} {H H' : Hp} (s : Same H H') : ∀ {xs : List V} {ds : List PyData}, DpAll K H xs ds → DpAll K H' xs ds
  | _, _, .nil => .nil
  | _, _, .cons a b => .cons (dp_same s a) (dpAll_same s b)
end
/-- no list and no dict in it -/
inductive TD : PyData → Prop
  | non : TD .none
  | bl (b : Bool) : TD (.bool b)
  | int (i : Int) : TD (.int i)
  | str (z : Str) : TD (.str z)
  | tup {ds : List PyData} : (∀ d, d ∈ ds → TD d) → TD (.tuple ds)
mutual
theorem dp_kt {K : PySem.W.Frag} {H H' : Hp} (s : KT H H') : ∀ {x : V} {d : PyData}, Dp K H x d → TD d → Dp K H' x d
  | _, _, .non, _ => .non
  | _, _, .bl b, _ => .bl b
  | _, _, .int i, _ => .int i
  | _, _, .str z, _ => .str z
  | _, _, .lst _ _, t => nomatch t
  | _, _, .tup a b, .tup t => .tup (sqT_kt s a) (dpAll_kt s b t)
theorem dpAll_kt {K : PySem.W.Frag} {H H' : Hp} (s : KT H H') : ∀ {xs : List V} {ds : List PyData}, DpAll K H xs ds → (∀ d, d ∈ ds → TD d) → DpAll K H' xs ds
  | _, _, .nil, _ => .nil
  | _, _, .cons a b, t => .cons (dp_kt s a (t _ List.mem_cons_self)) (dpAll_kt s b fun d hd => t d (List.mem_cons_of_mem _ hd))
end
theorem dpAll_len {K : PySem.W.Frag} {H : Hp} : ∀ {xs : List V} {ds : List PyData}, DpAll K H xs ds → xs.length = ds.length
  | _, _, .nil => rfl
  | _, _, .cons _ b => congrArg Nat.succ (dpAll_len b)
theorem dpAll_at {K : PySem.W.Frag} {H : Hp} : ∀ {xs : List V} {ds : List PyData}, DpAll K H xs ds → ∀ (i : Nat) (x : V), xs[i]? = some x → ∃ d, ds[i]? = some d ∧ Dp K H x d
  | _, _, .nil => fun i x h => by simp at h
  | _, _, .cons a b => fun i x h => by
    cases i with
    | zero =>
      simp only [Option.some.injEq, List.getElem?_cons_zero] at h
      subst h
      exact ⟨_, rfl, a⟩
    | succ i =>
      rw [List.getElem?_cons_succ] at h ⊢
      exact dpAll_at b i x h
theorem dpAll_tk {K : PySem.W.Frag} {H : Hp} : ∀ {xs : List V} {ds : List PyData}, DpAll K H xs ds → ∀ (i : Nat) (d : PyData), ds[i]? = some d → ∃ x, xs[i]? = some x ∧ Dp K H x d
  | _, _, .nil => fun i x h => by simp at h
  | _, _, .cons a b => fun i x h => by
    cases i with
    | zero =>
      simp only [Option.some.injEq, List.getElem?_cons_zero] at h
      subst h
      exact ⟨_, rfl, a⟩
    | succ i =>
      rw [List.getElem?_cons_succ] at h ⊢
      exact dpAll_tk b i x h
theorem dpAll_app {K : PySem.W.Frag} {H : Hp} : ∀ {xs ys : List V} {ds es : List PyData}, DpAll K H xs ds → DpAll K H ys es → DpAll K H (xs ++ ys) (ds ++ es)
  | _, _, _, _, .nil, h => h
  | _, _, _, _, .cons a b, h => .cons a (dpAll_app b h)
theorem dpAll_snoc {K : PySem.W.Frag} {H : Hp} {xs : List V} {ds : List PyData} {y : V} {e : PyData} (h : DpAll K H xs ds) (a : Dp K H y e) : DpAll K H (xs ++ [y]) (ds ++ [e]) := dpAll_app h (.cons a .nil)
/-- a list of data that can't be changed itself -/
def LD (K : PySem.W.Frag) (H : Hp) (a : Addr) (ds : List PyData) : Prop := ∃ xs, H a = some (.lst xs) ∧ DpAll K H xs ds
theorem LD.dp {K : PySem.W.Frag} {H : Hp} {a : Addr} {ds : List PyData} (h : LD K H a ds) : Dp K H (.ref a) (.list ds) := by
  obtain ⟨xs, h1, h2⟩ := h
  exact .lst (SqL.of h1) h2
theorem LD.same {K : PySem.W.Frag} {H H' : Hp} {a : Addr} {ds : List PyData} (s : Same H H') (h : LD K H a ds) : LD K H' a ds := by
  obtain ⟨xs, h1, h2⟩ := h
  exact ⟨xs, s _ _ h1, dpAll_same s h2⟩
/-- where the list itself stands and all tuples do -/
theorem LD.kt {K : PySem.W.Frag} {H H' : Hp} {a : Addr} {ds : List PyData} (s : KT H H') (e : ∀ o, H a = some o → H' a = some o) (t : ∀ d, d ∈ ds → TD d) (h : LD K H a ds) : LD K H' a ds := by
  obtain ⟨xs, h1, h2⟩ := h
  exact ⟨xs, e _ h1, dpAll_kt s h2 t⟩
theorem LD.kp {K : PySem.W.Frag} {H H' : Hp} {a p : Addr} {o : HO} {ds : List PyData} (k : Kp p H H') (hp : H p = some o) (n : ¬ Fix o) (ne : a ≠ p) (t : ∀ d, d ∈ ds → TD d) (h : LD K H a ds) : LD K H' a ds :=
  h.kt (KT.kp k hp n) (fun u e => k _ _ ne e) t
/-- one more at the end -/
theorem LD.snoc {K : PySem.W.Frag} {H H1 : Hp} {a : Addr} {xs : List V} {ds : List PyData} {y : V} {e : PyData} (k : KT H H1) (h1 : H1 a = some (.lst xs)) (hd : DpAll K H xs ds) (t : ∀ d, d ∈ ds → TD d) (hy : Dp K H1 y e) (te : TD e) :
    LD K (upd H1 a (.lst (xs ++ [y]))) a (ds ++ [e]) :=
  ⟨_, upd_same, dpAll_snoc (dpAll_kt (k.trans (KT.put h1 nfix_lst)) hd t) (dp_kt (KT.put h1 nfix_lst) hy te)⟩
theorem shaped_of {d : PyData} (h1 : d.canLay0 = true) (h2 : d.depth ≤ 64) : SeqAt.shaped d = true := by
  unfold SeqAt.shaped
  rw [h1, decide_eq_true h2]
  rfl
theorem if_f {A B : Prop} (h : B) : if false = true then A else B := by
  rw [if_neg (by decide)]
  exact h
theorem if_t {A B : Prop} (h : A) : if true = true then A else B := by
  rw [if_pos rfl]
  exact h
theorem atI_mem {xs : List Int} {i : Int} (h0 : 0 ≤ i) (h1 : i < xs.length) : ∃ v, v ∈ xs ∧ atI (xs.map V.int) i = some (.int v) := by
  have hn : i.toNat < xs.length := by omega
  obtain ⟨j, rfl⟩ : ∃ j : Nat, i = (j : Int) := ⟨i.toNat, by omega⟩
  have hj : j < xs.length := by omega
  refine ⟨xs[j], List.getElem_mem hj, atI_nat ?_⟩
  rw [List.getElem?_map, List.getElem?_eq_getElem hj]
  rfl
end Tg

namespace Tg
open PySem PySem.Spec PyProof.Rows L2
/-! ### a new thing that is only read from now on -/
section
variable {X : Cx} {e : Expr} {t : TE}
def tFrz (t : TE) : TE := fun σ H Q => t σ H fun x H1 => ∃ d u, x = .ref d ∧ H1 d = some u ∧ Mut (some u) ∧ ∀ od, Q x (upd H1 d (.frz od u))
theorem pe_frz (h : PE X e t) : PE X e (tFrz t) := by
  constructor
  intro pins s σ H Q I read
  refine thn (h.run pins s σ H _ I read) fun v s1 y => ?_
  obtain ⟨x, H1, J, r, d, u, ex, hd, mu, q⟩ := y
  obtain ⟨od, J2⟩ := J.lock hd mu
  exact ⟨x, _, J2, r, q od⟩
/-- a statement that is never reached -/
theorem ps_dead {st : Stmt} : PS X st (fun _ _ _ => False) := ⟨fun _ _ _ _ _ _ h => h.elim⟩
end
end Tg

namespace Tg
open PySem PySem.Spec PyProof.Rows L2
/-! ### enumerate(t), t a tuple -/
set_option maxHeartbeats 1000000 in
theorem enum1_new {v : Value} {o : Obj} {Ok : Heap → Prop} (B : Begins v o Ok) :
    Meets (Builtin.«enumerate.__new__» ⟨[.type "enumerate", v], []⟩) (fun _ R s => Ok s.heap ∧ R (.ok (.ret (.ref (s.heap.push o).objs.size))) { s with heap := (s.heap.push o).push { cls := .type "enumerate", data := .fields #[.none, .bool false, .ref s.heap.objs.size, rawInt 0, .none, .none] } }) :=
  .of_wp fun prog w A R s want => by
    obtain ⟨hp, g, d, tk, os⟩ := s; obtain ⟨ok, want⟩ := want
    have isub := sub_enumerate
    have it0 : ∀ {A' : Around} {E : Value → Shared → Prop} {Q : Value → Shared → Prop}, Q (.ref hp.objs.size) ⟨hp.push o, g, d, tk, os⟩ → wpAny (model prog w) A' (pyIter v) Q E ⟨hp, g, d, tk, os⟩ := fun q => B.iter prog w _ _ ⟨hp, g, d, tk, os⟩ _ ok q
    wp_walk using it0
    apply wpAny_stack_any; intro fr; apply wpAny_pure
    split
    · rename_i c _ _ _ _ _
      cases (c == Value.type "enumerate") <;> (wp_walk using it0; exact ⟨_, rfl, want⟩)
    · wp_walk using it0; exact ⟨_, rfl, want⟩
theorem enum1_made {prog : Program} {w : World} {A : Around} {E : Value → Shared → Prop} {s : Shared} {v : Value} {o : Obj} {Ok : Heap → Prop} {Q : Value → Shared → Prop} (B : Begins v o Ok) (ok : Ok s.heap)
    (h : ∀ h', IsEnum h' (s.heap.objs.size + 1) s.heap.objs.size 0 .none → h'.get? s.heap.objs.size = some o → (∀ b o, s.heap.get? b = some o → h'.get? b = some o) → Q (.ref (s.heap.objs.size + 1)) { s with heap := h' }) :
    wpAny (model prog w) A (call (.type "enumerate") [v]) Q E s := by
  refine callType_new F.called_enumerate (by decide) (F.typeCall_enumerate_1 _) (F.newCall_enumerate_1 _) (fun obj => F.args_object_init_2 obj _) F.entry_enumerate_new (enum1_new B) ⟨ok, ?_⟩
  have more : (s.heap.push o).objs.size = s.heap.objs.size + 1 := by rw [Heap.size_push]
  show _ ∧ _
  rw [more]
  have he : IsEnum ((s.heap.push o).push { cls := .type "enumerate", data := .fields #[.none, .bool false, .ref s.heap.objs.size, rawInt 0, .none, .none] }) (s.heap.objs.size + 1) s.heap.objs.size 0 .none := by
    have z := Heap.get?_push_size (s.heap.push o) (o := { cls := .type "enumerate", data := .fields #[.none, .bool false, .ref s.heap.objs.size, rawInt 0, .none, .none] }) rfl
    rw [more] at z
    exact z
  exact ⟨⟨_, he, rfl⟩, h _ he (Heap.get?_push_of_some _ (Heap.get?_push_size _ B.free)) fun b o x => Heap.get?_push_of_some _ (Heap.get?_push_of_some _ x)⟩
/-- the tuple at a, each item with its place in a new pair -/
def IteT (K : PySem.W.Frag) (a : Addr) : It :=
  ⟨fun i H => ∃ (xs : List V) (x : V), SqT K H a xs ∧ xs[i]? = some x,
    fun i H v H' => ∃ T x, v = .ref T ∧ H T = none ∧ H' = upd H T (.tup [.int (i : Nat), x]) ∧ ∀ xs, SqT K H a xs → xs[i]? = some x,
    fun i H => ∃ xs : List V, SqT K H a xs ∧ xs.length = i⟩
theorem apart_ti {h : Heap} {a it : Addr} {items : Array Value} {i : Nat} (h1 : h.IsTuple a items) (h2 : h.IsTupleIter it a i) : a ≠ it := fun z => by
  obtain ⟨o, e, c, _⟩ := h1
  obtain ⟨o2, e2, c2, _⟩ := h2
  rw [z, e2] at e
  cases e
  rw [c2] at c
  exact absurd c (by decide)
theorem apart_te {h : Heap} {a e it : Addr} {items : Array Value} {k : Int} {old : Value} (h1 : h.IsTuple a items) (h2 : IsEnum h e it k old) : e ≠ a := fun z => by
  obtain ⟨o, e1, c, _⟩ := h1
  have h3 : h.get? a = _ := z ▸ h2
  rw [h3] at e1
  cases e1
  have c' : Value.type "enumerate" = Value.type "tuple" := c
  exact absurd c' (by decide)
theorem turn_enumT {P : Program} {w : World} {K : PySem.W.Frag} {elts : List Expr} {kk : Nat} {tpos : Pos} (a e it : Addr) :
    Turn P w K (.Tuple elts kk tpos) (IteT K a) [e, it] e (fun i h => (∃ old, IsEnum h e it (0 + (i : Int)) old) ∧ h.IsTupleIter it a i ∧ e ≠ it) where
  mem := List.mem_cons_self
  obj := fun i h st b hb => by
    obtain ⟨⟨old, he⟩, ⟨o, ho, _, hd⟩, _⟩ := st
    rw [List.mem_cons, List.mem_singleton] at hb
    rcases hb with rfl | rfl
    · exact ⟨_, he, fun v q => nomatch q⟩
    · exact ⟨o, ho, fun v q => by rw [hd] at q; cases q⟩
  keep := fun i h h' st k => ⟨st.1.imp fun old he => k e List.mem_cons_self _ he, st.2.1.at fun o q => k it (List.mem_cons_of_mem _ List.mem_cons_self) o q, st.2.2⟩
  item := by
    rintro X rfl rfl rfl hc i pins s σ H E I hf ⟨⟨old, he⟩, hit, hne⟩ ⟨xs, x, hq, hx⟩
    obtain ⟨its, rv, ist, _⟩ := I.tuple hq
    obtain ⟨u, hu, ru⟩ := Vals.get rv hx
    have isT : s.heap.IsTuple a its.toArray := ist
    have n1 := apart_ti isT hit
    have n2 := apart_te isT he
    have hil : i < its.toArray.size := by
      have := (List.getElem?_eq_some_iff.mp hu).1
      simpa using this
    have calm : X.A.in1.handled = none := by
      have := I.ok.hd hc
      simp [this]
    have G := GoesN.enumFrom (prog := X.prog) (w := X.w) (A := X.A) (elts := elts) (x1 := kk) (pos := tpos) 0 (Draws.tuple (prog := X.prog) (w := X.w) calm it a n1 its.toArray) e hne (by simp [hne, n2]) List.mem_cons_self
    refine G.goes i s _ E hil ⟨⟨old, he⟩, hit, isT⟩ fun v h' tk hy st' hk _ => ?_
    obtain ⟨T, t, u', ev, hT, hp, isp⟩ := hy
    obtain rfl : u' = u := by
      have z : its.toArray[i]? = some u' := hp
      rw [List.getElem?_toArray, hu] at z
      exact (Option.some.inj z).symm
    have new : ObjOk X.prog X.w (upd H T (.tup [.int (i : Nat), x])) h' T (.tup [.int (i : Nat), x]) := by
      refine ⟨by show 2 ≤ sizeLine; decide, [.int (0 + (i : Int)) t, u'], .cons ⟨_, by rw [Int.zero_add]⟩ (.cons ru .nil), isp⟩
    have J : Inv X pins σ (upd H T (.tup [.int (i : Nat), x])) { s with heap := h', toks := tk } := I.turnedNew (ch := [e, it]) (fun b ob hb q => hk b ob hb q) hf hT new
    refine ⟨.ref T, _, J, by rw [ev]; rfl, ⟨T, x, rfl, I.hok.fresh hT, rfl, fun ys hy => by rw [I.tuple_inj hy hq]; exact hx⟩, ⟨?_, st'.2.1, hne⟩, fun b hb => ?_⟩
    · obtain ⟨old2, he2⟩ := st'.1
      exact ⟨old2, he2⟩
    · have lt : b < s.heap.objs.size := by
        rw [List.mem_cons, List.mem_singleton] at hb
        rcases hb with rfl | rfl
        · exact Heap.lt_size he
        · obtain ⟨_, q, _⟩ := hit
          exact Heap.lt_size q
      rw [upd_ne (Nat.ne_of_lt (Nat.lt_of_lt_of_le lt hT))]
      exact (hf b hb).1
  done := by
    rintro X rfl rfl rfl hc i pins s σ H E I hf ⟨⟨old, he⟩, hit, hne⟩ ⟨xs, hq, hx⟩
    obtain ⟨its, rv, ist, _⟩ := I.tuple hq
    have isT : s.heap.IsTuple a its.toArray := ist
    have n1 := apart_ti isT hit
    have n2 := apart_te isT he
    have calm : X.A.in1.handled = none := by
      have := I.ok.hd hc
      simp [this]
    have ei : its.toArray.size = i := by
      rw [← hx, rv.length]
      simp
    have G := GoesN.enumFrom (prog := X.prog) (w := X.w) (A := X.A) (elts := elts) (x1 := kk) (pos := tpos) 0 (Draws.tuple (prog := X.prog) (w := X.w) calm it a n1 its.toArray) e hne (by simp [hne, n2]) List.mem_cons_self
    refine G.stops s _ E (by rw [ei]; exact ⟨⟨old, he⟩, hit, isT⟩) fun h' tk hk _ => ?_
    exact I.turnedL (t' := tk) (ch := [e, it]) (fun b ob hb q => hk b ob hb q) hf
  self := fun A i s Q E st q => by
    obtain ⟨⟨old, he⟩, _⟩ := st
    exact wpAny_pyIter_enum he q
end Tg

namespace Tg
open PySem PySem.Spec PyProof.Rows L2
def iEnumT (K : PySem.W.Frag) (ta : TA) : TI := fun σ H R => ta σ H fun vs H1 => ∃ (a : Addr) (xs : List V), vs = [.ref a] ∧ SqT K H1 a xs ∧ R (IteT K a) H1
theorem pi_enumT {X : Cx} {e : Expr} {ta : TA} {p pos tpos : Pos} {elts : List Expr} {kk : Nat} (hg : Gl X "enumerate") (hm : X.mg "enumerate" = none) (ha : PA X [e] ta) (hs : starEach [e] X.env = [(false, eval e X.env)] := by rfl) :
    PI X (.Tuple elts kk tpos) (.Call (.Name "enumerate" p) [e] [] pos) (iEnumT X.K ta) := by
  constructor
  intro pins s σ H R I told
  refine Call_ (ld_blt I hg hm boot_enumerate (callWith_type1 (thn (ha.run pos pins s σ H _ I told) fun us s1 come => ?_) hs rfl))
  obtain ⟨_, H1, I1, r1, a, xs, rfl, hq, q⟩ := come
  cases r1 with
  | cons r rr =>
    cases rr
    cases r
    obtain ⟨its, rv, ist, _⟩ := I1.tuple hq
    have isT : s1.heap.IsTuple a its.toArray := ist
    refine enum1_made (begins_tuple a its.toArray) isT fun h' he hit hk => wpAny_pyIter_enum he ?_
    have I2 := I1.kept (t' := s1.toks) hk
    refine ⟨s1.heap.objs.size + 1, [s1.heap.objs.size + 1, s1.heap.objs.size], _, _, H1, rfl, I2, turn_enumT a (s1.heap.objs.size + 1) s1.heap.objs.size, ⟨⟨.none, he⟩, ⟨_, hit, rfl, rfl⟩, Nat.succ_ne_self _⟩, fun b hb => ?_, q⟩
    have late : s1.heap.objs.size ≤ b := by
      rw [List.mem_cons, List.mem_singleton] at hb
      rcases hb with rfl | rfl
      · exact Nat.le_succ _
      · exact Nat.le_refl _
    exact I1.fpOk late (I1.hok.fresh late)
theorem walk_enumT {K : PySem.W.Frag} {a : Addr} {xs : List V} : Walk (IteT K a) xs.length (fun H => SqT K H a xs) (YPair (fun i => some (.int (i : Nat))) (fun i => xs[i]?)) := by
  refine ⟨fun i _ hi q => ⟨xs, xs[i], q, by simp [hi]⟩, fun _ q => ⟨xs, q, rfl⟩, fun i _ _ _ _ q ⟨T, x, e, n, l, at_i⟩ => ?_⟩
  exact ⟨T, .int (i : Nat), x, e, n, l, rfl, at_i xs q⟩
theorem walk_zipTT {K : PySem.W.Frag} {a b : Addr} {xs ys : List V} (hl : xs.length = ys.length) : Walk (RZ.ItzT K a b) xs.length (fun H => SqT K H a xs ∧ SqT K H b ys) (YPair (fun i => xs[i]?) (fun i => ys[i]?)) := by
  refine ⟨fun i _ hi q => ⟨xs, ys, xs[i], ys[i]'(hl ▸ hi), q.1, q.2, by simp [hi], by simp [hl ▸ hi]⟩, fun _ q => ⟨xs, ys, q.1, q.2, .inl (Nat.le_refl _)⟩, fun i _ _ _ _ q ⟨T, x, z, e, n, l, one, two⟩ => ?_⟩
  exact ⟨T, x, z, e, n, l, one xs q.1, two ys q.2⟩
/-! ### zip of three tuples -/
def Itz3 (K : PySem.W.Frag) (a b c : Addr) : It :=
  ⟨fun i H => ∃ (xs ys zs : List V) (x y z : V), SqT K H a xs ∧ SqT K H b ys ∧ SqT K H c zs ∧ xs[i]? = some x ∧ ys[i]? = some y ∧ zs[i]? = some z,
    fun i H v H' => ∃ T x y z, v = .ref T ∧ H T = none ∧ H' = upd H T (.tup [x, y, z]) ∧ (∀ xs, SqT K H a xs → xs[i]? = some x) ∧ (∀ ys, SqT K H b ys → ys[i]? = some y) ∧ ∀ zs, SqT K H c zs → zs[i]? = some z,
    fun i H => ∃ xs ys zs : List V, SqT K H a xs ∧ SqT K H b ys ∧ SqT K H c zs ∧ min (min xs.length ys.length) zs.length = i⟩
theorem mem56 {z TI TO i1 i2 i3 e : Addr} (h : e ∈ [z, TO, i1, i2, i3]) : e ∈ [z, TI, TO, i1, i2, i3] := by
  rw [List.mem_cons] at h ⊢
  exact h.imp id fun q => List.mem_cons_of_mem _ q
theorem turn_zip3T {P : Program} {w : World} {K : PySem.W.Frag} {elts : List Expr} {kk : Nat} {tpos : Pos} {z TI TO i1 i2 i3 a b c : Addr} (S : ZipSep3 z TI TO i1 i2 i3 [i1, a] [i2, b] [i3, c]) (n1 : a ≠ i1) (n2 : b ≠ i2) (n3 : c ≠ i3) :
    Turn P w K (.Tuple elts kk tpos) (Itz3 K a b c) [z, TI, TO, i1, i2, i3] z (fun i h => IsZip h z TI TO .none ∧ IsTupOf3 h TI (.ref i1) (.ref i2) (.ref i3) ∧ (∃ a1 a2 a3, IsTupOf3 h TO a1 a2 a3) ∧ h.IsTupleIter i1 a i ∧ h.IsTupleIter i2 b i ∧ h.IsTupleIter i3 c i) where
  mem := List.mem_cons_self
  obj := fun i h st e he => by
    obtain ⟨hz, hTI, ⟨_, _, _, hTO⟩, ⟨o1, e1, _, d1⟩, ⟨o2, e2, _, d2⟩, ⟨o3, e3, _, d3⟩⟩ := st
    simp only [List.mem_cons, List.not_mem_nil, or_false] at he
    rcases he with rfl | rfl | rfl | rfl | rfl | rfl
    · exact ⟨_, hz, fun v q => nomatch q⟩
    · exact ⟨_, hTI, fun v q => nomatch q⟩
    · exact ⟨_, hTO, fun v q => nomatch q⟩
    · exact ⟨o1, e1, fun v q => by rw [d1] at q; cases q⟩
    · exact ⟨o2, e2, fun v q => by rw [d2] at q; cases q⟩
    · exact ⟨o3, e3, fun v q => by rw [d3] at q; cases q⟩
  keep := fun i h h' st k => by
    obtain ⟨hz, hTI, ⟨a1, a2, a3, hTO⟩, h1, h2, h3⟩ := st
    exact ⟨k z (by simp) _ hz, k TI (by simp) _ hTI, ⟨a1, a2, a3, k TO (by simp) _ hTO⟩, h1.at fun o q => k i1 (by simp) o q, h2.at fun o q => k i2 (by simp) o q, h3.at fun o q => k i3 (by simp) o q⟩
  item := by
    rintro X rfl rfl rfl hc i pins s σ H E I hf ⟨hz, hTI, hTO, h1, h2, h3⟩ ⟨xs, ys, zs, x, y, u, hqx, hqy, hqz, hx, hy, hu⟩
    obtain ⟨l1, rv1, p1, _⟩ := I.tuple hqx
    obtain ⟨l2, rv2, p2, _⟩ := I.tuple hqy
    obtain ⟨l3, rv3, p3, _⟩ := I.tuple hqz
    obtain ⟨u1, hu1, ru1⟩ := rv1.get hx
    obtain ⟨u2, hu2, ru2⟩ := Vals.get rv2 hy
    obtain ⟨u3, hu3, ru3⟩ := rv3.get hu
    have q1 : s.heap.IsTuple a l1.toArray := p1
    have q2 : s.heap.IsTuple b l2.toArray := p2
    have q3 : s.heap.IsTuple c l3.toArray := p3
    have g1 := (List.getElem?_eq_some_iff.mp hu1).1
    have g2 := (List.getElem?_eq_some_iff.mp hu2).1
    have g3 := (List.getElem?_eq_some_iff.mp hu3).1
    have calm : X.A.in1.handled = none := by
      have := I.ok.hd hc
      simp [this]
    have G := GoesN.zip3 (prog := X.prog) (w := X.w) (A := X.A) (elts := elts) (x1 := kk) (pos := tpos) S (Draws.tuple (prog := X.prog) (w := X.w) calm i1 a n1 l1.toArray) (Draws.tuple (prog := X.prog) (w := X.w) calm i2 b n2 l2.toArray) (Draws.tuple (prog := X.prog) (w := X.w) calm i3 c n3 l3.toArray)
    refine G.goes i s _ E (by simp only [List.size_toArray]; omega) ⟨hz, hTI, hTO, ⟨h1, q1⟩, ⟨h2, q2⟩, ⟨h3, q3⟩⟩ fun v h' tk hyl st' hk _ => ?_
    obtain ⟨T, v1, v2, v3, ev, hT, w1, w2, w3, isp⟩ := hyl
    obtain rfl : v1 = u1 := by
      have w1' : l1.toArray[i]? = some v1 := w1
      rw [List.getElem?_toArray, hu1] at w1'
      exact (Option.some.inj w1').symm
    obtain rfl : v2 = u2 := by
      have w2' : l2.toArray[i]? = some v2 := w2
      rw [List.getElem?_toArray, hu2] at w2'
      exact (Option.some.inj w2').symm
    obtain rfl : v3 = u3 := by
      have w3' : l3.toArray[i]? = some v3 := w3
      rw [List.getElem?_toArray, hu3] at w3'
      exact (Option.some.inj w3').symm
    have new : ObjOk X.prog X.w (upd H T (.tup [x, y, u])) h' T (.tup [x, y, u]) :=
      ⟨by show 3 ≤ sizeLine; decide, [v1, v2, v3], .cons ru1 (.cons ru2 (.cons ru3 .nil)), isp⟩
    have J : Inv X pins σ (upd H T (.tup [x, y, u])) { s with heap := h', toks := tk } := I.turnedNew (ch := [z, TI, TO, i1, i2, i3]) (fun e ob hb q => hk e ob (fun hm => hb (mem56 hm)) q) hf hT new
    obtain ⟨sz, sTI, sTO, s1, s2, s3⟩ := st'
    refine ⟨.ref T, _, J, by rw [ev]; rfl, ⟨T, x, y, u, rfl, I.hok.fresh hT, rfl, fun l hl => by rw [I.tuple_inj hl hqx]; exact hx, fun l hl => by rw [I.tuple_inj hl hqy]; exact hy, fun l hl => by rw [I.tuple_inj hl hqz]; exact hu⟩, ⟨sz, sTI, sTO, s1.1, s2.1, s3.1⟩, fun e he => ?_⟩
    have lt : e < s.heap.objs.size := by
      obtain ⟨_, _, _, hTO⟩ := hTO
      obtain ⟨_, e1, _⟩ := h1
      obtain ⟨_, e2, _⟩ := h2
      obtain ⟨_, e3, _⟩ := h3
      simp only [List.mem_cons, List.not_mem_nil, or_false] at he
      rcases he with rfl | rfl | rfl | rfl | rfl | rfl
      · exact Heap.lt_size hz
      · exact Heap.lt_size hTI
      · exact Heap.lt_size hTO
      · exact Heap.lt_size e1
      · exact Heap.lt_size e2
      · exact Heap.lt_size e3
    rw [upd_ne (Nat.ne_of_lt (Nat.lt_of_lt_of_le lt hT))]
    exact (hf e he).1
  done := by
    rintro X rfl rfl rfl hc i pins s σ H E I hf ⟨hz, hTI, hTO, h1, h2, h3⟩ ⟨xs, ys, zs, hqx, hqy, hqz, hn⟩
    obtain ⟨l1, rv1, p1, _⟩ := I.tuple hqx
    obtain ⟨l2, rv2, p2, _⟩ := I.tuple hqy
    obtain ⟨l3, rv3, p3, _⟩ := I.tuple hqz
    have q1 : s.heap.IsTuple a l1.toArray := p1
    have q2 : s.heap.IsTuple b l2.toArray := p2
    have q3 : s.heap.IsTuple c l3.toArray := p3
    have calm : X.A.in1.handled = none := by
      have := I.ok.hd hc
      simp [this]
    have G := GoesN.zip3 (prog := X.prog) (w := X.w) (A := X.A) (elts := elts) (x1 := kk) (pos := tpos) S (Draws.tuple (prog := X.prog) (w := X.w) calm i1 a n1 l1.toArray) (Draws.tuple (prog := X.prog) (w := X.w) calm i2 b n2 l2.toArray) (Draws.tuple (prog := X.prog) (w := X.w) calm i3 c n3 l3.toArray)
    have ei : min (min l1.toArray.size l2.toArray.size) l3.toArray.size = i := by
      rw [← hn, rv1.length, rv2.length, rv3.length]
      simp
    refine G.stops s _ E (by rw [ei]; exact ⟨hz, hTI, hTO, ⟨h1, q1⟩, ⟨h2, q2⟩, ⟨h3, q3⟩⟩) fun h' tk hk _ => ?_
    exact I.turnedL (t' := tk) (ch := [z, TI, TO, i1, i2, i3]) (fun e ob hb q => hk e ob (fun hm => hb (mem56 hm)) q) hf
  self := fun _ _ _ _ _ st => wpAny_pyIter_zip st.1
def iZip3 (K : PySem.W.Frag) (ta : TA) : TI := fun σ H R => ta σ H fun vs H1 => ∃ a b c xs ys zs, vs = [.ref a, .ref b, .ref c] ∧ SqT K H1 a xs ∧ SqT K H1 b ys ∧ SqT K H1 c zs ∧ R (Itz3 K a b c) H1
theorem pi_zip3T {X : Cx} {e e2 e3 : Expr} {ta : TA} {p pos tpos : Pos} {elts : List Expr} {kk : Nat} (hg : Gl X "zip") (hm : X.mg "zip" = none) (ha : PA X [e, e2, e3] ta)
    (hs : starEach [e, e2, e3] X.env = (false, eval e X.env) :: starEach [e2, e3] X.env := by rfl) (hpl : (backTo pos (starEach [e2, e3] X.env)).any (·.1) = false := by rfl) :
    PI X (.Tuple elts kk tpos) (.Call (.Name "zip" p) [e, e2, e3] [] pos) (iZip3 X.K ta) := by
  constructor
  intro pins s σ H R I told
  refine Call_ (ld_blt I hg hm boot_zip (callWith_type1 (thn (ha.run pos pins s σ H _ I told) fun us s1 come => ?_) hs hpl))
  obtain ⟨_, H1, I1, r1, a, b, c, xs, ys, zs, rfl, hqx, hqy, hqz, q⟩ := come
  cases r1 with
  | cons r rr =>
  cases rr with
  | cons r' rr =>
  cases rr with
  | cons r'' rr =>
    cases rr
    cases r
    cases r'
    cases r''
    obtain ⟨l1, rv1, p1, _⟩ := I1.tuple hqx
    obtain ⟨l2, rv2, p2, _⟩ := I1.tuple hqy
    obtain ⟨l3, rv3, p3, _⟩ := I1.tuple hqz
    have q1 : s1.heap.IsTuple a l1.toArray := p1
    have q2 : s1.heap.IsTuple b l2.toArray := p2
    have q3 : s1.heap.IsTuple c l3.toArray := p3
    obtain ⟨o1, e1, _⟩ := id q1
    obtain ⟨o2, e2, _⟩ := id q2
    obtain ⟨o3, e3, _⟩ := id q3
    have la : a < s1.heap.objs.size := Heap.lt_size e1
    have lb : b < s1.heap.objs.size := Heap.lt_size e2
    have lc : c < s1.heap.objs.size := Heap.lt_size e3
    refine zip_begins3 (begins_tuple a l1.toArray) (begins_tuple b l2.toArray) (begins_tuple c l3.toArray) q1 q2 q3 fun h' hz hTI hTO t1 t2 t3 _ hk => wpAny_pyIter_zip hz ?_
    have I2 := I1.kept (t' := s1.toks) hk
    refine ⟨s1.heap.objs.size + 5, [s1.heap.objs.size + 5, s1.heap.objs.size + 3, s1.heap.objs.size + 4, s1.heap.objs.size, s1.heap.objs.size + 1, s1.heap.objs.size + 2], _, _, H1, rfl, I2,
      turn_zip3T (zip_sep3 (N := s1.heap.objs.size) (fp1 := [a]) (fp2 := [b]) (fp3 := [c]) (fun d hd => by simp at hd; rw [hd]; exact la) (fun d hd => by simp at hd; rw [hd]; exact lb) (fun d hd => by simp at hd; rw [hd]; exact lc)) (Nat.ne_of_lt la) (Nat.ne_of_lt (Nat.lt_succ_of_lt lb)) (Nat.ne_of_lt (Nat.lt_succ_of_lt (Nat.lt_succ_of_lt lc))),
      ⟨hz, hTI, ⟨_, _, _, hTO⟩, ⟨_, t1, rfl, rfl⟩, ⟨_, t2, rfl, rfl⟩, ⟨_, t3, rfl, rfl⟩⟩, fun d hd => ?_, q⟩
    have late : s1.heap.objs.size ≤ d := by
      simp only [List.mem_cons, List.not_mem_nil, or_false] at hd
      rcases hd with rfl | rfl | rfl | rfl | rfl | rfl
      · exact Nat.le_add_right _ _
      · exact Nat.le_add_right _ _
      · exact Nat.le_add_right _ _
      · exact Nat.le_refl _
      · exact Nat.le_add_right _ _
      · exact Nat.le_add_right _ _
    exact I1.fpOk late (I1.hok.fresh late)
def YTri (xs ys zs : List V) : Nat → Hp → V → Hp → Prop := fun i H v H' => ∃ T x y z, v = .ref T ∧ H T = none ∧ H' = upd H T (.tup [x, y, z]) ∧ xs[i]? = some x ∧ ys[i]? = some y ∧ zs[i]? = some z
theorem walk_zip3T {K : PySem.W.Frag} {a b c : Addr} {xs ys zs : List V} (h1 : ys.length = xs.length) (h2 : zs.length = xs.length) : Walk (Itz3 K a b c) xs.length (fun H => SqT K H a xs ∧ SqT K H b ys ∧ SqT K H c zs) (YTri xs ys zs) := by
  refine ⟨fun i _ hi q => ⟨xs, ys, zs, xs[i], ys[i]'(h1.symm ▸ hi), zs[i]'(h2.symm ▸ hi), q.1, q.2.1, q.2.2, by simp [hi], by simp [h1.symm ▸ hi], by simp [h2.symm ▸ hi]⟩, fun _ q => ⟨xs, ys, zs, q.1, q.2.1, q.2.2, by omega⟩, fun i H v H' _ q y => ?_⟩
  obtain ⟨T, x, y, z, e1, e2, e3, f1, f2, f3⟩ := y
  exact ⟨T, x, y, z, e1, e2, e3, f1 xs q.1, f2 ys q.2.1, f3 zs q.2.2⟩
/-! ### t.index(x), t a tuple of ints -/
theorem mt_tup_indexI {X : Cx} : MtR X "tuple.index" (fun x xs H Q => ∃ p, ∃ ns : List Int, ∃ k, x = .ref p ∧ xs = [.int k] ∧ SqT X.K H p (ns.map V.int) ∧ k ∈ ns ∧ Q (.int (ns.idxOf k : Nat)) H) := by
  rintro pins s σ H _ _ v us Q I rx rs ⟨p, ns, k, rfl, rfl, hq, hk, q⟩
  cases rx
  obtain ⟨_, rfl, t, rfl⟩ := vals1 rs
  have ⟨its, r, pl, hz⟩ := I.tuple hq
  have isT : s.heap.IsTuple p its.toArray := pl
  have hi : IntsAre its ns := by
    clear hq isT pl hz hk q
    induction ns generalizing its with
    | nil => cases r; exact .nil
    | cons n ns ih =>
      cases r with
      | cons r1 rr =>
        obtain ⟨t', rfl⟩ := r1
        exact .cons _ _ (ih _ rr)
  exact PySem.SeqAt.tuple_index_ints isT hi hk ⟨.int (ns.idxOf k : Nat), H, I.tok _, ⟨_, rfl⟩, q⟩
end Tg

namespace Tg
open PySem PySem.Spec PyProof.Rows L2
/-! ### tuples known to have no dict of their own -/
section
variable {X : Cx}
def tTupF (t : TA) : TE := fun σ H Q => t σ H fun xs H1 => xs.length ≤ sizeLine ∧ ∀ (p : Addr) (ob : Obj), ob.dict = none → H1 p = none → Q (.ref p) (upd H1 p (.frz ob (.tup xs)))
theorem pe_tupF {es : List Expr} {t : TA} {x1 : Nat} {pos : Pos} (h : PA X es t) : PE X (.Tuple es x1 pos) (tTupF t) := by
  constructor
  intro pins s σ H Q I read
  refine wpAny_Tuple_spliced (thn (h.run pos pins s σ H _ I read) fun us s1 y => ?_)
  obtain ⟨xs, H1, J, rel, small, q⟩ := y
  refine ⟨by rw [← rel.length]; exact small, ?_⟩
  have fine : ObjOk X.prog X.w (upd H1 s1.heap.objs.size (.frz { cls := .type "tuple", data := .seq us.toArray } (.tup xs))) (s1.heap.push { cls := .type "tuple", data := .seq us.toArray }) s1.heap.objs.size (.frz { cls := .type "tuple", data := .seq us.toArray } (.tup xs)) :=
    ⟨Heap.get?_push_size _ rfl, small, us, rel, IsTup.new _ _⟩
  exact ⟨.ref s1.heap.objs.size, _, J.laid (t' := s1.toks) (fun b o e => Heap.get?_push_of_some _ e) (Nat.le_refl _) fine, rfl, q _ _ rfl (J.hok.fresh (Nat.le_refl _))⟩
/-- x.m(..), x such a tuple -/
def tBMF (r : V → List V → Hp → VK → Prop) (to : TE) (t : TA) : TE := fun σ H Q => to σ H fun x H1 => (∃ (a : Addr) (ob : Obj) (xs : List V), x = .ref a ∧ ob.dict = none ∧ H1 a = some (.frz ob (.tup xs))) ∧ t σ H1 fun zs H2 => r x zs H2 Q
theorem pe_bmF {o e : Expr} {es : List Expr} {to : TE} {t : TA} {name : Str} {apos cpos : Pos} {id : String} {r : V → List V → Hp → VK → Prop} (slot : Slot "tuple" name id) (kind : typeOf (.builtin id) = pure (.type "method_descriptor")) (meth : MtR X id r) (ho : PE X o to) (ha : PA X (e :: es) t)
    (base : attributeBase o name X.env (eval o X.env) = eval o X.env := by rfl)
    (few : ((backTo cpos (starEach (e :: es) X.env)).all (fun x => !x.1) && (backToKw cpos (keywordEach [] X.env)).all (fun x => x.1.isSome) && decide ((e :: es).length + ([] : List Keyword).length + (if ([] : List Keyword).isEmpty then 0 else 1) < 30)) = true := by rfl)
    (line : (apos.endLine == cpos.line) = true := by rfl) (star : starEach (e :: es) X.env = (false, eval e X.env) :: starEach es X.env := by rfl) (plain : (backTo cpos (starEach es X.env)).any (·.1) = false := by rfl) :
    PE X (.Call (.Attribute o name apos) (e :: es) [] cpos) (tBMF r to t) := by
  constructor
  intro pins s σ H Q I read
  refine wpAny_Call_method_late base few line rfl (thn (ho.run pins s σ H _ I read) fun v s1 y => ?_)
  obtain ⟨x, H1, J, rx, ⟨a, ob, xs, rfl, nod, ea⟩, q⟩ := y
  cases rx
  obtain ⟨obj, small, its, rel, o2, eo, cls, n, data⟩ := J.hok a _ ea
  have eo2 : ob = o2 := by
    rw [obj] at eo
    exact Option.some.inj eo
  refine ⟨"tuple", id, PySem.F.plainAttrs_tuple, slot, kind, ⟨o2, eo, cls⟩, fun b eb => ?_, ?_⟩
  · cases eb
    exact ⟨ob, obj, nod⟩
  · have args := ha.run cpos pins s1 σ H1 _ J q
    rw [star] at args ⊢
    refine Calls.callWith_builtin (by show (false || (backTo cpos (starEach es X.env)).any (·.1)) = false; rw [plain] <;> rfl) (Calls.evalArgs_plain (thn args fun us s2 y => ?_))
    obtain ⟨zs, H2, J2, r2, q2⟩ := y
    exact meth pins s2 σ H2 (.ref a) zs (.ref a) us Q J2 rfl r2 q2
end
/-- such a tuple of numbers -/
def NdT (H : Hp) (a : Addr) (xs : List V) : Prop := ∃ ob : Obj, ob.dict = none ∧ H a = some (.frz ob (.tup xs))
theorem NdT.sq {K : PySem.W.Frag} {H : Hp} {a : Addr} {xs : List V} (h : NdT H a xs) : SqT K H a xs := by
  obtain ⟨ob, _, e⟩ := h
  exact .inl (.inr ⟨ob, e⟩)
theorem NdT.kt {H H' : Hp} {a : Addr} {xs : List V} (h : NdT H a xs) (k : KT H H') : NdT H' a xs := by
  obtain ⟨ob, n, e⟩ := h
  exact ⟨ob, n, k _ _ trivial e⟩
theorem NdT.same {H H' : Hp} {a : Addr} {xs : List V} (h : NdT H a xs) (k : Same H H') : NdT H' a xs := h.kt (KT.of k)
end Tg

namespace Tg
open PySem PySem.Spec PyProof.Rows L2
/-! ### the text -/
def topS (i : Nat) : Stmt := PySem.Challenge.pw_timegranary_k61_horizons.main.body.getD i (.Pass ⟨0, 0, 0, 0⟩)
abbrev sMixed : Stmt := topS 18
abbrev sPurse : Stmt := topS 19
abbrev sDraw : Stmt := topS 20
theorem scMixed : FnScope ["_law_cell", "_law_k", "_law_number"] ["_law_cell", "_law_k"] (defScope sMixed) := ⟨rfl, rfl, rfl, by decide +kernel, rfl, by decide +kernel, by decide +kernel⟩
theorem scPurse : FnScope ["_law_script", "_law_at", "_law_cell", "_law_cut", "_law_k"] ["_law_script", "_law_at"] (defScope sPurse) := ⟨rfl, rfl, rfl, by decide +kernel, rfl, by decide +kernel, by decide +kernel⟩
theorem scDraw : FnScope ["_law_purse_here", "_law_out_of", "_law_drawn", "_law_number", "_law_k"] ["_law_purse_here", "_law_out_of"] (defScope sDraw) := ⟨rfl, rfl, rfl, by decide +kernel, rfl, by decide +kernel, by decide +kernel⟩
/-! ### purses: what is drawn from -/
/-- a purse at p, from which at most n were drawn -/
def Pu (H : Hp) (p : Addr) (n : Nat) : Prop := ∃ a c k : Int, H p = some (.lst [.int a, .int c, .int k]) ∧ 0 ≤ k ∧ k ≤ n
theorem Pu.same {H H' : Hp} {p : Addr} {n : Nat} (s : Same H H') (h : Pu H p n) : Pu H' p n := by
  obtain ⟨a, c, k, e, r⟩ := h
  exact ⟨a, c, k, s _ _ e, r⟩
theorem Pu.ne {H : Hp} {p l : Addr} {n : Nat} (d : Pu H p n) (h : H l = none) : l ≠ p := fun z => by
  obtain ⟨_, _, _, z2, _⟩ := d
  rw [z, z2] at h
  cases h
theorem Pu.kt {H H' : Hp} {p : Addr} {n : Nat} (d : Pu H p n) (k : Kp p H H') : KT H H' := by
  obtain ⟨_, _, _, z2, _⟩ := d
  exact KT.kp k z2 nfix_lst
theorem Pu.mono {H : Hp} {p : Addr} {n m : Nat} (d : Pu H p n) (h : n ≤ m) : Pu H p m := by
  obtain ⟨a, c, k, e, r0, r1⟩ := d
  exact ⟨a, c, k, e, r0, by omega⟩
section
variable {P : Program} {w : World} {K : PySem.W.Frag} {mg : Str → Option Value} {base : Heap}
def spMixed : Sp := fun vs H Q _ => ∃ c k : Int, vs = [.int c, .int k] ∧ 0 ≤ k ∧ k < 2 ^ 40 ∧ ∀ v : Int, Q (.int v) H
theorem ok_mixed {f : Addr} {fd : FuncData} {k : Nat} (F : Fun K "_law_mixed" "_law_mixed" sMixed f fd) : FnOk P w K mg base CX0 (k + 1) f fd ["_law_cell", "_law_k"] spMixed := by
  refine F.ok scMixed (fun vs H Q E h => ?_) (fun cdv A outer s H vs Q E hr h => ?_)
  · obtain ⟨c, k, rfl, _⟩ := h
    rfl
  · obtain ⟨c, k, rfl, k0, k1, q⟩ := h
    refine ⟨_, pss_cons (ps_set (i := 2) scMixed.nd rfl (.inl rfl) (pe_op op_mod (pe_op op_add (pe_op op_add (pe_op op_add (pe_op op_mul (pv 0) pe_int) (pe_op op_mul (pe_op op_mul pe_int (pv 1)) (pv 1))) (pv 1)) pe_int) pe_int))
      (pss_cons (ps_set (i := 2) scMixed.nd rfl (.inl rfl) (pe_op op_mod (pe_op op_add (pe_op op_mul (pv 2) (pv 2)) pe_int) pe_int))
      (pss_one (ps_ret (pe_op op_mod (pe_op op_mul (pv 2) pe_int) pe_int)))), ?_⟩
    refine ⟨_, rfl, _, _, rfl, rfl, .inr ⟨by decide, by decide⟩, _, rfl, _, _, rfl, rfl, .inl ⟨by decide, by decide⟩, _, rfl, _, _, rfl, rfl, .inr ⟨by omega, by omega⟩, _, _, rfl, rfl, _, rfl, _, _, rfl, rfl, _, _, rfl, rfl, _, _, rfl, rfl, (by show (0 : Int) < 2147483647; decide), ?_⟩
    generalize (c * 1103515245 + 7919 * k * k + k + 1) = y
    have y0 := Int.emod_nonneg y (show (2147483647 : Int) ≠ 0 by decide)
    have y1 := Int.emod_lt_of_pos y (show (0 : Int) < 2147483647 by decide)
    refine ⟨_, rfl, _, rfl, _, _, rfl, rfl, .inl ⟨by omega, by omega⟩, _, _, rfl, rfl, _, _, rfl, rfl, (by show (0 : Int) < 2147483629; decide), ?_⟩
    exact ⟨_, rfl, _, _, rfl, rfl, .inr ⟨by decide, by decide⟩, _, _, rfl, rfl, (by show (0 : Int) < 2147483587; decide), q _⟩
def spDraw : Sp := fun vs H Q _ => ∃ (p : Addr) (n : Nat) (m : Int), vs = [.ref p, .int m] ∧ Pu H p n ∧ n < 2 ^ 38 ∧ 0 < m ∧ m < 2 ^ 50 ∧
  ∀ (v : Int) (H' : Hp), Kp p H H' → Pu H' p (n + 2) → 0 ≤ v → v < m → Q (.int v) H'
theorem ok_draw {f : Addr} {fd : FuncData} {k : Nat} (F : Fun K "_law_draw" "_law_draw" sDraw f fd) (C_mixed : Cal P w K mg base k "_law_mixed" ["_law_cell", "_law_k"] spMixed) (m_range : mg "range" = none) :
    FnOk P w K mg base CX0 (k + 1) f fd ["_law_purse_here", "_law_out_of"] spDraw := by
  refine F.ok scDraw (fun vs H Q E h => ?_) (fun cdv A outer s H vs Q E hr h => ?_)
  · obtain ⟨p, n, m, rfl, _⟩ := h
    rfl
  · obtain ⟨p, n, m, rfl, ⟨a, c, k, hp, k0, k1⟩, hn, m0, m1, q⟩ := h
    refine ⟨_, pss_cons (ps_if (pt_cmpR op_gt (pe_ix ix_list (pv 0) pe_int (fun _ _ => rfl)) pe_int (nomark _))
        (pss_cons (ps_set (i := 2) scDraw.nd rfl (.inl rfl) (pe_op op_mod (pe_ix ix_list (pv 0) pe_int (fun _ _ => rfl)) (pv 1)))
        (pss_cons (ps_asg (pe_op op_fdivW (pe_ix ix_list (pv 0) pe_int (fun _ _ => rfl)) (pv 1)) (pg_sub (pv 0) pe_int set_list))
        (pss_one (ps_ret (pv 2)))))
        pss_nil)
      (pss_cons (ps_set (i := 3) scDraw.nd rfl (.inl rfl) pe_int)
      (pss_cons (ps_for PassesOwn.never rfl (pi_range1 (by rfl) m_range (pa_cons (pe_op op_add pe_int (pe_op op_fdiv (pe_bits (pv 1)) pe_int)) pa_nil)) (pg_name (i := 4) scDraw.nd rfl (.inl rfl))
        (pss_cons (ps_asg (pe_op op_add (pe_ix ix_list (pv 0) pe_int (fun _ _ => rfl)) pe_int) (pg_sub (pv 0) pe_int set_list))
        (pss_one (ps_set (i := 3) scDraw.nd rfl (.inl rfl) (pe_op op_add (pe_op op_mul (pv 3) pe_int) (pe_cal C_mixed (hr.mono (by omega)) (by rfl) (pa_cons (pe_ix ix_list (pv 0) pe_int (fun _ _ => rfl)) (pa_cons (pe_ix ix_list (pv 0) pe_int (fun _ _ => rfl)) pa_nil))))))))
      (pss_one (ps_ret (pe_op op_mod (pv 3) (pv 1)))))), ?_⟩
    have e0 := Int.emod_nonneg a (show m ≠ 0 by omega)
    have e1 := Int.emod_lt_of_pos a m0
    refine ⟨_, rfl, p, _, 0, .int a, rfl, rfl, SqL.of hp, rfl, _, _, rfl, rfl, _, rfl, ite2 (fun g => ?_) (fun g => ?_)⟩
    · refine ⟨_, rfl, p, _, 0, .int a, rfl, rfl, SqL.of hp, rfl, _, rfl, _, _, rfl, rfl, m0, ?_⟩
      refine ⟨_, rfl, p, _, 0, .int a, rfl, rfl, SqL.of hp, rfl, _, rfl, _, _, rfl, rfl, wide_div (b := 50) m0 (by omega) (by decide) (by decide), _, rfl, p, _, 0, 0, rfl, rfl, hp, rfl, _, rfl, ?_⟩
      exact q _ _ Kp.put ⟨_, _, _, upd_same, k0, by omega⟩ e0 e1
    · have b0 : Builtin.Int.intBits m ≤ 50 := intBits_le_iff.mpr (by omega)
      refine ⟨_, rfl, _, rfl, _, _, rfl, rfl, ⟨by decide, by decide⟩, _, _, rfl, rfl, _, rfl, ?_, ?_, ?_⟩
      · omega
      · omega
      · obtain ⟨cn, ec⟩ : ∃ cn : Nat, (1 + ((Builtin.Int.intBits m : Nat) : Int) / 30).toNat = cn := ⟨_, rfl⟩
        have c2 : cn ≤ 2 := by omega
        rw [ec]
        refine for_range (n := cn) (fun i σ H2 => ∃ (num k' : Int) (z : Option V), σ = [some (.ref p), some (.int m), none, some (.int num), z] ∧ Kp p H H2 ∧ H2 p = some (.lst [.int a, .int c, .int k']) ∧ 0 ≤ k' ∧ k' ≤ n + i) ?_ ?_ ?_
        · exact ⟨0, k, none, rfl, Kp.refl _ _, hp, k0, by omega⟩
        · rintro i σ H2 hi ⟨num, k', z, rfl, kp, h2, k0', k1'⟩
          refine ⟨_, rfl, p, _, 2, .int k', rfl, rfl, SqL.of h2, rfl, _, _, rfl, rfl, _, rfl, p, _, 2, 2, rfl, rfl, h2, rfl, ?_⟩
          have h3 : (upd H2 p (.lst [.int a, .int c, .int (k' + 1)])) p = some (.lst [.int a, .int c, .int (k' + 1)]) := upd_same
          refine ⟨_, rfl, _, _, rfl, rfl, .inr ⟨by decide, by decide⟩, _, rfl, p, _, 1, .int c, rfl, rfl, SqL.of h3, rfl, _, rfl, p, _, 2, .int (k' + 1), rfl, rfl, SqL.of h3, rfl, c, k' + 1, rfl, by omega, by omega, fun v => ?_⟩
          exact ⟨_, _, rfl, rfl, _, _, _, rfl, kp.trans Kp.put, h3, by omega, by omega⟩
        · rintro σ H2 ⟨num, k', z, rfl, kp, h2, k0', k1'⟩
          refine ⟨_, rfl, _, rfl, _, _, rfl, rfl, m0, ?_⟩
          exact q _ _ kp ⟨_, _, _, h2, k0', by omega⟩ (Int.emod_nonneg _ (by omega)) (Int.emod_lt_of_pos _ m0)
def spPurse (K : PySem.W.Frag) : Sp := fun vs H Q _ => ∃ (sa : Addr) (ns : List Int) (at_ : Int), vs = [.ref sa, .int at_] ∧ SqL K H sa (ns.map V.int) ∧ ns.length ≤ 63 ∧ 0 ≤ at_ ∧ at_ ≤ 1000 ∧
  ∀ (p : Addr) (H' : Hp), Same H H' → H p = none → Pu H' p 1000000 → Q (.ref p) H'
theorem cut_ints (ns : List Int) (lo hi : Option Int) : ∃ ms : List Int, cutV (ns.map V.int) lo hi = ms.map V.int ∧ ms.length ≤ ns.length := by
  unfold cutV
  refine ⟨(ns.drop (HT.sIx (ns.map V.int).length 0 lo)).take (HT.sIx (ns.map V.int).length (ns.map V.int).length hi - HT.sIx (ns.map V.int).length 0 lo), ?_, ?_⟩
  · rw [List.map_take, List.map_drop]
  · rw [List.length_take, List.length_drop]
    omega
theorem ok_purse {f : Addr} {fd : FuncData} {k : Nat} (F : Fun K "_law_purse" "_law_purse" sPurse f fd) (m_range : mg "range" = none) (m_max : mg "max" = none) :
    FnOk P w K mg base CX0 (k + 1) f fd ["_law_script", "_law_at"] (spPurse K) := by
  refine F.ok scPurse (fun vs H Q E h => ?_) (fun cdv A outer s H vs Q E hr h => ?_)
  · obtain ⟨sa, ns, at_, rfl, _⟩ := h
    rfl
  · obtain ⟨sa, ns, at_, rfl, hS, hl, a0, a1, q⟩ := h
    refine ⟨_, pss_cons (ps_set (i := 2) scPurse.nd rfl (.inl rfl) (pe_ix ix_list (pe_op op_cat (pe_slice sl_list (pv 0) (po_some (pv 1)) (po_some (pe_op op_add (pv 1) pe_int))) (pe_lst (pa_cons pe_int pa_nil))) pe_int (fun _ _ => rfl)))
      (pss_cons (ps_set (i := 3) scPurse.nd rfl (.inl rfl) (pe_op op_pow pe_int pe_int))
      (pss_cons (ps_for PassesOwn.never rfl (pi_range1 (by rfl) m_range (pa_cons pe_int pa_nil)) (pg_name (i := 4) scPurse.nd rfl (.inl rfl))
        (pss_one (ps_set (i := 3) scPurse.nd rfl (.inl rfl) (pe_op op_mulW (pv 3) (pv 3)))))
      (pss_one (ps_ret (pe_lst (pa_cons (pe_op op_mod (pe_callB (call_max2 rfl) (by rfl) m_max boot_max (pa_cons (pe_op op_sub (pv 2) (pe_op op_pow pe_int pe_int)) (pa_cons pe_int pa_nil))) (pv 3)) (pa_cons (pe_op op_mod (pv 2) pe_int) (pa_cons (pe_op op_mul pe_int (pv 1)) pa_nil)))))))), ?_⟩
    obtain ⟨ms, em, lm⟩ := cut_ints ns (some at_) (some (at_ + 1))
    refine ⟨_, rfl, _, rfl, at_, rfl, _, rfl, _, _, rfl, rfl, at_ + 1, rfl, sa, _, rfl, hS, fun l1 n1 => ?_⟩
    rw [em]
    refine ⟨by show 1 ≤ sizeLine; decide, fun l2 n2 => ?_⟩
    have s1 : Same H (upd H l1 (.lst (ms.map V.int))) := same_new n1
    have s2 := same_new (o := .lst [.int 0]) n2
    have m1 : (upd (upd H l1 (.lst (ms.map V.int))) l2 (.lst [.int 0])) l1 = some (.lst (ms.map V.int)) := s2 _ _ upd_same
    refine ⟨l1, l2, _, _, rfl, rfl, m1, upd_same, ?_, fun l3 n3 => ?_⟩
    · rw [List.length_map]
      exact Nat.le_of_lt (small1000 (by show ms.length + 1 ≤ 1000; omega))
    · have s3 := same_new (o := .lst (ms.map V.int ++ [.int 0])) n3
      obtain ⟨c, ec⟩ : ∃ c : Int, atI (ms.map V.int ++ [.int 0]) 0 = some (.int c) := by
        cases ms with
        | nil => exact ⟨0, rfl⟩
        | cons x r =>
          refine ⟨x, ?_⟩
          show atI _ ((0 : Nat) : Int) = _
          exact atI_nat rfl
      have s4 : Same H (upd (upd (upd H l1 (.lst (ms.map V.int))) l2 (.lst [.int 0])) l3 (.lst (ms.map V.int ++ [.int 0]))) := (s1.trans s2).trans s3
      refine ⟨l3, _, 0, .int c, rfl, rfl, SqL.of upd_same, ec, ?_⟩
      refine ⟨10, 60, rfl, rfl, ⟨by decide, by decide, by decide⟩, ?_⟩
      revert s4
      generalize upd (upd (upd H l1 (.lst (ms.map V.int))) l2 (.lst [.int 0])) l3 (.lst (ms.map V.int ++ [.int 0])) = H4
      intro s4
      refine ⟨5, rfl, by decide, by decide, for_range (n := 5) (fun i σ H2 => ∃ (x : Int) (y : Option V), σ = [some (.ref sa), some (.int at_), some (.int c), some (.int x), y] ∧ H2 = H4 ∧ 0 < x ∧ x.natAbs < 2 ^ (200 * 2 ^ i)) ?_ ?_ ?_⟩
      · exact ⟨_, none, rfl, rfl, by decide, by decide⟩
      · rintro i σ H2 hi ⟨x, y, rfl, rfl, hx, hb⟩
        refine ⟨_, rfl, _, rfl, x, x, rfl, rfl, ?_, x * x, _, rfl, rfl, Int.mul_pos hx hx, ?_⟩
        · have h7 : 2 ^ i ≤ 2 ^ 6 := Nat.pow_le_pow_right (by decide) (by omega)
          have h0 : 0 < 2 ^ i := Nat.pow_pos (by decide)
          exact wide_mul hb hb (by omega) (by omega) (by omega)
        · have e := wide_lt hb hb
          rw [show 200 * 2 ^ (i + 1) = 200 * 2 ^ i + 200 * 2 ^ i by rw [Nat.pow_succ]; omega]
          exact e
      · rintro σ H2 ⟨x, y, rfl, rfl, hx, _⟩
        refine ⟨_, rfl, 10, 18, rfl, rfl, ⟨by decide, by decide, by decide⟩, _, _, rfl, rfl, _, _, rfl, _, rfl, _, _, rfl, rfl, hx, _, rfl, _, _, rfl, rfl, (by show (0 : Int) < 2147483647; decide), _, rfl, _, _, rfl, rfl, .inl ⟨by decide, by decide⟩, by show 3 ≤ sizeLine; decide, fun p np => ?_⟩
        exact q p _ (s4.trans (same_new np)) (s4.free np) ⟨_, _, _, upd_same, by omega, by omega⟩
end
end Tg

namespace Tg
open PySem PySem.Spec PyProof.Rows L2
abbrev sCellOf : Stmt := topS 5
abbrev sWhole : Stmt := topS 7
abbrev sCkW : Stmt := topS 10
abbrev sCkw : Stmt := topS 11
abbrev sKeep : Stmt := topS 13
abbrev sCkK : Stmt := topS 14
abbrev sHB : Stmt := topS 15
theorem scCellOf : FnScope ["time", "width"] ["time", "width"] (defScope sCellOf) := ⟨rfl, rfl, rfl, by decide +kernel, rfl, by decide +kernel, by decide +kernel⟩
theorem scWhole : FnScope ["thing"] ["thing"] (defScope sWhole) := ⟨rfl, rfl, rfl, by decide +kernel, rfl, by decide +kernel, by decide +kernel⟩
theorem scCkW : FnScope ["widths", "at", "width"] ["widths"] (defScope sCkW) := ⟨rfl, rfl, rfl, by decide +kernel, rfl, by decide +kernel, by decide +kernel⟩
theorem scCkw : FnScope ["widths", "width"] ["widths", "width"] (defScope sCkw) := ⟨rfl, rfl, rfl, by decide +kernel, rfl, by decide +kernel, by decide +kernel⟩
theorem scKeep : FnScope ["keep", "ahead"] ["keep", "ahead"] (defScope sKeep) := ⟨rfl, rfl, rfl, by decide +kernel, rfl, by decide +kernel, by decide +kernel⟩
theorem scCkK : FnScope ["keeps", "many", "ahead", "at", "keep"] ["keeps", "many"] (defScope sCkK) := ⟨rfl, rfl, rfl, by decide +kernel, rfl, by decide +kernel, by decide +kernel⟩
theorem scHB : FnScope ["horizon", "now", "keep", "width", "reached"] ["horizon", "now", "keep", "width"] (defScope sHB) := ⟨rfl, rfl, rfl, by decide +kernel, rfl, by decide +kernel, by decide +kernel⟩
theorem if_n {c : Bool} {A B : Prop} (h : c = false) (b : B) : if c = true then A else B := by
  subst h
  exact if_f b
theorem if_y {c : Bool} {A B : Prop} (h : c = true) (a : A) : if c = true then A else B := by
  subst h
  exact if_t a
theorem vi_ne {i j : Int} (h : i ≠ j) : decide (V.int i = V.int j) = false := decide_eq_false fun z => h (V.int.inj z)
theorem at_pred {xs : List V} {i : Nat} {v : V} (h : xs[i]? = some v) : atI xs (((i + 1 : Nat) : Int) - 1) = some v := by
  rw [show (((i + 1 : Nat) : Int) - 1) = ((i : Nat) : Int) by omega]
  exact atI_nat h
/-! ### numbers or None -/
def vo : Option Int → V
  | none => .non
  | some i => .int i
/-- widths as the check lets them by -/
structure WOk (ws : List Int) : Prop where
  ne : ws ≠ []
  le : ws.length ≤ 4
  pos : ∀ (i : Nat) (x : Int), ws[i]? = some x → 1 ≤ x ∧ x ≤ 10 ^ 13
  up : ∀ (i : Nat) (x y : Int), ws[i]? = some x → ws[i + 1]? = some y → y ≠ x ∧ y % x = 0
/-- one keep may stand behind another -/
def Stp (a b : Option Int) : Prop := ∀ y, b = some y → ∃ x, a = some x ∧ x ≤ y
structure KOk (ks : List (Option Int)) : Prop where
  fst : ∀ x, ks[0]? = some x → Stp (some 0) x
  up : ∀ (i : Nat) (x y : Option Int), ks[i]? = some x → ks[i + 1]? = some y → Stp x y
/-- the horizon behind a now -/
def hb (h : Option Int) (now : Int) (k : Option Int) (w : Int) : Option Int :=
  match k with
  | none => none
  | some k => some (match h with | none => (now - k) - (now - k) % w | some x => if now - k - (now - k) % w > x then now - k - (now - k) % w else x)
section
variable {P : Program} {w : World} {K : PySem.W.Frag} {mg : Str → Option Value} {base : Heap}
def spCell : Sp := fun vs H Q _ => ∃ t d : Int, vs = [.int t, .int d] ∧ 0 < d ∧ Q (.int (t - t % d)) H
theorem ok_cell {f : Addr} {fd : FuncData} {k : Nat} (F : Fun K "cell_of" "cell_of" sCellOf f fd) : FnOk P w K mg base CX0 (k + 1) f fd ["time", "width"] spCell := by
  refine F.ok scCellOf (fun vs H Q E h => ?_) (fun cdv A outer s H vs Q E hr h => ?_)
  · obtain ⟨t, d, rfl, _⟩ := h
    rfl
  · obtain ⟨t, d, rfl, d0, q⟩ := h
    refine ⟨_, pss_one (ps_ret (pe_op op_sub (pv 0) (pe_op op_mod (pv 0) (pv 1)))), ?_⟩
    exact ⟨_, rfl, _, rfl, _, rfl, _, _, rfl, rfl, d0, _, _, rfl, rfl, q⟩
def spWhole : Sp := fun vs H Q _ => ∃ t : Int, vs = [.int t] ∧ Q (.bl true) H
theorem ok_whole {f : Addr} {fd : FuncData} {k : Nat} (F : Fun K "is_whole" "is_whole" sWhole f fd) (m_isinstance : mg "isinstance" = none) (m_int : mg "int" = none) (m_bool : mg "bool" = none) : FnOk P w K mg base CX0 (k + 1) f fd ["thing"] spWhole := by
  refine F.ok scWhole (fun vs H Q E h => ?_) (fun cdv A outer s H vs Q E hr h => ?_)
  · obtain ⟨t, rfl, _⟩ := h
    rfl
  · obtain ⟨t, rfl, q⟩ := h
    refine ⟨_, pss_one (ps_ret (pe_and (pe_callB call_isi (by rfl) m_isinstance (by decide +kernel) (pa_cons (pv 0) (pa_cons (pe_bltn (v := .ty "int") (by rfl) m_int (by decide +kernel) rfl) pa_nil))) (pe_one (pe_not (pe_callB call_isi (by rfl) m_isinstance (by decide +kernel) (pa_cons (pv 0) (pa_cons (pe_bltn (v := .ty "bool") (by rfl) m_bool (by decide +kernel) rfl) pa_nil))))))), ?_⟩
    refine ⟨_, rfl, _, _, _, _, true, rfl, .ty "int", .base (.int t), rfl, true, rfl, if_t ?_⟩
    exact ⟨_, rfl, _, _, _, _, false, rfl, .ty "bool", .base (.int t), rfl, _, rfl, q⟩
def spCkW (K : PySem.W.Frag) : Sp := fun vs H Q _ => ∃ (a : Addr) (ws : List Int), vs = [.ref a] ∧ SqT K H a (ws.map V.int) ∧ WOk ws ∧ ∀ H', Same H H' → Q .non H'
theorem ok_ckW {f : Addr} {fd : FuncData} {k : Nat} (F : Fun K "check_widths" "check_widths" sCkW f fd) (C_is_whole : Cal P w K mg base k "is_whole" ["thing"] spWhole) {z : Tok} (g_MOST_WIDTHS : mg "MOST_WIDTHS" = some (.int 4 z)) (m_len : mg "len" = none) (m_enumerate : mg "enumerate" = none) :
    FnOk P w K mg base CX0 (k + 1) f fd ["widths"] (spCkW K) := by
  refine F.ok scCkW (fun vs H Q E h => ?_) (fun cdv A outer s H vs Q E hr h => ?_)
  · obtain ⟨a, ws, rfl, _⟩ := h
    rfl
  · obtain ⟨a, ws, rfl, ha, ok, q⟩ := h
    refine ⟨_, pss_cons (ps_if (pt_cmpR op_eq (pe_callB call_len_seq (by rfl) m_len (by decide +kernel) (pa_cons (pv 0) pa_nil)) pe_int (nomark _))
        (pss_one ps_dead)
        pss_nil)
      (pss_one (ps_for PassesOwn.never rfl (pi_enumT (by rfl) m_enumerate (pa_cons (pv 0) pa_nil)) (pg_tup rfl (pgs_cons (pg_name (i := 1) scCkW.nd rfl (.inl rfl)) (pgs_cons (pg_name (i := 2) scCkW.nd rfl (.inl rfl)) pgs_nil)))
        (pss_cons (ps_if (PW.pt (pw_or (pt_cmpR op_eq (pv 1) (pe_glob (v := .int 4) rfl g_MOST_WIDTHS ⟨_, rfl⟩) (nomark _)) (pw_or (pt_not (pt_val (pe_cal C_is_whole (hr.mono (by omega)) (by rfl) (pa_cons (pv 2) pa_nil)))) (pw_or1 (pt_cmpR op_lt (pv 2) pe_int (nomark _))))))
          (pss_one ps_dead)
          pss_nil)
        (pss_one (ps_if (PW.pt (pw_and (pt_cmpR op_gt (pv 1) pe_int (nomark _)) (pw_and1 (PW.pt (pw_or (pt_cmpR op_eq (pv 2) (pe_ix ix_tup (pv 0) (pe_op op_sub (pv 1) pe_int) (fun _ _ => rfl)) (nomark _)) (pw_or1 (pt_cmpR op_gt (pe_op op_mod (pv 2) (pe_ix ix_tup (pv 0) (pe_op op_sub (pv 1) pe_int) (fun _ _ => rfl))) pe_int (nomark _))))))))
          (pss_one ps_dead)
          pss_nil))))), ?_⟩
    have hl : (ws.map V.int).length = ws.length := List.length_map ..
    have l0 : 0 < ws.length := List.length_pos_iff.mpr ok.ne
    refine ⟨_, rfl, a, _, rfl, .inr ha, rfl, _, rfl, if_n (vi_ne (by rw [hl]; omega)) ?_⟩
    refine ⟨_, rfl, a, _, rfl, ha, for_it (walk_enumT (K := K) (a := a) (xs := ws.map V.int)) (fun i σ H2 => ∃ z1 z2 : Option V, σ = [some (.ref a), z1, z2] ∧ Same H H2) ⟨none, none, rfl, Same.refl _⟩ ?_ ?_ ?_⟩
    · rintro i σ H2 _ ⟨z1, z2, _, s2⟩
      exact sqT_same s2 ha
    · rintro i x σ H2 H3 hi ⟨z1, z2, rfl, s2⟩ ⟨T, x1, x2, rfl, nT, rfl, e1, e2⟩
      cases e1
      replace e2 : (ws.map V.int)[i]? = some x2 := e2
      rw [List.getElem?_map] at e2
      obtain ⟨y, hy, rfl⟩ := Option.map_eq_some_iff.mp e2
      have s3 : Same H (upd H2 T (.tup [.int (i : Nat), .int y])) := s2.trans (same_new nT)
      have ha3 := sqT_same s3 ha
      have yp := ok.pos i y hy
      have il : i < 4 := by
        have := ok.le
        rw [hl] at hi
        omega
      refine ⟨T, _, rfl, SqT.of upd_same, rfl, _, _, rfl, _, _, rfl, rfl, ?_⟩
      refine ⟨_, rfl, rfl, _, rfl, if_n (vi_ne (by omega)) ⟨_, rfl, y, rfl, true, rfl, if_f ⟨_, rfl, _, _, rfl, rfl, _, rfl, if_n (decide_eq_false (by omega)) ?_⟩⟩⟩
      cases i with
      | zero => exact ⟨_, rfl, _, _, rfl, rfl, _, rfl, if_n (decide_eq_false (by omega)) (if_f ⟨_, _, rfl, s3⟩)⟩
      | succ i =>
        obtain ⟨x, hx⟩ : ∃ x, ws[i]? = some x := ⟨ws[i]'(by rw [hl] at hi; omega), List.getElem?_eq_getElem _⟩
        have xp := ok.pos i x hx
        obtain ⟨u1, u2⟩ := ok.up i x y hx hy
        have ex : atI (ws.map V.int) (((i + 1 : Nat) : Int) - 1) = some (.int x) := at_pred (by rw [List.getElem?_map, hx]; rfl)
        refine ⟨_, rfl, _, _, rfl, rfl, _, rfl, if_y (decide_eq_true (by omega)) ?_⟩
        refine ⟨_, rfl, _, rfl, _, rfl, _, _, rfl, rfl, a, _, _, .int x, rfl, rfl, ha3, ex, rfl, _, rfl, if_n (vi_ne u1) ?_⟩
        refine ⟨_, rfl, _, rfl, _, rfl, _, _, rfl, rfl, a, _, _, .int x, rfl, rfl, ha3, ex, _, _, rfl, rfl, (by omega), _, _, rfl, rfl, _, rfl, if_n (decide_eq_false (by omega)) ?_⟩
        exact ⟨_, _, rfl, s3⟩
    · rintro σ H2 ⟨z1, z2, rfl, s2⟩
      exact q _ s2
def spCkw (K : PySem.W.Frag) : Sp := fun vs H Q _ => ∃ (a : Addr) (ws : List Int) (x : Int), vs = [.ref a, .int x] ∧ SqT K H a (ws.map V.int) ∧ x ∈ ws ∧ Q .non H
theorem inV_mem {ws : List Int} {x : Int} (h : x ∈ ws) : inV (.int x) (ws.map V.int) = true := by
  unfold inV
  rw [List.any_map, List.any_eq_true]
  exact ⟨x, h, by show eqV (V.int x) (V.int x) = true; simp [eqV]⟩
theorem flat_ints (ws : List Int) : (ws.map V.int).all flatV = true := by
  rw [List.all_map, List.all_eq_true]
  exact fun _ _ => rfl
theorem ok_ckw {f : Addr} {fd : FuncData} {k : Nat} (F : Fun K "check_width" "check_width" sCkw f fd) : FnOk P w K mg base CX0 (k + 1) f fd ["widths", "width"] (spCkw K) := by
  refine F.ok scCkw (fun vs H Q E h => ?_) (fun cdv A outer s H vs Q E hr h => ?_)
  · obtain ⟨a, ws, x, rfl, _⟩ := h
    rfl
  · obtain ⟨a, ws, x, rfl, ha, hx, q⟩ := h
    refine ⟨_, pss_one (ps_if (pt_cmpR op_notIn_seq (pv 1) (pv 0) (by with_unfolding_all rfl))
        (pss_one ps_dead)
        pss_nil), ?_⟩
    refine ⟨_, rfl, _, rfl, a, _, rfl, .inr ha, rfl, flat_ints ws, _, rfl, if_n ?_ q⟩
    show (!inV (.int x) (ws.map V.int)) = false
    rw [inV_mem hx]
    rfl
def spKeep : Sp := fun vs H Q _ => ∃ (a b : Option Int), vs = [vo b, vo a] ∧ Stp a b ∧ Q (.bl true) H
theorem ok_keep {f : Addr} {fd : FuncData} {k : Nat} (F : Fun K "is_keep" "is_keep" sKeep f fd) (C_is_whole : Cal P w K mg base k "is_whole" ["thing"] spWhole) : FnOk P w K mg base CX0 (k + 1) f fd ["keep", "ahead"] spKeep := by
  refine F.ok scKeep (fun vs H Q E h => ?_) (fun cdv A outer s H vs Q E hr h => ?_)
  · obtain ⟨a, b, rfl, _⟩ := h
    rfl
  · obtain ⟨a, b, rfl, st, q⟩ := h
    refine ⟨_, pss_cons (ps_if (pt_cmpR op_isN (pv 0) pe_non (nomark _))
        (pss_one (ps_ret pe_bl))
        pss_nil)
      (pss_one (ps_ret (pe_and (pe_cal C_is_whole (hr.mono (by omega)) (by rfl) (pa_cons (pv 0) pa_nil)) (pe_and (pe_cmpR op_notN (pv 1) pe_non (nomark _)) (pe_one (pe_cmpR op_ge (pv 0) (pv 1) (nomark _))))))), ?_⟩
    cases b with
    | none => exact ⟨_, rfl, rfl, _, rfl, if_y rfl q⟩
    | some y =>
      obtain ⟨x, rfl, hxy⟩ := st y rfl
      refine ⟨_, rfl, rfl, _, rfl, if_n rfl ⟨_, rfl, y, rfl, true, rfl, if_t ⟨_, rfl, rfl, true, rfl, if_t ?_⟩⟩⟩
      refine ⟨_, rfl, _, rfl, _, _, rfl, rfl, ?_⟩
      show Q (.bl (decide (x ≤ y))) H
      rw [show decide (x ≤ y) = true from decide_eq_true hxy]
      exact q
def spCkK (K : PySem.W.Frag) : Sp := fun vs H Q _ => ∃ (a : Addr) (ks : List (Option Int)), vs = [.ref a, .int ks.length] ∧ SqT K H a (ks.map vo) ∧ KOk ks ∧ ∀ H', Same H H' → Q .non H'
theorem ok_ckK {f : Addr} {fd : FuncData} {k : Nat} (F : Fun K "check_keeps" "check_keeps" sCkK f fd) (C_is_keep : Cal P w K mg base k "is_keep" ["keep", "ahead"] spKeep) (m_len : mg "len" = none) (m_enumerate : mg "enumerate" = none) :
    FnOk P w K mg base CX0 (k + 1) f fd ["keeps", "many"] (spCkK K) := by
  refine F.ok scCkK (fun vs H Q E h => ?_) (fun cdv A outer s H vs Q E hr h => ?_)
  · obtain ⟨a, ks, rfl, _⟩ := h
    rfl
  · obtain ⟨a, ks, rfl, ha, ok, q⟩ := h
    refine ⟨_, pss_cons (ps_set (i := 2) scCkK.nd rfl (.inl rfl) pe_int)
      (pss_cons (ps_for PassesOwn.never rfl (pi_enumT (by rfl) m_enumerate (pa_cons (pv 0) pa_nil)) (pg_tup rfl (pgs_cons (pg_name (i := 3) scCkK.nd rfl (.inl rfl)) (pgs_cons (pg_name (i := 4) scCkK.nd rfl (.inl rfl)) pgs_nil)))
        (pss_cons (ps_if (PW.pt (pw_or (pt_cmpR op_eq (pv 3) (pv 1) (nomark _)) (pw_or1 (pt_not (pt_val (pe_cal C_is_keep (hr.mono (by omega)) (by rfl) (pa_cons (pv 4) (pa_cons (pv 2) pa_nil))))))))
          (pss_one ps_dead)
          pss_nil)
        (pss_one (ps_set (i := 2) scCkK.nd rfl (.inl rfl) (pv 4)))))
      (pss_one (ps_if (pt_cmpR op_lt (pe_callB call_len_seq (by rfl) m_len (by decide +kernel) (pa_cons (pv 0) pa_nil)) (pv 1) (nomark _))
        (pss_one ps_dead)
        pss_nil))), ?_⟩
    have hl : (ks.map vo).length = ks.length := List.length_map ..
    refine ⟨_, rfl, a, _, rfl, ha, for_it (walk_enumT (K := K) (a := a) (xs := ks.map vo)) (fun i σ H2 => ∃ (x : Option Int) (z1 z2 : Option V), σ = [some (.ref a), some (.int ks.length), some (vo x), z1, z2] ∧ Same H H2 ∧ (∀ y, ks[i]? = some y → Stp x y)) ⟨some 0, none, none, rfl, Same.refl _, ok.fst⟩ ?_ ?_ ?_⟩
    · rintro i σ H2 _ ⟨_, z1, z2, _, s2, _⟩
      exact sqT_same s2 ha
    · rintro i x σ H2 H3 hi ⟨ah, z1, z2, rfl, s2, st⟩ ⟨T, x1, x2, rfl, nT, rfl, e1, e2⟩
      cases e1
      replace e2 : (ks.map vo)[i]? = some x2 := e2
      rw [List.getElem?_map] at e2
      obtain ⟨y, hy, rfl⟩ := Option.map_eq_some_iff.mp e2
      have s3 : Same H (upd H2 T (.tup [.int (i : Nat), vo y])) := s2.trans (same_new nT)
      refine ⟨T, _, rfl, SqT.of upd_same, rfl, _, _, rfl, _, _, rfl, rfl, ?_⟩
      refine ⟨_, rfl, _, rfl, rfl, _, rfl, if_n (vi_ne (by rw [hl] at hi; omega)) ⟨_, rfl, _, rfl, ah, y, rfl, st y hy, true, rfl, if_f ?_⟩⟩
      exact ⟨_, rfl, y, _, _, rfl, s3, fun u hu => ok.up i y u hy hu⟩
    · rintro σ H2 ⟨ah, z1, z2, rfl, s2, _⟩
      refine ⟨_, rfl, a, _, rfl, .inr (sqT_same s2 ha), _, rfl, _, _, rfl, rfl, _, rfl, if_n (decide_eq_false (by rw [hl]; omega)) ?_⟩
      exact q _ s2
def spHB : Sp := fun vs H Q _ => ∃ (h : Option Int) (now : Int) (kp : Option Int) (d : Int), vs = [vo h, .int now, vo kp, .int d] ∧ 0 < d ∧ Q (vo (hb h now kp d)) H
theorem ok_hb {f : Addr} {fd : FuncData} {k : Nat} (F : Fun K "horizon_behind" "horizon_behind" sHB f fd) (C_cell_of : Cal P w K mg base k "cell_of" ["time", "width"] spCell) (m_max : mg "max" = none) : FnOk P w K mg base CX0 (k + 1) f fd ["horizon", "now", "keep", "width"] spHB := by
  refine F.ok scHB (fun vs H Q E h => ?_) (fun cdv A outer s H vs Q E hr h => ?_)
  · obtain ⟨h, now, kp, d, rfl, _⟩ := h
    rfl
  · obtain ⟨h, now, kp, d, rfl, d0, q⟩ := h
    refine ⟨_, pss_cons (ps_if (pt_cmpR op_isN (pv 2) pe_non (nomark _))
        (pss_one (ps_ret pe_non))
        pss_nil)
      (pss_cons (ps_set (i := 4) scHB.nd rfl (.inl rfl) (pe_cal C_cell_of (hr.mono (by omega)) (by rfl) (pa_cons (pe_op op_sub (pv 1) (pv 2)) (pa_cons (pv 3) pa_nil))))
      (pss_one (ps_ret (pe_ifExp (pt_cmpR op_isN (pv 0) pe_non (nomark _)) (pv 4) (pe_callB (call_max2 rfl) (by rfl) m_max boot_max (pa_cons (pv 0) (pa_cons (pv 4) pa_nil))))))), ?_⟩
    cases kp with
    | none => exact ⟨_, rfl, rfl, _, rfl, if_y rfl q⟩
    | some kp =>
      refine ⟨_, rfl, rfl, _, rfl, if_n rfl ⟨_, rfl, _, rfl, _, _, rfl, rfl, _, rfl, _, _, rfl, d0, ?_⟩⟩
      cases h with
      | none => exact ⟨_, rfl, rfl, _, rfl, if_y rfl ⟨_, rfl, q⟩⟩
      | some x => exact ⟨_, rfl, rfl, _, rfl, if_n rfl ⟨_, rfl, _, rfl, _, _, rfl, q⟩⟩
end
end Tg

namespace Tg
open PySem PySem.Spec PyProof.Rows L2
abbrev sInit : Stmt := inClass (topS 16) 0
abbrev sExp : Stmt := inClass (topS 16) 1
abbrev sGone : Stmt := inClass (topS 16) 2
abbrev sFin : Stmt := inClass (topS 16) 3
abbrev NEx : List Str := ["self", "now", "steps", "horizon", "keep", "step"]
theorem scInit : FnScope ["self", "widths", "keeps"] ["self", "widths", "keeps"] (defScope sInit) := ⟨rfl, rfl, rfl, by decide +kernel, rfl, by decide +kernel, by decide +kernel⟩
theorem scExp : FnScope NEx ["self", "now"] (defScope sExp) := ⟨rfl, rfl, rfl, by decide +kernel, rfl, by decide +kernel, by decide +kernel⟩
theorem scGone : FnScope ["self", "width"] ["self", "width"] (defScope sGone) := ⟨rfl, rfl, rfl, by decide +kernel, rfl, by decide +kernel, by decide +kernel⟩
theorem scFin : FnScope ["self", "time", "grain", "horizon"] ["self", "time"] (defScope sFin) := ⟨rfl, rfl, rfl, by decide +kernel, rfl, by decide +kernel, by decide +kernel⟩
/-- a Keeping in the heap -/
def KpO (C : Addr) (H : Hp) (e wa ka ha : Addr) : Prop := ∃ dx, H e = some (.ins C dx [("widths", .ref wa), ("keeps", .ref ka), ("horizons", .ref ha)])
structure TKeep (K : PySem.W.Frag) (C : Addr) : Prop where
  cl : Cls K C
  nw : NoAttr K C "widths"
  nk : NoAttr K C "keeps"
  nh : NoAttr K C "horizons"
/-- the width of a grade -/
def wAt (ws : List Int) (i : Nat) : Int := ws.getD (min i (ws.length - 1)) 1
def newH (ws : List Int) (ks hs : List (Option Int)) (now : Int) : List (Option Int) := (List.range (ws.length + 1)).map fun i => hb (hs.getD i none) now (ks.getD i none) (wAt ws i)
def cnd (h : Option Int) (t : Int) : Bool :=
  match h with
  | none => true
  | some x => decide (x ≤ t)
def fin : List Int → List (Option Int) → Int → Option Int
  | g :: gs, h :: hs, t => if cnd h t = true then some g else fin gs hs t
  | _, _, _ => none
theorem gD {xs : List Int} {i : Nat} {d : Int} (h : i < xs.length) : xs.getD i d = xs[i] := by
  rw [List.getD_eq_getElem?_getD, List.getElem?_eq_getElem h]
  rfl
/-- t[lo:hi] and t + u, wherever they come to stand -/
def rSlU (K : PySem.W.Frag) : V → Option Int → Option Int → Hp → VK → Prop := fun x lo hi H Q => ∃ a xs, x = .ref a ∧ SqT K H a xs ∧ ∀ p H', Same H H' → SqT K H' p (cutV xs lo hi) → Q (.ref p) H'
theorem sl_tupU {X : Cx} : SlR X (rSlU X.K) := by
  rintro pins s σ H _ v vl vu lo hi sl Q I rx hs pl pu ⟨a, xs, rfl, hx, q⟩
  refine sl_tupA pins s σ H _ v vl vu lo hi sl Q I rx hs pl pu ⟨a, xs, rfl, hx, fun c => q a H (Same.refl _) ?_, fun c p np => q p _ (same_new np) (SqT.of upd_same)⟩
  have e : cutV xs lo hi = xs := by
    unfold cutV
    rw [c.1, c.2, List.drop_zero, Nat.sub_zero, List.take_length]
  rw [e]
  exact hx
def rCatU (K : PySem.W.Frag) : R2 := fun x y H Q => ∃ a b xs ys, x = .ref a ∧ y = .ref b ∧ SqT K H a xs ∧ SqT K H b ys ∧ xs.length + ys.length ≤ sizeLine ∧ ∀ p H', Same H H' → SqT K H' p (xs ++ ys) → Q (.ref p) H'
theorem op_catU {X : Cx} : OpR X (binaryOp .Add) (rCatU X.K) := by
  rintro pins s σ H _ _ v u Q I rx ry ⟨a, b, xs, ys, rfl, rfl, ha, hb, hz, q⟩
  refine op_catA pins s σ H _ _ v u Q I rx ry ⟨a, b, xs, ys, rfl, rfl, ha, hb, hz, fun e => q b H (Same.refl _) (by rw [e]; exact hb), fun _ e => q a H (Same.refl _) (by rw [e, List.append_nil]; exact ha), fun _ _ p np => q p _ (same_new np) (SqT.of upd_same)⟩
def wLast (ws : List Int) : Int := ws.getD (ws.length - 1) 1
theorem ws_end {ws : List Int} (h : ws ≠ []) : ws.drop (ws.length - 1) = [wLast ws] := by
  have l0 : 0 < ws.length := List.length_pos_iff.mpr h
  rw [List.drop_eq_getElem_cons (by omega), show ws.length - 1 + 1 = ws.length by omega, List.drop_length]
  unfold wLast
  rw [gD (by omega)]
theorem steps_at {ws : List Int} (h : ws ≠ []) {i : Nat} (hi : i < ws.length + 1) : (ws ++ [wLast ws])[i]? = some (wAt ws i) := by
  have l0 : 0 < ws.length := List.length_pos_iff.mpr h
  unfold wAt
  by_cases c : i < ws.length
  · rw [List.getElem?_append_left c, show min i (ws.length - 1) = i by omega, gD c, List.getElem?_eq_getElem c]
  · rw [List.getElem?_append_right (by omega), show i - ws.length = 0 by omega, show min i (ws.length - 1) = ws.length - 1 by omega]
    rfl
theorem wAt_pos {ws : List Int} (ok : WOk ws) (i : Nat) : 1 ≤ wAt ws i ∧ wAt ws i ≤ 10 ^ 13 := by
  have l0 : 0 < ws.length := List.length_pos_iff.mpr ok.ne
  refine ok.pos (min i (ws.length - 1)) _ ?_
  unfold wAt
  rw [gD (by omega), List.getElem?_eq_getElem (by omega)]
theorem getD_of {α : Type} {xs : List α} {i : Nat} {d x : α} (h : xs[i]? = some x) : xs.getD i d = x := by
  rw [List.getD_eq_getElem?_getD, h]
  rfl
theorem map_at {α : Type} {f : α → V} {xs : List α} {i : Nat} {v : V} (h : (xs.map f)[i]? = some v) : ∃ x, xs[i]? = some x ∧ v = f x := by
  rw [List.getElem?_map] at h
  obtain ⟨x, h1, h2⟩ := Option.map_eq_some_iff.mp h
  exact ⟨x, h1, h2.symm⟩
theorem newH_len (ws : List Int) (ks hs : List (Option Int)) (now : Int) : (newH ws ks hs now).length = ws.length + 1 := by
  simp only [newH, List.length_map, List.length_range]
theorem newH_at {ws : List Int} {ks hs : List (Option Int)} {now : Int} {i : Nat} {h k : Option Int} (e1 : hs[i]? = some h) (e2 : ks[i]? = some k) (hi : i < ws.length + 1) : (newH ws ks hs now)[i]? = some (hb h now k (wAt ws i)) := by
  unfold newH
  rw [List.getElem?_map, List.getElem?_range hi]
  show some (hb (hs.getD i none) now (ks.getD i none) (wAt ws i)) = _
  rw [getD_of e1, getD_of e2]
section
variable {P : Program} {w : World} {K : PySem.W.Frag} {mg : Str → Option Value} {base : Heap} {C : Addr}
def spInit (K : PySem.W.Frag) (C : Addr) : Sp := fun vs H Q _ => ∃ (p dx wa ka : Addr) (ws : List Int) (ks : List (Option Int)), vs = [.ref p, .ref wa, .ref ka] ∧ H p = some (.ins C dx []) ∧ SqT K H wa (ws.map V.int) ∧ WOk ws ∧ SqT K H ka (ks.map vo) ∧ KOk ks ∧ ks.length = ws.length + 1 ∧
  ∀ (ha : Addr) (H' : Hp), KpO C H' p wa ka ha → H' ha = some (.tup ((List.replicate ks.length none).map vo)) → Kp p H H' → Q .non H'
theorem rep_none (n : Nat) : (List.replicate n [V.non]).flatten = (List.replicate n none).map vo := by
  induction n with
  | zero => rfl
  | succ n ih =>
    rw [List.replicate_succ, List.flatten_cons, ih, List.replicate_succ]
    rfl
theorem ok_init {f : Addr} {fd : FuncData} {k : Nat} (F : Fun K "__init__" "Keeping.__init__" sInit f fd) (T : TKeep K C) (C_check_widths : Cal P w K mg base k "check_widths" ["widths"] (spCkW K)) (C_check_keeps : Cal P w K mg base k "check_keeps" ["keeps", "many"] (spCkK K)) (m_len : mg "len" = none) (m_tuple : mg "tuple" = none) :
    FnOk P w K mg base CX0 (k + 1) f fd ["self", "widths", "keeps"] (spInit K C) := by
  refine F.ok scInit (fun vs H Q E h => ?_) (fun cdv A outer s H vs Q E hr h => ?_)
  · obtain ⟨p, dx, wa, ka, ws, ks, rfl, _⟩ := h
    rfl
  · obtain ⟨p, dx, wa, ka, ws, ks, rfl, hp, hw, wok, hk, kok, hl, q⟩ := h
    refine ⟨_, pss_cons (ps_expr (pe_cal C_check_widths (hr.mono (by omega)) (by rfl) (pa_cons (pv 1) pa_nil)))
      (pss_cons (ps_expr (pe_cal C_check_keeps (hr.mono (by omega)) (by rfl) (pa_cons (pv 2) (pa_cons (pe_op op_add (pe_callB call_len_seq (by rfl) m_len (by decide +kernel) (pa_cons (pv 1) pa_nil)) pe_int) pa_nil))))
      (pss_cons (ps_fld (pv 0) (pe_callTy call_tuple_of (by rfl) m_tuple (by decide +kernel) (pa_cons (pv 1) pa_nil)) rfl)
      (pss_cons (ps_fld (pv 0) (pe_callTy call_tuple_of (by rfl) m_tuple (by decide +kernel) (pa_cons (pv 2) pa_nil)) rfl)
      (pss_one (ps_fld (pv 0) (pe_op op_repT (pe_tup (pa_cons pe_non pa_nil)) (pe_callB call_len_seq (by rfl) m_len (by decide +kernel) (pa_cons (pe_fld (pv 0) rfl) pa_nil))) rfl))))), ?_⟩
    have l0 : 0 < ws.length := List.length_pos_iff.mpr wok.ne
    have l4 := wok.le
    have lw : (ws.map V.int).length = ws.length := List.length_map ..
    have lk : (ks.map vo).length = ks.length := List.length_map ..
    refine ⟨_, rfl, wa, ws, rfl, hw, wok, fun H1 s1 => ?_⟩
    refine ⟨_, rfl, _, rfl, wa, _, rfl, .inr (sqT_same s1 hw), _, _, rfl, rfl, ka, ks, (by rw [lw, hl]; rfl), sqT_same s1 hk, kok, fun H2 s2 => ?_⟩
    have s12 := s1.trans s2
    have hp2 := s12 _ _ hp
    refine ⟨_, rfl, wa, _, rfl, .inr ⟨sqT_same s12 hw, _, rfl, p, C, dx, [], rfl, hp2, T.cl, T.nw, (by show 0 < 1000; decide), ?_⟩⟩
    obtain ⟨H3, e3⟩ : ∃ H3, upd H2 p (.ins C dx (putF "widths" (.ref wa) [])) = H3 := ⟨_, rfl⟩
    have hp3 : H3 p = some (.ins C dx [("widths", .ref wa)]) := by
      rw [← e3]
      exact upd_same
    have k3 : Kp p H H3 := by
      rw [← e3]
      exact (Kp.of s12).trans Kp.put
    have kt3 : KT H H3 := KT.kp k3 hp nfix_ins
    rw [e3]
    refine ⟨_, rfl, ka, _, rfl, .inr ⟨sqT_kt kt3 hk, _, rfl, p, C, dx, _, rfl, hp3, T.cl, T.nk, (by show 1 < 1000; decide), ?_⟩⟩
    obtain ⟨H4, e4⟩ : ∃ H4, upd H3 p (.ins C dx (putF "keeps" (.ref ka) [("widths", .ref wa)])) = H4 := ⟨_, rfl⟩
    have hp4 : H4 p = some (.ins C dx [("widths", .ref wa), ("keeps", .ref ka)]) := by
      rw [← e4]
      exact upd_same
    have k4 : Kp p H H4 := by
      rw [← e4]
      exact k3.trans Kp.put
    have kt4 : KT H H4 := KT.kp k4 hp nfix_ins
    rw [e4]
    refine ⟨by show 1 ≤ sizeLine; decide, fun t nt => ?_⟩
    have s5 := same_new (o := .tup [.non]) nt
    have hp5 := s5 _ _ hp4
    refine ⟨_, rfl, p, C, dx, _, .ref ka, rfl, hp5, T.cl, T.nk, rfl, ka, _, rfl, .inr (sqT_same s5 (sqT_kt kt4 hk)), ?_⟩
    refine ⟨t, _, [.non], rfl, rfl, SqT.of upd_same, (fun z => nomatch z), by rw [lk]; omega, by rw [lk]; omega, (by show 1 ≤ 1000; decide), fun r nr => ?_⟩
    have s6 := same_new (o := .tup (List.replicate (((ks.map vo).length : Nat) : Int).toNat [V.non]).flatten) nr
    have hp6 := s6 _ _ hp5
    refine ⟨_, rfl, p, C, dx, _, rfl, hp6, T.cl, T.nh, (by show 2 < 1000; decide), ?_⟩
    have npr : p ≠ r := ne_of_none hp5 nr
    refine q r _ ⟨dx, upd_same⟩ ?_ ((k4.trans (Kp.of (s5.trans s6))).trans Kp.put)
    rw [upd_ne npr.symm, upd_same, lk, Int.toNat_natCast, rep_none]
def spExp (K : PySem.W.Frag) (C : Addr) : Sp := fun vs H Q _ => ∃ (e wa ka ha : Addr) (ws : List Int) (ks hs : List (Option Int)) (now : Int), vs = [.ref e, .int now] ∧ KpO C H e wa ka ha ∧ SqT K H wa (ws.map V.int) ∧ WOk ws ∧ SqT K H ka (ks.map vo) ∧ SqT K H ha (hs.map vo) ∧ ks.length = ws.length + 1 ∧ hs.length = ws.length + 1 ∧
  ∀ (ha' : Addr) (H' : Hp), KpO C H' e wa ka ha' → H' ha' = some (.tup ((newH ws ks hs now).map vo)) → Kp e H H' → Q (.ref ha') H'
theorem ok_exp {f : Addr} {fd : FuncData} {k : Nat} (F : Fun K "expire" "Keeping.expire" sExp f fd) (T : TKeep K C) (C_horizon_behind : Cal P w K mg base k "horizon_behind" ["horizon", "now", "keep", "width"] spHB) (m_zip : mg "zip" = none) (m_tuple : mg "tuple" = none) :
    FnOk P w K mg base CX0 (k + 1) f fd ["self", "now"] (spExp K C) := by
  refine F.ok scExp (fun vs H Q E h => ?_) (fun cdv A outer s H vs Q E hr h => ?_)
  · obtain ⟨e, wa, ka, ha, ws, ks, hs, now, rfl, _⟩ := h
    rfl
  · obtain ⟨e, wa, ka, ha, ws, ks, hs, now, rfl, ⟨dx, he⟩, hw, wok, hk, hh, lk, lh, q⟩ := h
    refine ⟨_, pss_cons (ps_set (i := 2) scExp.nd rfl (.inl rfl) (pe_op op_catU (pe_fld (pv 0) rfl) (pe_slice sl_tupU (pe_fld (pv 0) rfl) (po_some (pe_un un_neg pe_int)) po_none)))
      (pss_cons (ps_fld (pv 0) (pe_callTy call_tuple_of (by rfl) m_tuple (by decide +kernel) (pa_cons (pe_lc (own := [("horizon", 3), ("keep", 4), ("step", 5)]) (g := gTup K 3 _) (tt := tYes) rfl scExp.nd (pi_zip3T (by rfl) m_zip (pa_cons (pe_fld (pv 0) rfl) (pa_cons (pe_fld (pv 0) rfl) (pa_cons (pv 2) pa_nil)))) (blkOk_by (own := [("horizon", 3), ("keep", 4), ("step", 5)]) (N := NEx) (sc := defScope sExp) (by decide +kernel)) (fun _ _ _ _ _ => (pg_tup rfl (pgs_cons (pg_name (i := 3) scExp.nd rfl (.inl rfl)) (pgs_cons (pg_name (i := 4) scExp.nd rfl (.inl rfl)) (pgs_cons (pg_name (i := 5) scExp.nd rfl (.inl rfl)) pgs_nil))))) (fun _ _ _ _ _ => pts_nil) (fun _ _ _ _ _ => (pe_cal C_horizon_behind (hr.mono (by omega)) (by rfl) (pa_cons (pv 3) (pa_cons (pv 1) (pa_cons (pv 4) (pa_cons (pv 5) pa_nil))))))) pa_nil)) rfl)
      (pss_one (ps_ret (pe_fld (pv 0) rfl)))), ?_⟩
    have l0 : 0 < ws.length := List.length_pos_iff.mpr wok.ne
    have l4 := wok.le
    have lw : (ws.map V.int).length = ws.length := List.length_map ..
    refine ⟨_, rfl, e, C, dx, _, .ref wa, rfl, he, T.cl, T.nw, rfl, _, rfl, e, C, dx, _, .ref wa, rfl, he, T.cl, T.nw, rfl, 1, rfl, -1, rfl, wa, _, rfl, hw, fun y H1 s1 hy => ?_⟩
    have ey : cutV (ws.map V.int) (some (-1)) none = [wLast ws].map V.int := by
      unfold cutV
      have e1 : HT.sIx (ws.map V.int).length 0 (some (-1)) = ws.length - 1 := by
        rw [lw]
        show (if (-1 : Int) < 0 then (-1 + (ws.length : Int)).toNat else min (-1 : Int).toNat ws.length) = _
        rw [if_pos (by decide)]
        omega
      have e2 : HT.sIx (ws.map V.int).length (ws.map V.int).length none = ws.length := lw
      rw [e1, e2, ← List.map_drop, ws_end wok.ne, show ws.length - (ws.length - 1) = 1 by omega]
      rfl
    rw [ey] at hy
    refine ⟨wa, y, _, _, rfl, rfl, sqT_same s1 hw, hy, (by rw [lw]; exact Nat.le_of_lt (small1000 (by show ws.length + 1 ≤ 1000; omega))), fun st H2 s2 hst => ?_⟩
    rw [← List.map_append] at hst
    have s12 := s1.trans s2
    have he2 := s12 _ _ he
    have hh2 := sqT_same s12 hh
    have hk2 := sqT_same s12 hk
    refine ⟨_, rfl, e, C, dx, _, .ref ha, rfl, he2, T.cl, T.nh, rfl, _, rfl, e, C, dx, _, .ref ka, rfl, he2, T.cl, T.nk, rfl, _, rfl, ha, ka, st, _, _, _, rfl, hh2, hk2, hst, fun D nD => ?_⟩
    have lx : (hs.map vo).length = ws.length + 1 := by rw [List.length_map, lh]
    refine lc_it (walk_zip3T (K := K) (a := ha) (b := ka) (c := st) (xs := hs.map vo) (ys := ks.map vo) (zs := (ws ++ [wLast ws]).map V.int) (by rw [List.length_map, List.length_map, lk, lh]) (by rw [List.length_map, List.length_map, List.length_append, lh]; rfl)) (fun j Hc => Same H2 Hc ∧ Hc D = some (.lst (((newH ws ks hs now).take j).map vo))) ?_ ?_ ?_ ?_
    · exact ⟨same_new nD, upd_same⟩
    · rintro j Hc _ ⟨sc, _⟩
      exact ⟨sqT_same sc hh2, sqT_same sc hk2, sqT_same sc hst⟩
    · rintro j x Hc Hd hj ⟨sc, hD⟩ ⟨t, x1, x2, x3, rfl, nt, rfl, f1, f2, f3⟩
      obtain ⟨h, eh, rfl⟩ := map_at f1
      obtain ⟨kp, ek, rfl⟩ := map_at f2
      obtain ⟨d, ed, rfl⟩ := map_at f3
      have hj' : j < ws.length + 1 := by
        rw [lx] at hj
        exact hj
      rw [steps_at wok.ne hj'] at ed
      cases ed
      have d0 := wAt_pos wok j
      refine ⟨t, _, rfl, SqT.of upd_same, rfl, _, _, rfl, _, _, rfl, _, _, rfl, rfl, rfl, ?_⟩
      unfold tYes
      refine (if_pos rfl).mpr ?_
      refine ⟨_, rfl, _, rfl, _, rfl, _, rfl, h, now, kp, wAt ws j, rfl, by omega, ?_⟩
      have st2 := same_new (o := .tup [vo h, vo kp, V.int (wAt ws j)]) nt
      refine ⟨_, st2 _ _ hD, ?_, same_put nD (sc.trans st2), ?_⟩
      · rw [List.length_map]
        exact small1000 (by have := List.length_take_le j (newH ws ks hs now); omega)
      · rw [upd_same, List.take_add_one, newH_at eh ek hj', List.map_append]
        rfl
    · rintro Hc ⟨sc, hD⟩
      rw [lx, ← newH_len ws ks hs now, List.take_length] at hD
      refine ⟨D, _, rfl, .inl ⟨SqL.of hD, fun t nt => ?_⟩⟩
      have st2 := same_new (o := .tup ((newH ws ks hs now).map vo)) nt
      have het := st2 _ _ (sc _ _ he2)
      refine ⟨_, rfl, e, C, dx, _, rfl, het, T.cl, T.nh, (by show 3 < 1000; decide), ?_⟩
      have nte : t ≠ e := (ne_of_none (sc _ _ he2) nt).symm
      obtain ⟨H4, e4⟩ : ∃ H4, upd (upd Hc t (.tup ((newH ws ks hs now).map vo))) e (.ins C dx (putF "horizons" (.ref t) [("widths", .ref wa), ("keeps", .ref ka), ("horizons", .ref ha)])) = H4 := ⟨_, rfl⟩
      have he4 : H4 e = some (.ins C dx [("widths", .ref wa), ("keeps", .ref ka), ("horizons", .ref t)]) := by
        rw [← e4]
        exact upd_same
      have k4 : Kp e H H4 := by
        rw [← e4]
        exact (Kp.of ((s12.trans sc).trans st2)).trans Kp.put
      have ht4 : H4 t = some (.tup ((newH ws ks hs now).map vo)) := by
        rw [← e4, upd_ne nte, upd_same]
      rw [e4]
      exact ⟨_, rfl, e, C, dx, _, .ref t, rfl, he4, T.cl, T.nh, rfl, q t H4 ⟨dx, he4⟩ ht4 k4⟩
def spGone (K : PySem.W.Frag) (C : Addr) : Sp := fun vs H Q _ => ∃ (e wa ka ha : Addr) (ws : List Int) (hs : List (Option Int)) (i : Nat) (h : Option Int) (x : V), vs = [.ref e, x] ∧ KpO C H e wa ka ha ∧ NdT H wa (ws.map V.int) ∧ ws.Nodup ∧ SqT K H ha (hs.map vo) ∧ hs[i]? = some h ∧ ((i = 0 ∧ x = .non) ∨ ∃ j y, i = j + 1 ∧ ws[j]? = some y ∧ x = .int y) ∧ Q (vo h) H
theorem ok_gone {f : Addr} {fd : FuncData} {dvs : List V} {kws : List (Str × V)} {k : Nat} (F : FunD K "gone_before" "Keeping.gone_before" (defArgs sGone) (defBody sGone) (defScope sGone) dvs kws f fd) (T : TKeep K C) (C_check_width : Cal P w K mg base k "check_width" ["widths", "width"] (spCkw K)) :
    FnOk P w K mg base CX0 (k + 1) f fd ["self", "width"] (spGone K C) := by
  refine F.ok scGone (fun vs H Q E h => ?_) (fun cdv A outer s H vs Q E hr h => ?_)
  · obtain ⟨e, wa, ka, ha, ws, hs, i, h, x, rfl, _⟩ := h
    rfl
  · obtain ⟨e, wa, ka, ha, ws, hs, i, h, x, rfl, ⟨dx, he⟩, hw, nd, hh, eh, cs, q⟩ := h
    refine ⟨_, pss_cons (ps_if (pt_cmpR op_isN (pv 1) pe_non (nomark _))
        (pss_one (ps_ret (pe_ix ix_tup (pe_fld (pv 0) rfl) pe_int (fun _ _ => rfl))))
        pss_nil)
      (pss_cons (ps_expr (pe_cal C_check_width (hr.mono (by omega)) (by rfl) (pa_cons (pe_fld (pv 0) rfl) (pa_cons (pv 1) pa_nil))))
      (pss_one (ps_ret (pe_ix ix_tup (pe_fld (pv 0) rfl) (pe_op op_add pe_int (pe_bmF PySem.F.slot_tuple_index PySem.F.type_tuple_index mt_tup_indexI (pe_fld (pv 0) rfl) (pa_cons (pv 1) pa_nil))) (fun _ _ => rfl))))), ?_⟩
    have ev : (hs.map vo)[i]? = some (vo h) := by rw [List.getElem?_map, eh]; rfl
    rcases cs with ⟨rfl, rfl⟩ | ⟨j, y, rfl, ey, rfl⟩
    · exact ⟨_, rfl, rfl, _, rfl, if_y rfl ⟨_, rfl, e, C, dx, _, .ref ha, rfl, he, T.cl, T.nh, rfl, ha, _, _, _, rfl, rfl, hh, atI_nat ev, q⟩⟩
    · have ym := List.mem_of_getElem? ey
      have ix : ws.idxOf y = j := by
        obtain ⟨hj, e1⟩ := List.getElem?_eq_some_iff.mp ey
        rw [← e1]
        exact nd.idxOf_getElem j hj
      refine ⟨_, rfl, rfl, _, rfl, if_n rfl ⟨_, rfl, e, C, dx, _, .ref wa, rfl, he, T.cl, T.nw, rfl, _, rfl, wa, ws, y, rfl, hw.sq, ym, ?_⟩⟩
      refine ⟨_, rfl, e, C, dx, _, .ref ha, rfl, he, T.cl, T.nh, rfl, _, rfl, e, C, dx, _, .ref wa, rfl, he, T.cl, T.nw, rfl, ?_⟩
      obtain ⟨ob, nod, ew⟩ := id hw
      refine ⟨⟨wa, ob, _, rfl, nod, ew⟩, _, rfl, wa, ws, y, rfl, rfl, hw.sq, ym, _, _, rfl, rfl, ha, _, _, _, rfl, rfl, hh, ?_, q⟩
      rw [ix, show (1 + ((j : Nat) : Int)) = ((j + 1 : Nat) : Int) by omega]
      exact atI_nat ev
def spFin (K : PySem.W.Frag) (C : Addr) : Sp := fun vs H Q _ => ∃ (e wa ka ha : Addr) (ws : List Int) (hs : List (Option Int)) (t : Int), vs = [.ref e, .int t] ∧ KpO C H e wa ka ha ∧ SqT K H wa (ws.map V.int) ∧ ws.length ≤ 4 ∧ SqT K H ha (hs.map vo) ∧ hs.length = ws.length + 1 ∧ ∀ H', Same H H' → Q (vo (fin (0 :: ws) hs t)) H'
theorem fin_drop {gs : List Int} {hs : List (Option Int)} {t : Int} {i : Nat} {g : Int} {h : Option Int} (e1 : gs[i]? = some g) (e2 : hs[i]? = some h) : fin (gs.drop i) (hs.drop i) t = if cnd h t = true then some g else fin (gs.drop (i + 1)) (hs.drop (i + 1)) t := by
  obtain ⟨l1, rfl⟩ := List.getElem?_eq_some_iff.mp e1
  obtain ⟨l2, rfl⟩ := List.getElem?_eq_some_iff.mp e2
  rw [List.drop_eq_getElem_cons l1, List.drop_eq_getElem_cons l2]
  rfl
theorem ok_fin {f : Addr} {fd : FuncData} {k : Nat} (F : Fun K "finest" "Keeping.finest" sFin f fd) (T : TKeep K C) (m_zip : mg "zip" = none) : FnOk P w K mg base CX0 (k + 1) f fd ["self", "time"] (spFin K C) := by
  refine F.ok scFin (fun vs H Q E h => ?_) (fun cdv A outer s H vs Q E hr h => ?_)
  · obtain ⟨e, wa, ka, ha, ws, hs, t, rfl, _⟩ := h
    rfl
  · obtain ⟨e, wa, ka, ha, ws, hs, t, rfl, ⟨dx, he⟩, hw, l4, hh, lh, q⟩ := h
    refine ⟨_, pss_cons (ps_for PassesOwn.never rfl (RZ.pi_zipA (by rfl) m_zip (pa_cons (pe_op op_catU (pe_tup (pa_cons pe_int pa_nil)) (pe_fld (pv 0) rfl)) (pa_cons (pe_fld (pv 0) rfl) pa_nil))) (pg_tup rfl (pgs_cons (pg_name (i := 2) scFin.nd rfl (.inl rfl)) (pgs_cons (pg_name (i := 3) scFin.nd rfl (.inl rfl)) pgs_nil)))
        (pss_one (ps_if (PW.pt (pw_or (pt_cmpR op_isN (pv 3) pe_non (nomark _)) (pw_or1 (pt_cmpR op_le (pv 3) (pv 1) (nomark _)))))
          (pss_one (ps_ret (pv 2)))
          pss_nil)))
      (pss_one (ps_ret pe_non)), ?_⟩
    refine ⟨by show 1 ≤ sizeLine; decide, fun p np => ?_⟩
    have s1 := same_new (o := .tup [V.int 0]) np
    have he1 := s1 _ _ he
    refine ⟨_, rfl, e, C, dx, _, .ref wa, rfl, he1, T.cl, T.nw, rfl, p, wa, _, _, rfl, rfl, SqT.of upd_same, sqT_same s1 hw, (by rw [List.length_map]; exact Nat.le_of_lt (small1000 (by show 1 + ws.length ≤ 1000; omega))), fun g H2 s2 hg => ?_⟩
    have hg' : SqT K H2 g ((0 :: ws).map V.int) := hg
    have s12 := s1.trans s2
    have hh2 := sqT_same s12 hh
    refine ⟨_, rfl, e, C, dx, _, .ref ha, rfl, s12 _ _ he, T.cl, T.nh, rfl, g, ha, _, _, rfl, .inr ⟨hg', hh2, ?_⟩⟩
    refine for_it (walk_zipTT (K := K) (a := g) (b := ha) (xs := (0 :: ws).map V.int) (ys := hs.map vo) (by rw [List.length_map, List.length_map, lh]; rfl)) (fun i σ H3 => ∃ z2 z3 : Option V, σ = [some (.ref e), some (.int t), z2, z3] ∧ Same H2 H3 ∧ fin ((0 :: ws).drop i) (hs.drop i) t = fin (0 :: ws) hs t) ⟨none, none, rfl, Same.refl _, rfl⟩ ?_ ?_ ?_
    · rintro i σ H3 _ ⟨_, _, _, s3, _⟩
      exact ⟨sqT_same s3 hg', sqT_same s3 hh2⟩
    · rintro i x σ H3 H4 hi ⟨z2, z3, rfl, s3, ef⟩ ⟨tp, x1, x2, rfl, nT, rfl, f1, f2⟩
      obtain ⟨gr, eg, rfl⟩ := map_at f1
      obtain ⟨h, eh, rfl⟩ := map_at f2
      have s4 : Same H2 (upd H3 tp (.tup [V.int gr, vo h])) := s3.trans (same_new nT)
      rw [fin_drop eg eh] at ef
      refine ⟨tp, _, rfl, SqT.of upd_same, rfl, _, _, rfl, _, _, rfl, rfl, ?_⟩
      have yes : cnd h t = true → Q (V.int gr) (upd H3 tp (.tup [V.int gr, vo h])) := fun c => by
        rw [if_pos c] at ef
        have := q _ (s12.trans s4)
        rw [← ef] at this
        exact this
      have nos : cnd h t = false → ∃ z2 z3 : Option V, [some (V.ref e), some (V.int t), some (V.int gr), some (vo h)] = [some (.ref e), some (.int t), z2, z3] ∧ Same H2 (upd H3 tp (.tup [V.int gr, vo h])) ∧ fin ((0 :: ws).drop (i + 1)) (hs.drop (i + 1)) t = fin (0 :: ws) hs t := fun c => by
        rw [if_neg (by rw [c]; decide)] at ef
        exact ⟨_, _, rfl, s4, ef⟩
      cases h with
      | none => exact ⟨_, rfl, rfl, _, rfl, if_y rfl (if_t ⟨_, rfl, yes rfl⟩)⟩
      | some x =>
        refine ⟨_, rfl, rfl, _, rfl, if_n rfl ⟨_, rfl, _, rfl, _, _, rfl, rfl, _, rfl, ite2 (fun c => ?_) (fun c => ?_)⟩⟩
        · exact ⟨_, rfl, yes c⟩
        · exact nos (Bool.eq_false_iff.mpr c)
    · rintro σ H3 ⟨z2, z3, rfl, s3, ef⟩
      have e0 : fin (0 :: ws) hs t = none := by
        rw [← ef, List.length_map, List.drop_length]
        rfl
      have := q _ (s12.trans s3)
      rw [e0] at this
      exact this
end
end Tg

namespace Tg
open PySem PySem.Spec PyProof.Rows L2
abbrev sWidths : Stmt := topS 21
abbrev sBase : Stmt := topS 22
abbrev sNow : Stmt := topS 28
theorem scWidths : FnScope ["_law_purse_here", "_law_some"] ["_law_purse_here"] (defScope sWidths) := ⟨rfl, rfl, rfl, by decide +kernel, rfl, by decide +kernel, by decide +kernel⟩
theorem scBase : FnScope ["_law_purse_here", "_law_far"] ["_law_purse_here"] (defScope sBase) := ⟨rfl, rfl, rfl, by decide +kernel, rfl, by decide +kernel, by decide +kernel⟩
theorem scNow : FnScope ["_law_purse_here", "_law_some_widths", "_law_base_here", "_law_last", "_law_way", "_law_wide"] ["_law_purse_here", "_law_some_widths", "_law_base_here", "_law_last"] (defScope sNow) := ⟨rfl, rfl, rfl, by decide +kernel, rfl, by decide +kernel, by decide +kernel⟩
/-! ### a row of written tuples -/
def Fa (H : Hp) (as : List Addr) (wss : List (List Int)) : Prop := as.length = wss.length ∧ ∀ (i : Nat) (a : Addr) (ws : List Int), as[i]? = some a → wss[i]? = some ws → NdT H a (ws.map V.int)
theorem Fa.same {H H' : Hp} {as : List Addr} {wss : List (List Int)} (h : Fa H as wss) (s : Same H H') : Fa H' as wss := ⟨h.1, fun i a ws e1 e2 => (h.2 i a ws e1 e2).same s⟩
def TW (wss : List (List Int)) : TA := fun _ H Q => ∀ (as : List Addr) (H' : Hp), Same H H' → Fa H' as wss → Q (as.map V.ref) H'
section
variable {X : Cx}
theorem pa_tw0 : PA X [] (TW []) := ⟨fun pos pins s σ H Q I h => pa_nil.run pos pins s σ H Q I (h [] H (Same.refl _) ⟨rfl, fun i a ws e => nomatch e⟩)⟩
theorem pa_tw {e : Expr} {es : List Expr} {t : TA} {ws : List Int} {wss : List (List Int)} (he : PE X e (tTupF t)) (ht : ∀ σ H Q, Q (ws.map V.int) H → t σ H Q) (hs : ws.length ≤ sizeLine) (h : PA X es (TW wss)) (st : starEach (e :: es) X.env = (false, eval e X.env) :: starEach es X.env := by rfl) : PA X (e :: es) (TW (ws :: wss)) := by
  refine ⟨fun pos pins s σ H Q I q => (pa_cons he h st).run pos pins s σ H Q I ?_⟩
  refine ht _ _ _ ⟨by rw [List.length_map]; exact hs, fun p ob nod np as H' sm fa => ?_⟩
  refine q (p :: as) H' ((same_new np).trans sm) ⟨congrArg Nat.succ fa.1, fun i a us e1 e2 => ?_⟩
  cases i with
  | zero =>
    cases e1
    cases e2
    exact ⟨ob, nod, sm _ _ upd_same⟩
  | succ i => exact fa.2 i a us e1 e2
end
theorem wok1 (a : Int) (h : 1 ≤ a ∧ a ≤ 10 ^ 13) : WOk [a] where
  ne := fun z => nomatch z
  le := by show 1 ≤ 4; decide
  pos := fun i x e => match i, e with
    | 0, rfl => h
  up := fun i x y e1 e2 => match i, e2 with
    | n + 1, e => nomatch e
theorem wok2 (a b : Int) (h : (1 ≤ a ∧ a ≤ 10 ^ 13) ∧ (1 ≤ b ∧ b ≤ 10 ^ 13) ∧ (b ≠ a ∧ b % a = 0)) : WOk [a, b] where
  ne := fun z => nomatch z
  le := by show 2 ≤ 4; decide
  pos := fun i x e => match i, e with
    | 0, rfl => h.1
    | 1, rfl => h.2.1
  up := fun i x y e1 e2 => match i, e1, e2 with
    | 0, rfl, rfl => h.2.2
theorem wok3 (a b c : Int) (h : (1 ≤ a ∧ a ≤ 10 ^ 13) ∧ (1 ≤ b ∧ b ≤ 10 ^ 13) ∧ (1 ≤ c ∧ c ≤ 10 ^ 13) ∧ (b ≠ a ∧ b % a = 0) ∧ (c ≠ b ∧ c % b = 0)) : WOk [a, b, c] where
  ne := fun z => nomatch z
  le := by show 3 ≤ 4; decide
  pos := fun i x e => match i, e with
    | 0, rfl => h.1
    | 1, rfl => h.2.1
    | 2, rfl => h.2.2.1
  up := fun i x y e1 e2 => match i, e1, e2 with
    | 0, rfl, rfl => h.2.2.2.1
    | 1, rfl, rfl => h.2.2.2.2
theorem wok4 (a b c d : Int) (h : (1 ≤ a ∧ a ≤ 10 ^ 13) ∧ (1 ≤ b ∧ b ≤ 10 ^ 13) ∧ (1 ≤ c ∧ c ≤ 10 ^ 13) ∧ (1 ≤ d ∧ d ≤ 10 ^ 13) ∧ (b ≠ a ∧ b % a = 0) ∧ (c ≠ b ∧ c % b = 0) ∧ (d ≠ c ∧ d % c = 0)) : WOk [a, b, c, d] where
  ne := fun z => nomatch z
  le := by show 4 ≤ 4; decide
  pos := fun i x e => match i, e with
    | 0, rfl => h.1
    | 1, rfl => h.2.1
    | 2, rfl => h.2.2.1
    | 3, rfl => h.2.2.2.1
  up := fun i x y e1 e2 => match i, e1, e2 with
    | 0, rfl, rfl => h.2.2.2.2.1
    | 1, rfl, rfl => h.2.2.2.2.2.1
    | 2, rfl, rfl => h.2.2.2.2.2.2
def wss1 : List (List Int) := [[1], [10], [60, 3600], [7, 14, 140], [2, 6, 18, 90], [1, 5, 1000000000], [5, 10, 1000000000000]]
def wss2 : List (List Int) := [[1, 2, 4, 8], [12, 24], [3, 30, 300, 300000000]]
theorem wss_ok (ws : List Int) (h : ws ∈ wss1 ++ wss2) : WOk ws ∧ ws.Nodup := by
  have h' : ws ∈ [[1], [10], [60, 3600], [7, 14, 140], [2, 6, 18, 90], [1, 5, 1000000000], [5, 10, 1000000000000], [1, 2, 4, 8], [12, 24], [3, 30, 300, 300000000]] := h
  simp only [List.mem_cons, List.not_mem_nil, or_false] at h'
  rcases h' with rfl | rfl | rfl | rfl | rfl | rfl | rfl | rfl | rfl | rfl
  · exact ⟨wok1 _ (by decide), by decide⟩
  · exact ⟨wok1 _ (by decide), by decide⟩
  · exact ⟨wok2 _ _ (by decide), by decide⟩
  · exact ⟨wok3 _ _ _ (by decide), by decide⟩
  · exact ⟨wok4 _ _ _ _ (by decide), by decide⟩
  · exact ⟨wok3 _ _ _ (by decide), by decide⟩
  · exact ⟨wok3 _ _ _ (by decide), by decide⟩
  · exact ⟨wok4 _ _ _ _ (by decide), by decide⟩
  · exact ⟨wok2 _ _ (by decide), by decide⟩
  · exact ⟨wok4 _ _ _ _ (by decide), by decide⟩
section
variable {P : Program} {w : World} {K : PySem.W.Frag} {mg : Str → Option Value} {base : Heap} {C : Addr}
abbrev CDraw (P : Program) (w : World) (K : PySem.W.Frag) (mg : Str → Option Value) (base : Heap) (k : Nat) : Prop := Cal P w K mg base k "_law_draw" ["_law_purse_here", "_law_out_of"] spDraw
def spWidths : Sp := fun vs H Q _ => ∃ (p : Addr) (n : Nat), vs = [.ref p] ∧ Pu H p n ∧ n < 2 ^ 37 ∧ ∀ (a : Addr) (ws : List Int) (H' : Hp), Kp p H H' → Pu H' p (n + 2) → NdT H' a (ws.map V.int) → WOk ws → ws.Nodup → Q (.ref a) H'
theorem ok_widths {f : Addr} {fd : FuncData} {k : Nat} (F : Fun K "_law_widths" "_law_widths" sWidths f fd) (L_draw : CDraw P w K mg base k) (m_len : mg "len" = none) : FnOk P w K mg base CX0 (k + 1) f fd ["_law_purse_here"] spWidths := by
  refine F.ok scWidths (fun vs H Q E h => ?_) (fun cdv A outer s H vs Q E hr h => ?_)
  · obtain ⟨p, n, rfl, _⟩ := h
    rfl
  · obtain ⟨p, n, rfl, hp, hn, q⟩ := h
    refine ⟨_, pss_cons (ps_set (i := 1) scWidths.nd rfl (.inl rfl) (pe_lst (t := TW wss1) (pa_tw (ws := [1]) (pe_tupF (pa_cons pe_int pa_nil)) (fun _ _ _ q => q) (by decide) (pa_tw (ws := [10]) (pe_tupF (pa_cons pe_int pa_nil)) (fun _ _ _ q => q) (by decide) (pa_tw (ws := [60, 3600]) (pe_tupF (pa_cons pe_int (pa_cons pe_int pa_nil))) (fun _ _ _ q => q) (by decide) (pa_tw (ws := [7, 14, 140]) (pe_tupF (pa_cons pe_int (pa_cons pe_int (pa_cons pe_int pa_nil)))) (fun _ _ _ q => q) (by decide) (pa_tw (ws := [2, 6, 18, 90]) (pe_tupF (pa_cons pe_int (pa_cons pe_int (pa_cons pe_int (pa_cons pe_int pa_nil))))) (fun _ _ _ q => q) (by decide) (pa_tw (ws := [1, 5, 1000000000]) (pe_tupF (pa_cons pe_int (pa_cons pe_int (pa_cons pe_int pa_nil)))) (fun _ _ _ q => q) (by decide) (pa_tw (ws := [5, 10, 1000000000000]) (pe_tupF (pa_cons pe_int (pa_cons pe_int (pa_cons pe_int pa_nil)))) (fun _ _ _ q => q) (by decide) pa_tw0)))))))))
      (pss_cons (ps_set (i := 1) scWidths.nd rfl (.inl rfl) (pe_op op_cat (pv 1) (pe_lst (t := TW wss2) (pa_tw (ws := [1, 2, 4, 8]) (pe_tupF (pa_cons pe_int (pa_cons pe_int (pa_cons pe_int (pa_cons pe_int pa_nil))))) (fun _ _ _ q => q) (by decide) (pa_tw (ws := [12, 24]) (pe_tupF (pa_cons pe_int (pa_cons pe_int pa_nil))) (fun _ _ _ q => q) (by decide) (pa_tw (ws := [3, 30, 300, 300000000]) (pe_tupF (pa_cons pe_int (pa_cons pe_int (pa_cons pe_int (pa_cons pe_int pa_nil))))) (fun _ _ _ q => q) (by decide) pa_tw0))))))
      (pss_one (ps_ret (pe_ix ix_list (pv 1) (pe_cal L_draw (hr.mono (by omega)) (by rfl) (pa_cons (pv 0) (pa_cons (pe_callB call_len_seq (by rfl) m_len (by decide +kernel) (pa_cons (pv 1) pa_nil)) pa_nil))) (fun _ _ => rfl))))), ?_⟩
    intro as H1 s1 fa
    have la : as.length = 7 := fa.1
    refine ⟨by rw [List.length_map, la]; decide, fun l nl => ?_⟩
    have s2 := same_new (o := .lst (as.map V.ref)) nl
    refine ⟨_, rfl, fun bs H3 s3 fb => ?_⟩
    have lb : bs.length = 3 := fb.1
    refine ⟨by rw [List.length_map, lb]; decide, fun m nm => ?_⟩
    have s4 := same_new (o := .lst (bs.map V.ref)) nm
    refine ⟨l, m, _, _, rfl, rfl, s4 _ _ (s3 _ _ upd_same), upd_same, (by rw [List.length_map, List.length_map, la, lb]; decide), fun r nr => ?_⟩
    have s5 := same_new (o := .lst (as.map V.ref ++ bs.map V.ref)) nr
    have sA : Same H1 (upd (upd H3 m (.lst (bs.map V.ref))) r (.lst (as.map V.ref ++ bs.map V.ref))) := ((s2.trans s3).trans s4).trans s5
    have faA := fa.same sA
    have fbA := fb.same (s4.trans s5)
    have sH := s1.trans sA
    have hr : (upd (upd H3 m (.lst (bs.map V.ref))) r (.lst (as.map V.ref ++ bs.map V.ref))) r = some (.lst ((as ++ bs).map V.ref)) := by
      rw [upd_same, List.map_append]
    revert sH faA fbA hr
    generalize upd (upd H3 m (.lst (bs.map V.ref))) r (.lst (as.map V.ref ++ bs.map V.ref)) = H5
    intro faA fbA sH hr
    have hp5 := hp.same sH
    refine ⟨_, rfl, _, rfl, _, rfl, r, _, rfl, .inl (SqL.of hr), ?_⟩
    have e10 : ((as ++ bs).map V.ref).length = 10 := by rw [List.length_map, List.length_append, la, lb]
    rw [e10]
    refine ⟨p, n, 10, rfl, hp5, by omega, by decide, by decide, fun v H6 k6 p6 v0 v1 => ?_⟩
    obtain ⟨j, rfl⟩ : ∃ j : Nat, v = (j : Int) := ⟨v.toNat, by omega⟩
    have hj : j < 10 := by omega
    have nrp : r ≠ p := fun z => by
      obtain ⟨_, _, _, z2, _⟩ := hp5
      rw [z, z2] at hr
      injection hr with hr
      injection hr with hr
      have := congrArg List.length hr
      rw [e10] at this
      have z3 : (3 : Nat) = 10 := this
      exact absurd z3 (by decide)
    obtain ⟨a, ea⟩ : ∃ a, (as ++ bs)[j]? = some a := ⟨(as ++ bs)[j]'(by rw [List.length_append]; omega), List.getElem?_eq_getElem _⟩
    obtain ⟨ws, ew⟩ : ∃ ws, (wss1 ++ wss2)[j]? = some ws := ⟨(wss1 ++ wss2)[j]'(by show j < 10; exact hj), List.getElem?_eq_getElem _⟩
    have nd5 : NdT H5 a (ws.map V.int) := by
      by_cases c : j < 7
      · rw [List.getElem?_append_left (by omega)] at ea
        rw [List.getElem?_append_left (show j < wss1.length from c)] at ew
        exact faA.2 j a ws ea ew
      · rw [List.getElem?_append_right (by omega), la] at ea
        rw [List.getElem?_append_right (show wss1.length ≤ j from by show 7 ≤ j; omega)] at ew
        exact fbA.2 (j - 7) a ws ea ew
    have nd6 := nd5.kt (hp5.kt k6)
    obtain ⟨w1, w2⟩ := wss_ok ws (List.mem_of_getElem? ew)
    refine ⟨r, _, _, .ref a, rfl, rfl, SqL.of (k6 _ _ nrp hr), atI_nat (by rw [List.getElem?_map, ea]; rfl), ?_⟩
    exact q a ws H6 ((Kp.of sH).trans k6) p6 nd6 w1 w2
theorem dv {l d : Int} {M : Nat} (h0 : 1 ≤ d) (h1 : d ≤ 10 ^ 13) (hl : l.natAbs ≤ M) : l / d * d = l - l % d ∧ (l / d).natAbs ≤ M + 10 ^ 13 := by
  have e : l / d * d = l - l % d := by
    rw [Int.emod_def, Int.mul_comm]
    omega
  refine ⟨e, ?_⟩
  have m0 := Int.emod_nonneg l (show d ≠ 0 by omega)
  have m1 := Int.emod_lt_of_pos l (show 0 < d by omega)
  have a : (l / d * d).natAbs ≤ M + 10 ^ 13 := by
    rw [e]
    omega
  rw [Int.natAbs_mul] at a
  exact Nat.le_trans (Nat.le_mul_of_pos_right _ (by omega)) a
def spBase : Sp := fun vs H Q _ => ∃ (p : Addr) (n : Nat), vs = [.ref p] ∧ Pu H p n ∧ n < 2 ^ 37 ∧ ∀ (v : Int) (H' : Hp), Kp p H H' → Pu H' p (n + 4) → v.natAbs ≤ 10 ^ 14 → Q (.int v) H'
theorem ok_base {f : Addr} {fd : FuncData} {k : Nat} (F : Fun K "_law_base" "_law_base" sBase f fd) (L_draw : CDraw P w K mg base k) : FnOk P w K mg base CX0 (k + 1) f fd ["_law_purse_here"] spBase := by
  refine F.ok scBase (fun vs H Q E h => ?_) (fun cdv A outer s H vs Q E hr h => ?_)
  · obtain ⟨p, n, rfl, _⟩ := h
    rfl
  · obtain ⟨p, n, rfl, hp, hn, q⟩ := h
    refine ⟨_, pss_cons (ps_set (i := 1) scBase.nd rfl (.inl rfl) (pe_cal L_draw (hr.mono (by omega)) (by rfl) (pa_cons (pv 0) (pa_cons (pe_op op_pow pe_int pe_int) pa_nil))))
      (pss_one (ps_ret (pe_ix ix_list (pe_lst (pa_cons pe_int (pa_cons pe_int (pa_cons (pv 1) (pa_cons (pe_op op_sub pe_int (pv 1)) (pa_cons (pe_op op_mul pe_int (pe_op op_mod (pv 1) pe_int)) (pa_cons (pe_op op_sub pe_int (pe_op op_mul pe_int (pe_op op_mod (pv 1) pe_int))) pa_nil))))))) (pe_cal L_draw (hr.mono (by omega)) (by rfl) (pa_cons (pv 0) (pa_cons pe_int pa_nil))) (fun _ _ => rfl)))), ?_⟩
    refine ⟨_, rfl, 10, 14, rfl, rfl, ⟨by decide, by decide, by decide⟩, p, n, 10 ^ 14, rfl, hp, by omega, by decide, by decide, fun v H1 k1 p1 v0 v1 => ?_⟩
    have m1 := Int.emod_nonneg v (show (1000 : Int) ≠ 0 by decide)
    have m2 := Int.emod_lt_of_pos v (show (0 : Int) < 1000 by decide)
    have m3 := Int.emod_nonneg v (show (7 : Int) ≠ 0 by decide)
    have m4 := Int.emod_lt_of_pos v (show (0 : Int) < 7 by decide)
    refine ⟨_, rfl, _, rfl, _, _, rfl, rfl, _, rfl, _, _, rfl, rfl, (by show (0 : Int) < 1000; decide), _, _, rfl, rfl, .inl ⟨by decide, by decide⟩, _, rfl, _, _, rfl, rfl, (by show (0 : Int) < 7; decide), _, _, rfl, rfl, .inl ⟨by decide, by decide⟩, _, _, rfl, rfl, by show 6 ≤ sizeLine; decide, fun l nl => ?_⟩
    have s2 := same_new (o := .lst ([0, 0, v, 0 - v, 3600 * (v % 1000), 0 - 90 * (v % 7)].map V.int)) nl
    refine ⟨_, rfl, p, n + 2, 6, rfl, p1.same s2, by omega, by decide, by decide, fun u H3 k3 p3 u0 u1 => ?_⟩
    obtain ⟨x, hx, ex⟩ := atI_mem (xs := [0, 0, v, 0 - v, 3600 * (v % 1000), 0 - 90 * (v % 7)]) (i := u) u0 u1
    have xb : x.natAbs ≤ 10 ^ 14 := by
      simp only [List.mem_cons, or_false, List.not_mem_nil] at hx
      rcases hx with rfl | rfl | rfl | rfl | rfl | rfl <;> omega
    exact ⟨l, _, u, .int x, rfl, rfl, SqL.of (k3 _ _ (p1.ne nl) upd_same), ex, q x H3 ((k1.trans (.of s2)).trans k3) p3 xb⟩
def spNow (K : PySem.W.Frag) : Sp := fun vs H Q _ => ∃ (p wa : Addr) (n M : Nat) (ws : List Int) (b l : Int), vs = [.ref p, .ref wa, .int b, .int l] ∧ Pu H p n ∧ n < 2 ^ 37 ∧ SqT K H wa (ws.map V.int) ∧ WOk ws ∧ b.natAbs ≤ M ∧ l.natAbs ≤ M ∧ M ≤ 10 ^ 18 ∧ ∀ (v : Int) (H' : Hp), Kp p H H' → Pu H' p (n + 6) → v.natAbs ≤ M + 10 ^ 14 → Q (.int v) H'
theorem w_first {ws : List Int} (ok : WOk ws) : ∃ x, atI (ws.map V.int) 0 = some (.int x) ∧ 1 ≤ x ∧ x ≤ 10 ^ 13 := by
  have l0 : 0 < ws.length := List.length_pos_iff.mpr ok.ne
  have e : ws[0]? = some ws[0] := List.getElem?_eq_getElem l0
  refine ⟨ws[0], ?_, ok.pos 0 _ e⟩
  show atI _ ((0 : Nat) : Int) = _
  exact atI_nat (by rw [List.getElem?_map, e]; rfl)
theorem w_last {ws : List Int} (ok : WOk ws) : ∃ x, atI (ws.map V.int) (-1) = some (.int x) ∧ 1 ≤ x ∧ x ≤ 10 ^ 13 := by
  rcases List.eq_nil_or_concat ws with e | ⟨r, x, e⟩
  · exact absurd e ok.ne
  rw [List.concat_eq_append] at e
  refine ⟨x, ?_, ok.pos r.length x ?_⟩
  · rw [e, List.map_append]
    exact atI_last _ _
  · rw [e, List.getElem?_append_right (Nat.le_refl _), Nat.sub_self]
    rfl
theorem ok_now {f : Addr} {fd : FuncData} {k : Nat} (F : Fun K "_law_now" "_law_now" sNow f fd) (L_draw : CDraw P w K mg base k) : FnOk P w K mg base CX0 (k + 1) f fd ["_law_purse_here", "_law_some_widths", "_law_base_here", "_law_last"] (spNow K) := by
  refine F.ok scNow (fun vs H Q E h => ?_) (fun cdv A outer s H vs Q E hr h => ?_)
  · obtain ⟨p, wa, n, M, ws, b, l, rfl, _⟩ := h
    rfl
  · obtain ⟨p, wa, n, M, ws, b, l, rfl, hp, hn, hw, ok, hb, hl, hM, q⟩ := h
    refine ⟨_, pss_cons (ps_set (i := 4) scNow.nd rfl (.inl rfl) (pe_cal L_draw (hr.mono (by omega)) (by rfl) (pa_cons (pv 0) (pa_cons pe_int pa_nil))))
      (pss_cons (ps_set (i := 5) scNow.nd rfl (.inl rfl) (pe_ix ix_list (pe_lst (pa_cons (pe_ix ix_tup (pv 1) pe_int (fun _ _ => rfl)) (pa_cons (pe_ix ix_tup (pv 1) (pe_un un_neg pe_int) (fun _ _ => rfl)) pa_nil))) (pe_cal L_draw (hr.mono (by omega)) (by rfl) (pa_cons (pv 0) (pa_cons pe_int pa_nil))) (fun _ _ => rfl)))
      (pss_cons (ps_if (pt_cmpR op_eq (pv 4) pe_int (nomark _))
        (pss_one (ps_ret (pv 3)))
        pss_nil)
      (pss_cons (ps_if (pt_cmpR op_eq (pv 4) pe_int (nomark _))
        (pss_one (ps_ret (pe_op op_sub (pv 3) (pe_cal L_draw (hr.mono (by omega)) (by rfl) (pa_cons (pv 0) (pa_cons (pe_op op_mul pe_int (pv 5)) pa_nil))))))
        pss_nil)
      (pss_cons (ps_if (pt_cmpR op_eq (pv 4) pe_int (nomark _))
        (pss_one (ps_ret (pe_op op_sub (pe_op op_mulW (pe_op op_add (pe_op op_fdivW (pv 3) (pv 5)) pe_int) (pv 5)) (pe_cal L_draw (hr.mono (by omega)) (by rfl) (pa_cons (pv 0) (pa_cons pe_int pa_nil))))))
        pss_nil)
      (pss_cons (ps_if (pt_cmpR op_eq (pv 4) pe_int (nomark _))
        (pss_one (ps_ret (pv 2)))
        pss_nil)
      (pss_one (ps_ret (pe_op op_add (pv 3) (pe_cal L_draw (hr.mono (by omega)) (by rfl) (pa_cons (pv 0) (pa_cons (pe_op op_mul pe_int (pv 5)) pa_nil))))))))))), ?_⟩
    obtain ⟨x0, e0, a0, a1⟩ := w_first ok
    obtain ⟨x1, e1, c0, c1⟩ := w_last ok
    refine ⟨_, rfl, p, n, 6, rfl, hp, by omega, by decide, by decide, fun v H1 k1 p1 v0 v1 => ?_⟩
    have hw1 : SqT K H1 wa (ws.map V.int) := sqT_kt (hp.kt k1) hw
    refine ⟨_, rfl, wa, _, 0, .int x0, rfl, rfl, hw1, e0, _, rfl, 1, rfl, wa, _, -1, .int x1, rfl, rfl, hw1, e1, by show 2 ≤ sizeLine; decide, fun m nm => ?_⟩
    have s2 := same_new (o := .lst ([x0, x1].map V.int)) nm
    refine ⟨_, rfl, p, n + 2, 2, rfl, p1.same s2, by omega, by decide, by decide, fun u H3 k3 p3 u0 u1 => ?_⟩
    obtain ⟨wd, hwd, ex⟩ := atI_mem (xs := [x0, x1]) (i := u) u0 u1
    have wb : 1 ≤ wd ∧ wd ≤ 10 ^ 13 := by
      simp only [List.mem_cons, List.not_mem_nil, or_false] at hwd
      rcases hwd with rfl | rfl
      · exact ⟨a0, a1⟩
      · exact ⟨c0, c1⟩
    have kk : Kp p H H3 := (k1.trans (.of s2)).trans k3
    refine ⟨m, _, u, .int wd, rfl, rfl, SqL.of (k3 _ _ (p1.ne nm) upd_same), ex, ?_⟩
    refine ⟨_, rfl, rfl, _, rfl, ite2 (fun g => ?_) (fun g => ?_)⟩
    · exact ⟨_, rfl, q _ _ kk (p3.mono (by omega)) (by omega)⟩
    refine ⟨_, rfl, rfl, _, rfl, ite2 (fun g => ?_) (fun g => ?_)⟩
    · refine ⟨_, rfl, _, rfl, _, rfl, _, _, rfl, rfl, .inl ⟨by decide, by decide⟩, p, n + 4, 3 * wd, rfl, p3, by omega, by omega, by omega, fun y H4 k4 p4 y0 y1 => ⟨_, _, rfl, rfl, q _ _ (kk.trans k4) p4 (by omega)⟩⟩
    refine ⟨_, rfl, rfl, _, rfl, ite2 (fun g => ?_) (fun g => ?_)⟩
    · obtain ⟨d1, d2⟩ := dv wb.1 wb.2 hl
      have m0 := Int.emod_nonneg l (show wd ≠ 0 by omega)
      have m1 := Int.emod_lt_of_pos l (show 0 < wd by omega)
      refine ⟨_, rfl, _, rfl, _, _, rfl, rfl, wide_div (b := 50) (by omega) (by omega) (by decide) (by decide), _, _, rfl, rfl, _, rfl, _, _, rfl, rfl, wide_mul (a := 64) (b := 64) (by omega) (by omega) (by decide) (by decide) (by decide), ?_⟩
      refine ⟨_, rfl, p, n + 4, 2, rfl, p3, by omega, by decide, by decide, fun y H4 k4 p4 y0 y1 => ⟨_, _, rfl, rfl, q _ _ (kk.trans k4) p4 ?_⟩⟩
      rw [Int.add_mul, d1]
      omega
    refine ⟨_, rfl, rfl, _, rfl, ite2 (fun g => ?_) (fun g => ?_)⟩
    · exact ⟨_, rfl, q _ _ kk (p3.mono (by omega)) (by omega)⟩
    · refine ⟨_, rfl, _, rfl, _, rfl, _, _, rfl, rfl, .inl ⟨by decide, by decide⟩, p, n + 4, 3 * wd, rfl, p3, by omega, by omega, by omega, fun y H4 k4 p4 y0 y1 => ⟨_, _, rfl, rfl, q _ _ (kk.trans k4) p4 (by omega)⟩⟩
end
end Tg

namespace Tg
open PySem PySem.Spec PyProof.Rows L2
abbrev sHz : Stmt := topS 24
abbrev sLFin : Stmt := topS 25
abbrev sOrd : Stmt := topS 26
theorem scHz : FnScope ["_law_some_widths", "_law_some_keeps", "_law_old", "_law_now_here", "_law_found", "_law_grade", "_law_keep", "_law_new", "_law_unit"] ["_law_some_widths", "_law_some_keeps", "_law_old", "_law_now_here"] (defScope sHz) := ⟨rfl, rfl, rfl, by decide +kernel, rfl, by decide +kernel, by decide +kernel⟩
theorem scLFin : FnScope ["_law_some_widths", "_law_horizons_here", "_law_time", "_law_grades", "_law_grade", "_law_horizon"] ["_law_some_widths", "_law_horizons_here", "_law_time"] (defScope sLFin) := ⟨rfl, rfl, rfl, by decide +kernel, rfl, by decide +kernel, by decide +kernel⟩
theorem scOrd : FnScope ["_law_some_widths", "_law_horizons_here", "_law_grade", "_law_horizon"] ["_law_some_widths", "_law_horizons_here"] (defScope sOrd) := ⟨rfl, rfl, rfl, by decide +kernel, rfl, by decide +kernel, by decide +kernel⟩
theorem at_min {ws : List Int} (ok : WOk ws) (i : Nat) : atI (ws.map V.int) (if ((ws.length : Int) - 1) < ((i : Nat) : Int) then (ws.length : Int) - 1 else ((i : Nat) : Int)) = some (.int (wAt ws i)) := by
  have l0 : 0 < ws.length := List.length_pos_iff.mpr ok.ne
  have e : (if ((ws.length : Int) - 1) < ((i : Nat) : Int) then (ws.length : Int) - 1 else ((i : Nat) : Int)) = ((min i (ws.length - 1) : Nat) : Int) := by
    split <;> omega
  rw [e]
  refine atI_nat ?_
  rw [List.getElem?_map, List.getElem?_eq_getElem (show min i (ws.length - 1) < ws.length by omega)]
  unfold wAt
  rw [gD (show min i (ws.length - 1) < ws.length by omega)]
  rfl
section
variable {P : Program} {w : World} {K : PySem.W.Frag} {mg : Str → Option Value} {base : Heap} {C : Addr}
def spLFin (K : PySem.W.Frag) : Sp := fun vs H Q _ => ∃ (wa ha : Addr) (ws : List Int) (hs : List (Option Int)) (t : Int), vs = [.ref wa, .ref ha, .int t] ∧ SqT K H wa (ws.map V.int) ∧ ws.length ≤ 4 ∧ SqT K H ha (hs.map vo) ∧ hs.length = ws.length + 1 ∧ ∀ H', Same H H' → Q (vo (fin (0 :: ws) hs t)) H'
theorem ok_lfin {f : Addr} {fd : FuncData} {k : Nat} (F : Fun K "_law_finest" "_law_finest" sLFin f fd) (m_zip : mg "zip" = none) : FnOk P w K mg base CX0 (k + 1) f fd ["_law_some_widths", "_law_horizons_here", "_law_time"] (spLFin K) := by
  refine F.ok scLFin (fun vs H Q E h => ?_) (fun cdv A outer s H vs Q E hr h => ?_)
  · obtain ⟨wa, ha, ws, hs, t, rfl, _⟩ := h
    rfl
  · obtain ⟨wa, ha, ws, hs, t, rfl, hw, l4, hh, lh, q⟩ := h
    refine ⟨_, pss_cons (ps_set (i := 3) scLFin.nd rfl (.inl rfl) (pe_op op_catU (pe_tup (pa_cons pe_int pa_nil)) (pv 0)))
      (pss_cons (ps_for PassesOwn.never rfl (RZ.pi_zipA (by rfl) m_zip (pa_cons (pv 3) (pa_cons (pv 1) pa_nil))) (pg_tup rfl (pgs_cons (pg_name (i := 4) scLFin.nd rfl (.inl rfl)) (pgs_cons (pg_name (i := 5) scLFin.nd rfl (.inl rfl)) pgs_nil)))
        (pss_one (ps_if (PW.pt (pw_or (pt_cmpR op_isN (pv 5) pe_non (nomark _)) (pw_or1 (pt_cmpR op_ge (pv 2) (pv 5) (nomark _)))))
          (pss_one (ps_ret (pv 4)))
          pss_nil)))
      (pss_one (ps_ret pe_non))), ?_⟩
    refine ⟨by show 1 ≤ sizeLine; decide, fun p np => ?_⟩
    have s1 := same_new (o := .tup [V.int 0]) np
    refine ⟨_, rfl, p, wa, _, _, rfl, rfl, SqT.of upd_same, sqT_same s1 hw, (by rw [List.length_map]; exact Nat.le_of_lt (small1000 (by show 1 + ws.length ≤ 1000; omega))), fun g H2 s2 hg => ?_⟩
    have hg' : SqT K H2 g ((0 :: ws).map V.int) := hg
    have s12 := s1.trans s2
    have hh2 := sqT_same s12 hh
    refine ⟨_, rfl, _, rfl, g, ha, _, _, rfl, .inr ⟨hg', hh2, ?_⟩⟩
    refine for_it (walk_zipTT (K := K) (a := g) (b := ha) (xs := (0 :: ws).map V.int) (ys := hs.map vo) (by rw [List.length_map, List.length_map, lh]; rfl)) (fun i σ H3 => ∃ z2 z3 : Option V, σ = [some (.ref wa), some (.ref ha), some (.int t), some (.ref g), z2, z3] ∧ Same H2 H3 ∧ fin ((0 :: ws).drop i) (hs.drop i) t = fin (0 :: ws) hs t) ⟨none, none, rfl, Same.refl _, rfl⟩ ?_ ?_ ?_
    · rintro i σ H3 _ ⟨_, _, _, s3, _⟩
      exact ⟨sqT_same s3 hg', sqT_same s3 hh2⟩
    · rintro i x σ H3 H4 hi ⟨z2, z3, rfl, s3, ef⟩ ⟨tp, x1, x2, rfl, nT, rfl, f1, f2⟩
      obtain ⟨gr, eg, rfl⟩ := map_at f1
      obtain ⟨h, eh, rfl⟩ := map_at f2
      have s4 : Same H2 (upd H3 tp (.tup [V.int gr, vo h])) := s3.trans (same_new nT)
      rw [fin_drop eg eh] at ef
      refine ⟨tp, _, rfl, SqT.of upd_same, rfl, _, _, rfl, _, _, rfl, rfl, ?_⟩
      have yes : cnd h t = true → Q (V.int gr) (upd H3 tp (.tup [V.int gr, vo h])) := fun c => by
        rw [if_pos c] at ef
        have := q _ (s12.trans s4)
        rw [← ef] at this
        exact this
      have nos : cnd h t = false → ∃ z2 z3 : Option V, [some (V.ref wa), some (V.ref ha), some (V.int t), some (V.ref g), some (V.int gr), some (vo h)] = [some (.ref wa), some (.ref ha), some (.int t), some (.ref g), z2, z3] ∧ Same H2 (upd H3 tp (.tup [V.int gr, vo h])) ∧ fin ((0 :: ws).drop (i + 1)) (hs.drop (i + 1)) t = fin (0 :: ws) hs t := fun c => by
        rw [if_neg (by rw [c]; decide)] at ef
        exact ⟨_, _, rfl, s4, ef⟩
      cases h with
      | none => exact ⟨_, rfl, rfl, _, rfl, if_y rfl (if_t ⟨_, rfl, yes rfl⟩)⟩
      | some x =>
        refine ⟨_, rfl, rfl, _, rfl, if_n rfl ⟨_, rfl, _, rfl, _, _, rfl, rfl, _, rfl, ite2 (fun c => ?_) (fun c => ?_)⟩⟩
        · exact ⟨_, rfl, yes c⟩
        · exact nos (Bool.eq_false_iff.mpr c)
    · rintro σ H3 ⟨z2, z3, rfl, s3, ef⟩
      have e0 : fin (0 :: ws) hs t = none := by
        rw [← ef, List.length_map, List.drop_length]
        rfl
      have := q _ (s12.trans s3)
      rw [e0] at this
      exact this
/-! ### horizons as the law reckons them -/
def spHz (K : PySem.W.Frag) : Sp := fun vs H Q _ => ∃ (wa ka ha : Addr) (ws : List Int) (ks hs : List (Option Int)) (now : Int), vs = [.ref wa, .ref ka, .ref ha, .int now] ∧ SqT K H wa (ws.map V.int) ∧ WOk ws ∧ SqT K H ka (ks.map vo) ∧ SqT K H ha (hs.map vo) ∧ ks.length = ws.length + 1 ∧ hs.length = ws.length + 1 ∧
  (∀ i : Nat, ks[i]? = some none → hs[i]? = some none) ∧ (∀ (i : Nat) (x : Int), ks[i]? = some (some x) → x.natAbs ≤ 10 ^ 15) ∧ now.natAbs ≤ 10 ^ 18 ∧ ∀ (a : Addr) (H' : Hp), Same H H' → H' a = some (.tup ((newH ws ks hs now).map vo)) → Q (.ref a) H'
theorem ok_hz {f : Addr} {fd : FuncData} {k : Nat} (F : Fun K "_law_horizons" "_law_horizons" sHz f fd) (m_enumerate : mg "enumerate" = none) (m_min : mg "min" = none) (m_max : mg "max" = none) (m_len : mg "len" = none) (m_tuple : mg "tuple" = none) : FnOk P w K mg base CX0 (k + 1) f fd ["_law_some_widths", "_law_some_keeps", "_law_old", "_law_now_here"] (spHz K) := by
  refine F.ok scHz (fun vs H Q E h => ?_) (fun cdv A outer s H vs Q E hr h => ?_)
  · obtain ⟨wa, ka, ha, ws, ks, hs, now, rfl, _⟩ := h
    rfl
  · obtain ⟨wa, ka, ha, ws, ks, hs, now, rfl, hw, ok, hk, hh, lk, lh, nn, kb, nb, q⟩ := h
    refine ⟨_, pss_cons (ps_set (i := 4) scHz.nd rfl (.inl rfl) (pe_lst pa_nil))
      (pss_cons (ps_for PassesOwn.never rfl (pi_enumT (by rfl) m_enumerate (pa_cons (pv 1) pa_nil)) (pg_tup rfl (pgs_cons (pg_name (i := 5) scHz.nd rfl (.inl rfl)) (pgs_cons (pg_name (i := 6) scHz.nd rfl (.inl rfl)) pgs_nil)))
        (pss_cons (ps_set (i := 7) scHz.nd rfl (.inl rfl) (pe_ix ix_tup (pv 2) (pv 5) (fun _ _ => rfl)))
        (pss_cons (ps_if (pt_cmpR op_notN (pv 6) pe_non (nomark _))
          (pss_cons (ps_set (i := 8) scHz.nd rfl (.inl rfl) (pe_ix ix_tup (pv 0) (pe_callB (call_min2 rfl) (by rfl) m_min boot_min (pa_cons (pv 5) (pa_cons (pe_op op_sub (pe_callB call_len_seq (by rfl) m_len (by decide +kernel) (pa_cons (pv 0) pa_nil)) pe_int) pa_nil))) (fun _ _ => rfl)))
          (pss_cons (ps_set (i := 7) scHz.nd rfl (.inl rfl) (pe_op op_mulW (pe_op op_fdivW (pe_op op_sub (pv 3) (pv 6)) (pv 8)) (pv 8)))
          (pss_one (ps_if (pt_cmpR op_notN (pe_ix ix_tup (pv 2) (pv 5) (fun _ _ => rfl)) pe_non (nomark _))
            (pss_one (ps_set (i := 7) scHz.nd rfl (.inl rfl) (pe_callB (call_max2 rfl) (by rfl) m_max boot_max (pa_cons (pv 7) (pa_cons (pe_ix ix_tup (pv 2) (pv 5) (fun _ _ => rfl)) pa_nil)))))
            pss_nil))))
          pss_nil)
        (pss_one (ps_expr (pe_bm PySem.F.plainAttrs_list PySem.F.slot_list_append PySem.F.type_list_append mt_append (pv 4) (pa_cons (pv 7) pa_nil)))))))
      (pss_one (ps_ret (pe_callTy call_tuple_of (by rfl) m_tuple (by decide +kernel) (pa_cons (pv 4) pa_nil))))), ?_⟩
    have lw : (ws.map V.int).length = ws.length := List.length_map ..
    refine ⟨Nat.zero_le _, fun l nl => ?_⟩
    have s1 := same_new (o := .lst []) nl
    refine ⟨_, rfl, ka, _, rfl, sqT_same s1 hk, ?_⟩
    refine for_it (walk_enumT (K := K) (a := ka) (xs := ks.map vo)) (fun i σ H2 => ∃ z5 z6 z7 z8 : Option V, σ = [some (.ref wa), some (.ref ka), some (.ref ha), some (.int now), some (.ref l), z5, z6, z7, z8] ∧ Same H H2 ∧ H2 l = some (.lst (((newH ws ks hs now).take i).map vo))) ⟨none, none, none, none, rfl, s1, upd_same⟩ ?_ ?_ ?_
    · rintro i σ H2 _ ⟨_, _, _, _, _, s2, _⟩
      exact sqT_same s2 hk
    · rintro i x σ H2 H3 hi ⟨z5, z6, z7, z8, rfl, s2, hl⟩ ⟨tp, x1, x2, rfl, nT, rfl, e1, e2⟩
      cases e1
      obtain ⟨kp, ek, rfl⟩ := map_at e2
      have hi' : i < ws.length + 1 := by
        rw [List.length_map, lk] at hi
        exact hi
      obtain ⟨h, eh⟩ : ∃ h, hs[i]? = some h := ⟨hs[i]'(by omega), List.getElem?_eq_getElem _⟩
      have evh : atI (hs.map vo) ((i : Nat) : Int) = some (vo h) := atI_nat (by rw [List.getElem?_map, eh]; rfl)
      have sT := same_new (o := .tup [V.int (i : Nat), vo kp]) nT
      have s3 := s2.trans sT
      have hl3 := sT _ _ hl
      have hh3 := sqT_same s3 hh
      have hw3 := sqT_same s3 hw
      have ll : (((newH ws ks hs now).take i).map vo).length ≤ 5 := by
        have h1 := List.length_take_le' i (newH ws ks hs now)
        rw [newH_len] at h1
        have := ok.le
        rw [List.length_map]
        omega
      have put : ∀ (u : V) (z8' : Option V), u = vo (hb h now kp (wAt ws i)) → ∃ z5' z6' z7' z8'' : Option V, [some (V.ref wa), some (V.ref ka), some (V.ref ha), some (V.int now), some (V.ref l), some (V.int (i : Nat)), some (vo kp), some u, z8'] = [some (.ref wa), some (.ref ka), some (.ref ha), some (.int now), some (.ref l), z5', z6', z7', z8''] ∧ Same H (upd (upd H2 tp (.tup [V.int (i : Nat), vo kp])) l (.lst (((newH ws ks hs now).take i).map vo ++ [u]))) ∧
          (upd (upd H2 tp (.tup [V.int (i : Nat), vo kp])) l (.lst (((newH ws ks hs now).take i).map vo ++ [u]))) l = some (.lst (((newH ws ks hs now).take (i + 1)).map vo)) := fun u z8' eu => by
        refine ⟨_, _, _, _, rfl, same_put nl s3, ?_⟩
        rw [upd_same, List.take_add_one, newH_at eh ek hi', List.map_append, eu]
        rfl
      refine ⟨tp, _, rfl, SqT.of upd_same, rfl, _, _, rfl, _, _, rfl, rfl, ?_⟩
      refine ⟨_, rfl, _, rfl, ha, _, _, _, rfl, rfl, hh3, evh, ?_⟩
      cases kp with
      | none =>
        have h0 : h = none := by
          have := nn i ek
          rw [eh] at this
          exact Option.some.inj this
        subst h0
        exact ⟨_, rfl, rfl, _, rfl, if_n rfl ⟨_, rfl, .inl ⟨rfl, _, SqL.of hl3⟩, _, rfl, l, _, _, rfl, rfl, hl3, small1000 (by omega), put _ _ rfl⟩⟩
      | some kp =>
        have kb' := kb i kp ek
        have wp := wAt_pos ok i
        obtain ⟨d1, d2⟩ := dv (l := now - kp) (M := 10 ^ 18 + 10 ^ 15) wp.1 wp.2 (by omega)
        have em := at_min ok i
        refine ⟨_, rfl, rfl, _, rfl, if_y rfl ?_⟩
        refine ⟨_, rfl, _, rfl, _, rfl, wa, _, rfl, .inr hw3, _, _, rfl, rfl, _, _, rfl, wa, _, _, .int (wAt ws i), rfl, rfl, hw3, (by rw [lw]; exact em), ?_⟩
        refine ⟨_, rfl, _, rfl, _, _, rfl, rfl, _, rfl, _, _, rfl, rfl, wide_div (b := 50) (by omega) (by omega) (by decide) (by decide), _, rfl, _, _, rfl, rfl, wide_mul (a := 64) (b := 64) (by omega) (by omega) (by decide) (by decide) (by decide), ?_⟩
        refine ⟨_, rfl, _, rfl, ha, _, _, _, rfl, rfl, hh3, evh, rfl, ?_⟩
        cases h with
        | none => exact ⟨_, rfl, if_n rfl ⟨_, rfl, .inl ⟨rfl, _, SqL.of hl3⟩, _, rfl, l, _, _, rfl, rfl, hl3, small1000 (by omega), put _ _ (congrArg V.int d1)⟩⟩
        | some x =>
          refine ⟨_, rfl, if_y rfl ⟨_, rfl, _, rfl, _, rfl, ha, _, _, _, rfl, rfl, hh3, evh, _, _, rfl, ?_⟩⟩
          have er : (if x > (now - kp) / wAt ws i * wAt ws i then x else (now - kp) / wAt ws i * wAt ws i) = (if now - kp - (now - kp) % wAt ws i > x then now - kp - (now - kp) % wAt ws i else x) := by
            rw [d1]
            split <;> split <;> omega
          exact ⟨_, rfl, .inl ⟨rfl, _, SqL.of hl3⟩, _, rfl, l, _, _, rfl, rfl, hl3, small1000 (by omega), put _ _ (congrArg V.int er)⟩
    · rintro σ H2 ⟨z5, z6, z7, z8, rfl, s2, hl⟩
      rw [List.length_map, lk, ← newH_len ws ks hs now, List.take_length] at hl
      exact ⟨_, rfl, l, _, rfl, .inl ⟨SqL.of hl, fun a na => q a _ (s2.trans (same_new na)) upd_same⟩⟩
/-- horizons as they may stand -/
structure HOk (ws : List Int) (hs : List (Option Int)) : Prop where
  mul : ∀ (i : Nat) (x : Int), hs[i]? = some (some x) → x % wAt ws i = 0
  down : ∀ (i : Nat) (x y : Int), hs[i]? = some (some x) → hs[i + 1]? = some (some y) → y ≤ x
def spOrd (K : PySem.W.Frag) : Sp := fun vs H Q _ => ∃ (wa ha : Addr) (ws : List Int) (hs : List (Option Int)), vs = [.ref wa, .ref ha] ∧ SqT K H wa (ws.map V.int) ∧ WOk ws ∧ H ha = some (.tup (hs.map vo)) ∧ HOk ws hs ∧ ∀ H', Same H H' → Q (.bl true) H'
theorem ok_ord {f : Addr} {fd : FuncData} {k : Nat} (F : Fun K "_law_in_order" "_law_in_order" sOrd f fd) (m_enumerate : mg "enumerate" = none) (m_min : mg "min" = none) (m_len : mg "len" = none) (m_tuple : mg "tuple" = none) (m_isinstance : mg "isinstance" = none) (m_bool : mg "bool" = none) (m_int : mg "int" = none) : FnOk P w K mg base CX0 (k + 1) f fd ["_law_some_widths", "_law_horizons_here"] (spOrd K) := by
  refine F.ok scOrd (fun vs H Q E h => ?_) (fun cdv A outer s H vs Q E hr h => ?_)
  · obtain ⟨wa, ha, ws, hs, rfl, _⟩ := h
    rfl
  · obtain ⟨wa, ha, ws, hs, rfl, hw, ok, hh, ho, q⟩ := h
    refine ⟨_, pss_cons (ps_for PassesOwn.never rfl (pi_enumT (by rfl) m_enumerate (pa_cons (pv 1) pa_nil)) (pg_tup rfl (pgs_cons (pg_name (i := 2) scOrd.nd rfl (.inl rfl)) (pgs_cons (pg_name (i := 3) scOrd.nd rfl (.inl rfl)) pgs_nil)))
        (pss_cons (ps_if (PW.pt (pw_and (pt_cmpR op_notN (pv 3) pe_non (nomark _)) (pw_and1 (PW.pt (pw_or (pt_val (pe_callB call_isi (by rfl) m_isinstance (by decide +kernel) (pa_cons (pv 3) (pa_cons (pe_bltn (v := .ty "bool") (by rfl) m_bool (by decide +kernel) rfl) pa_nil)))) (pw_or1 (pt_not (pt_val (pe_callB call_isi (by rfl) m_isinstance (by decide +kernel) (pa_cons (pv 3) (pa_cons (pe_bltn (v := .ty "int") (by rfl) m_int (by decide +kernel) rfl) pa_nil)))))))))))
          (pss_one (ps_ret pe_bl))
          pss_nil)
        (pss_cons (ps_if (PW.pt (pw_and (pt_cmpR op_notN (pv 3) pe_non (nomark _)) (pw_and1 (pt_cmpR op_ne (pe_op op_mod (pv 3) (pe_ix ix_tup (pv 0) (pe_callB (call_min2 rfl) (by rfl) m_min boot_min (pa_cons (pv 2) (pa_cons (pe_op op_sub (pe_callB call_len_seq (by rfl) m_len (by decide +kernel) (pa_cons (pv 0) pa_nil)) pe_int) pa_nil))) (fun _ _ => rfl))) pe_int (nomark _)))))
          (pss_one (ps_ret pe_bl))
          pss_nil)
        (pss_one (ps_if (PW.pt (pw_and (pt_cmpR op_gt (pv 2) pe_int (nomark _)) (pw_and (pt_cmpR op_notN (pv 3) pe_non (nomark _)) (pw_and (pt_cmpR op_notN (pe_ix ix_tup (pv 1) (pe_op op_sub (pv 2) pe_int) (fun _ _ => rfl)) pe_non (nomark _)) (pw_and1 (pt_cmpR op_gt (pv 3) (pe_ix ix_tup (pv 1) (pe_op op_sub (pv 2) pe_int) (fun _ _ => rfl)) (nomark _)))))))
          (pss_one (ps_ret pe_bl))
          pss_nil)))))
      (pss_one (ps_ret (pe_callB call_isi (by rfl) m_isinstance (by decide +kernel) (pa_cons (pv 1) (pa_cons (pe_bltn (v := .ty "tuple") (by rfl) m_tuple (by decide +kernel) rfl) pa_nil))))), ?_⟩
    have lw : (ws.map V.int).length = ws.length := List.length_map ..
    refine ⟨_, rfl, ha, _, rfl, SqT.of hh, for_it (walk_enumT (K := K) (a := ha) (xs := hs.map vo)) (fun i σ H2 => ∃ z2 z3 : Option V, σ = [some (.ref wa), some (.ref ha), z2, z3] ∧ Same H H2) ⟨none, none, rfl, Same.refl _⟩ ?_ ?_ ?_⟩
    · rintro i σ H2 _ ⟨_, _, _, s2⟩
      exact SqT.of (s2 _ _ hh)
    · rintro i x σ H2 H3 hi ⟨z2, z3, rfl, s2⟩ ⟨tp, x1, x2, rfl, nT, rfl, e1, e2⟩
      cases e1
      obtain ⟨h, eh, rfl⟩ := map_at e2
      have s3 : Same H (upd H2 tp (.tup [V.int (i : Nat), vo h])) := s2.trans (same_new nT)
      have hw3 := sqT_same s3 hw
      have hh3 : SqT K (upd H2 tp (.tup [V.int (i : Nat), vo h])) ha (hs.map vo) := SqT.of (s3 _ _ hh)
      refine ⟨tp, _, rfl, SqT.of upd_same, rfl, _, _, rfl, _, _, rfl, rfl, ?_⟩
      cases h with
      | none =>
        refine ⟨_, rfl, rfl, _, rfl, if_n rfl (if_f ⟨_, rfl, rfl, _, rfl, if_n rfl (if_f ⟨_, rfl, _, _, rfl, rfl, _, rfl, ite2 (fun g => ?_) (fun g => ?_)⟩)⟩)⟩
        · exact ⟨_, rfl, rfl, _, rfl, if_n rfl (if_f ⟨_, _, rfl, s3⟩)⟩
        · exact if_f ⟨_, _, rfl, s3⟩
      | some x =>
        have em := at_min ok i
        have wp := wAt_pos ok i
        refine ⟨_, rfl, rfl, _, rfl, if_y rfl ⟨_, rfl, _, _, _, _, false, rfl, .ty "bool", .base (.int x), rfl, false, rfl, if_f ⟨_, rfl, _, _, _, _, true, rfl, .ty "int", .base (.int x), rfl, true, rfl, if_f ?_⟩⟩⟩
        refine ⟨_, rfl, rfl, _, rfl, if_y rfl ⟨_, rfl, _, rfl, _, rfl, _, rfl, wa, _, rfl, .inr hw3, _, _, rfl, rfl, _, _, rfl, wa, _, _, .int (wAt ws i), rfl, rfl, hw3, (by rw [lw]; exact em), _, _, rfl, rfl, (by omega), rfl, _, rfl, if_n ?_ ?_⟩⟩
        · show (!decide (V.int (x % wAt ws i) = V.int 0)) = false
          rw [ho.mul i x eh]
          rfl
        · refine ⟨_, rfl, _, _, rfl, rfl, _, rfl, ite2 (fun g => ?_) (fun g => ?_)⟩
          · cases i with
            | zero => exact absurd (of_decide_eq_true g) (by decide)
            | succ i =>
              obtain ⟨h0, eh0⟩ : ∃ h0, hs[i]? = some h0 := ⟨hs[i]'(by rw [List.length_map] at hi; omega), List.getElem?_eq_getElem _⟩
              have ex : atI (hs.map vo) (((i + 1 : Nat) : Int) - 1) = some (vo h0) := at_pred (by rw [List.getElem?_map, eh0]; rfl)
              refine ⟨_, rfl, rfl, _, rfl, if_y rfl ⟨_, rfl, _, rfl, _, _, rfl, rfl, ha, _, _, _, rfl, rfl, hh3, ex, rfl, ?_⟩⟩
              cases h0 with
              | none => exact ⟨_, rfl, if_n rfl (if_f ⟨_, _, rfl, s3⟩)⟩
              | some y =>
                refine ⟨_, rfl, if_y rfl ⟨_, rfl, _, rfl, _, rfl, _, _, rfl, rfl, ha, _, _, _, rfl, rfl, hh3, ex, _, _, rfl, rfl, _, rfl, if_n (decide_eq_false ?_) ⟨_, _, rfl, s3⟩⟩⟩
                have := ho.down i y x eh0 eh
                omega
          · exact if_f ⟨_, _, rfl, s3⟩
    · rintro σ H2 ⟨z2, z3, rfl, s2⟩
      exact ⟨_, rfl, _, _, _, _, true, rfl, .ty "tuple", .base (.tup (s2 _ _ hh)), rfl, q _ s2⟩
end
end Tg

namespace Tg
open PySem PySem.Spec PyProof.Rows L2
/-! ### the horizons stay in order -/
structure HI (ws : List Int) (ks hs : List (Option Int)) : Prop where
  len : hs.length = ws.length + 1
  nn : ∀ i : Nat, ks[i]? = some none → hs[i]? = some none
  ok : HOk ws hs
  ev : (∀ (i : Nat) (x : Option Int), hs[i]? = some x → x = none) ∨ (∀ (i : Nat) (k : Int), ks[i]? = some (some k) → ∃ x : Int, hs[i]? = some (some x))
theorem HI.start (ws : List Int) (ks : List (Option Int)) (hk : ks.length = ws.length + 1) : HI ws ks (List.replicate ks.length none) := by
  have at_ : ∀ (i : Nat) (x : Option Int), (List.replicate ks.length (none : Option Int))[i]? = some x → x = none := fun i x h => by
    have := List.mem_of_getElem? h
    exact List.eq_of_mem_replicate this
  refine ⟨by rw [List.length_replicate, hk], fun i h => ?_, ⟨fun i x h => ?_, fun i x y h => ?_⟩, .inl at_⟩
  · have hi : i < ks.length := (List.getElem?_eq_some_iff.mp h).1
    rw [List.getElem?_replicate, if_pos hi]
  · exact absurd (at_ i _ h) (fun z => nomatch z)
  · exact absurd (at_ i _ h) (fun z => nomatch z)
theorem fl_mul {n u : Int} : (n - n % u) % u = 0 := by
  rw [show n - n % u = u * (n / u) by rw [Int.emod_def]; omega]
  exact Int.mul_emod_right ..
theorem fl_le {m n u : Int} (hu : 0 < u) (hm : m % u = 0) (h : m ≤ n) : m ≤ n - n % u := by
  have e1 : m = u * (m / u) := by
    have := Int.emod_def m u
    omega
  have e2 : n - n % u = u * (n / u) := by
    rw [Int.emod_def]
    omega
  rw [e2, e1]
  exact Int.mul_le_mul_of_nonneg_left (Int.ediv_le_ediv hu h) (by omega)
theorem wAt_dvd {ws : List Int} (ok : WOk ws) (i : Nat) : wAt ws (i + 1) % wAt ws i = 0 := by
  have l0 : 0 < ws.length := List.length_pos_iff.mpr ok.ne
  by_cases c : i + 1 < ws.length
  · have e1 : ws[i]? = some (wAt ws i) := by
      unfold wAt
      rw [show min i (ws.length - 1) = i by omega, gD (by omega), List.getElem?_eq_getElem (by omega)]
    have e2 : ws[i + 1]? = some (wAt ws (i + 1)) := by
      unfold wAt
      rw [show min (i + 1) (ws.length - 1) = i + 1 by omega, gD c, List.getElem?_eq_getElem c]
    exact (ok.up i _ _ e1 e2).2
  · have e : wAt ws (i + 1) = wAt ws i := by
      unfold wAt
      rw [show min (i + 1) (ws.length - 1) = min i (ws.length - 1) by omega]
    rw [e, Int.emod_self]
theorem newH_get {ws : List Int} {ks hs : List (Option Int)} {now : Int} (lk : ks.length = ws.length + 1) (lh : hs.length = ws.length + 1) {i : Nat} {x : Option Int} (h : (newH ws ks hs now)[i]? = some x) : ∃ a k, hs[i]? = some a ∧ ks[i]? = some k ∧ x = hb a now k (wAt ws i) := by
  have hi : i < ws.length + 1 := by
    have := (List.getElem?_eq_some_iff.mp h).1
    rwa [newH_len] at this
  have e1 : hs[i]? = some (hs[i]'(by omega)) := List.getElem?_eq_getElem _
  have e2 : ks[i]? = some (ks[i]'(by omega)) := List.getElem?_eq_getElem _
  rw [newH_at e1 e2 hi] at h
  exact ⟨_, _, e1, e2, (Option.some.inj h).symm⟩
theorem HI.step {ws : List Int} {ks hs : List (Option Int)} (h : HI ws ks hs) (ok : WOk ws) (kok : KOk ks) (lk : ks.length = ws.length + 1) (now : Int) : HI ws ks (newH ws ks hs now) := by
  have lh := h.len
  refine ⟨newH_len _ _ _ _, fun i hi => ?_, ⟨fun i x hx => ?_, fun i x y hx hy => ?_⟩, .inr fun i k hk => ?_⟩
  · have il : i < ws.length + 1 := by
      obtain ⟨il, _⟩ := List.getElem?_eq_some_iff.mp hi
      omega
    rw [newH_at (List.getElem?_eq_getElem (show i < hs.length by omega)) hi il]
    rfl
  · obtain ⟨a, k, ea, ek, ex⟩ := newH_get lk lh hx
    cases k with
    | none => cases ex
    | some k =>
      cases a with
      | none =>
        cases ex
        exact fl_mul
      | some y =>
        have ey := h.ok.mul i y ea
        have ex' : x = if now - k - (now - k) % wAt ws i > y then now - k - (now - k) % wAt ws i else y := Option.some.inj ex
        rw [ex']
        split
        · exact fl_mul
        · exact ey
  · obtain ⟨a, k, ea, ek, ex⟩ := newH_get lk lh hx
    obtain ⟨b, k', eb, ek', ey⟩ := newH_get lk lh hy
    cases k with
    | none => cases ex
    | some k =>
      cases k' with
      | none => cases ey
      | some k' =>
        obtain ⟨k0, e0, hkk⟩ := kok.up i _ _ ek ek' k' rfl
        cases e0
        have w0 := wAt_pos ok i
        have w1 := wAt_pos ok (i + 1)
        have r1 : (now - k' - (now - k') % wAt ws (i + 1)) ≤ now - k - (now - k) % wAt ws i := by
          have m0 := Int.emod_nonneg (now - k') (show wAt ws (i + 1) ≠ 0 by omega)
          refine fl_le (by omega) ?_ (by omega)
          have d1 : wAt ws (i + 1) ∣ (now - k' - (now - k') % wAt ws (i + 1)) := Int.dvd_of_emod_eq_zero fl_mul
          have d2 : wAt ws i ∣ wAt ws (i + 1) := Int.dvd_of_emod_eq_zero (wAt_dvd ok i)
          exact Int.emod_eq_zero_of_dvd (Int.dvd_trans d2 d1)
        rcases h.ev with hn | hf
        · cases hn i a ea
          cases hn (i + 1) b eb
          have ex' : x = now - k - (now - k) % wAt ws i := Option.some.inj ex
          have ey' : y = now - k' - (now - k') % wAt ws (i + 1) := Option.some.inj ey
          rw [ex', ey']
          exact r1
        · obtain ⟨a', ea'⟩ := hf i k ek
          obtain ⟨b', eb'⟩ := hf (i + 1) k' ek'
          rw [ea] at ea'
          rw [eb] at eb'
          cases ea'
          cases eb'
          have dn := h.ok.down i a' b' ea eb
          have ex' : x = if now - k - (now - k) % wAt ws i > a' then now - k - (now - k) % wAt ws i else a' := Option.some.inj ex
          have ey' : y = if now - k' - (now - k') % wAt ws (i + 1) > b' then now - k' - (now - k') % wAt ws (i + 1) else b' := Option.some.inj ey
          rw [ex', ey']
          revert r1
          generalize now - k' - (now - k') % wAt ws (i + 1) = r'
          generalize now - k - (now - k) % wAt ws i = r
          intro r1
          split <;> split <;> omega
  · have il : i < ws.length + 1 := by
      have := (List.getElem?_eq_some_iff.mp hk).1
      omega
    rw [newH_at (List.getElem?_eq_getElem (show i < hs.length by omega)) hk il]
    exact ⟨_, rfl⟩
theorem hb_twice (h : Option Int) (now : Int) (k : Option Int) (d : Int) : hb (hb h now k d) now k d = hb h now k d := by
  cases k with
  | none => rfl
  | some k =>
    have k1 : ∀ r : Int, some (if r > r then r else r) = some r := fun r => by split <;> rfl
    have k2 : ∀ r x : Int, some (if r > (if r > x then r else x) then r else (if r > x then r else x)) = some (if r > x then r else x) := fun r x => by
      by_cases c : r > x
      · rw [if_pos c]
        exact k1 r
      · rw [if_neg c, if_neg c]
    cases h with
    | none => exact k1 _
    | some x => exact k2 _ x
theorem newH_twice {ws : List Int} {ks hs : List (Option Int)} {now : Int} (lk : ks.length = ws.length + 1) (lh : hs.length = ws.length + 1) : newH ws ks (newH ws ks hs now) now = newH ws ks hs now := by
  refine List.ext_getElem? fun i => ?_
  by_cases hi : i < ws.length + 1
  · have e1 : hs[i]? = some (hs[i]'(by omega)) := List.getElem?_eq_getElem _
    have e2 : ks[i]? = some (ks[i]'(by omega)) := List.getElem?_eq_getElem _
    rw [newH_at (newH_at e1 e2 hi) e2 hi, newH_at e1 e2 hi, hb_twice]
  · rw [List.getElem?_eq_none (by rw [newH_len]; omega), List.getElem?_eq_none (by rw [newH_len]; omega)]
/-! ### as data -/
def dO : Option Int → PyData
  | none => .none
  | some i => .int i
theorem dp_vo {K : PySem.W.Frag} {H : Hp} : ∀ o : Option Int, Dp K H (vo o) (dO o)
  | none => .non
  | some i => .int i
theorem dp_vos {K : PySem.W.Frag} {H : Hp} : ∀ os : List (Option Int), DpAll K H (os.map vo) (os.map dO)
  | [] => .nil
  | o :: os => .cons (dp_vo o) (dp_vos os)
theorem dO_all (os : List (Option Int)) : PyData.canLayAll0 (os.map dO) = true ∧ PyData.depthAll (os.map dO) = 0 ∧ PyData.eqvAll (os.map dO) (os.map dO) = true := by
  induction os with
  | nil => exact ⟨rfl, rfl, rfl⟩
  | cons x r ih =>
    obtain ⟨h1, h2, h3⟩ := ih
    cases x with
    | none =>
      refine ⟨?_, ?_, ?_⟩
      · show (true && PyData.canLayAll0 (r.map dO)) = true
        rw [h1]
        rfl
      · show max 0 (PyData.depthAll (r.map dO)) = 0
        rw [h2]
        rfl
      · show (true && PyData.eqvAll (r.map dO) (r.map dO)) = true
        rw [h3]
        rfl
    | some x =>
      refine ⟨?_, ?_, ?_⟩
      · show (true && PyData.canLayAll0 (r.map dO)) = true
        rw [h1]
        rfl
      · show max 0 (PyData.depthAll (r.map dO)) = 0
        rw [h2]
        rfl
      · show ((x == x) && PyData.eqvAll (r.map dO) (r.map dO)) = true
        rw [h3, beq_self_eq_true]
        rfl
theorem sh_list (os : List (Option Int)) : SeqAt.shaped (.list (os.map dO)) = true := by
  refine shaped_of (dO_all os).1 ?_
  show PyData.depthAll (os.map dO) + 1 ≤ 64
  rw [(dO_all os).2.1]
  decide
theorem sh_tup (os : List (Option Int)) : SeqAt.shaped (.tuple (os.map dO)) = true := by
  refine shaped_of (dO_all os).1 ?_
  show PyData.depthAll (os.map dO) + 1 ≤ 64
  rw [(dO_all os).2.1]
  decide
end Tg

namespace Tg
open PySem PySem.Spec PyProof.Rows L2
abbrev sKeeps : Stmt := topS 23
abbrev NKs : List Str := ["_law_purse_here", "_law_some_widths", "_law_many", "_law_keep", "_law_found", "_law_k", "_law_ends"]
theorem scKeeps : FnScope NKs ["_law_purse_here", "_law_some_widths"] (defScope sKeeps) := ⟨rfl, rfl, rfl, by decide +kernel, rfl, by decide +kernel, by decide +kernel⟩
theorem kok_of {ms : List Int} (up : ∀ (i : Nat) (x y : Int), ms[i]? = some x → ms[i + 1]? = some y → x ≤ y) (pos : ∀ x, x ∈ ms → 0 ≤ x) (e m : Nat) (hl : ms.length = m) (he : e ≤ m) : KOk ((ms.take e).map some ++ List.replicate (m - e) none) := by
  have lt : ((ms.take e).map (some : Int → Option Int)).length = e := by
    rw [List.length_map, List.length_take]
    omega
  have at_ : ∀ (i : Nat) (y : Int), ((ms.take e).map some ++ List.replicate (m - e) none)[i]? = some (some y) → i < e ∧ ms[i]? = some y := fun i y h => by
    by_cases c : i < e
    · rw [List.getElem?_append_left (by omega), List.getElem?_map, List.getElem?_take_of_lt c] at h
      obtain ⟨z, h1, h2⟩ := Option.map_eq_some_iff.mp h
      cases h2
      exact ⟨c, h1⟩
    · rw [List.getElem?_append_right (by omega)] at h
      exact absurd (List.eq_of_mem_replicate (List.mem_of_getElem? h)) (fun z => nomatch z)
  constructor
  · rintro x hx y rfl
    obtain ⟨c, h1⟩ := at_ 0 y hx
    exact ⟨0, rfl, pos y (List.mem_of_getElem? h1)⟩
  · rintro i x y hx hy z rfl
    obtain ⟨c, h1⟩ := at_ (i + 1) z hy
    have c2 : i < ms.length := by omega
    have e1 : ((ms.take e).map some ++ List.replicate (m - e) none)[i]? = some (some ms[i]) := by
      rw [List.getElem?_append_left (by omega), List.getElem?_map, List.getElem?_take_of_lt (by omega), List.getElem?_eq_getElem c2]
      rfl
    rw [e1] at hx
    cases hx
    exact ⟨ms[i], rfl, up i _ _ (List.getElem?_eq_getElem c2) h1⟩
section
variable {P : Program} {w : World} {K : PySem.W.Frag} {mg : Str → Option Value} {base : Heap} {C : Addr}
def spKeeps (K : PySem.W.Frag) : Sp := fun vs H Q _ => ∃ (p wa : Addr) (n : Nat) (ws : List Int), vs = [.ref p, .ref wa] ∧ Pu H p n ∧ n < 2 ^ 37 ∧ SqT K H wa (ws.map V.int) ∧ WOk ws ∧
  ∀ (a : Addr) (ks : List (Option Int)) (H' : Hp), Kp p H H' → Pu H' p (n + 100) → H' a = some (.tup (ks.map vo)) → KOk ks → ks.length = ws.length + 1 → (∀ (i : Nat) (x : Int), ks[i]? = some (some x) → x.natAbs ≤ 10 ^ 15) → Q (.ref a) H'
theorem ok_keeps {f : Addr} {fd : FuncData} {k : Nat} (F : Fun K "_law_keeps" "_law_keeps" sKeeps f fd) (L_draw : CDraw P w K mg base k) (m_len : mg "len" = none) (m_range : mg "range" = none) (m_tuple : mg "tuple" = none) : FnOk P w K mg base CX0 (k + 1) f fd ["_law_purse_here", "_law_some_widths"] (spKeeps K) := by
  refine F.ok scKeeps (fun vs H Q E h => ?_) (fun cdv A outer s H vs Q E hr h => ?_)
  · obtain ⟨p, wa, n, ws, rfl, _⟩ := h
    rfl
  · obtain ⟨p, wa, n, ws, rfl, hp, hn, hw, ok, q⟩ := h
    refine ⟨_, pss_cons (ps_set (i := 2) scKeeps.nd rfl (.inl rfl) (pe_op op_add (pe_callB call_len_seq (by rfl) m_len (by decide +kernel) (pa_cons (pv 1) pa_nil)) pe_int))
      (pss_cons (ps_set (i := 3) scKeeps.nd rfl (.inl rfl) (pe_ix ix_list (pe_lst (pa_cons pe_int (pa_cons (pe_op op_mul pe_int (pe_ix ix_tup (pv 1) pe_int (fun _ _ => rfl))) (pa_cons (pe_ix ix_tup (pv 1) (pe_un un_neg pe_int) (fun _ _ => rfl)) (pa_cons (pe_cal L_draw (hr.mono (by omega)) (by rfl) (pa_cons (pv 0) (pa_cons (pe_op op_mul pe_int (pe_ix ix_tup (pv 1) (pe_un un_neg pe_int) (fun _ _ => rfl))) pa_nil))) pa_nil))))) (pe_cal L_draw (hr.mono (by omega)) (by rfl) (pa_cons (pv 0) (pa_cons pe_int pa_nil))) (fun _ _ => rfl)))
      (pss_cons (ps_set (i := 4) scKeeps.nd rfl (.inl rfl) (pe_lst pa_nil))
      (pss_cons (ps_for PassesOwn.never rfl (pi_range1 (by rfl) m_range (pa_cons (pv 2) pa_nil)) (pg_name (i := 5) scKeeps.nd rfl (.inl rfl))
        (pss_cons (ps_expr (pe_bm PySem.F.plainAttrs_list PySem.F.slot_list_append PySem.F.type_list_append mt_append (pv 4) (pa_cons (pv 3) pa_nil)))
        (pss_one (ps_set (i := 3) scKeeps.nd rfl (.inl rfl) (pe_op op_add (pv 3) (pe_ix ix_list (pe_lst (pa_cons pe_int (pa_cons (pe_ix ix_tup (pv 1) pe_int (fun _ _ => rfl)) (pa_cons (pe_cal L_draw (hr.mono (by omega)) (by rfl) (pa_cons (pv 0) (pa_cons pe_int pa_nil))) (pa_cons (pe_ix ix_tup (pv 1) (pe_un un_neg pe_int) (fun _ _ => rfl)) pa_nil))))) (pe_cal L_draw (hr.mono (by omega)) (by rfl) (pa_cons (pv 0) (pa_cons pe_int pa_nil))) (fun _ _ => rfl)))))))
      (pss_cons (ps_set (i := 6) scKeeps.nd rfl (.inl rfl) (pe_ix ix_list (pe_lst (pa_cons (pv 2) (pa_cons (pv 2) (pa_cons (pe_op op_sub (pv 2) pe_int) (pa_cons (pe_cal L_draw (hr.mono (by omega)) (by rfl) (pa_cons (pv 0) (pa_cons (pe_op op_add (pv 2) pe_int) pa_nil))) pa_nil))))) (pe_cal L_draw (hr.mono (by omega)) (by rfl) (pa_cons (pv 0) (pa_cons pe_int pa_nil))) (fun _ _ => rfl)))
      (pss_one (ps_ret (pe_callTy call_tuple_of (by rfl) m_tuple (by decide +kernel) (pa_cons (pe_op op_cat (pe_slice sl_list (pv 4) po_none (po_some (pv 6))) (pe_lc (own := [("_law_k", 5)]) (g := (gName 5)) (tt := tYes) rfl scKeeps.nd (pi_range1 (by rfl) m_range (pa_cons (pe_op op_sub (pv 2) (pv 6)) pa_nil)) (blkOk_by (own := [("_law_k", 5)]) (N := NKs) (sc := defScope sKeeps) (by decide +kernel)) (fun _ _ _ _ _ => (pg_name (i := 5) scKeeps.nd rfl (.inl rfl))) (fun _ _ _ _ _ => pts_nil) (fun _ _ _ _ _ => pe_non))) pa_nil)))))))), ?_⟩
    obtain ⟨x0, e0, a0, a1⟩ := w_first ok
    obtain ⟨x1, e1, c0, c1⟩ := w_last ok
    have l4 := ok.le
    have lw : (ws.map V.int).length = ws.length := List.length_map ..
    refine ⟨_, rfl, wa, _, rfl, .inr hw, _, _, rfl, rfl, ?_⟩
    refine ⟨_, rfl, wa, _, 0, .int x0, rfl, rfl, hw, e0, _, _, rfl, rfl, .inl ⟨by decide, by decide⟩, _, rfl, 1, rfl, wa, _, -1, .int x1, rfl, rfl, hw, e1, _, rfl, _, rfl, 1, rfl, wa, _, -1, .int x1, rfl, rfl, hw, e1, _, _, rfl, rfl, .inl ⟨by decide, by decide⟩, ?_⟩
    refine ⟨p, n, 4 * x1, rfl, hp, by omega, by omega, by omega, fun v H1 k1 p1 v0 v1 => ?_⟩
    refine ⟨by show 4 ≤ sizeLine; decide, fun l1 n1 => ?_⟩
    have s2 := same_new (o := .lst ([0, 3 * x0, x1, v].map V.int)) n1
    refine ⟨_, rfl, p, n + 2, 4, rfl, p1.same s2, by omega, by decide, by decide, fun u H3 k3 p3 u0 u1 => ?_⟩
    obtain ⟨kp0, hkp, ex⟩ := atI_mem (xs := [0, 3 * x0, x1, v]) (i := u) u0 u1
    have kb0 : 0 ≤ kp0 ∧ kp0 ≤ 4 * 10 ^ 13 := by
      simp only [List.mem_cons, List.not_mem_nil, or_false] at hkp
      rcases hkp with rfl | rfl | rfl | rfl <;> omega
    refine ⟨l1, _, u, .int kp0, rfl, rfl, SqL.of (k3 _ _ (p1.ne n1) upd_same), ex, ?_⟩
    have kk : Kp p H H3 := (k1.trans (.of s2)).trans k3
    refine ⟨Nat.zero_le _, fun l nl => ?_⟩
    have nlp : l ≠ p := p3.ne nl
    have nlH : H l = none := by
      cases e : H l with
      | none => rfl
      | some o =>
        rw [kk _ _ nlp e] at nl
        cases nl
    rw [lw]
    refine ⟨_, rfl, (ws.length : Int) + 1, rfl, by omega, by omega, ?_⟩
    rw [show ((ws.length : Int) + 1).toNat = ws.length + 1 by omega]
    have hwk : ∀ Hx, Kp p H Hx → SqT K Hx wa (ws.map V.int) := fun Hx kx => sqT_kt (hp.kt kx) hw
    refine for_range (n := ws.length + 1) (fun i σ H4 => ∃ (kp : Int) (ms : List Int) (z : Option V), σ = [some (.ref p), some (.ref wa), some (.int ((ws.length : Int) + 1)), some (.int kp), some (.ref l), z, none] ∧ Kp p H H4 ∧ Pu H4 p (n + 4 + 4 * i) ∧ H4 l = some (.lst (ms.map V.int)) ∧ ms.length = i ∧ (∀ (j : Nat) (x y : Int), ms[j]? = some x → ms[j + 1]? = some y → x ≤ y) ∧ (∀ x, x ∈ ms → 0 ≤ x ∧ x ≤ kp) ∧ 0 ≤ kp ∧ kp ≤ 4 * 10 ^ 13 * (i + 1)) ?_ ?_ ?_
    · refine ⟨kp0, [], none, rfl, kk.trans (.of (same_new nl)), p3.same (same_new nl), upd_same, rfl, (fun j x y h => nomatch h), (fun x h => nomatch h), kb0.1, by omega⟩
    · rintro i σ H4 hi ⟨kp, ms, z, rfl, k4, p4, hl, lm, up, bd, q0, q1⟩
      refine ⟨_, rfl, .inl ⟨rfl, _, SqL.of hl⟩, _, rfl, l, _, _, rfl, rfl, hl, small1000 (by rw [List.length_map]; omega), ?_⟩
      have k5 : Kp p H (upd H4 l (.lst (ms.map V.int ++ [.int kp]))) := fun c o hc e => by
        rw [upd_ne (ne_of_none e nlH)]
        exact k4 _ _ hc e
      have p5 : Pu (upd H4 l (.lst (ms.map V.int ++ [.int kp]))) p (n + 4 + 4 * i) := by
        obtain ⟨pa, pb, pc, h1, h2⟩ := p4
        exact ⟨pa, pb, pc, by rw [upd_ne nlp.symm]; exact h1, h2⟩
      have hl5 : (upd H4 l (.lst (ms.map V.int ++ [.int kp]))) l = some (.lst ((ms ++ [kp]).map V.int)) := by
        rw [upd_same, List.map_append]
        rfl
      obtain ⟨H5, e5⟩ : ∃ H5, upd H4 l (.lst (ms.map V.int ++ [.int kp])) = H5 := ⟨_, rfl⟩
      rw [e5] at k5 p5 hl5
      rw [e5]
      refine ⟨_, rfl, _, rfl, wa, _, 0, .int x0, rfl, rfl, hwk _ k5, e0, _, rfl, p, _, 100, rfl, p5, by omega, by decide, by decide, fun v2 H6 k6 p6 b0 b1 => ?_⟩
      have k6' := k5.trans k6
      refine ⟨_, rfl, 1, rfl, wa, _, -1, .int x1, rfl, rfl, hwk _ k6', e1, by show 4 ≤ sizeLine; decide, fun l2 n2 => ?_⟩
      have s7 := same_new (o := .lst ([0, x0, v2, x1].map V.int)) n2
      refine ⟨_, rfl, p, _, 4, rfl, p6.same s7, by omega, by decide, by decide, fun u2 H8 k8 p8 d0 d1 => ?_⟩
      obtain ⟨st, hst, ex2⟩ := atI_mem (xs := [0, x0, v2, x1]) (i := u2) d0 d1
      have sb : 0 ≤ st ∧ st ≤ 10 ^ 13 := by
        simp only [List.mem_cons, List.not_mem_nil, or_false] at hst
        rcases hst with rfl | rfl | rfl | rfl <;> omega
      have k68 : Kp p H6 H8 := (Kp.of s7).trans k8
      refine ⟨l2, _, u2, .int st, rfl, rfl, SqL.of (k8 _ _ (p6.ne n2) upd_same), ex2, _, _, rfl, rfl, ?_⟩
      refine ⟨kp + st, ms ++ [kp], _, rfl, k6'.trans k68, p8.mono (by omega), k68 _ _ nlp (k6 _ _ nlp hl5), by rw [List.length_append, lm]; rfl, fun j x y hx hy => ?_, fun x hx => ?_, by omega, by omega⟩
      · have jl : j + 1 < ms.length + 1 := by
          have := (List.getElem?_eq_some_iff.mp hy).1
          rw [List.length_append] at this
          exact this
        rw [List.getElem?_append_left (by omega)] at hx
        by_cases c : j + 1 < ms.length
        · rw [List.getElem?_append_left c] at hy
          exact up j x y hx hy
        · rw [List.getElem?_append_right (by omega), show j + 1 - ms.length = 0 by omega] at hy
          cases hy
          exact (bd x (List.mem_of_getElem? hx)).2
      · rcases List.mem_append.mp hx with h | h
        · have := bd x h
          omega
        · rw [List.mem_singleton.mp h]
          omega
    · rintro σ H4 ⟨kp, ms, z, rfl, k4, p4, hl, lm, up, bd, q0, q1⟩
      refine ⟨_, rfl, _, rfl, _, rfl, _, _, rfl, rfl, _, rfl, _, rfl, _, _, rfl, rfl, p, _, (ws.length : Int) + 1 + 1, rfl, p4, by omega, by omega, by omega, fun v3 H5 k5 p5 b0 b1 => ?_⟩
      refine ⟨by show 4 ≤ sizeLine; decide, fun l3 n3 => ?_⟩
      have s6 := same_new (o := .lst ([(ws.length : Int) + 1, (ws.length : Int) + 1, (ws.length : Int) + 1 - 1, v3].map V.int)) n3
      refine ⟨_, rfl, p, _, 4, rfl, p5.same s6, by omega, by decide, by decide, fun u3 H7 k7 p7 d0 d1 => ?_⟩
      obtain ⟨en, hen, ex3⟩ := atI_mem (xs := [(ws.length : Int) + 1, (ws.length : Int) + 1, (ws.length : Int) + 1 - 1, v3]) (i := u3) d0 d1
      have eb : 0 ≤ en ∧ en ≤ (ws.length : Int) + 1 := by
        simp only [List.mem_cons, List.not_mem_nil, or_false] at hen
        rcases hen with rfl | rfl | rfl | rfl <;> omega
      obtain ⟨e, rfl⟩ : ∃ e : Nat, en = (e : Int) := ⟨en.toNat, by omega⟩
      have he : e ≤ ws.length + 1 := by omega
      have k57 : Kp p H4 H7 := (k5.trans (.of s6)).trans k7
      have hl7 := k57 _ _ nlp hl
      refine ⟨l3, _, u3, .int (e : Int), rfl, rfl, SqL.of (k7 _ _ (p5.ne n3) upd_same), ex3, ?_⟩
      refine ⟨_, rfl, _, rfl, (e : Int), rfl, l, _, rfl, SqL.of hl7, fun l4 n4 => ?_⟩
      have ecut : cutV (ms.map V.int) none (some (e : Int)) = (ms.take e).map V.int := by
        unfold cutV
        rw [HT.sIx_none, HT.sIx_nat, List.drop_zero, Nat.sub_zero, List.length_map, lm, ← List.map_take, show min e (ws.length + 1) = e by omega]
      rw [ecut]
      have s8 := same_new (o := .lst ((ms.take e).map V.int)) n4
      have h8 : (upd H7 l4 (.lst ((ms.take e).map V.int))) l4 = some (.lst ((ms.take e).map V.int)) := upd_same
      refine ⟨_, rfl, _, rfl, _, _, rfl, rfl, _, rfl, by omega, by omega, ?_⟩
      rw [show ((ws.length : Int) + 1 - (e : Int)).toNat = ws.length + 1 - e by omega]
      refine fun D nD => lc_it (walk_range (lo := 0) (n := ws.length + 1 - e)) (fun j Hc => Same (upd H7 l4 (.lst ((ms.take e).map V.int))) Hc ∧ Hc D = some (.lst (List.replicate j V.non))) ⟨same_new nD, upd_same⟩ (fun _ _ _ _ => trivial) ?_ ?_
      · rintro j x Hc Hd hj ⟨sc, hD⟩ ⟨rfl, rfl⟩
        refine ⟨rfl, ?_⟩
        unfold tYes
        refine (if_pos rfl).mpr ⟨_, hD, small1000 (by rw [List.length_replicate]; omega), same_put nD sc, ?_⟩
        rw [upd_same, List.replicate_succ']
      · rintro Hc ⟨sc, hD⟩
        have k9 : Kp p H Hc := (k4.trans k57).trans (.of (s8.trans sc))
        have p9 : Pu Hc p (n + 100) := (p7.same (s8.trans sc)).mono (by omega)
        refine ⟨l4, D, _, _, rfl, rfl, sc _ _ h8, hD, (by rw [List.length_map, List.length_take, List.length_replicate]; exact Nat.le_of_lt (small1000 (by omega))), fun r nr => ?_⟩
        have sr := same_new (o := .lst ((ms.take e).map V.int ++ List.replicate (ws.length + 1 - e) V.non)) nr
        refine ⟨r, _, rfl, .inl ⟨SqL.of upd_same, fun t nt => ?_⟩⟩
        refine q t ((ms.take e).map some ++ List.replicate (ws.length + 1 - e) none) _ (k9.trans (.of (sr.trans (same_new nt)))) (p9.same (sr.trans (same_new nt))) ?_ (kok_of up (fun x h => (bd x h).1) e (ws.length + 1) lm he) ?_ ?_
        · rw [upd_same, List.map_append, List.map_map, List.map_replicate]
          rfl
        · rw [List.length_append, List.length_map, List.length_take, List.length_replicate]
          omega
        · intro i x hx
          have hm := List.mem_of_getElem? hx
          rcases List.mem_append.mp hm with h | h
          · obtain ⟨y, hy, ey⟩ := List.mem_map.mp h
            cases ey
            have := bd x (List.mem_of_mem_take hy)
            omega
          · exact absurd (List.eq_of_mem_replicate h) (fun z => nomatch z)
end
end Tg

namespace Tg
open PySem PySem.Spec PyProof.Rows L2
abbrev sStands : Stmt := topS 27
abbrev NSt : List Str := ["_law_purse_here", "_law_keeping", "_law_some_widths", "_law_horizons_here", "_law_a_width", "_law_some", "_law_horizon", "_law_near", "_law_time", "_law_told"]
theorem scStands : FnScope NSt ["_law_purse_here", "_law_keeping", "_law_some_widths", "_law_horizons_here"] (defScope sStands) := ⟨rfl, rfl, rfl, by decide +kernel, rfl, by decide +kernel, by decide +kernel⟩
theorem sh_dO : ∀ o : Option Int, SeqAt.shaped (dO o) = true
  | none => by decide +kernel
  | some x => shaped_of rfl (by show 0 ≤ 64; decide)
theorem eq_dO : ∀ o : Option Int, PyData.eqv (dO o) (dO o) = true
  | none => rfl
  | some x => by
    show (x == x) = true
    exact beq_self_eq_true x
section
variable (P : Program) (w : World) (K : PySem.W.Frag) (mg : Str → Option Value) (base : Heap)
/-- a method of the class C, its last parameters left out -/
def CalMD (k : Nat) (C : Addr) (m : Str) (ps : List Str) (dvs : List V) (sp : Sp) : Prop := ∃ f fd ds, FnOk P w K mg base CX0 k f fd ps sp ∧ Meth K C m f ∧ Binds K fd ps ds ∧ Vals dvs ds
end
theorem pe_calMD {X : Cx} {k : Nat} {ps : List Str} {dvs : List V} {sp : Sp} {m : Str} {C : Addr} {o : Expr} {pos apos : Pos} {to : TE} {pl : Sem Bool} (he : PE X o to) (cl : Cls X.K C) (c : CalMD X.prog X.w X.K X.mg X.base k C m ps dvs sp) (hr : Room k X.A)
    (ht : eval (.Call (.Attribute o m apos) [] [] pos) X.env = (do let ov ← eval o X.env; standAt apos.atName; let (f, first) ← holding [ov] (getMethod ov m pl); callWith pos f first (backTo pos (starEach [] X.env)) (backToKw pos (keywordEach [] X.env))) := by rfl) :
    PE X (.Call (.Attribute o m apos) [] [] pos) (tMeth C m sp dvs E0 to tNil) := by
  obtain ⟨f, fd, ds, F, hm, hb, hd⟩ := c
  exact pe_meth0 (pl := pl) he cl hm F hr hb hd pass0 ht
section
variable {P : Program} {w : World} {K : PySem.W.Frag} {mg : Str → Option Value} {base : Heap} {C : Addr}
def spStands (K : PySem.W.Frag) (C : Addr) : Sp := fun vs H Q _ => ∃ (p e wa ka ha hb : Addr) (n : Nat) (ws : List Int) (hs : List (Option Int)), vs = [.ref p, .ref e, .ref wa, .ref hb] ∧ Pu H p n ∧ n < 2 ^ 37 ∧ KpO C H e wa ka ha ∧ NdT H wa (ws.map V.int) ∧ WOk ws ∧ ws.Nodup ∧ SqT K H ha (hs.map vo) ∧ SqT K H hb (hs.map vo) ∧ hs.length = ws.length + 1 ∧ ∀ H', Kp p H H' → Pu H' p (n + 100) → Q (.bl true) H'
theorem ok_stands {f : Addr} {fd : FuncData} {k : Nat} (F : Fun K "_law_stands" "_law_stands" sStands f fd) (T : TKeep K C) (L_draw : CDraw P w K mg base k) (M_gone_before_0 : CalMD P w K mg base k C "gone_before" ["self", "width"] [.non] (spGone K C)) (M_gone_before : CalM P w K mg base k C "gone_before" ["self", "width"] (spGone K C)) (M_gone_before_k : CalMK P w K mg base k C "gone_before" ["self", "width"] ["width"] [0] (spGone K C))
    (M_finest : CalM P w K mg base k C "finest" ["self", "time"] (spFin K C)) (L_finest : Cal P w K mg base k "_law_finest" ["_law_some_widths", "_law_horizons_here", "_law_time"] (spLFin K)) (m_list : mg "list" = none) (m_isinstance : mg "isinstance" = none) (m_bool : mg "bool" = none) :
    FnOk P w K mg base CX0 (k + 1) f fd ["_law_purse_here", "_law_keeping", "_law_some_widths", "_law_horizons_here"] (spStands K C) := by
  refine F.ok scStands (fun vs H Q E h => ?_) (fun cdv A outer s H vs Q E hr h => ?_)
  · obtain ⟨p, e, wa, ka, ha, hb, n, ws, hs, rfl, _⟩ := h
    rfl
  · obtain ⟨p, e, wa, ka, ha, hb, n, ws, hs, rfl, hp, hn, ⟨dx, he⟩, hw, ok, nd, hh, hhb, lh, q⟩ := h
    have hu := hr.units
    refine ⟨_, pss_cons (ps_if (pt_cmpR (op_neD hu) (pe_op op_cat (pe_lst (pa_cons (pe_calMD (pv 1) T.cl M_gone_before_0 (hr.mono (by omega))) pa_nil)) (pe_lc (own := [("_law_a_width", 4)]) (g := (gName 4)) (tt := tYes) rfl scStands.nd (pi_tup (pv 2)) (blkOk_by (own := [("_law_a_width", 4)]) (N := NSt) (sc := defScope sStands) (by decide +kernel)) (fun _ _ _ _ _ => (pg_name (i := 4) scStands.nd rfl (.inl rfl))) (fun _ _ _ _ _ => pts_nil) (fun _ _ _ _ _ => (pe_calM (pv 1) T.cl M_gone_before (hr.mono (by omega)) (pa_cons (pv 4) pa_nil))))) (pe_callTy call_list_of (by rfl) m_list (by decide +kernel) (pa_cons (pv 3) pa_nil)) (nomark _))
        (pss_one (ps_ret pe_bl))
        pss_nil)
      (pss_cons (ps_if (pt_cmpR (op_neD hu) (pe_op op_cat (pe_lst (pa_cons (pe_calM (pv 1) T.cl M_gone_before (hr.mono (by omega)) (pa_cons pe_non pa_nil)) pa_nil)) (pe_lc (own := [("_law_a_width", 4)]) (g := (gName 4)) (tt := tYes) rfl scStands.nd (pi_tup (pv 2)) (blkOk_by (own := [("_law_a_width", 4)]) (N := NSt) (sc := defScope sStands) (by decide +kernel)) (fun _ _ _ _ _ => (pg_name (i := 4) scStands.nd rfl (.inl rfl))) (fun _ _ _ _ _ => pts_nil) (fun _ _ _ _ _ => (pe_calMK (pv 1) T.cl M_gone_before_k (hr.mono (by omega)) (pk_cons (pv 4) pk_nil))))) (pe_callTy call_list_of (by rfl) m_list (by decide +kernel) (pa_cons (pv 3) pa_nil)) (nomark _))
        (pss_one (ps_ret pe_bl))
        pss_nil)
      (pss_cons (ps_set (i := 5) scStands.nd rfl (.inl rfl) (pe_op op_cat (pe_lc (own := [("_law_horizon", 6)]) (g := (gName 6)) rfl scStands.nd (pi_tup (pv 3)) (blkOk_by (own := [("_law_horizon", 6)]) (N := NSt) (sc := defScope sStands) (by decide +kernel)) (fun _ _ _ _ _ => (pg_name (i := 6) scStands.nd rfl (.inl rfl))) (fun _ _ _ _ _ => pts_one (pt_cmpR op_notN (pv 6) pe_non (nomark _))) (fun _ _ _ _ _ => (pv 6))) (pe_lst (pa_cons pe_int pa_nil))))
      (pss_cons (ps_for PassesOwn.never rfl (pi_list (pv 5)) (pg_name (i := 6) scStands.nd rfl (.inl rfl))
        (pss_cons (ps_set (i := 7) scStands.nd rfl (.inl rfl) (pe_op op_sub (pe_op op_add (pv 6) (pe_cal L_draw (hr.mono (by omega)) (by rfl) (pa_cons (pv 0) (pa_cons (pe_op op_add (pe_ix ix_tup (pv 2) pe_int (fun _ _ => rfl)) pe_int) pa_nil)))) (pe_cal L_draw (hr.mono (by omega)) (by rfl) (pa_cons (pv 0) (pa_cons (pe_op op_add (pe_ix ix_tup (pv 2) (pe_un un_neg pe_int) (fun _ _ => rfl)) pe_int) pa_nil)))))
        (pss_one (ps_for PassesOwn.never rfl (pi_list (pe_lst (pa_cons (pv 6) (pa_cons (pe_op op_sub (pv 6) pe_int) (pa_cons (pe_op op_add (pv 6) pe_int) (pa_cons (pv 7) pa_nil)))))) (pg_name (i := 8) scStands.nd rfl (.inl rfl))
          (pss_cons (ps_set (i := 9) scStands.nd rfl (.inl rfl) (pe_calM (pv 1) T.cl M_finest (hr.mono (by omega)) (pa_cons (pv 8) pa_nil)))
          (pss_one (ps_if (PW.pt (pw_or (pt_cmpR (op_neD hu) (pv 9) (pe_cal L_finest (hr.mono (by omega)) (by rfl) (pa_cons (pv 2) (pa_cons (pv 3) (pa_cons (pv 8) pa_nil)))) (nomark _)) (pw_or1 (pt_val (pe_callB call_isi (by rfl) m_isinstance (by decide +kernel) (pa_cons (pv 9) (pa_cons (pe_bltn (v := .ty "bool") (by rfl) m_bool (by decide +kernel) rfl) pa_nil)))))))
            (pss_one (ps_ret pe_bl))
            pss_nil)))))))
      (pss_one (ps_ret pe_bl))))), ?_⟩
    have l4 := ok.le
    have lw : (ws.map V.int).length = ws.length := List.length_map ..
    obtain ⟨h0, hr1, ehs⟩ : ∃ h0 r, hs = h0 :: r := by
      cases hs with
      | nil => cases lh
      | cons a b => exact ⟨a, b, rfl⟩
    have lr : hr1.length = ws.length := by
      rw [ehs] at lh
      exact Nat.succ.inj lh
    have eh0 : hs[0]? = some h0 := by rw [ehs]; rfl
    have ehj : ∀ (j : Nat) (h : Option Int), hr1[j]? = some h → hs[j + 1]? = some h := fun j h e => by rw [ehs]; exact e
    have take1 : ∀ (j : Nat) (h : Option Int), hr1[j]? = some h → (hr1.take (j + 1)).map vo = (hr1.take j).map vo ++ [vo h] := fun j h e => by
      rw [List.take_add_one, e, List.map_append]
      rfl
    -- part 1
    refine ⟨_, rfl, e, dx, _, rfl, he, rfl, e, wa, ka, ha, ws, hs, 0, h0, .non, rfl, ⟨dx, he⟩, hw, nd, hh, eh0, .inl ⟨rfl, rfl⟩, by show 1 ≤ sizeLine; decide, fun l1 n1 => ?_⟩
    have sA1 := same_new (o := .lst [vo h0]) n1
    refine ⟨_, rfl, wa, rfl, ⟨_, (hw.same sA1).sq⟩, fun D nD => lc_it (walk_tup (K := K) (a := wa) (xs := ws.map V.int)) (fun j Hc => Same (upd H l1 (.lst [vo h0])) Hc ∧ Hc D = some (.lst ((hr1.take j).map vo))) ⟨same_new nD, upd_same⟩ (fun j Hc _ hc => ((hw.same sA1).same hc.1).sq) ?_ ?_⟩
    · rintro j x Hc Hd hj ⟨sc, hD⟩ ⟨rfl, ex⟩
      obtain ⟨y, ey, rfl⟩ := map_at ex
      have jl : j < hr1.length := by
        rw [lw] at hj
        omega
      have er : hr1[j]? = some hr1[j] := List.getElem?_eq_getElem jl
      have s2 := sA1.trans sc
      have hec := s2 _ _ he
      refine ⟨rfl, ?_⟩
      unfold tYes
      refine (if_pos rfl).mpr ⟨_, rfl, e, dx, _, rfl, hec, rfl, _, rfl, e, wa, ka, ha, ws, hs, j + 1, hr1[j], .int y, rfl, ⟨dx, hec⟩, hw.same s2, nd, sqT_same s2 hh, ehj j _ er, .inr ⟨j, y, rfl, ey, rfl⟩, _, hD, small1000 (by rw [List.length_map, List.length_take]; omega), same_put nD sc, ?_⟩
      rw [upd_same, take1 j _ er]
    rintro Hc1 ⟨sc, hD⟩
    rw [lw, ← lr, List.take_length] at hD
    refine ⟨l1, D, _, _, rfl, rfl, sc _ _ upd_same, hD, (by rw [List.length_map]; exact Nat.le_of_lt (small1000 (by show 1 + hr1.length ≤ 1000; omega))), fun l2 n2 => ?_⟩
    have s3 := same_new (o := .lst ([vo h0] ++ hr1.map vo)) n2
    have s4 := (sA1.trans sc).trans s3
    refine ⟨_, rfl, hb, _, rfl, .inr (sqT_same s4 hhb), fun l3 n3 => ?_⟩
    have s5 := same_new (o := .lst (hs.map vo)) n3
    have eL : [vo h0] ++ hr1.map vo = hs.map vo := by
      rw [ehs]
      rfl
    refine ⟨.list (hs.map dO), .list (hs.map dO), .lst (SqL.of (s5 _ _ (by rw [upd_same, eL]))) (dp_vos hs), .lst (SqL.of upd_same) (dp_vos hs), sh_list hs, sh_list hs, false, ?_, if_f ?_⟩
    · show V.bl (!PyData.eqvAll (hs.map dO) (hs.map dO)) = _
      rw [(dO_all hs).2.2]
      rfl
    have t1 := s4.trans s5
    revert t1
    generalize upd (upd Hc1 l2 (.lst ([vo h0] ++ hr1.map vo))) l3 (.lst (hs.map vo)) = G1
    intro t1
    have he1 := t1 _ _ he
    have hw1 := hw.same t1
    have hh1 := sqT_same t1 hh
    have hhb1 := sqT_same t1 hhb
    clear n1 nD sc hD n2 n3 s3 s4 s5
    -- part 2
    refine ⟨_, rfl, e, dx, _, rfl, he1, rfl, e, wa, ka, ha, ws, hs, 0, h0, .non, rfl, ⟨dx, he1⟩, hw1, nd, hh1, eh0, .inl ⟨rfl, rfl⟩, by show 1 ≤ sizeLine; decide, fun l1 n1 => ?_⟩
    have sA2 := same_new (o := .lst [vo h0]) n1
    refine ⟨_, rfl, wa, rfl, ⟨_, (hw1.same sA2).sq⟩, fun D nD => lc_it (walk_tup (K := K) (a := wa) (xs := ws.map V.int)) (fun j Hc => Same (upd G1 l1 (.lst [vo h0])) Hc ∧ Hc D = some (.lst ((hr1.take j).map vo))) ⟨same_new nD, upd_same⟩ (fun j Hc _ hc => ((hw1.same sA2).same hc.1).sq) ?_ ?_⟩
    · rintro j x Hc Hd hj ⟨sc, hD⟩ ⟨rfl, ex⟩
      obtain ⟨y, ey, rfl⟩ := map_at ex
      have jl : j < hr1.length := by
        rw [lw] at hj
        omega
      have er : hr1[j]? = some hr1[j] := List.getElem?_eq_getElem jl
      have s2 := sA2.trans sc
      have hec := s2 _ _ he1
      refine ⟨rfl, ?_⟩
      unfold tYes
      refine (if_pos rfl).mpr ⟨_, rfl, e, dx, _, rfl, hec, rfl, _, rfl, rfl, e, wa, ka, ha, ws, hs, j + 1, hr1[j], .int y, rfl, ⟨dx, hec⟩, hw1.same s2, nd, sqT_same s2 hh1, ehj j _ er, .inr ⟨j, y, rfl, ey, rfl⟩, _, hD, small1000 (by rw [List.length_map, List.length_take]; omega), same_put nD sc, ?_⟩
      rw [upd_same, take1 j _ er]
    rintro Hc2 ⟨sc, hD⟩
    rw [lw, ← lr, List.take_length] at hD
    refine ⟨l1, D, _, _, rfl, rfl, sc _ _ upd_same, hD, (by rw [List.length_map]; exact Nat.le_of_lt (small1000 (by show 1 + hr1.length ≤ 1000; omega))), fun l2 n2 => ?_⟩
    have s3 := same_new (o := .lst ([vo h0] ++ hr1.map vo)) n2
    have s4 := (sA2.trans sc).trans s3
    refine ⟨_, rfl, hb, _, rfl, .inr (sqT_same s4 hhb1), fun l3 n3 => ?_⟩
    have s5 := same_new (o := .lst (hs.map vo)) n3
    have eL : [vo h0] ++ hr1.map vo = hs.map vo := by
      rw [ehs]
      rfl
    refine ⟨.list (hs.map dO), .list (hs.map dO), .lst (SqL.of (s5 _ _ (by rw [upd_same, eL]))) (dp_vos hs), .lst (SqL.of upd_same) (dp_vos hs), sh_list hs, sh_list hs, false, ?_, if_f ?_⟩
    · show V.bl (!PyData.eqvAll (hs.map dO) (hs.map dO)) = _
      rw [(dO_all hs).2.2]
      rfl
    have t2 := s4.trans s5
    revert t2
    generalize upd (upd Hc2 l2 (.lst ([vo h0] ++ hr1.map vo))) l3 (.lst (hs.map vo)) = G2
    intro t2
    have tt := t1.trans t2
    have he2 := tt _ _ he
    have hw2 := hw.same tt
    have hh2 := sqT_same tt hh
    have hhb2 := sqT_same tt hhb
    have hp2 := hp.same tt
    clear n1 nD sc hD n2 n3 s3 s4 s5
    -- the horizons that are numbers, and 0
    refine ⟨_, rfl, hb, rfl, ⟨_, hhb2⟩, fun D nD => lc_it (walk_tup (K := K) (a := hb) (xs := hs.map vo)) (fun j Hc => Same G2 Hc ∧ ∃ ts : List Int, Hc D = some (.lst (ts.map V.int)) ∧ ts.length ≤ j) ⟨same_new nD, [], upd_same, Nat.zero_le _⟩ (fun j Hc _ hc => sqT_same hc.1 hhb2) ?_ ?_⟩
    · rintro j x Hc Hd hj ⟨sc, ts, hD, le⟩ ⟨rfl, ex⟩
      obtain ⟨h, eh, rfl⟩ := map_at ex
      have hl : (hs.map vo).length = ws.length + 1 := by rw [List.length_map, lh]
      cases h with
      | none => exact ⟨rfl, _, rfl, rfl, _, rfl, if_n rfl ⟨sc, ts, hD, by omega⟩⟩
      | some x =>
        refine ⟨rfl, _, rfl, rfl, _, rfl, if_y rfl ⟨_, rfl, _, hD, small1000 (by rw [List.length_map]; omega), same_put nD sc, ts ++ [x], ?_, by rw [List.length_append]; exact Nat.succ_le_succ le⟩⟩
        rw [upd_same, List.map_append]
        rfl
    rintro Hc3 ⟨sc, ts, hD, le⟩
    have le5 : ts.length ≤ 5 := by
      rw [List.length_map, lh] at le
      omega
    refine ⟨by show 1 ≤ sizeLine; decide, fun l1 n1 => ?_⟩
    have s3 := same_new (o := .lst [V.int 0]) n1
    refine ⟨D, l1, _, _, rfl, rfl, s3 _ _ hD, upd_same, (by rw [List.length_map]; exact Nat.le_of_lt (small1000 (by show ts.length + 1 ≤ 1000; omega))), fun l2 n2 => ?_⟩
    have s4 := same_new (o := .lst (ts.map V.int ++ [V.int 0])) n2
    have t3 := (sc.trans s3).trans s4
    have hl2 : (upd (upd Hc3 l1 (.lst [V.int 0])) l2 (.lst (ts.map V.int ++ [V.int 0]))) l2 = some (.lst ((ts ++ [0]).map V.int)) := by
      rw [upd_same, List.map_append]
      rfl
    revert t3 hl2
    generalize upd (upd Hc3 l1 (.lst [V.int 0])) l2 (.lst (ts.map V.int ++ [V.int 0])) = G3
    intro t3 hl2
    have t03 := tt.trans t3
    have hp3 := hp.same t03
    have nlp : l2 ≠ p := fun z => by
      obtain ⟨_, _, _, z2, _⟩ := (hp2.same (sc.trans s3))
      rw [z, z2] at n2
      cases n2
    obtain ⟨x0, e0, a0, a1⟩ := w_first ok
    obtain ⟨x1, e1, c0, c1⟩ := w_last ok
    have nep : e ≠ p := fun z => by
      obtain ⟨_, _, _, z2, _⟩ := hp
      rw [z, z2] at he
      cases he
    refine ⟨_, rfl, l2, rfl, ⟨_, SqL.of hl2⟩, for_list (K := K) (a := l2) (xs := (ts ++ [0]).map V.int) (fun i σ H5 => ∃ z6 z7 z8 z9 : Option V, σ = [some (.ref p), some (.ref e), some (.ref wa), some (.ref hb), none, some (.ref l2), z6, z7, z8, z9] ∧ Kp p G3 H5 ∧ Pu H5 p (n + 4 * i) ∧ i ≤ 6) ⟨none, none, none, none, rfl, Kp.refl _ _, hp3, Nat.zero_le _⟩ ?_ ?_ ?_⟩
    · rintro i σ H5 _ ⟨_, _, _, _, _, k5, _⟩
      exact SqL.of (k5 _ _ nlp hl2)
    · rintro i x σ H5 hi ⟨z6, z7, z8, z9, rfl, k5, p5, i6⟩
      obtain ⟨hz, ehz, rfl⟩ := map_at hi
      have i5 : i < 6 := by
        have := (List.getElem?_eq_some_iff.mp ehz).1
        rw [List.length_append] at this
        have : i < ts.length + 1 := this
        omega
      have kt3 : ∀ Hx, Kp p G3 Hx → KT G3 Hx := fun Hx kx => hp3.kt kx
      have hwx : ∀ Hx, Kp p G3 Hx → NdT Hx wa (ws.map V.int) := fun Hx kx => (hw.same t03).kt (kt3 Hx kx)
      have hhx : ∀ Hx, Kp p G3 Hx → SqT K Hx ha (hs.map vo) := fun Hx kx => sqT_kt (kt3 Hx kx) (sqT_same t03 hh)
      have hhbx : ∀ Hx, Kp p G3 Hx → SqT K Hx hb (hs.map vo) := fun Hx kx => sqT_kt (kt3 Hx kx) (sqT_same t03 hhb)
      have hex : ∀ Hx, Kp p G3 Hx → Hx e = some (.ins C dx [("widths", .ref wa), ("keeps", .ref ka), ("horizons", .ref ha)]) := fun Hx kx => kx _ _ nep (t03 _ _ he)
      refine ⟨_, rfl, _, rfl, _, rfl, wa, _, 0, .int x0, rfl, rfl, (hwx _ k5).sq, e0, _, _, rfl, rfl, p, _, x0 + 2, rfl, p5, by omega, by omega, by omega, fun v1 H6 k6 p6 _ _ => ⟨_, _, rfl, rfl, ?_⟩⟩
      have k6' := k5.trans k6
      refine ⟨_, rfl, _, rfl, 1, rfl, wa, _, -1, .int x1, rfl, rfl, (hwx _ k6').sq, e1, _, _, rfl, rfl, p, _, x1 + 2, rfl, p6, by omega, by omega, by omega, fun v2 H7 k7 p7 _ _ => ⟨_, _, rfl, rfl, ?_⟩⟩
      have k7' := k6'.trans k7
      refine ⟨_, rfl, _, rfl, _, _, rfl, rfl, _, rfl, _, _, rfl, rfl, _, rfl, by show 4 ≤ sizeLine; decide, fun l4' n4 => ⟨l4', rfl, ⟨_, SqL.of upd_same⟩, ?_⟩⟩
      have s8 := same_new (o := .lst ([hz, hz - 1, hz + 1, hz + v1 - v2].map V.int)) n4
      refine for_list (K := K) (a := l4') (xs := [hz, hz - 1, hz + 1, hz + v1 - v2].map V.int) (fun i' σ H9 => ∃ z8 z9 : Option V, σ = [some (.ref p), some (.ref e), some (.ref wa), some (.ref hb), none, some (.ref l2), some (.int hz), some (.int (hz + v1 - v2)), z8, z9] ∧ Same (upd H7 l4' (.lst ([hz, hz - 1, hz + 1, hz + v1 - v2].map V.int))) H9) ⟨_, _, rfl, Same.refl _⟩ ?_ ?_ ?_
      · rintro i' σ H9 _ ⟨_, _, _, s9⟩
        exact SqL.of (s9 _ _ upd_same)
      · rintro i' x σ H9 hi' ⟨z8', z9', rfl, s9⟩
        obtain ⟨t, _, rfl⟩ := map_at hi'
        have k9 : Kp p G3 H9 := k7'.trans (.of (s8.trans s9))
        refine ⟨_, rfl, e, dx, _, rfl, hex _ k9, rfl, _, rfl, e, wa, ka, ha, ws, hs, t, rfl, ⟨dx, hex _ k9⟩, (hwx _ k9).sq, l4, hhx _ k9, lh, fun HA sA => ?_⟩
        have kA := k9.trans (.of sA)
        refine ⟨_, rfl, _, rfl, _, rfl, _, rfl, wa, hb, ws, hs, t, rfl, (hwx _ kA).sq, l4, hhbx _ kA, lh, fun HB sB => ?_⟩
        refine ⟨dO (fin (0 :: ws) hs t), dO (fin (0 :: ws) hs t), dp_vo _, dp_vo _, sh_dO _, sh_dO _, false, (by rw [eq_dO]; rfl), if_f ?_⟩
        have fine : ∃ z8 z9 : Option V, [some (V.ref p), some (V.ref e), some (V.ref wa), some (V.ref hb), none, some (V.ref l2), some (V.int hz), some (V.int (hz + v1 - v2)), some (V.int t), some (vo (fin (0 :: ws) hs t))] = [some (.ref p), some (.ref e), some (.ref wa), some (.ref hb), none, some (.ref l2), some (.int hz), some (.int (hz + v1 - v2)), z8, z9] ∧ Same (upd H7 l4' (.lst ([hz, hz - 1, hz + 1, hz + v1 - v2].map V.int))) HB := ⟨_, _, rfl, (s9.trans sA).trans sB⟩
        revert fine
        generalize fin (0 :: ws) hs t = fv
        intro fine
        cases fv with
        | none => exact ⟨_, rfl, _, _, _, _, false, rfl, .ty "bool", .base .non, rfl, _, rfl, if_f fine⟩
        | some fv => exact ⟨_, rfl, _, _, _, _, false, rfl, .ty "bool", .base (.int fv), rfl, _, rfl, if_f fine⟩
      · rintro σ H9 ⟨z8', z9', rfl, s9⟩
        exact ⟨_, _, _, _, rfl, k7'.trans (.of (s8.trans s9)), (p7.same (s8.trans s9)).mono (by omega), by omega⟩
    · rintro σ H5 ⟨z6, z7, z8, z9, rfl, k5, p5, i6⟩
      have l6 : ((ts ++ [0]).map V.int).length ≤ 6 := by
        rw [List.length_map, List.length_append]
        show ts.length + 1 ≤ 6
        omega
      exact q H5 ((Kp.of t03).trans k5) (p5.mono (by omega))
end
end Tg

namespace Tg
open PySem PySem.Spec PyProof.Rows L2
abbrev sLaw : Stmt := topS 29
abbrev NL : List Str := ["_law_script", "_law_purse_here", "_law_base_here", "_law_some_widths", "_law_some_keeps", "_law_some", "_law_keepings", "_law_horizons_here", "_law_keep", "_law_last", "_law_cell", "_law_at", "_law_turn", "_law_told", "_law_one"]
theorem scLaw : FnScope NL ["_law_script"] (defScope sLaw) := ⟨rfl, rfl, rfl, by decide +kernel, rfl, by decide +kernel, by decide +kernel⟩
abbrev scD : Scope := { kind := .function, names := [(".0", .local), ("_law_some", .local), ("tuple", .globalImplicit)], isGenerator := false, isCoroutine := false }
def rTupOf (K : PySem.W.Frag) : List V → Hp → VK → Prop := fun xs H Q => ∃ p ys, xs = [.ref p] ∧ ((SqL K H p ys ∧ ∀ l, H l = none → Q (.ref l) (upd H l (.tup ys))) ∨ (SqT K H p ys ∧ Q (.ref p) H))
section
variable (P : Program) (w : World) (K : PySem.W.Frag) (mg : Str → Option Value) (base : Heap)
/-- a class by keywords alone -/
def CalCK (k : Nat) (x : Str) (C : Addr) (ps ks : List Str) (is : List Nat) (sp : Sp) : Prop := ∃ f fd, FnOk P w K mg base CX0 k f fd ps sp ∧ mg x = some (.ref C) ∧ Mk K C f ∧ KBn K fd ps 1 ks (fun us ws => us ++ prm is ws) (fun vs zs => vs ++ prm is zs)
end
theorem pe_calCK {X : Cx} {k : Nat} {ps ks : List Str} {is : List Nat} {sp : Sp} {x : Str} {C : Addr} {p pos : Pos} {kws : List Keyword} {tk : TA} (c : CalCK X.prog X.w X.K X.mg X.base k x C ps ks is sp) (hr : Room (k + 1) X.A) (gl : Gl X x) (vals : PK X kws tk)
    (named : (backToKw pos (keywordEach kws X.env)).all (·.1.isSome) = true := by rfl) (names : (backToKw pos (keywordEach kws X.env)).filterMap (·.1) = ks := by rfl) (nodebug : (x == ("__debug__" : Str)) = false := by decide)
    (nostar : ((backTo pos (starEach [] X.env)).any (·.1) || (backToKw pos (keywordEach kws X.env)).any (·.1.isNone)) = false := by rfl) :
    PE X (.Call (.Name x p) [] kws pos) (tMakeK C 0 ks.length sp (fun vs zs => vs ++ prm is zs) E0 tNil tk) := by
  obtain ⟨f, fd, F, hm, M, hb⟩ := c
  exact pe_makeK0 M F hr gl hm hb pass0 vals named names nodebug nostar
theorem ne_pu {H : Hp} {l p : Addr} {n : Nat} {xs : List Addr} (h : H l = some (.lst (xs.map V.ref))) (hp : Pu H p n) : l ≠ p := fun z => by
  obtain ⟨a, c, k, e, _⟩ := hp
  rw [z, e] at h
  cases xs with
  | nil => cases h
  | cons x r =>
    have h' : HO.lst [V.int a, V.int c, V.int k] = HO.lst (V.ref x :: r.map V.ref) := Option.some.inj h
    injection h' with h'
    injection h' with h1
    cases h1
theorem ne_ins {H : Hp} {l e C dx : Addr} {fs : List (Str × V)} {xs : List V} (h : H l = some (.lst xs)) (he : H e = some (.ins C dx fs)) : l ≠ e := fun z => by
  rw [z, he] at h
  cases h
theorem ixN_at {n j : Nat} (h : j < n) : ixN n (j : Int) = some j := by
  simp [ixN, h]
theorem yes_i {σ : L2.St} {H : Hp} {Q : Bool → Hp → Prop} (h : Q true H) : tYes σ H Q := h
/-- one of the two keepings, and what the law keeps of it -/
structure Ke (K : PySem.W.Frag) (C : Addr) (H : Hp) (e wa ka hb : Addr) (ws : List Int) (ks hs : List (Option Int)) : Prop where
  ob : ∃ ha, KpO C H e wa ka ha ∧ SqT K H ha (hs.map vo)
  w : NdT H wa (ws.map V.int)
  wok : WOk ws
  nd : ws.Nodup
  k : SqT K H ka (ks.map vo)
  kok : KOk ks
  kl : ks.length = ws.length + 1
  kb : ∀ (i : Nat) (x : Int), ks[i]? = some (some x) → x.natAbs ≤ 10 ^ 15
  hb : SqT K H hb (hs.map vo)
  hi : HI ws ks hs
structure KS (H : Hp) (a : Addr) (ws : List Int) (ks : List (Option Int)) : Prop where
  at_ : H a = some (.tup (ks.map vo))
  kok : KOk ks
  kl : ks.length = ws.length + 1
  kb : ∀ (i : Nat) (x : Int), ks[i]? = some (some x) → x.natAbs ≤ 10 ^ 15
theorem KS.kt {H H' : Hp} {a : Addr} {ws : List Int} {ks : List (Option Int)} (h : KS H a ws ks) (k : KT H H') : KS H' a ws ks := ⟨k _ _ trivial h.at_, h.kok, h.kl, h.kb⟩
theorem Ke.kp {K : PySem.W.Frag} {C : Addr} {H H' : Hp} {e wa ka hb : Addr} {ws : List Int} {ks hs : List (Option Int)} (h : Ke K C H e wa ka hb ws ks hs) (kt : KT H H') (he : ∀ o, H e = some o → H' e = some o) : Ke K C H' e wa ka hb ws ks hs := by
  obtain ⟨⟨ha, ⟨dx, h1⟩, h2⟩, h3, h4, h5, h6, h7, h8, h9, h10, h11⟩ := h
  exact ⟨⟨ha, ⟨dx, he _ h1⟩, sqT_kt kt h2⟩, h3.kt kt, h4, h5, sqT_kt kt h6, h7, h8, h9, sqT_kt kt h10, h11⟩
theorem Ke.same {K : PySem.W.Frag} {C : Addr} {H H' : Hp} {e wa ka hb : Addr} {ws : List Int} {ks hs : List (Option Int)} (h : Ke K C H e wa ka hb ws ks hs) (s : Same H H') : Ke K C H' e wa ka hb ws ks hs := h.kp (KT.of s) (fun o q => s _ _ q)
/-- both keepings, and the law's lists -/
structure Tw (K : PySem.W.Frag) (C : Addr) (H : Hp) (wl kl kp hl : Addr) (es was kas : List Addr) (wss : List (List Int)) (kss : List (List (Option Int))) (hbs : List Addr) (hss : List (List (Option Int))) : Prop where
  w : H wl = some (.lst (was.map V.ref))
  k : H kl = some (.lst (kas.map V.ref))
  p : H kp = some (.lst (es.map V.ref))
  h : H hl = some (.lst (hbs.map V.ref))
  lb : hbs.length = 2
  lh : hss.length = 2
  all : ∀ (j : Nat) (e wa ka hb : Addr) (ws : List Int) (ks hs : List (Option Int)), es[j]? = some e → was[j]? = some wa → kas[j]? = some ka → hbs[j]? = some hb → wss[j]? = some ws → kss[j]? = some ks → hss[j]? = some hs → Ke K C H e wa ka hb ws ks hs
theorem Tw.same {K : PySem.W.Frag} {C : Addr} {H H' : Hp} {wl kl kp hl : Addr} {es was kas : List Addr} {wss : List (List Int)} {kss : List (List (Option Int))} {hbs : List Addr} {hss : List (List (Option Int))} (t : Tw K C H wl kl kp hl es was kas wss kss hbs hss) (s : Same H H') : Tw K C H' wl kl kp hl es was kas wss kss hbs hss :=
  ⟨s _ _ t.w, s _ _ t.k, s _ _ t.p, s _ _ t.h, t.lb, t.lh, fun j e wa ka hb ws ks hs a1 a2 a3 a4 a5 a6 a7 => (t.all j e wa ka hb ws ks hs a1 a2 a3 a4 a5 a6 a7).same s⟩
theorem Tw_kp {K : PySem.W.Frag} {C : Addr} {H H' : Hp} {wl kl kp hl p : Addr} {n : Nat} {es was kas : List Addr} {wss : List (List Int)} {kss : List (List (Option Int))} {hbs : List Addr} {hss : List (List (Option Int))} (t : Tw K C H wl kl kp hl es was kas wss kss hbs hss) (hp : Pu H p n) (k : Kp p H H') : Tw K C H' wl kl kp hl es was kas wss kss hbs hss := by
  refine ⟨k _ _ (ne_pu t.w hp) t.w, k _ _ (ne_pu t.k hp) t.k, k _ _ (ne_pu t.p hp) t.p, k _ _ (ne_pu t.h hp) t.h, t.lb, t.lh, fun j e wa ka hb ws ks hs a1 a2 a3 a4 a5 a6 a7 => ?_⟩
  have ke := t.all j e wa ka hb ws ks hs a1 a2 a3 a4 a5 a6 a7
  refine ke.kp (hp.kt k) fun o ho => k _ _ (fun z => ?_) ho
  obtain ⟨_, ⟨_, h1⟩, _⟩ := ke.ob
  obtain ⟨_, _, _, e2, _⟩ := hp
  rw [z, e2] at h1
  cases h1
section
variable {P : Program} {w : World} {K : PySem.W.Frag} {mg : Str → Option Value} {base : Heap} {C : Addr}
def spLaw (K : PySem.W.Frag) : Sp := fun vs H Q _ => ∃ (sa : Addr) (ns : List Int), vs = [.ref sa] ∧ SqL K H sa (ns.map V.int) ∧ ns.length ≤ 63 ∧ ∀ H', Q (.bl true) H'
structure LawC (P : Program) (w : World) (K : PySem.W.Frag) (mg : Str → Option Value) (base : Heap) (C : Addr) (k : Nat) : Prop where
  L_purse : Cal P w K mg base (k + 1) "_law_purse" ["_law_script", "_law_at"] (spPurse K)
  L_draw : CDraw P w K mg base (k + 1)
  L_base : Cal P w K mg base (k + 1) "_law_base" ["_law_purse_here"] spBase
  L_widths : Cal P w K mg base (k + 1) "_law_widths" ["_law_purse_here"] spWidths
  L_keeps : Cal P w K mg base (k + 1) "_law_keeps" ["_law_purse_here", "_law_some_widths"] (spKeeps K)
  L_horizons : Cal P w K mg base (k + 1) "_law_horizons" ["_law_some_widths", "_law_some_keeps", "_law_old", "_law_now_here"] (spHz K)
  L_in_order : Cal P w K mg base (k + 1) "_law_in_order" ["_law_some_widths", "_law_horizons_here"] (spOrd K)
  L_stands : Cal P w K mg base (k + 1) "_law_stands" ["_law_purse_here", "_law_keeping", "_law_some_widths", "_law_horizons_here"] (spStands K C)
  L_now : Cal P w K mg base (k + 1) "_law_now" ["_law_purse_here", "_law_some_widths", "_law_base_here", "_law_last"] (spNow K)
  K_Keeping : CalC P w K mg base k "Keeping" C ["self", "widths", "keeps"] (spInit K C)
  K_Keeping_k : CalCK P w K mg base k "Keeping" C ["self", "widths", "keeps"] ["keeps", "widths"] [1, 0] (spInit K C)
  M_expire : CalM P w K mg base (k + 1) C "expire" ["self", "now"] (spExp K C)
  T : TKeep K C
  m_range : mg "range" = none
  m_len : mg "len" = none
  m_max : mg "max" = none
  m_tuple : mg "tuple" = none
theorem ok_law {f : Addr} {fd : FuncData} {k : Nat} (F : Fun K "law" "law" sLaw f fd) (Z : LawC P w K mg base C k) : FnOk P w K mg base CX0 (k + 2) f fd ["_law_script"] (spLaw K) := by
  obtain ⟨L_purse, L_draw, L_base, L_widths, L_keeps, L_horizons, L_in_order, L_stands, L_now, K_Keeping, K_Keeping_k, M_expire, T, m_range, m_len, m_max, m_tuple⟩ := Z
  refine F.ok scLaw (fun vs H Q E h => ?_) (fun cdv A outer s H vs Q E hr h => ?_)
  · obtain ⟨sa, ns, rfl, _⟩ := h
    rfl
  · obtain ⟨sa, ns, rfl, hS, hlen, q⟩ := h
    have hu := hr.units
    refine ⟨_, pss_cons (ps_set (i := 1) scLaw.nd rfl (.inr rfl) (pe_cal L_purse (hr.mono (by omega)) (by rfl) (pa_cons (pv 0) (pa_cons pe_int pa_nil))))
      (pss_cons (ps_set (i := 2) scLaw.nd rfl (.inl rfl) (pe_cal L_base (hr.mono (by omega)) (by rfl) (pa_cons (pv 1) pa_nil)))
      (pss_cons (ps_set (i := 3) scLaw.nd rfl (.inl rfl) (pe_lst (pa_cons (pe_cal L_widths (hr.mono (by omega)) (by rfl) (pa_cons (pv 1) pa_nil)) (pa_cons (pe_cal L_widths (hr.mono (by omega)) (by rfl) (pa_cons (pv 1) pa_nil)) pa_nil))))
      (pss_cons (ps_setLc (i := 4) (own := [("_law_some", 5)]) (g := (gName 5)) (tt := tYes) rfl scLaw.nd rfl rfl (sw_true rfl rfl rfl (by decide +kernel)) (pi_list (pv 3)) (blkOk_by (own := [("_law_some", 5)]) (N := NL) (sc := defScope sLaw) (by decide +kernel)) (fun _ _ _ _ _ => (pg_name (i := 5) scLaw.nd rfl (.inl rfl))) (fun _ _ _ _ _ => pts_nil) (fun _ _ _ _ _ => (pe_cal L_keeps (hr.mono (by omega)) (by rfl) (pa_cons (pv 1) (pa_cons (pv 5) pa_nil)))))
      (pss_cons (ps_set (i := 6) scLaw.nd rfl (.inl rfl) (pe_lst (pa_cons (pe_calC K_Keeping (hr.mono (by omega)) (by rfl) (pa_cons (pe_ix ix_list (pv 3) pe_int (fun _ _ => rfl)) (pa_cons (pe_ix ix_list (pv 4) pe_int (fun _ _ => rfl)) pa_nil))) (pa_cons (pe_calCK K_Keeping_k (hr.mono (by omega)) (by rfl) (pk_cons (pe_ix ix_list (pv 4) pe_int (fun _ _ => rfl)) (pk_cons (pe_ix ix_list (pv 3) pe_int (fun _ _ => rfl)) pk_nil))) pa_nil))))
      (pss_cons (ps_setLc (i := 7) (own := [("_law_some", 5)]) (g := (gName 5)) (tt := tYes) rfl scLaw.nd rfl rfl (sw_true rfl rfl rfl (by decide +kernel)) (pi_list (pv 4)) (blkOk_by (own := [("_law_some", 5)]) (N := NL) (sc := defScope sLaw) (by decide +kernel)) (fun _ _ _ _ _ => (pg_name (i := 5) scLaw.nd rfl (.inl rfl))) (fun _ _ _ _ _ => pts_nil) (fun _ _ _ _ _ => (pe_callTy (r := rTupOf K) (T := "tuple") call_tuple_of (by rfl) m_tuple (by decide +kernel) (pa_cons (pe_lc (own := [("_law_keep", 8)]) (g := (gName 8)) (tt := tYes) (wi := iTup K (tVar 5)) rfl scLaw.nd (pi_tup (pv 5)) (blkOk_by (own := [("_law_keep", 8)]) (N := NL) (sc := scD) (by decide +kernel)) (fun _ _ _ _ _ => (pg_name (i := 8) scLaw.nd rfl (.inl rfl))) (fun _ _ _ _ _ => pts_nil) (fun _ _ _ _ _ => pe_non)) pa_nil))))
      (pss_cons (ps_set (i := 9) scLaw.nd rfl (.inl rfl) (pv 2))
      (pss_cons (ps_for PassesOwn.never rfl (pi_range2 (by rfl) m_range (pa_cons pe_int (pa_cons (pe_callB (call_max2 rfl) (by rfl) m_max (by decide +kernel) (pa_cons pe_int (pa_cons (pe_callB call_len_seq (by rfl) m_len (by decide +kernel) (pa_cons (pe_slice sl_list (pv 0) po_none (po_some pe_int)) pa_nil)) pa_nil))) pa_nil))) (pg_name (i := 10) scLaw.nd rfl (.inl rfl))
        (pss_cons (ps_set (i := 1) scLaw.nd rfl (.inr rfl) (pe_cal L_purse (hr.mono (by omega)) (by rfl) (pa_cons (pv 0) (pa_cons (pv 10) pa_nil))))
        (pss_cons (ps_set (i := 11) scLaw.nd rfl (.inl rfl) (pe_cal L_draw (hr.mono (by omega)) (by rfl) (pa_cons (pv 1) (pa_cons pe_int pa_nil))))
        (pss_cons (ps_set (i := 9) scLaw.nd rfl (.inl rfl) (pe_cal L_now (hr.mono (by omega)) (by rfl) (pa_cons (pv 1) (pa_cons (pe_ix ix_list (pv 3) (pv 11) (fun _ _ => rfl)) (pa_cons (pv 2) (pa_cons (pv 9) pa_nil))))))
        (pss_cons (ps_asg (pe_cal L_horizons (hr.mono (by omega)) (by rfl) (pa_cons (pe_ix ix_list (pv 3) (pv 11) (fun _ _ => rfl)) (pa_cons (pe_ix ix_list (pv 4) (pv 11) (fun _ _ => rfl)) (pa_cons (pe_ix ix_list (pv 7) (pv 11) (fun _ _ => rfl)) (pa_cons (pv 9) pa_nil))))) (pg_sub (pv 7) (pv 11) set_list))
        (pss_cons (ps_for PassesOwn.never rfl (pi_range1 (by rfl) m_range (pa_cons pe_int pa_nil)) (pg_name (i := 12) scLaw.nd rfl (.inl rfl))
          (pss_cons (ps_set (i := 13) scLaw.nd rfl (.inl rfl) (pe_calM (pe_ix ix_list (pv 6) (pv 11) (fun _ _ => rfl)) T.cl M_expire (hr.mono (by omega)) (pa_cons (pv 9) pa_nil)))
          (pss_one (ps_if (PW.pt (pw_or (pt_cmpR (op_neD hu) (pv 13) (pe_ix ix_list (pv 7) (pv 11) (fun _ _ => rfl)) (nomark _)) (pw_or1 (pt_not (pt_val (pe_cal L_in_order (hr.mono (by omega)) (by rfl) (pa_cons (pe_ix ix_list (pv 3) (pv 11) (fun _ _ => rfl)) (pa_cons (pv 13) pa_nil))))))))
            (pss_one (ps_ret pe_bl))
            pss_nil))))
        (pss_one (ps_for PassesOwn.never rfl (pi_range1 (by rfl) m_range (pa_cons pe_int pa_nil)) (pg_name (i := 14) scLaw.nd rfl (.inl rfl))
          (pss_one (ps_if (pt_not (pt_val (pe_cal L_stands (hr.mono (by omega)) (by rfl) (pa_cons (pv 1) (pa_cons (pe_ix ix_list (pv 6) (pv 14) (fun _ _ => rfl)) (pa_cons (pe_ix ix_list (pv 3) (pv 14) (fun _ _ => rfl)) (pa_cons (pe_ix ix_list (pv 7) (pv 14) (fun _ _ => rfl)) pa_nil)))))))
            (pss_one (ps_ret pe_bl))
            pss_nil))))))))))
      (pss_one (ps_ret pe_bl))))))))), ?_⟩
    refine ⟨_, rfl, sa, ns, 0, rfl, hS, hlen, by decide, by decide, fun p H1 s1 np hp => ?_⟩
    refine ⟨_, rfl, p, _, rfl, hp, by decide, fun b H2 k2 p2 hb => ?_⟩
    refine ⟨_, rfl, p, _, rfl, p2, by decide, fun wa0 ws0 H3 k3 p3 nd0 wok0 nod0 => ?_⟩
    refine ⟨_, rfl, p, _, rfl, p3, by decide, fun wa1 ws1 H4 k4 p4 nd1 wok1 nod1 => ?_⟩
    refine ⟨by show 2 ≤ sizeLine; decide, fun wl nwl => ?_⟩
    have s5 := same_new (o := .lst [V.ref wa0, V.ref wa1]) nwl
    have wlp : wl ≠ p := p4.ne nwl
    have m1 : Same H H4 := Kp.same s1 np ((k2.trans k3).trans k4)
    have m5 := m1.trans s5
    have nd0' := (nd0.kt (p3.kt k4)).same s5
    have nd1' := nd1.same s5
    have p5 := p4.same s5
    have hwl : (upd H4 wl (.lst [V.ref wa0, V.ref wa1])) wl = some (.lst [V.ref wa0, V.ref wa1]) := upd_same
    have fwl : H wl = none := m1.free nwl
    revert s5 m5 nd0' nd1' p5 hwl
    generalize upd H4 wl (.lst [V.ref wa0, V.ref wa1]) = H5
    intro s5 m5 nd0' nd1' p5 hwl
    -- keeps
    refine ⟨_, rfl, wl, rfl, ⟨_, SqL.of hwl⟩, fun kl nkl => ?_⟩
    have klp : kl ≠ p := p5.ne nkl
    refine lc_it (walk_list (K := K) (a := wl) (xs := [V.ref wa0, V.ref wa1])) (fun j Hc => Kp p H5 Hc ∧ Pu Hc p (1000000 + 8 + 100 * j) ∧ ∃ as : List (Addr × List (Option Int)), Hc kl = some (.lst (as.map fun x => V.ref x.1)) ∧ as.length = j ∧ ∀ (i : Nat) (x : Addr × List (Option Int)) (ws : List Int), as[i]? = some x → [ws0, ws1][i]? = some ws → KS Hc x.1 ws x.2)
      ⟨.of (same_new nkl), (p5.same (same_new nkl)).mono (by omega), [], upd_same, rfl, fun i x ws h => nomatch h⟩ (fun j Hc _ hc => SqL.of (hc.1 _ _ wlp hwl)) ?_ ?_
    · rintro j x Hc Hd hj ⟨kc, pc, as, hk, la, hks⟩ ⟨rfl, ex⟩
      obtain ⟨wa, ws, e1, nd, wok, e2⟩ : ∃ wa ws, x = .ref wa ∧ NdT Hd wa (ws.map V.int) ∧ WOk ws ∧ [ws0, ws1][j]? = some ws := by
        have kt := p5.kt kc
        match j, ex with
        | 0, rfl => exact ⟨wa0, ws0, rfl, nd0'.kt kt, wok0, rfl⟩
        | 1, rfl => exact ⟨wa1, ws1, rfl, nd1'.kt kt, wok1, rfl⟩
      subst e1
      have j2 : j < 2 := hj
      refine ⟨rfl, ?_⟩
      unfold tYes
      refine (if_pos rfl).mpr ⟨_, rfl, _, rfl, p, wa, _, ws, rfl, pc, by omega, nd.sq, wok, fun a ks He ke pe hae kok kle kbe => ?_⟩
      have kte := pc.kt ke
      refine ⟨_, ke _ _ klp hk, small1000 (by rw [List.length_map]; omega), ?_, ?_, as ++ [(a, ks)], ?_, by rw [List.length_append, la]; rfl, ?_⟩
      · exact fun c o hc e => by
          rw [upd_ne (ne_of_none e nkl)]
          exact ke _ _ hc (kc _ _ hc e)
      · obtain ⟨pa, pb, pcc, h1, h2, h3⟩ := pe
        exact ⟨pa, pb, pcc, by rw [upd_ne klp.symm]; exact h1, h2, by omega⟩
      · rw [upd_same, List.map_append]
        rfl
      · have ktf : KT He (upd He kl (.lst ((as.map fun x => V.ref x.1) ++ [V.ref a]))) := KT.put (ke _ _ klp hk) nfix_lst
        intro i x ws' h1 h2
        by_cases c : i < as.length
        · rw [List.getElem?_append_left c] at h1
          exact ((hks i x ws' h1 h2).kt kte).kt ktf
        · have ic : i = as.length := by
            have := (List.getElem?_eq_some_iff.mp h1).1
            rw [List.length_append] at this
            have : i < as.length + 1 := this
            omega
          rw [List.getElem?_append_right (by omega), show i - as.length = 0 by omega] at h1
          cases h1
          rw [ic, la, e2] at h2
          cases h2
          exact (⟨hae, kok, kle, kbe⟩ : KS He a ws ks).kt ktf
    rintro H6 ⟨k6, p6, as, hkl, las, hks⟩
    obtain ⟨ka0, ks0, ka1, ks1, eas⟩ : ∃ ka0 ks0 ka1 ks1, as = [(ka0, ks0), (ka1, ks1)] := by
      match as, las with
      | [(a, b), (c, d)], _ => exact ⟨a, b, c, d, rfl⟩
    subst eas
    have q0 : KS H6 ka0 ws0 ks0 := hks 0 _ ws0 rfl rfl
    have q1 : KS H6 ka1 ws1 ks1 := hks 1 _ ws1 rfl rfl
    have hkl' : H6 kl = some (.lst [V.ref ka0, V.ref ka1]) := hkl
    have hwl6 := k6 _ _ wlp hwl
    have m6 : Same H H6 := Kp.same m5 np k6
    have kt6 := p5.kt k6
    have v0 := nd0'.kt kt6
    have v1 := nd1'.kt kt6
    -- the keepings
    refine ⟨_, rfl, wl, _, 0, .ref wa0, rfl, rfl, SqL.of hwl6, rfl, _, rfl, kl, _, 0, .ref ka0, rfl, rfl, SqL.of hkl', rfl, fun x0 dx0 nx0 nd0 ne0 => ?_⟩
    have a1 : Same H6 (upd (upd H6 dx0 (.own x0)) x0 (.ins C dx0 [])) := (same_new nd0).trans (same_new (by rw [upd_ne ne0.symm]; exact nx0))
    refine ⟨x0, dx0, wa0, ka0, ws0, ks0, rfl, upd_same, (v0.same a1).sq, wok0, sqT_same a1 (SqT.of q0.at_), q0.kok, q0.kl, fun ha0 H7 o0 t0 kk0 => ⟨rfl, ?_⟩⟩
    have a7 : Same H6 H7 := Kp.same a1 nx0 kk0
    have hwl7 := a7 _ _ hwl6
    have hkl7 := a7 _ _ hkl'
    refine ⟨_, rfl, kl, _, 1, .ref ka1, rfl, rfl, SqL.of hkl7, rfl, _, rfl, wl, _, 1, .ref wa1, rfl, rfl, SqL.of hwl7, rfl, rfl, rfl, fun x1 dx1 nx1 nd1 ne1 => ?_⟩
    have b1 : Same H7 (upd (upd H7 dx1 (.own x1)) x1 (.ins C dx1 [])) := (same_new nd1).trans (same_new (by rw [upd_ne ne1.symm]; exact nx1))
    have r1 := q1.kt (KT.of (a7.trans b1))
    refine ⟨x1, dx1, wa1, ka1, ws1, ks1, rfl, upd_same, (v1.same (a7.trans b1)).sq, wok1, SqT.of r1.at_, r1.kok, r1.kl, fun ha1 H8 o1 t1 kk1 => ⟨rfl, ?_⟩⟩
    have b8 : Same H7 H8 := Kp.same b1 nx1 kk1
    have c8 := a7.trans b8
    obtain ⟨dy0, o0'⟩ := o0
    obtain ⟨dy1, o1'⟩ := o1
    have ne01 : x0 ≠ x1 := ne_of_none o0' nx1
    refine ⟨by show 2 ≤ sizeLine; decide, fun kp nkp => ?_⟩
    have s9 := same_new (o := .lst [V.ref x0, V.ref x1]) nkp
    have c9 := c8.trans s9
    have hkp : (upd H8 kp (.lst [V.ref x0, V.ref x1])) kp = some (.lst [V.ref x0, V.ref x1]) := upd_same
    have o0 := s9 _ _ (b8 _ _ o0')
    have o1 := s9 _ _ o1'
    have t0' := s9 _ _ (b8 _ _ t0)
    have t1' := s9 _ _ t1
    revert c9 hkp o0 o1 t0' t1'
    generalize upd H8 kp (.lst [V.ref x0, V.ref x1]) = H9
    intro c9 hkp o0 o1 t0' t1'
    have hwl9 := c9 _ _ hwl6
    have hkl9 := c9 _ _ hkl'
    -- the horizons
    refine ⟨_, rfl, kl, rfl, ⟨_, SqL.of hkl9⟩, fun hl nhl => ?_⟩
    refine lc_it (walk_list (K := K) (a := kl) (xs := [V.ref ka0, V.ref ka1])) (fun j Hc => Same H9 Hc ∧ ∃ as : List Addr, Hc hl = some (.lst (as.map V.ref)) ∧ as.length = j ∧ ∀ (i : Nat) (a : Addr) (ks : List (Option Int)), as[i]? = some a → [ks0, ks1][i]? = some ks → Hc a = some (.tup ((List.replicate ks.length none).map vo)))
      ⟨same_new nhl, [], upd_same, rfl, fun i a ks h => nomatch h⟩ (fun j Hc _ hc => SqL.of (hc.1 _ _ hkl9)) ?_ ?_
    · rintro j x Hc Hd hj ⟨sc, as, hk, la, hks'⟩ ⟨rfl, ex⟩
      obtain ⟨ka, ks, e1, ea, e2⟩ : ∃ ka ks, x = .ref ka ∧ Hd ka = some (.tup (ks.map vo)) ∧ [ks0, ks1][j]? = some ks := by
        match j, ex with
        | 0, rfl => exact ⟨ka0, ks0, rfl, sc _ _ (c9 _ _ q0.at_), rfl⟩
        | 1, rfl => exact ⟨ka1, ks1, rfl, sc _ _ (c9 _ _ q1.at_), rfl⟩
      subst e1
      have j2 : j < 2 := hj
      have l5 : ks.length ≤ 5 := by
        have w0 := wok0.le
        have w1 := wok1.le
        have k0 := q0.kl
        have k1 := q1.kl
        match j, e2 with
        | 0, rfl => omega
        | 1, rfl => omega
      refine ⟨rfl, yes_i (if_t ?_)⟩
      refine ⟨_, rfl, ka, rfl, ⟨_, SqT.of ea⟩, fun D2 nD2 => ?_⟩
      refine lc_it (walk_tup (K := K) (a := ka) (xs := ks.map vo)) (fun j' Hc' => Same Hd Hc' ∧ Hc' D2 = some (.lst (List.replicate j' V.non))) ⟨same_new nD2, upd_same⟩ (fun j' Hc' _ hc => SqT.of (hc.1 _ _ ea)) ?_ ?_
      · rintro j' x' Hc' Hd' hj' ⟨sc', hD⟩ ⟨rfl, _⟩
        refine ⟨rfl, ?_⟩
        unfold tYes
        refine (if_pos rfl).mpr ⟨_, hD, small1000 (by rw [List.length_replicate]; rw [List.length_map] at hj'; omega), same_put nD2 sc', ?_⟩
        rw [upd_same, List.replicate_succ']
      · rintro He ⟨sc', hD⟩
        rw [List.length_map] at hD
        refine ⟨D2, _, rfl, .inl ⟨SqL.of hD, fun t nt => ?_⟩⟩
        have st := same_new (o := .tup (List.replicate ks.length V.non)) nt
        have sd := sc'.trans st
        refine ⟨_, sd _ _ hk, small1000 (by rw [List.length_map]; omega), same_put nhl (sc.trans sd), as ++ [t], ?_, by rw [List.length_append, la]; rfl, ?_⟩
        · rw [upd_same, List.map_append]
          rfl
        · have ktf : KT (upd He t (.tup (List.replicate ks.length V.non))) (upd (upd He t (.tup (List.replicate ks.length V.non))) hl (.lst (as.map V.ref ++ [V.ref t]))) := KT.put (sd _ _ hk) nfix_lst
          intro i a ks' h1 h2
          by_cases c : i < as.length
          · rw [List.getElem?_append_left c] at h1
            exact ktf _ _ trivial (sd _ _ (hks' i a ks' h1 h2))
          · have ic : i = as.length := by
              have := (List.getElem?_eq_some_iff.mp h1).1
              rw [List.length_append] at this
              have : i < as.length + 1 := this
              omega
            rw [List.getElem?_append_right (by omega), show i - as.length = 0 by omega] at h1
            cases h1
            rw [ic, la, e2] at h2
            cases h2
            rw [List.map_replicate]
            exact ktf _ _ trivial upd_same
    rintro HA ⟨sA, bs, hhl, lbs, hbs⟩
    obtain ⟨hb0, hb1, ebs⟩ : ∃ hb0 hb1, bs = [hb0, hb1] := by
      match bs, lbs with
      | [a, b], _ => exact ⟨a, b, rfl⟩
    subst ebs
    have z0 := hbs 0 hb0 ks0 rfl rfl
    have z1 := hbs 1 hb1 ks1 rfl rfl
    have hhl' : HA hl = some (.lst [V.ref hb0, V.ref hb1]) := hhl
    have cA := c9.trans sA
    have mA := m6.trans cA
    have K0 : Ke K C HA x0 wa0 ka0 hb0 ws0 ks0 (List.replicate ks0.length none) := ⟨⟨ha0, ⟨dy0, sA _ _ o0⟩, SqT.of (sA _ _ t0')⟩, v0.same cA, wok0, nod0, SqT.of (cA _ _ q0.at_), q0.kok, q0.kl, q0.kb, SqT.of z0, HI.start _ _ q0.kl⟩
    have K1 : Ke K C HA x1 wa1 ka1 hb1 ws1 ks1 (List.replicate ks1.length none) := ⟨⟨ha1, ⟨dy1, sA _ _ o1⟩, SqT.of (sA _ _ t1')⟩, v1.same cA, wok1, nod1, SqT.of (cA _ _ q1.at_), q1.kok, q1.kl, q1.kb, SqT.of z1, HI.start _ _ q1.kl⟩
    have TA : Tw K C HA wl kl kp hl [x0, x1] [wa0, wa1] [ka0, ka1] [ws0, ws1] [ks0, ks1] [hb0, hb1] [List.replicate ks0.length none, List.replicate ks1.length none] := by
      refine ⟨sA _ _ hwl9, sA _ _ hkl9, sA _ _ hkp, hhl', rfl, rfl, fun j e wa ka hb ws ks hs a1 a2 a3 a4 a5 a6 a7 => ?_⟩
      match j, a1, a2, a3, a4, a5, a6, a7 with
      | 0, rfl, rfl, rfl, rfl, rfl, rfl, rfl => exact K0
      | 1, rfl, rfl, rfl, rfl, rfl, rfl, rfl => exact K1
    have fx0 : H x0 = none := m6.free nx0
    have fx1 : H x1 = none := (m6.trans a7).free nx1
    have fhl : H hl = none := (m6.trans c9).free nhl
    obtain ⟨ms, em, lm⟩ : ∃ ms : List Int, cutV (ns.map V.int) none (some 21) = ms.map V.int ∧ ms.length ≤ ns.length := cut_ints ns _ _
    refine ⟨_, rfl, ?_⟩
    refine ⟨_, rfl, 21, rfl, sa, _, rfl, sqL_same mA hS, fun l2 n2 => ?_⟩
    rw [em]
    refine ⟨l2, _, rfl, .inl (SqL.of upd_same), _, _, rfl, _, _, rfl, ?_, ?_⟩
    · rw [List.length_map]
      refine ⟨by decide, by decide, ?_, ?_⟩
      · split <;> omega
      · split <;> omega
    obtain ⟨tn, et⟩ : ∃ tn : Nat, ((if ((ms.map V.int).length : Int) > 7 then ((ms.map V.int).length : Int) else 7) - 1).toNat = tn := ⟨_, rfl⟩
    have tn6 : tn ≤ 63 := by
      rw [List.length_map] at et
      split at et <;> omega
    rw [et]
    refine for_range (n := tn) (fun i σ Hc => ∃ (la : Int) (hbs : List Addr) (hss : List (List (Option Int))) (z1 z10 z11 z12 z13 z14 : Option V), σ = [some (.ref sa), z1, some (.int b), some (.ref wl), some (.ref kl), none, some (.ref kp), some (.ref hl), none, some (.int la), z10, z11, z12, z13, z14] ∧ Same H Hc ∧ Tw K C Hc wl kl kp hl [x0, x1] [wa0, wa1] [ka0, ka1] [ws0, ws1] [ks0, ks1] hbs hss ∧ la.natAbs ≤ 10 ^ 14 * (i + 1)) ?_ ?_ ?_
    · exact ⟨b, _, _, _, none, none, none, none, none, rfl, mA.trans (same_new n2), TA.same (same_new n2), by omega⟩
    · rintro i σ Hc hi ⟨la, hbs, hss, z1, z10, z11, z12, z13, z14, rfl, sc, tc, lab⟩
      refine ⟨_, rfl, _, rfl, sa, ns, 1 + i, rfl, sqL_same sc hS, hlen, by omega, by omega, fun p' H1' s1' np' hp' => ?_⟩
      have nHp' : H p' = none := sc.free np'
      refine ⟨_, rfl, p', _, 2, rfl, hp', by decide, by decide, by decide, fun v H2' k2' p2' v0' v1' => ?_⟩
      obtain ⟨j, rfl⟩ : ∃ j : Nat, v = (j : Int) := ⟨v.toNat, by omega⟩
      have j2 : j < 2 := by omega
      have s2' : Same Hc H2' := Kp.same s1' np' k2'
      have t2 := tc.same s2'
      obtain ⟨e, ee⟩ : ∃ e, [x0, x1][j]? = some e := ⟨[x0, x1][j]'j2, List.getElem?_eq_getElem _⟩
      obtain ⟨wa, ewa⟩ : ∃ e, [wa0, wa1][j]? = some e := ⟨[wa0, wa1][j]'j2, List.getElem?_eq_getElem _⟩
      obtain ⟨ka, eka⟩ : ∃ e, [ka0, ka1][j]? = some e := ⟨[ka0, ka1][j]'j2, List.getElem?_eq_getElem _⟩
      obtain ⟨ws, ews⟩ : ∃ e, [ws0, ws1][j]? = some e := ⟨[ws0, ws1][j]'j2, List.getElem?_eq_getElem _⟩
      obtain ⟨ks, eks⟩ : ∃ e, [ks0, ks1][j]? = some e := ⟨[ks0, ks1][j]'j2, List.getElem?_eq_getElem _⟩
      obtain ⟨hb, ehb⟩ : ∃ e, hbs[j]? = some e := ⟨hbs[j]'(by rw [tc.lb]; exact j2), List.getElem?_eq_getElem _⟩
      obtain ⟨hs, ehs⟩ : ∃ e, hss[j]? = some e := ⟨hss[j]'(by rw [tc.lh]; exact j2), List.getElem?_eq_getElem _⟩
      have rf : ∀ {xs : List Addr} {a : Addr}, xs[j]? = some a → atI (xs.map V.ref) ((j : Nat) : Int) = some (.ref a) := fun h => atI_nat (by rw [List.getElem?_map, h]; rfl)
      have ke2 := t2.all j e wa ka hb ws ks hs ee ewa eka ehb ews eks ehs
      refine ⟨_, rfl, _, rfl, _, rfl, wl, _, _, .ref wa, rfl, rfl, SqL.of t2.w, rf ewa, _, rfl, _, rfl, p', wa, _, 10 ^ 14 * (i + 1), ws, b, la, rfl, p2', by decide, ke2.w.sq, ke2.wok, by omega, lab, by omega, fun nw H3' k3' p3' nwb => ?_⟩
      have s3' : Same Hc H3' := Kp.same s1' np' (k2'.trans k3')
      have t3 := tc.same s3'
      have ke3 := t3.all j e wa ka hb ws ks hs ee ewa eka ehb ews eks ehs
      refine ⟨_, rfl, _, rfl, wl, _, _, .ref wa, rfl, rfl, SqL.of t3.w, rf ewa, _, rfl, _, rfl, kl, _, _, .ref ka, rfl, rfl, SqL.of t3.k, rf eka, _, rfl, _, rfl, hl, _, _, .ref hb, rfl, rfl, SqL.of t3.h, rf ehb, _, rfl, wa, ka, hb, ws, ks, hs, nw, rfl, ke3.w.sq, ke3.wok, ke3.k, ke3.hb, ke3.kl, ke3.hi.len, ke3.hi.nn, ke3.kb, by omega, fun a H4' s4' ha4 => ?_⟩
      refine ⟨_, rfl, _, rfl, hl, _, _, j, rfl, rfl, s4' _ _ t3.h, ixN_at (by rw [List.length_map, tc.lb]; exact j2), ?_⟩
      have t4 := t3.same s4'
      have ke4 := ke3.same s4'
      have p4' := p3'.same s4'
      have hlp : hl ≠ p' := ne_pu t4.h p4'
      have kt5 : KT H4' (upd H4' hl (.lst ((hbs.map V.ref).set j (.ref a)))) := KT.put t4.h nfix_lst
      have kh5 : Kp hl H4' (upd H4' hl (.lst ((hbs.map V.ref).set j (.ref a)))) := Kp.put
      have hh5 : (upd H4' hl (.lst ((hbs.map V.ref).set j (.ref a)))) hl = some (.lst ((hbs.set j a).map V.ref)) := by
        rw [upd_same, List.map_set]
      have sm5 : Same H (upd H4' hl (.lst ((hbs.map V.ref).set j (.ref a)))) := same_put fhl ((sc.trans s3').trans s4')
      revert kt5 kh5 hh5 sm5
      generalize upd H4' hl (.lst ((hbs.map V.ref).set j (.ref a))) = H5'
      intro kt5 kh5 hh5 sm5
      obtain ⟨N, eN⟩ : ∃ N, newH ws ks hs nw = N := ⟨_, rfl⟩
      have hiN : HI ws ks N := eN ▸ ke4.hi.step ke4.wok ke4.kok ke4.kl nw
      have tw : newH ws ks N nw = N := by
        rw [← eN]
        exact newH_twice ke4.kl ke4.hi.len
      have sa5 : SqT K H5' a (N.map vo) := eN ▸ sqT_kt kt5 (SqT.of ha4)
      obtain ⟨ha, ⟨dxe, hobj⟩, hown⟩ := ke4.ob
      have nwh : wl ≠ hl := ne_of_none hwl9 nhl
      have nkh : kl ≠ hl := ne_of_none hkl9 nhl
      have nph : kp ≠ hl := ne_of_none hkp nhl
      have neh : e ≠ hl := (ne_ins t4.h hobj).symm
      have nep : e ≠ p' := fun z => by
        obtain ⟨_, _, _, e2, _⟩ := p4'
        rw [z, e2] at hobj
        cases hobj
      have fe : H e = none := by
        match j, ee with
        | 0, rfl => exact fx0
        | 1, rfl => exact fx1
      have oth : ∀ (i : Nat) (e' : Addr), i ≠ j → [x0, x1][i]? = some e' → e' ≠ e := fun i e' ij h => by
        match i, j, h, ee, ij with
        | 0, 1, rfl, rfl, _ => exact ne01
        | 1, 0, rfl, rfl, _ => exact ne01.symm
        | 0, 0, _, _, h => exact absurd rfl h
        | 1, 1, _, _, h => exact absurd rfl h
      have p5' : Pu H5' p' (1000000 + 8) := by
        obtain ⟨pa, pb, pc, h1, h2, h3⟩ := p4'
        exact ⟨pa, pb, pc, kh5 _ _ hlp.symm h1, h2, by omega⟩
      refine ⟨2, rfl, by decide, by decide, for_range (n := 2) (fun i' σ Hd => ∃ (z12 z13 : Option V) (hc : List (Option Int)) (ho : Addr), σ = [some (.ref sa), some (.ref p'), some (.int b), some (.ref wl), some (.ref kl), none, some (.ref kp), some (.ref hl), none, some (.int nw), some (.int (1 + i)), some (.int (j : Nat)), z12, z13, z14] ∧ Same H Hd ∧ Pu Hd p' (1000000 + 8) ∧
        Hd wl = some (.lst ([wa0, wa1].map V.ref)) ∧ Hd kl = some (.lst ([ka0, ka1].map V.ref)) ∧ Hd kp = some (.lst ([x0, x1].map V.ref)) ∧ Hd hl = some (.lst ((hbs.set j a).map V.ref)) ∧ KT H5' Hd ∧ (∀ b o, b ≠ e → H5' b = some o → Hd b = some o) ∧ (hc = hs ∨ hc = N) ∧ (0 < i' → hc = N) ∧ KpO C Hd e wa ka ho ∧ SqT K Hd ho (hc.map vo)) ?_ ?_ ?_⟩
      · exact ⟨_, _, hs, ha, rfl, sm5, p5', kh5 _ _ nwh t4.w, kh5 _ _ nkh t4.k, kh5 _ _ nph t4.p, hh5, KT.refl _, fun _ _ _ h => h, .inl rfl, (fun h => absurd h (by decide)), ⟨dxe, kh5 _ _ neh hobj⟩, sqT_kt kt5 hown⟩
      · rintro i' σ Hd _ ⟨z12', z13', hc, ho, rfl, smd, pd, dw, dk, dp, dh, ktd, kpd, hcs, _, ⟨dxo, oo⟩, osq⟩
        have ktA : KT H4' Hd := kt5.trans ktd
        have kN : newH ws ks hc nw = N := by
          rcases hcs with rfl | rfl
          · exact eN
          · exact tw
        have lhc : hc.length = ws.length + 1 := by
          rcases hcs with rfl | rfl
          · exact ke4.hi.len
          · exact hiN.len
        have hwd := ke4.w.kt ktA
        refine ⟨_, rfl, _, rfl, kp, _, _, .ref e, rfl, rfl, SqL.of dp, rf ee, e, dxo, _, rfl, oo, rfl, _, rfl, e, wa, ka, ho, ws, ks, hc, nw, rfl, ⟨dxo, oo⟩, hwd.sq, ke4.wok, sqT_kt ktA ke4.k, osq, ke4.kl, lhc, fun t He o2 ht2 kk => ?_⟩
        rw [kN] at ht2
        have ktE : KT Hd He := KT.kp kk oo nfix_ins
        have nhe : hl ≠ e := ne_ins dh oo
        have dhE := kk _ _ nhe dh
        have dwE := kk _ _ (ne_ins dw oo) dw
        have ea : (hbs.set j a)[j]? = some a := by
          rw [List.getElem?_set_self (by rw [tc.lb]; exact j2)]
        refine ⟨_, rfl, _, rfl, _, rfl, hl, _, _, .ref a, rfl, rfl, SqL.of dhE, rf ea, .tuple (N.map dO), .tuple (N.map dO), .tup (SqT.of ht2) (dp_vos N), .tup (sqT_kt (ktd.trans ktE) sa5) (dp_vos N), sh_tup N, sh_tup N, false, ?_, if_f ?_⟩
        · show V.bl (!PyData.eqvAll (N.map dO) (N.map dO)) = _
          rw [(dO_all N).2.2]
          rfl
        refine ⟨_, rfl, _, rfl, wl, _, _, .ref wa, rfl, rfl, SqL.of dwE, rf ewa, _, rfl, wa, t, ws, N, rfl, (hwd.kt ktE).sq, ke4.wok, ht2, hiN.ok, fun Hf sf => ⟨true, rfl, if_f ?_⟩⟩
        have pE : Pu He p' (1000000 + 8) := by
          obtain ⟨pa, pb, pc, h1, h2⟩ := pd
          exact ⟨pa, pb, pc, kk _ _ nep.symm h1, h2⟩
        obtain ⟨dx2, oo2⟩ := o2
        exact ⟨_, _, N, t, rfl, (Kp.same smd fe kk).trans sf, pE.same sf, sf _ _ dwE, sf _ _ (kk _ _ (ne_ins dk oo) dk), sf _ _ (kk _ _ (ne_ins dp oo) dp), sf _ _ dhE, (ktd.trans ktE).trans (KT.of sf), fun b o hb' h => sf _ _ (kk _ _ hb' (kpd b o hb' h)), .inr rfl, fun _ => rfl, ⟨dx2, sf _ _ oo2⟩, SqT.of (sf _ _ ht2)⟩
      · rintro σ Hd ⟨z12', z13', hc, ho, rfl, smd, pd, dw, dk, dp, dh, ktd, kpd, _, hcN, ⟨dxo, oo⟩, osq⟩
        have hcn := hcN (by decide)
        subst hcn
        have ktA : KT H4' Hd := kt5.trans ktd
        have TD : Tw K C Hd wl kl kp hl [x0, x1] [wa0, wa1] [ka0, ka1] [ws0, ws1] [ks0, ks1] (hbs.set j a) (hss.set j hc) := by
          refine ⟨dw, dk, dp, dh, by rw [List.length_set, tc.lb], by rw [List.length_set, tc.lh], fun i2 e2 w2 k2 b2 s2 q2 g2 a1 a2 a3 a4 a5 a6 a7 => ?_⟩
          by_cases c : i2 = j
          · subst c
            rw [List.getElem?_set_self (by rw [tc.lb]; exact j2)] at a4
            rw [List.getElem?_set_self (by rw [tc.lh]; exact j2)] at a7
            rw [ee] at a1
            rw [ewa] at a2
            rw [eka] at a3
            rw [ews] at a5
            rw [eks] at a6
            cases a1
            cases a2
            cases a3
            cases a4
            cases a5
            cases a6
            cases a7
            exact ⟨⟨ho, ⟨dxo, oo⟩, osq⟩, ke4.w.kt ktA, ke4.wok, ke4.nd, sqT_kt ktA ke4.k, ke4.kok, ke4.kl, ke4.kb, sqT_kt ktd sa5, hiN⟩
          · rw [List.getElem?_set_ne (fun z => c z.symm)] at a4 a7
            have kk4 := t4.all i2 e2 w2 k2 b2 s2 q2 g2 a1 a2 a3 a4 a5 a6 a7
            refine kk4.kp ktA fun o ho2 => kpd _ _ (oth i2 e2 c a1) (kh5 _ _ ?_ ho2)
            obtain ⟨_, ⟨_, h1⟩, _⟩ := kk4.ob
            exact (ne_ins t4.h h1).symm
        refine ⟨2, rfl, by decide, by decide, for_range (n := 2) (fun i2 σ Hf => ∃ z14' : Option V, σ = [some (.ref sa), some (.ref p'), some (.int b), some (.ref wl), some (.ref kl), none, some (.ref kp), some (.ref hl), none, some (.int nw), some (.int (1 + i)), some (.int (j : Nat)), z12', z13', z14'] ∧ Same H Hf ∧ Pu Hf p' (1000000 + 8 + 100 * i2) ∧ Tw K C Hf wl kl kp hl [x0, x1] [wa0, wa1] [ka0, ka1] [ws0, ws1] [ks0, ks1] (hbs.set j a) (hss.set j hc)) ⟨_, rfl, smd, pd, TD⟩ ?_ ?_⟩
        · rintro i2 σ Hf i22 ⟨z14', rfl, smf, pf, tf⟩
          obtain ⟨e2, g1⟩ : ∃ e, [x0, x1][i2]? = some e := ⟨[x0, x1][i2]'i22, List.getElem?_eq_getElem _⟩
          obtain ⟨w2, g2⟩ : ∃ e, [wa0, wa1][i2]? = some e := ⟨[wa0, wa1][i2]'i22, List.getElem?_eq_getElem _⟩
          obtain ⟨k2, g3⟩ : ∃ e, [ka0, ka1][i2]? = some e := ⟨[ka0, ka1][i2]'i22, List.getElem?_eq_getElem _⟩
          obtain ⟨v2, g4⟩ : ∃ e, [ws0, ws1][i2]? = some e := ⟨[ws0, ws1][i2]'i22, List.getElem?_eq_getElem _⟩
          obtain ⟨q2, g5⟩ : ∃ e, [ks0, ks1][i2]? = some e := ⟨[ks0, ks1][i2]'i22, List.getElem?_eq_getElem _⟩
          obtain ⟨b2, g6⟩ : ∃ e, (hbs.set j a)[i2]? = some e := ⟨(hbs.set j a)[i2]'(by rw [tf.lb]; exact i22), List.getElem?_eq_getElem _⟩
          obtain ⟨h2, g7⟩ : ∃ e, (hss.set j hc)[i2]? = some e := ⟨(hss.set j hc)[i2]'(by rw [tf.lh]; exact i22), List.getElem?_eq_getElem _⟩
          have rf2 : ∀ {xs : List Addr} {a : Addr}, xs[i2]? = some a → atI (xs.map V.ref) (0 + ((i2 : Nat) : Int)) = some (.ref a) := fun h => by
            rw [Int.zero_add]
            exact atI_nat (by rw [List.getElem?_map, h]; rfl)
          have ke := tf.all i2 e2 w2 k2 b2 v2 q2 h2 g1 g2 g3 g6 g4 g5 g7
          obtain ⟨ho2, ob2, os2⟩ := ke.ob
          refine ⟨_, rfl, _, rfl, _, rfl, kp, _, _, .ref e2, rfl, rfl, SqL.of tf.p, rf2 g1, _, rfl, _, rfl, wl, _, _, .ref w2, rfl, rfl, SqL.of tf.w, rf2 g2, _, rfl, _, rfl, hl, _, _, .ref b2, rfl, rfl, SqL.of tf.h, rf2 g6, p', e2, w2, k2, ho2, b2, _, v2, h2, rfl, pf, by omega, ob2, ke.w, ke.wok, ke.nd, os2, ke.hb, ke.hi.len, fun Hg kg pg => ⟨true, rfl, if_f ?_⟩⟩
          exact ⟨_, rfl, Kp.same smf nHp' kg, pg.mono (by omega), Tw_kp tf pf kg⟩
        · rintro σ Hf ⟨z14', rfl, smf, pf, tf⟩
          exact ⟨nw, _, _, _, _, _, _, _, _, rfl, smf, tf, by omega⟩
    · rintro σ Hc ⟨la, hbs, hss, z1, z10, z11, z12, z13, z14, rfl, sc, tc, lab⟩
      exact q _
end
end Tg

namespace Tg
open PySem PySem.Spec PyProof.Rows L2
section
variable {K : PySem.W.Frag}
theorem kbn_init {f : Addr} {fd : FuncData} (F : Fun K "__init__" "Keeping.__init__" sInit f fd) : KBn K fd ["self", "widths", "keeps"] 1 ["keeps", "widths"] (fun us ws => us ++ prm [1, 0] ws) (fun vs zs => vs ++ prm [1, 0] zs) := by
  obtain ⟨_, _, kV, doc, pm, an, cdv, ct, _, rfl, _, _⟩ := F.ex
  exact ⟨fun s us ws _ h0 h2 => match us, ws, h0, h2 with | [_], [_, _], _, _ => .of_eq rfl, fun r1 r => r1.append (prm_rel r _)⟩
abbrev FGone (K : PySem.W.Frag) (f : Addr) (fd : FuncData) : Prop := FunD K "gone_before" "Keeping.gone_before" (defArgs sGone) (defBody sGone) (defScope sGone) [.non] [] f fd
theorem kbn_gone {f : Addr} {fd : FuncData} (F : FGone K f fd) : KBn K fd ["self", "width"] 1 ["width"] (fun us ws => us ++ prm [0] ws) (fun vs zs => vs ++ prm [0] zs) := by
  obtain ⟨its, h⟩ := F.kbindsD (ps := ["self", "width"]) 1 ["width"] (fun us _ ws => us ++ prm [0] ws) (fun z => nomatch z) (fun r1 _ r => r1.append (prm_rel r _)) (fun T kV doc pm an cdv ct us its ws h1 h2 h3 => match us, its, ws, h1, h2, h3 with | [_], [_], [_], _, _, _ => ⟨_, rfl, rfl⟩)
  exact h
theorem b_gone0 {f : Addr} {fd : FuncData} (F : FGone K f fd) : ∃ ds, Vals [.non] ds ∧ Binds K fd ["self", "width"] ds := F.binds1 1 0 (fun z => nomatch z) rfl (fun T kV doc pm an cdv ct us its h1 h2 => match us, its, h1, h2 with | [_], [_], _, _ => ⟨_, rfl, rfl⟩)
theorem b_gone {f : Addr} {fd : FuncData} (F : FGone K f fd) : Binds K fd ["self", "width"] [] := by
  obtain ⟨ds, h1, h2⟩ := F.binds1 (ps := ["self", "width"]) 2 1 (fun z => nomatch z) rfl (fun T kV doc pm an cdv ct us its h1 h2 => match us, its, h1, h2 with | [_, _], [_], _, _ => ⟨_, rfl, rfl⟩)
  cases h1
  exact h2
end
/-! ### what the top has written; the law's own head -/
theorem all_mk {l : PySem.W.OpenLaw} {w : World} {K : PySem.W.Frag} {h : Heap} {mg : Str → Option Value} {fa TD C1 f1 f2 f3 f4 f5 f6 f7 f8 f9 f10 f11 f12 f13 f14 f15 f16 f17 f18 f19 f20 f21 f22 f23 : Addr} {zMW : Tok} {nT : Nat} {cT : Value} {dT : Option Addr} {sT : Array (Option Value)} (X : K.In h) (G : h.Ns mainGlobals mg) (hfa : mg "law" = some (.ref fa))
    {od1 an1 od2 an2 od3 an3 od4 an4 od5 an5 od6 an6 od7 an7 od8 an8 od9 an9 od10 an10 od11 an11 od12 an12 od13 an13 od14 an14 od15 an15 od16 an16 od17 an17 od18 an18 od19 an19 od20 an20 od21 an21 od22 an22 od23 an23 : Option Addr} {sl1 sl2 sl3 sl4 sl5 sl6 sl7 sl8 sl9 sl10 sl11 sl12 sl13 sl14 sl15 sl16 sl17 sl18 sl19 sl20 sl21 sl22 sl23 : Array (Option Value)} {oc1 kV1 dc1 pm1 cd1 ct1 oc2 kV2 dc2 pm2 cd2 ct2 oc3 kV3 dc3 pm3 cd3 ct3 oc4 kV4 dc4 pm4 cd4 ct4 oc5 kV5 dc5 pm5 cd5 ct5 oc6 kV6 dc6 pm6 cd6 ct6 oc7 kV7 dc7 pm7 cd7 ct7 oc8 kV8 dc8 pm8 cd8 ct8 oc9 kV9 dc9 pm9 cd9 ct9 oc10 kV10 dc10 pm10 cd10 ct10 oc11 kV11 dc11 pm11 cd11 ct11 oc12 kV12 dc12 pm12 cd12 ct12 oc13 kV13 dc13 pm13 cd13 ct13 oc14 kV14 dc14 pm14 cd14 ct14 oc15 kV15 dc15 pm15 cd15 ct15 oc16 kV16 dc16 pm16 cd16 ct16 oc17 kV17 dc17 pm17 cd17 ct17 oc18 kV18 dc18 pm18 cd18 ct18 oc19 kV19 dc19 pm19 cd19 ct19 oc20 kV20 dc20 pm20 cd20 ct20 oc21 kV21 dc21 pm21 cd21 ct21 oc22 kV22 dc22 pm22 cd22 ct22 oc23 kV23 dc23 pm23 cd23 ct23 : Value}
    (aC1 : PySem.W.nsIn K mainGlobals "Keeping" = some (some (.ref C1)))
    (pgC1 : PySem.W.plainGet K C1 Str.empty = true)
    (hdC1 : PySem.W.hasDictIn K C1 = true)
    (poC1 : PySem.W.plainOver K C1 = true)
    (saC1 : PySem.W.findIn K (.ref C1) "__setattr__" = some (some (.builtin "object.__setattr__")))
    (mkC1 : PySem.W.makesIn K C1 = true)
    (kcC1 : PySem.W.keepIn K (.ref C1) = true)
    (noC1_widths : PySem.W.findIn K (.ref C1) "widths" = some none)
    (noC1_keeps : PySem.W.findIn K (.ref C1) "keeps" = some none)
    (noC1_horizons : PySem.W.findIn K (.ref C1) "horizons" = some none)
    (a1 : PySem.W.findIn K (.ref C1) "__init__" = some (some (.ref f1)))
    (i1 : PySem.W.isFn K (.ref f1) = true)
    (l1 : K.lookup f1 = some ⟨oc1, od1, .func (PySem.W.fnOf "__init__" "Keeping.__init__" (defArgs sInit) (defBody sInit) (defScope sInit) .none kV1 dc1 pm1 an1 cd1 ct1), sl1⟩)
    (c1 : PySem.W.codeIn K cd1 "Keeping.__init__" = true)
    (k1 : PySem.W.keepIn K (.ref f1) = true)
    (a2 : PySem.W.findIn K (.ref C1) "expire" = some (some (.ref f2)))
    (i2 : PySem.W.isFn K (.ref f2) = true)
    (l2 : K.lookup f2 = some ⟨oc2, od2, .func (PySem.W.fnOf "expire" "Keeping.expire" (defArgs sExp) (defBody sExp) (defScope sExp) .none kV2 dc2 pm2 an2 cd2 ct2), sl2⟩)
    (c2 : PySem.W.codeIn K cd2 "Keeping.expire" = true)
    (k2 : PySem.W.keepIn K (.ref f2) = true)
    (a3 : PySem.W.findIn K (.ref C1) "gone_before" = some (some (.ref f3)))
    (i3 : PySem.W.isFn K (.ref f3) = true)
    (l3 : K.lookup f3 = some ⟨oc3, od3, .func (PySem.W.fnOf "gone_before" "Keeping.gone_before" (defArgs sGone) (defBody sGone) (defScope sGone) (.ref TD) kV3 dc3 pm3 an3 cd3 ct3), sl3⟩)
    (lT : K.lookup TD = some ⟨cT, dT, .seq #[.none] nT, sT⟩)
    (c3 : PySem.W.codeIn K cd3 "Keeping.gone_before" = true)
    (k3 : PySem.W.keepIn K (.ref f3) = true)
    (a4 : PySem.W.findIn K (.ref C1) "finest" = some (some (.ref f4)))
    (i4 : PySem.W.isFn K (.ref f4) = true)
    (l4 : K.lookup f4 = some ⟨oc4, od4, .func (PySem.W.fnOf "finest" "Keeping.finest" (defArgs sFin) (defBody sFin) (defScope sFin) .none kV4 dc4 pm4 an4 cd4 ct4), sl4⟩)
    (c4 : PySem.W.codeIn K cd4 "Keeping.finest" = true)
    (k4 : PySem.W.keepIn K (.ref f4) = true)
    (a5 : PySem.W.nsIn K mainGlobals "cell_of" = some (some (.ref f5)))
    (l5 : K.lookup f5 = some ⟨oc5, od5, .func (PySem.W.fnOf "cell_of" "cell_of" (defArgs sCellOf) (defBody sCellOf) (defScope sCellOf) .none kV5 dc5 pm5 an5 cd5 ct5), sl5⟩)
    (c5 : PySem.W.codeIn K cd5 "cell_of" = true)
    (k5 : PySem.W.keepIn K (.ref f5) = true)
    (a6 : PySem.W.nsIn K mainGlobals "is_whole" = some (some (.ref f6)))
    (l6 : K.lookup f6 = some ⟨oc6, od6, .func (PySem.W.fnOf "is_whole" "is_whole" (defArgs sWhole) (defBody sWhole) (defScope sWhole) .none kV6 dc6 pm6 an6 cd6 ct6), sl6⟩)
    (c6 : PySem.W.codeIn K cd6 "is_whole" = true)
    (k6 : PySem.W.keepIn K (.ref f6) = true)
    (a7 : PySem.W.nsIn K mainGlobals "check_widths" = some (some (.ref f7)))
    (l7 : K.lookup f7 = some ⟨oc7, od7, .func (PySem.W.fnOf "check_widths" "check_widths" (defArgs sCkW) (defBody sCkW) (defScope sCkW) .none kV7 dc7 pm7 an7 cd7 ct7), sl7⟩)
    (c7 : PySem.W.codeIn K cd7 "check_widths" = true)
    (k7 : PySem.W.keepIn K (.ref f7) = true)
    (a8 : PySem.W.nsIn K mainGlobals "check_width" = some (some (.ref f8)))
    (l8 : K.lookup f8 = some ⟨oc8, od8, .func (PySem.W.fnOf "check_width" "check_width" (defArgs sCkw) (defBody sCkw) (defScope sCkw) .none kV8 dc8 pm8 an8 cd8 ct8), sl8⟩)
    (c8 : PySem.W.codeIn K cd8 "check_width" = true)
    (k8 : PySem.W.keepIn K (.ref f8) = true)
    (a9 : PySem.W.nsIn K mainGlobals "is_keep" = some (some (.ref f9)))
    (l9 : K.lookup f9 = some ⟨oc9, od9, .func (PySem.W.fnOf "is_keep" "is_keep" (defArgs sKeep) (defBody sKeep) (defScope sKeep) .none kV9 dc9 pm9 an9 cd9 ct9), sl9⟩)
    (c9 : PySem.W.codeIn K cd9 "is_keep" = true)
    (k9 : PySem.W.keepIn K (.ref f9) = true)
    (a10 : PySem.W.nsIn K mainGlobals "check_keeps" = some (some (.ref f10)))
    (l10 : K.lookup f10 = some ⟨oc10, od10, .func (PySem.W.fnOf "check_keeps" "check_keeps" (defArgs sCkK) (defBody sCkK) (defScope sCkK) .none kV10 dc10 pm10 an10 cd10 ct10), sl10⟩)
    (c10 : PySem.W.codeIn K cd10 "check_keeps" = true)
    (k10 : PySem.W.keepIn K (.ref f10) = true)
    (a11 : PySem.W.nsIn K mainGlobals "horizon_behind" = some (some (.ref f11)))
    (l11 : K.lookup f11 = some ⟨oc11, od11, .func (PySem.W.fnOf "horizon_behind" "horizon_behind" (defArgs sHB) (defBody sHB) (defScope sHB) .none kV11 dc11 pm11 an11 cd11 ct11), sl11⟩)
    (c11 : PySem.W.codeIn K cd11 "horizon_behind" = true)
    (k11 : PySem.W.keepIn K (.ref f11) = true)
    (a12 : PySem.W.nsIn K mainGlobals "_law_mixed" = some (some (.ref f12)))
    (l12 : K.lookup f12 = some ⟨oc12, od12, .func (PySem.W.fnOf "_law_mixed" "_law_mixed" (defArgs sMixed) (defBody sMixed) (defScope sMixed) .none kV12 dc12 pm12 an12 cd12 ct12), sl12⟩)
    (c12 : PySem.W.codeIn K cd12 "_law_mixed" = true)
    (k12 : PySem.W.keepIn K (.ref f12) = true)
    (a13 : PySem.W.nsIn K mainGlobals "_law_purse" = some (some (.ref f13)))
    (l13 : K.lookup f13 = some ⟨oc13, od13, .func (PySem.W.fnOf "_law_purse" "_law_purse" (defArgs sPurse) (defBody sPurse) (defScope sPurse) .none kV13 dc13 pm13 an13 cd13 ct13), sl13⟩)
    (c13 : PySem.W.codeIn K cd13 "_law_purse" = true)
    (k13 : PySem.W.keepIn K (.ref f13) = true)
    (a14 : PySem.W.nsIn K mainGlobals "_law_draw" = some (some (.ref f14)))
    (l14 : K.lookup f14 = some ⟨oc14, od14, .func (PySem.W.fnOf "_law_draw" "_law_draw" (defArgs sDraw) (defBody sDraw) (defScope sDraw) .none kV14 dc14 pm14 an14 cd14 ct14), sl14⟩)
    (c14 : PySem.W.codeIn K cd14 "_law_draw" = true)
    (k14 : PySem.W.keepIn K (.ref f14) = true)
    (a15 : PySem.W.nsIn K mainGlobals "_law_widths" = some (some (.ref f15)))
    (l15 : K.lookup f15 = some ⟨oc15, od15, .func (PySem.W.fnOf "_law_widths" "_law_widths" (defArgs sWidths) (defBody sWidths) (defScope sWidths) .none kV15 dc15 pm15 an15 cd15 ct15), sl15⟩)
    (c15 : PySem.W.codeIn K cd15 "_law_widths" = true)
    (k15 : PySem.W.keepIn K (.ref f15) = true)
    (a16 : PySem.W.nsIn K mainGlobals "_law_base" = some (some (.ref f16)))
    (l16 : K.lookup f16 = some ⟨oc16, od16, .func (PySem.W.fnOf "_law_base" "_law_base" (defArgs sBase) (defBody sBase) (defScope sBase) .none kV16 dc16 pm16 an16 cd16 ct16), sl16⟩)
    (c16 : PySem.W.codeIn K cd16 "_law_base" = true)
    (k16 : PySem.W.keepIn K (.ref f16) = true)
    (a17 : PySem.W.nsIn K mainGlobals "_law_keeps" = some (some (.ref f17)))
    (l17 : K.lookup f17 = some ⟨oc17, od17, .func (PySem.W.fnOf "_law_keeps" "_law_keeps" (defArgs sKeeps) (defBody sKeeps) (defScope sKeeps) .none kV17 dc17 pm17 an17 cd17 ct17), sl17⟩)
    (c17 : PySem.W.codeIn K cd17 "_law_keeps" = true)
    (k17 : PySem.W.keepIn K (.ref f17) = true)
    (a18 : PySem.W.nsIn K mainGlobals "_law_horizons" = some (some (.ref f18)))
    (l18 : K.lookup f18 = some ⟨oc18, od18, .func (PySem.W.fnOf "_law_horizons" "_law_horizons" (defArgs sHz) (defBody sHz) (defScope sHz) .none kV18 dc18 pm18 an18 cd18 ct18), sl18⟩)
    (c18 : PySem.W.codeIn K cd18 "_law_horizons" = true)
    (k18 : PySem.W.keepIn K (.ref f18) = true)
    (a19 : PySem.W.nsIn K mainGlobals "_law_finest" = some (some (.ref f19)))
    (l19 : K.lookup f19 = some ⟨oc19, od19, .func (PySem.W.fnOf "_law_finest" "_law_finest" (defArgs sLFin) (defBody sLFin) (defScope sLFin) .none kV19 dc19 pm19 an19 cd19 ct19), sl19⟩)
    (c19 : PySem.W.codeIn K cd19 "_law_finest" = true)
    (k19 : PySem.W.keepIn K (.ref f19) = true)
    (a20 : PySem.W.nsIn K mainGlobals "_law_in_order" = some (some (.ref f20)))
    (l20 : K.lookup f20 = some ⟨oc20, od20, .func (PySem.W.fnOf "_law_in_order" "_law_in_order" (defArgs sOrd) (defBody sOrd) (defScope sOrd) .none kV20 dc20 pm20 an20 cd20 ct20), sl20⟩)
    (c20 : PySem.W.codeIn K cd20 "_law_in_order" = true)
    (k20 : PySem.W.keepIn K (.ref f20) = true)
    (a21 : PySem.W.nsIn K mainGlobals "_law_stands" = some (some (.ref f21)))
    (l21 : K.lookup f21 = some ⟨oc21, od21, .func (PySem.W.fnOf "_law_stands" "_law_stands" (defArgs sStands) (defBody sStands) (defScope sStands) .none kV21 dc21 pm21 an21 cd21 ct21), sl21⟩)
    (c21 : PySem.W.codeIn K cd21 "_law_stands" = true)
    (k21 : PySem.W.keepIn K (.ref f21) = true)
    (a22 : PySem.W.nsIn K mainGlobals "_law_now" = some (some (.ref f22)))
    (l22 : K.lookup f22 = some ⟨oc22, od22, .func (PySem.W.fnOf "_law_now" "_law_now" (defArgs sNow) (defBody sNow) (defScope sNow) .none kV22 dc22 pm22 an22 cd22 ct22), sl22⟩)
    (c22 : PySem.W.codeIn K cd22 "_law_now" = true)
    (k22 : PySem.W.keepIn K (.ref f22) = true)
    (a23 : PySem.W.nsIn K mainGlobals "law" = some (some (.ref f23)))
    (l23 : K.lookup f23 = some ⟨oc23, od23, .func (PySem.W.fnOf "law" "law" (defArgs sLaw) (defBody sLaw) (defScope sLaw) .none kV23 dc23 pm23 an23 cd23 ct23), sl23⟩)
    (c23 : PySem.W.codeIn K cd23 "law" = true)
    (k23 : PySem.W.keepIn K (.ref f23) = true)
    (z_range : PySem.W.nsIn K mainGlobals "range" = some none)
    (z_len : PySem.W.nsIn K mainGlobals "len" = some none)
    (z_max : PySem.W.nsIn K mainGlobals "max" = some none)
    (z_min : PySem.W.nsIn K mainGlobals "min" = some none)
    (z_list : PySem.W.nsIn K mainGlobals "list" = some none)
    (z_isinstance : PySem.W.nsIn K mainGlobals "isinstance" = some none)
    (z_tuple : PySem.W.nsIn K mainGlobals "tuple" = some none)
    (z_enumerate : PySem.W.nsIn K mainGlobals "enumerate" = some none)
    (z_zip : PySem.W.nsIn K mainGlobals "zip" = some none)
    (z_int : PySem.W.nsIn K mainGlobals "int" = some none)
    (z_bool : PySem.W.nsIn K mainGlobals "bool" = some none)
    (v_MOST_WIDTHS : PySem.W.nsIn K mainGlobals "MOST_WIDTHS" = some (some (.int 4 zMW)))
    : ∃ fd : FuncData, (∀ (s : Shared) (v : Value), BindsTo s fd ⟨[v], []⟩ [("_law_script", v)]) ∧ ∀ base : Heap, K.In base → base.Ns mainGlobals mg → FnOk l.prog w K mg base CX0 6 fa fd ["_law_script"] (spLaw K) := by
  have e := hfa.symm.trans (PySem.W.mg_of X G a23)
  cases e
  have F1 := fun_mk (st := sInit) l1 c1 k1
  have F2 := fun_mk (st := sExp) l2 c2 k2
  have F3 : FGone K f3 _ := ⟨⟨oc3, od3, .ref TD, kV3, dc3, pm3, an3, cd3, ct3, sl3, rfl, l3, c3, .inr ⟨(fun z => nomatch z), TD, _, [.none], nT, rfl, lT, rfl, .cons rfl .nil⟩, .inl rfl⟩, k3⟩
  have F4 := fun_mk (st := sFin) l4 c4 k4
  have F5 := fun_mk (st := sCellOf) l5 c5 k5
  have F6 := fun_mk (st := sWhole) l6 c6 k6
  have F7 := fun_mk (st := sCkW) l7 c7 k7
  have F8 := fun_mk (st := sCkw) l8 c8 k8
  have F9 := fun_mk (st := sKeep) l9 c9 k9
  have F10 := fun_mk (st := sCkK) l10 c10 k10
  have F11 := fun_mk (st := sHB) l11 c11 k11
  have F12 := fun_mk (st := sMixed) l12 c12 k12
  have F13 := fun_mk (st := sPurse) l13 c13 k13
  have F14 := fun_mk (st := sDraw) l14 c14 k14
  have F15 := fun_mk (st := sWidths) l15 c15 k15
  have F16 := fun_mk (st := sBase) l16 c16 k16
  have F17 := fun_mk (st := sKeeps) l17 c17 k17
  have F18 := fun_mk (st := sHz) l18 c18 k18
  have F19 := fun_mk (st := sLFin) l19 c19 k19
  have F20 := fun_mk (st := sOrd) l20 c20 k20
  have F21 := fun_mk (st := sStands) l21 c21 k21
  have F22 := fun_mk (st := sNow) l22 c22 k22
  have F23 := fun_mk (st := sLaw) l23 c23 k23
  have b1 := F1.binds (ps := ["self", "widths", "keeps"]) fun _ _ _ _ _ _ us hl => match us, hl with | [_, _, _], _ => rfl
  have b2 := F2.binds (ps := ["self", "now"]) fun _ _ _ _ _ _ us hl => match us, hl with | [_, _], _ => rfl
  have b4 := F4.binds (ps := ["self", "time"]) fun _ _ _ _ _ _ us hl => match us, hl with | [_, _], _ => rfl
  have b5 := F5.binds (ps := ["time", "width"]) fun _ _ _ _ _ _ us hl => match us, hl with | [_, _], _ => rfl
  have b6 := F6.binds (ps := ["thing"]) fun _ _ _ _ _ _ us hl => match us, hl with | [_], _ => rfl
  have b7 := F7.binds (ps := ["widths"]) fun _ _ _ _ _ _ us hl => match us, hl with | [_], _ => rfl
  have b8 := F8.binds (ps := ["widths", "width"]) fun _ _ _ _ _ _ us hl => match us, hl with | [_, _], _ => rfl
  have b9 := F9.binds (ps := ["keep", "ahead"]) fun _ _ _ _ _ _ us hl => match us, hl with | [_, _], _ => rfl
  have b10 := F10.binds (ps := ["keeps", "many"]) fun _ _ _ _ _ _ us hl => match us, hl with | [_, _], _ => rfl
  have b11 := F11.binds (ps := ["horizon", "now", "keep", "width"]) fun _ _ _ _ _ _ us hl => match us, hl with | [_, _, _, _], _ => rfl
  have b12 := F12.binds (ps := ["_law_cell", "_law_k"]) fun _ _ _ _ _ _ us hl => match us, hl with | [_, _], _ => rfl
  have b13 := F13.binds (ps := ["_law_script", "_law_at"]) fun _ _ _ _ _ _ us hl => match us, hl with | [_, _], _ => rfl
  have b14 := F14.binds (ps := ["_law_purse_here", "_law_out_of"]) fun _ _ _ _ _ _ us hl => match us, hl with | [_, _], _ => rfl
  have b15 := F15.binds (ps := ["_law_purse_here"]) fun _ _ _ _ _ _ us hl => match us, hl with | [_], _ => rfl
  have b16 := F16.binds (ps := ["_law_purse_here"]) fun _ _ _ _ _ _ us hl => match us, hl with | [_], _ => rfl
  have b17 := F17.binds (ps := ["_law_purse_here", "_law_some_widths"]) fun _ _ _ _ _ _ us hl => match us, hl with | [_, _], _ => rfl
  have b18 := F18.binds (ps := ["_law_some_widths", "_law_some_keeps", "_law_old", "_law_now_here"]) fun _ _ _ _ _ _ us hl => match us, hl with | [_, _, _, _], _ => rfl
  have b19 := F19.binds (ps := ["_law_some_widths", "_law_horizons_here", "_law_time"]) fun _ _ _ _ _ _ us hl => match us, hl with | [_, _, _], _ => rfl
  have b20 := F20.binds (ps := ["_law_some_widths", "_law_horizons_here"]) fun _ _ _ _ _ _ us hl => match us, hl with | [_, _], _ => rfl
  have b21 := F21.binds (ps := ["_law_purse_here", "_law_keeping", "_law_some_widths", "_law_horizons_here"]) fun _ _ _ _ _ _ us hl => match us, hl with | [_, _, _, _], _ => rfl
  have b22 := F22.binds (ps := ["_law_purse_here", "_law_some_widths", "_law_base_here", "_law_last"]) fun _ _ _ _ _ _ us hl => match us, hl with | [_, _, _, _], _ => rfl
  have g5 := PySem.W.mg_of X G a5
  have g6 := PySem.W.mg_of X G a6
  have g7 := PySem.W.mg_of X G a7
  have g8 := PySem.W.mg_of X G a8
  have g9 := PySem.W.mg_of X G a9
  have g10 := PySem.W.mg_of X G a10
  have g11 := PySem.W.mg_of X G a11
  have g12 := PySem.W.mg_of X G a12
  have g13 := PySem.W.mg_of X G a13
  have g14 := PySem.W.mg_of X G a14
  have g15 := PySem.W.mg_of X G a15
  have g16 := PySem.W.mg_of X G a16
  have g17 := PySem.W.mg_of X G a17
  have g18 := PySem.W.mg_of X G a18
  have g19 := PySem.W.mg_of X G a19
  have g20 := PySem.W.mg_of X G a20
  have g21 := PySem.W.mg_of X G a21
  have g22 := PySem.W.mg_of X G a22
  have gC1 := PySem.W.mg_of X G aC1
  have m_range := PySem.W.mg_none_of X G z_range
  have m_len := PySem.W.mg_none_of X G z_len
  have m_max := PySem.W.mg_none_of X G z_max
  have m_min := PySem.W.mg_none_of X G z_min
  have m_list := PySem.W.mg_none_of X G z_list
  have m_isinstance := PySem.W.mg_none_of X G z_isinstance
  have m_tuple := PySem.W.mg_none_of X G z_tuple
  have m_enumerate := PySem.W.mg_none_of X G z_enumerate
  have m_zip := PySem.W.mg_none_of X G z_zip
  have m_int := PySem.W.mg_none_of X G z_int
  have m_bool := PySem.W.mg_none_of X G z_bool
  have g_MOST_WIDTHS := PySem.W.mg_of X G v_MOST_WIDTHS
  refine ⟨PySem.W.fnOf "law" "law" (defArgs sLaw) (defBody sLaw) (defScope sLaw) .none kV23 dc23 pm23 an23 cd23 ct23, fun s v => .of_eq rfl, fun base _ _ => ?_⟩
  have T : TKeep K C1 := ⟨⟨pgC1, hdC1, poC1, saC1⟩, noC1_widths, noC1_keeps, noC1_horizons⟩
  have D : ∀ j, CDraw l.prog w K mg base (j + 2) := fun j => ⟨f14, _, ok_draw F14 ⟨f12, _, ok_mixed F12, g12, k12, b12⟩ m_range, g14, k14, b14⟩
  have W : ∀ j, Cal l.prog w K mg base (j + 1) "is_whole" ["thing"] spWhole := fun j => ⟨f6, _, ok_whole F6 m_isinstance m_int m_bool, g6, k6, b6⟩
  have CW : Cal l.prog w K mg base 3 "check_widths" ["widths"] (spCkW K) := ⟨f7, _, ok_ckW F7 (W 1) g_MOST_WIDTHS m_len m_enumerate, g7, k7, b7⟩
  have CK : Cal l.prog w K mg base 3 "check_keeps" ["keeps", "many"] (spCkK K) := ⟨f10, _, ok_ckK F10 ⟨f9, _, ok_keep F9 (W 0), g9, k9, b9⟩ m_len m_enumerate, g10, k10, b10⟩
  have OI : FnOk l.prog w K mg base CX0 4 f1 _ ["self", "widths", "keeps"] (spInit K C1) := ok_init F1 T CW CK m_len m_tuple
  have OG : FnOk l.prog w K mg base CX0 4 f3 _ ["self", "width"] (spGone K C1) := ok_gone F3 T ⟨f8, _, ok_ckw (k := 2) F8, g8, k8, b8⟩
  obtain ⟨ds, v0, bd0⟩ := b_gone0 F3
  exact ok_law (k := 4) F23 ⟨⟨f13, _, ok_purse (k := 4) F13 m_range m_max, g13, k13, b13⟩, D 3, ⟨f16, _, ok_base F16 (D 2), g16, k16, b16⟩, ⟨f15, _, ok_widths F15 (D 2) m_len, g15, k15, b15⟩, ⟨f17, _, ok_keeps F17 (D 2) m_len m_range m_tuple, g17, k17, b17⟩,
    ⟨f18, _, ok_hz (k := 4) F18 m_enumerate m_min m_max m_len m_tuple, g18, k18, b18⟩, ⟨f20, _, ok_ord (k := 4) F20 m_enumerate m_min m_len m_tuple m_isinstance m_bool m_int, g20, k20, b20⟩,
    ⟨f21, _, ok_stands F21 T (D 2) ⟨f3, _, ds, OG, ⟨a3, i3, k3⟩, bd0, v0⟩ ⟨f3, _, OG, ⟨a3, i3, k3⟩, b_gone F3⟩ ⟨f3, _, OG, ⟨a3, i3, k3⟩, kbn_gone F3⟩ ⟨f4, _, ok_fin (k := 3) F4 T m_zip, ⟨a4, i4, k4⟩, b4⟩ ⟨f19, _, ok_lfin (k := 3) F19 m_zip, g19, k19, b19⟩ m_list m_isinstance m_bool, g21, k21, b21⟩,
    ⟨f22, _, ok_now F22 (D 2), g22, k22, b22⟩, ⟨f1, _, OI, gC1, ⟨mkC1, a1, i1, kcC1⟩, b1⟩, ⟨f1, _, OI, gC1, ⟨mkC1, a1, i1, kcC1⟩, kbn_init F1⟩,
    ⟨f2, _, ok_exp (k := 4) F2 T ⟨f11, _, ok_hb F11 ⟨f5, _, ok_cell (k := 2) F5, g5, k5, b5⟩ m_max, g11, k11, b11⟩ m_zip m_tuple, ⟨a2, i2, k2⟩, b2⟩, T, m_range, m_len, m_max, m_tuple⟩
end Tg
open PySem PySem.W PyProof.Rows
set_option maxRecDepth 100000 in
set_option maxHeartbeats 0 in
theorem PySem.Challenge.cw_timegranary_k61_horizons_holds : PySem.Challenge.rw_timegranary_k61_horizons.Holds := by
  w_on; o_law; k_head; (case hw => w_witness2)
  k_fill
  refine L2.walk_of (l := PySem.Challenge.rw_timegranary_k61_horizons) (n := 63) (k := 6) (x := "_law_script") (CX := fun _ => L2.CX0) (sp := fun w => Tg.spLaw _) rfl (by decide) rfl ⟨rfl, by decide, by decide⟩ (fun w h Y => PySem.W.kIn_of Y) ?F (fun _ _ a ns hl _ hS => ⟨a, ns, rfl, hS, hl, fun _ => rfl⟩) (fun _ _ _ _ _ h => h)
  case F =>
    intro w mg fa h KX G hmg
    refine' Tg.all_mk KX G hmg ?aC1 ?pgC1 ?hdC1 ?poC1 ?saC1 ?mkC1 ?kcC1 ?noC1_widths ?noC1_keeps ?noC1_horizons ?a1 ?i1 ?l1 ?c1 ?k1 ?a2 ?i2 ?l2 ?c2 ?k2 ?a3 ?i3 ?l3 ?lT ?c3 ?k3 ?a4 ?i4 ?l4 ?c4 ?k4 ?a5 ?l5 ?c5 ?k5 ?a6 ?l6 ?c6 ?k6 ?a7 ?l7 ?c7 ?k7 ?a8 ?l8 ?c8 ?k8 ?a9 ?l9 ?c9 ?k9 ?a10 ?l10 ?c10 ?k10 ?a11 ?l11 ?c11 ?k11 ?a12 ?l12 ?c12 ?k12 ?a13 ?l13 ?c13 ?k13 ?a14 ?l14 ?c14 ?k14 ?a15 ?l15 ?c15 ?k15 ?a16 ?l16 ?c16 ?k16 ?a17 ?l17 ?c17 ?k17 ?a18 ?l18 ?c18 ?k18 ?a19 ?l19 ?c19 ?k19 ?a20 ?l20 ?c20 ?k20 ?a21 ?l21 ?c21 ?k21 ?a22 ?l22 ?c22 ?k22 ?a23 ?l23 ?c23 ?k23 ?z_range ?z_len ?z_max ?z_min ?z_list ?z_isinstance ?z_tuple ?z_enumerate ?z_zip ?z_int ?z_bool ?v_MOST_WIDTHS
    (case aC1 => k_is); (case pgC1 => k_is); (case hdC1 => k_is); (case poC1 => k_is); (case saC1 => k_is); (case mkC1 => k_is)
    (case kcC1 => k_is); (case noC1_widths => k_is); (case noC1_keeps => k_is); (case noC1_horizons => k_is); (case a1 => k_is); (case i1 => k_is)
    (case l1 => k_is); (case c1 => k_is); (case k1 => k_is); (case a2 => k_is); (case i2 => k_is); (case l2 => k_is)
    (case c2 => k_is); (case k2 => k_is); (case a3 => k_is); (case i3 => k_is); (case l3 => k_is); (case lT => k_is); (case c3 => k_is)
    (case k3 => k_is); (case a4 => k_is); (case i4 => k_is); (case l4 => k_is); (case c4 => k_is); (case k4 => k_is)
    (case a5 => k_is); (case l5 => k_is); (case c5 => k_is); (case k5 => k_is); (case a6 => k_is); (case l6 => k_is)
    (case c6 => k_is); (case k6 => k_is); (case a7 => k_is); (case l7 => k_is); (case c7 => k_is); (case k7 => k_is)
    (case a8 => k_is); (case l8 => k_is); (case c8 => k_is); (case k8 => k_is); (case a9 => k_is); (case l9 => k_is)
    (case c9 => k_is); (case k9 => k_is); (case a10 => k_is); (case l10 => k_is); (case c10 => k_is); (case k10 => k_is)
    (case a11 => k_is); (case l11 => k_is); (case c11 => k_is); (case k11 => k_is); (case a12 => k_is); (case l12 => k_is)
    (case c12 => k_is); (case k12 => k_is); (case a13 => k_is); (case l13 => k_is); (case c13 => k_is); (case k13 => k_is)
    (case a14 => k_is); (case l14 => k_is); (case c14 => k_is); (case k14 => k_is); (case a15 => k_is); (case l15 => k_is)
    (case c15 => k_is); (case k15 => k_is); (case a16 => k_is); (case l16 => k_is); (case c16 => k_is); (case k16 => k_is)
    (case a17 => k_is); (case l17 => k_is); (case c17 => k_is); (case k17 => k_is); (case a18 => k_is); (case l18 => k_is)
    (case c18 => k_is); (case k18 => k_is); (case a19 => k_is); (case l19 => k_is); (case c19 => k_is); (case k19 => k_is)
    (case a20 => k_is); (case l20 => k_is); (case c20 => k_is); (case k20 => k_is); (case a21 => k_is); (case l21 => k_is)
    (case c21 => k_is); (case k21 => k_is); (case a22 => k_is); (case l22 => k_is); (case c22 => k_is); (case k22 => k_is)
    (case a23 => k_is); (case l23 => k_is); (case c23 => k_is); (case k23 => k_is); (case z_range => k_is); (case z_len => k_is)
    (case z_max => k_is); (case z_min => k_is); (case z_list => k_is); (case z_isinstance => k_is); (case z_tuple => k_is); (case z_enumerate => k_is)
    (case z_zip => k_is); (case z_int => k_is); (case z_bool => k_is); (case v_MOST_WIDTHS => k_is)

