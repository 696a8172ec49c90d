import PyProof.Rows.All
import Wide.All
import OpenK.AllK
import Wide.FinOn
import HandS.ForMost
import HandS.Conv
import HandS.Wide
import HandS.IsInst
import HandS.Defaults
import HandS.SetFor
import HandS.Strs
import HandS.Dict
import HandS.Iter
import HandS.Walk
import HandS.DictComp
import HandS.SortOrd
import HandS.SortRule
import KE.KDictSum
import HandS.Deep
import PySem.Challenge.RW_timegranary_k28_whole_rows_poured
import HandS.Star
import HandS.NoneIn
import HandS.Style
set_option Elab.async false
set_option linter.all false
set_option maxRecDepth 100000
namespace Tg
open PySem PySem.Spec PyProof.Rows L2

/-! ### rules of my own: a call by keywords alone; list(range(a, b, c)) -/
section
variable {X : Cx} {CX : CXT} {k : Nat} {f : Addr} {fd : FuncData} {ps ks : List Str} {sp : Sp} {E : XK} {x : Str} {p pos : Pos} {kws : List Keyword} {tk : TA}
  {g : List Value → List Value → List Value} {gV : List V → List V → List V}
def tKw0 (n : Nat) (sp : Sp) (gV : List V → List V → List V) (E : XK) (tk : TA) : TE :=
  fun σ H Q => tk σ H fun zs H2 => zs.length = n ∧ sp (gV [] zs) H2 Q E
theorem pe_kw0 (F : FnOk X.prog X.w X.K X.mg X.base CX k f fd ps sp) (room : Room k X.A) (gl : Gl X x) (at_x : X.mg x = some (.ref f)) (kept : PySem.W.keepIn X.K (.ref f) = true) (binds : KBn X.K fd ps 0 ks g gV) (lets : Passes CX X E) (vals : PK X kws tk)
    (named : (backToKw pos (keywordEach kws X.env)).all (·.1.isSome) = true := by rfl) (names : (backToKw pos (keywordEach kws X.env)).filterMap (·.1) = ks := by rfl) (nodebug : (x == ("__debug__" : Str)) = false := by decide)
    (nostar : ((backTo pos (starEach [] X.env)).any (·.1) || (backToKw pos (keywordEach kws X.env)).any (·.1.isNone)) = false := by rfl) : PE X (.Call (.Name x p) [] kws pos) (tKw0 ks.length sp gV E tk) := by
  constructor
  intro pins s σ H Q I read
  refine wpAny_Call_Name_kw (ld_glob I gl at_x (PySem.W.callWith_KW0 (h₀ := X.base) I.ok.mod.kin kept named (thn (vals.run pos pins s σ H _ I read) fun ws s2 y => ?_) nostar) nodebug)
  obtain ⟨zs, H2, J, rel, many, h⟩ := y
  rw [names]
  exact ⟨J.kIn, run_fnN (us := []) (vs := []) F room binds lets J .nil rel rfl many h⟩
end

/-- two keywords, the second parameter's first -/
def sw2 {α : Type} : List α → List α
  | [y, x] => [x, y]
  | _ => []
/-- three keywords, the parameters' from the last on -/
def sw3 {α : Type} : List α → List α
  | [z, y, x] => [x, y, z]
  | _ => []
theorem sw2_rel : ∀ {zs : List V} {ws : List Value}, Vals zs ws → Vals (sw2 zs) (sw2 ws)
  | _, _, .nil => .nil
  | _, _, .cons _ .nil => .nil
  | _, _, .cons a (.cons b .nil) => .cons b (.cons a .nil)
  | _, _, .cons _ (.cons _ (.cons _ _)) => .nil
theorem sw3_rel : ∀ {zs : List V} {ws : List Value}, Vals zs ws → Vals (sw3 zs) (sw3 ws)
  | _, _, .nil => .nil
  | _, _, .cons _ .nil => .nil
  | _, _, .cons _ (.cons _ .nil) => .nil
  | _, _, .cons a (.cons b (.cons c .nil)) => .cons c (.cons b (.cons a .nil))
  | _, _, .cons _ (.cons _ (.cons _ (.cons _ _))) => .nil

section
variable {X : Cx} {a b c : Expr} {ta : TA}
def rg3 (a c : Int) (n : Nat) : List V := (List.range n).map fun i => V.int (a + (i : Nat) * c)
theorem rg3_length (a c : Int) (n : Nat) : (rg3 a c n).length = n := by
  simp [rg3]
def R3 (a b c : Int) (n : Nat) : Prop :=
  c ≠ 0 ∧ c.natAbs.log2 < 9000 ∧ Builtin.Range.small a b c = true ∧ Builtin.Range.rangeSize a b c = n ∧ n ≤ 2 ^ 24
def tLst3 (ta : TA) : TE := fun σ H Q => ta σ H fun vs H1 => ∃ (a b c : Int) (n : Nat), vs = [.int a, .int b, .int c] ∧ R3 a b c n ∧
  ∀ q, H1 q = none → Q (.ref q) (upd H1 q (.lst (rg3 a c n)))
theorem pe_lst3 {p p2 pos pos2 : Pos} (calm : X.calm = true) (gl : Gl X "list") (nl : X.mg "list" = none) (gr : Gl X "range") (nr : X.mg "range" = none) (args : PA X [a, b, c] ta)
    (one : starEach [a, b, c] X.env = (false, eval a X.env) :: starEach [b, c] X.env := by rfl) (nostar : (backTo pos2 (starEach [b, c] X.env)).any (·.1) = false := by rfl)
    (whole : starEach [.Call (.Name "range" p2) [a, b, c] [] pos2] X.env = (false, eval (.Call (.Name "range" p2) [a, b, c] [] pos2) X.env) :: starEach [] X.env := by rfl) :
    PE X (.Call (.Name "list" p) [.Call (.Name "range" p2) [a, b, c] [] pos2] [] pos) (tLst3 ta) := by
  constructor
  intro pins s σ H Q I read
  refine Call_ (ld_blt I gl nl boot_list (PyProof.Rows.callWith_type1 (args_cons (Call_ (ld_blt I gr nr boot_range (PyProof.Rows.callWith_type1 (thn (args.run pos2 pins s σ H _ I read) fun us s1 y => ?_) one nostar))) whole) whole))
  obtain ⟨zs, H1, J, rel, i, j, k, n, e, ⟨c0, c1, c2, c3, c4⟩, h⟩ := y
  subst e
  match us, rel with
  | [_, _, _], .cons ⟨t, ei⟩ (.cons ⟨u, ej⟩ (.cons ⟨v, ek⟩ .nil)) =>
    subst ei
    subst ej
    subst ek
    refine call_range_3 c0 (args_nil ?_) (.inl (PyProof.noPylong_of_log2 c1))
    obtain ⟨hx, ehx⟩ : ∃ hx, hx = s1.heap.push { cls := .type "range", data := .fields #[.int i t, .int j u, .int k v] } := ⟨_, rfl⟩
    have J2 : Inv X pins σ H1 { s1 with heap := hx } := by
      rw [ehx]
      exact J.kept (t' := s1.toks) fun _ _ z => Heap.get?_push_of_some _ z
    rw [← ehx]
    refine call_list_range (s := { s1 with heap := hx }) (n := n) (J2.ok.hd calm) (by rw [ehx]; exact IsRange.new ..) c2 c3 c4 fun h' tk acc cc kp made items => ?_
    have len : acc.toList.length = n := Array.length_toList.trans items.1
    have vals : Vals (rg3 i k n) acc.toList := by
      have z := vals_of_get acc.toList (fun m : Nat => V.int (i + m * k)) fun m w hw => by
        obtain ⟨tw, ew⟩ := items.2 m w (by rw [← hw, Array.getElem?_toList])
        exact ⟨tw, ew⟩
      rw [len] at z
      exact z
    refine ⟨.ref hx.objs.size, upd H1 hx.objs.size (.lst (rg3 i k n)), J2.laid kp (Nat.le_refl _) (show ObjOk X.prog X.w _ _ _ (.lst (rg3 i k n)) from ⟨?_, acc.toList, cc, vals, ?_⟩), rfl, h _ (J2.hok.fresh (Nat.le_refl _))⟩
    · rw [rg3_length, sizeLine_eq]
      omega
    · rw [Array.toArray_toList]
      exact made
end

/-! ### lists of ints, compared -/
theorem dp_ints {K : PySem.W.Frag} {H : Hp} : ∀ ns : List Int, DpAll K H (ns.map V.int) (ns.map PyData.int)
  | [] => .nil
  | n :: r => .cons (.int n) (dp_ints r)
theorem lay_ints : ∀ ns : List Int, PyData.canLayAll0 (ns.map PyData.int) = true
  | [] => rfl
  | n :: r => by
    show (true && PyData.canLayAll0 (r.map PyData.int)) = true
    rw [lay_ints r]
    rfl
theorem depth_ints : ∀ ns : List Int, PyData.depthAll (ns.map PyData.int) = 0
  | [] => rfl
  | n :: r => by
    show max 0 (PyData.depthAll (r.map PyData.int)) = 0
    rw [depth_ints r]
    rfl
theorem shaped_ints (ns : List Int) : SeqAt.shaped (.list (ns.map PyData.int)) = true := by
  unfold SeqAt.shaped
  have h1 : PyData.canLay0 (.list (ns.map PyData.int)) = true := lay_ints ns
  have h2 : PyData.depth (.list (ns.map PyData.int)) = 1 := by
    show PyData.depthAll (ns.map PyData.int) + 1 = 1
    rw [depth_ints]
  rw [h1, h2]
  rfl
theorem eqv_ints : ∀ ns : List Int, PyData.eqvAll (ns.map PyData.int) (ns.map PyData.int) = true
  | [] => rfl
  | n :: r => by
    show ((n == n) && PyData.eqvAll (r.map PyData.int) (r.map PyData.int)) = true
    rw [eqv_ints r, beq_self_eq_true]
    rfl
theorem dp_lst {K : PySem.W.Frag} {H : Hp} {a : Addr} {ns : List Int} (h : SqL K H a (ns.map V.int)) : Dp K H (.ref a) (.list (ns.map PyData.int)) := .lst h (dp_ints ns)
end Tg

namespace Tg
open PySem PySem.Spec PyProof.Rows L2
/-! ### defs, methods and classes as a caller needs them -/
section
variable (P : Program) (w : World) (K : PySem.W.Frag) (mg : Str → Option Value) (base : Heap)
/-- the def x is there, and keeps sp by level k -/
def Cal (k : Nat) (x : Str) (ps : List Str) (sp : Sp) : Prop := ∃ f fd, FnOk P w K mg base CX0 k f fd ps sp ∧ mg x = some (.ref f) ∧ PySem.W.keepIn K (.ref f) = true ∧ Binds K fd ps []
/-- the places that is tells, out of a list -/
def prm {α : Type} (is : List Nat) (zs : List α) : List α := is.filterMap fun i => zs[i]?
/-- the same with keywords alone, ks in this order; is: the places of the parameters among them -/
def CalK (k : Nat) (x : Str) (ps ks : List Str) (is : List Nat) (sp : Sp) : Prop := ∃ f fd, FnOk P w K mg base CX0 k f fd ps sp ∧ mg x = some (.ref f) ∧ PySem.W.keepIn K (.ref f) = true ∧ KBn K fd ps 0 ks (fun _ ws => prm is ws) (fun _ zs => prm is zs)
/-- a method of the class C -/
def CalM (k : Nat) (C : Addr) (m : Str) (ps : List Str) (sp : Sp) : Prop := ∃ f fd, FnOk P w K mg base CX0 k f fd ps sp ∧ Meth K C m f ∧ Binds K fd ps []
def CalMK (k : Nat) (C : Addr) (m : Str) (ps ks : List Str) (is : List Nat) (sp : Sp) : Prop := ∃ f fd, FnOk P w K mg base CX0 k f fd ps sp ∧ Meth K C m f ∧ KBn K fd ps 1 ks (fun us ws => us ++ prm is ws) (fun vs zs => vs ++ prm is zs)
/-- a class, by its __init__ -/
def CalC (k : Nat) (x : Str) (C : Addr) (ps : List Str) (sp : Sp) : Prop := ∃ f fd, FnOk P w K mg base CX0 k f fd ps sp ∧ mg x = some (.ref C) ∧ Mk K C f ∧ Binds K fd ps []
end
theorem vals_at : ∀ {zs : List V} {ws : List Value}, Vals zs ws → ∀ i : Nat, (zs[i]? = none ∧ ws[i]? = none) ∨ ∃ z w, zs[i]? = some z ∧ ws[i]? = some w ∧ RelV z w
  | _, _, .nil, i => .inl ⟨by simp, by simp⟩
  | _, _, .cons a b, i => by
    cases i with
    | zero => exact .inr ⟨_, _, rfl, rfl, a⟩
    | succ i => exact vals_at b i
theorem prm_rel {zs : List V} {ws : List Value} (h : Vals zs ws) : ∀ is : List Nat, Vals (prm is zs) (prm is ws)
  | [] => .nil
  | i :: r => by
    have ih := prm_rel h r
    unfold prm at ih ⊢
    rcases vals_at h i with ⟨h1, h2⟩ | ⟨z, w, h1, h2, h3⟩
    · rw [List.filterMap_cons_none h1, List.filterMap_cons_none h2]
      exact ih
    · rw [List.filterMap_cons_some h1, List.filterMap_cons_some h2]
      exact .cons h3 ih
section
variable {X : Cx} {k : Nat} {ps ks : List Str} {is : List Nat} {sp : Sp} {x m : Str} {C : Addr} {o e : Expr} {es : List Expr} {p pos apos : Pos} {kws : List Keyword} {ta t tk : TA} {to : TE}
theorem pe_cal (c : Cal X.prog X.w X.K X.mg X.base k x ps sp) (hr : Room k X.A) (gl : Gl X x) (ha : PA X (e :: es) t) (hdb : (x == ("__debug__" : Str)) = false := by decide)
    (he : starEach (e :: es) X.env = (false, eval e X.env) :: starEach es X.env := by rfl) (hpl : (backTo pos (starEach es X.env)).any (·.1) = false := by rfl) : PE X (.Call (.Name x p) (e :: es) [] pos) (tCall sp [] E0 t) := by
  obtain ⟨f, fd, F, hm, hk, hb⟩ := c
  exact pe_call F hr gl hm hk hb .nil pass0 ha hdb he hpl
theorem pe_calK (c : CalK X.prog X.w X.K X.mg X.base k x ps ks is sp) (hr : Room k X.A) (gl : Gl X x) (vals : PK X kws tk)
    (named : (backToKw pos (keywordEach kws X.env)).all (·.1.isSome) = true := by rfl) (names : (backToKw pos (keywordEach kws X.env)).filterMap (·.1) = ks := by rfl) (nodebug : (x == ("__debug__" : Str)) = false := by decide)
    (nostar : ((backTo pos (starEach [] X.env)).any (·.1) || (backToKw pos (keywordEach kws X.env)).any (·.1.isNone)) = false := by rfl) :
    PE X (.Call (.Name x p) [] kws pos) (tKw0 ks.length sp (fun _ zs => prm is zs) E0 tk) := by
  obtain ⟨f, fd, F, hm, hk, hb⟩ := c
  exact pe_kw0 F hr gl hm hk hb pass0 vals named names nodebug nostar
theorem pe_calM {pl : Sem Bool} (he : PE X o to) (cl : Cls X.K C) (c : CalM X.prog X.w X.K X.mg X.base k C m ps sp) (hr : Room k X.A) (ha : PA X (e :: es) t)
    (hst : starEach (e :: es) X.env = (false, eval e X.env) :: starEach es X.env := by rfl) (hpl : (backTo pos (starEach es X.env)).any (·.1) = false := by rfl) (ht : eval (.Call (.Attribute o m apos) (e :: es) [] pos) X.env = (do let ov ← eval o X.env; standAt apos.atName; let (f, first) ← holding [ov] (getMethod ov m pl); callWith pos f first (backTo pos (starEach (e :: es) X.env)) (backToKw pos (keywordEach [] X.env))) := by rfl) :
    PE X (.Call (.Attribute o m apos) (e :: es) [] pos) (tMeth C m sp [] E0 to t) := by
  obtain ⟨f, fd, F, hm, hb⟩ := c
  exact pe_meth (pl := pl) he cl hm F hr hb .nil pass0 ha hst hpl ht
theorem pe_calM0 {pl : Sem Bool} (he : PE X o to) (cl : Cls X.K C) (c : CalM X.prog X.w X.K X.mg X.base k C m ps sp) (hr : Room k X.A)
    (ht : eval (.Call (.Attribute o m apos) [] [] pos) X.env = (do let ov ← eval o X.env; standAt apos.atName; let (f, first) ← holding [ov] (getMethod ov m pl); callWith pos f first (backTo pos (starEach [] X.env)) (backToKw pos (keywordEach [] X.env))) := by rfl) :
    PE X (.Call (.Attribute o m apos) [] [] pos) (tMeth C m sp [] E0 to tNil) := by
  obtain ⟨f, fd, F, hm, hb⟩ := c
  exact pe_meth0 (pl := pl) he cl hm F hr hb .nil pass0 ht
/-- o.m(k = v, ..) -/
def tMethK (C : Addr) (m : Str) (n : Nat) (sp : Sp) (is : List Nat) (E : XK) (to : TE) (tk : TA) : TE := fun σ H Q => to σ H fun x H1 => ∃ a dx fs, x = .ref a ∧ H1 a = some (.ins C dx fs) ∧ fs.lookup m = none ∧ tk σ H1 fun zs H2 => zs.length = n ∧ sp (x :: prm is zs) H2 Q E
theorem pe_calMK {pl : Sem Bool} (he : PE X o to) (cl : Cls X.K C) (c : CalMK X.prog X.w X.K X.mg X.base k C m ps ks is sp) (hr : Room k X.A) (vals : PK X kws tk)
    (named : (backToKw pos (keywordEach kws X.env)).all (·.1.isSome) = true := by rfl) (names : (backToKw pos (keywordEach kws X.env)).filterMap (·.1) = ks := by rfl)
    (nostar : ((backTo pos (starEach [] X.env)).any (·.1) || (backToKw pos (keywordEach kws X.env)).any (·.1.isNone)) = false := by rfl)
    (ht : eval (.Call (.Attribute o m apos) [] kws pos) X.env = (do let ov ← eval o X.env; standAt apos.atName; let (f, first) ← holding [ov] (getMethod ov m pl); callWith pos f first (backTo pos (starEach [] X.env)) (backToKw pos (keywordEach kws X.env))) := by rfl) :
    PE X (.Call (.Attribute o m apos) [] kws pos) (tMethK C m ks.length sp is E0 to tk) := by
  obtain ⟨f, fd, F, hm, hb⟩ := c
  constructor
  intro pins s σ H Q I read
  refine PySem.W.methodCall_KW (pl := pl) (thn (he.run pins s σ H _ I read) fun u s1 ⟨x, H1, I1, rx, a, dx, fs, ex, ea, l, q⟩ => ?_) ht
  subst ex
  obtain rfl : u = .ref a := rx
  refine getmeth_ok I1 ea cl hm l ?_
  refine PySem.W.callWith_KW0 (first := [.ref a]) (h₀ := X.base) I.ok.mod.kin hm.kp named (thn (vals.run pos pins s1 σ H1 _ I1 q) fun ws s2 y => ?_) nostar
  obtain ⟨zs, H2, J, rel, many, h⟩ := y
  rw [names]
  exact ⟨J.kIn, run_fnN (E := E0) (us := [.ref a]) (vs := [.ref a]) F hr hb pass0 J (.cons rfl .nil) rel rfl many h⟩
theorem pe_calC0 (c : CalC X.prog X.w X.K X.mg X.base k x C ps sp) (hr : Room (k + 1) X.A) (gl : Gl X x) (hdb : (x == ("__debug__" : Str)) = false := by decide) : PE X (.Call (.Name x p) [] [] pos) (tMake C sp [] E0 tNil) := by
  obtain ⟨f, fd, F, hm, M, hb⟩ := c
  exact pe_make0 M F hr gl hm hb .nil pass0 hdb
theorem pe_calC (c : CalC X.prog X.w X.K X.mg X.base k x C ps sp) (hr : Room (k + 1) X.A) (gl : Gl X x) (ha : PA X (e :: es) t) (hdb : (x == ("__debug__" : Str)) = false := by decide)
    (he : starEach (e :: es) X.env = (false, eval e X.env) :: starEach es X.env := by rfl) (hpl : (backTo pos (starEach es X.env)).any (·.1) = false := by rfl) : PE X (.Call (.Name x p) (e :: es) [] pos) (tMake C sp [] E0 t) := by
  obtain ⟨f, fd, F, hm, M, hb⟩ := c
  exact pe_make M F hr gl hm hb .nil pass0 ha hdb he hpl
end
end Tg

namespace Tg
open PySem PySem.Spec PyProof.Rows L2
/-! ### the heap: what stands -/
/-- all but p stands as it stood -/
def Kp (p : Addr) (H H' : Hp) : Prop := ∀ b o, b ≠ p → H b = some o → H' b = some o
theorem Kp.refl (p : Addr) (H : Hp) : Kp p H H := fun _ _ _ h => h
theorem Kp.trans {p : Addr} {H H1 H2 : Hp} (a : Kp p H H1) (b : Kp p H1 H2) : Kp p H H2 := fun c o hc h => b c o hc (a c o hc h)
theorem Kp.of {p : Addr} {H H' : Hp} (s : Same H H') : Kp p H H' := fun c o _ h => s c o h
theorem Kp.put {p : Addr} {H : Hp} {o : HO} : Kp p H (upd H p o) := fun c u hc h => by
  rw [upd_ne hc]
  exact h
/-- what is new stays apart -/
theorem Kp.same {p : Addr} {H H1 H2 : Hp} (s : Same H H1) (n : H p = none) (k : Kp p H1 H2) : Same H H2 := fun b o h => k b o (ne_of_none h n) (s b o h)
theorem same_new {H : Hp} {p : Addr} {o : HO} (h : H p = none) : Same H (upd H p o) := fun b x e => by
  rw [upd_ne (ne_of_none e h)]
  exact e
theorem same_put {H H' : Hp} {D : Addr} {o : HO} (n : H D = none) (s : Same H H') : Same H (upd H' D o) := fun b x e => by
  rw [upd_ne (ne_of_none e n)]
  exact s _ _ e
/-- what can't be changed: tuples, and what is locked -/
def Fix : HO → Prop
  | .tup _ => True
  | .frz _ _ => True
  | _ => False
/-- all that can't be changed stands -/
def KT (H H' : Hp) : Prop := ∀ a o, Fix o → H a = some o → H' a = some o
theorem KT.refl (H : Hp) : KT H H := fun _ _ _ h => h
theorem KT.trans {H H1 H2 : Hp} (a : KT H H1) (b : KT H1 H2) : KT H H2 := fun c o f h => b c o f (a c o f h)
theorem KT.of {H H' : Hp} (s : Same H H') : KT H H' := fun c o _ h => s c o h
theorem KT.kp {p : Addr} {H H' : Hp} {o : HO} (k : Kp p H H') (h : H p = some o) (n : ¬ Fix o) : KT H H' := fun a u f e => k a u (fun z => n (by
  rw [z, h] at e
  cases e
  exact f)) e
theorem KT.put {p : Addr} {H : Hp} {o u : HO} (h : H p = some o) (n : ¬ Fix o) : KT H (upd H p u) := KT.kp Kp.put h n
theorem KT.new {p : Addr} {H : Hp} {u : HO} (h : H p = none) : KT H (upd H p u) := KT.of (same_new h)
theorem nfix_lst {xs : List V} : ¬ Fix (.lst xs) := fun z => z
theorem nfix_dK {xs : List (Key × V)} : ¬ Fix (.dK xs) := fun z => z
theorem nfix_ins {C dx : Addr} {fs : List (Str × V)} : ¬ Fix (.ins C dx fs) := fun z => z
/-! ### data -/
theorem rd_same {H H' : Hp} {a : Addr} {o : HO} (s : Same H H') (h : Rd H a o) : Rd H' a o := by
  rcases h with h | ⟨ob, h⟩
  · exact .inl (s _ _ h)
  · exact .inr ⟨ob, s _ _ h⟩
theorem sqL_same {K : PySem.W.Frag} {H H' : Hp} {a : Addr} {xs : List V} (s : Same H H') (h : SqL K H a xs) : SqL K H' a xs := h.imp (rd_same s) id
theorem sqT_same {K : PySem.W.Frag} {H H' : Hp} {a : Addr} {xs : List V} (s : Same H H') (h : SqT K H a xs) : SqT K H' a xs := h.imp (rd_same s) id
theorem sqT_kt {K : PySem.W.Frag} {H H' : Hp} {a : Addr} {xs : List V} (s : KT H H') (h : SqT K H a xs) : SqT K H' a xs := by
  refine h.imp (fun h => ?_) id
  rcases h with h | ⟨ob, h⟩
  · exact .inl (s _ _ trivial h)
  · exact .inr ⟨ob, s _ _ trivial h⟩
mutual
theorem dp_same {K : PySem.W.Frag} {H H' : Hp} (s : Same H H') : ∀ {x : V} {d : PyData}, Dp K H x d → Dp K H' x d
  | _, _, .non => .non
  | _, _, .bl b => .bl b
  | _, _, .int i => .int i
  | _, _, .str z => .str z
  | _, _, .lst a b => .lst (sqL_same s a) (dpAll_same s b)
  | _, _, .tup a b => .tup (sqT_same s a) (dpAll_same s b)
theorem dpAll_same {K : PySem.W.Frag} {H H' : Hp} (s : Same H H') : ∀ {xs : List V} {ds : List PyData}, DpAll K H xs ds → DpAll K H' xs ds
  | _, _, .nil => .nil
  | _, _, .cons a b => .cons (dp_same s a) (dpAll_same s b)
end
/-- no list and no dict in it -/
inductive TD : PyData → Prop
  | non : TD .none
  | bl (b : Bool) : TD (.bool b)
  | int (i : Int) : TD (.int i)
  | str (z : Str) : TD (.str z)
  | tup {ds : List PyData} : (∀ d, d ∈ ds → TD d) → TD (.tuple ds)
mutual
theorem dp_kt {K : PySem.W.Frag} {H H' : Hp} (s : KT H H') : ∀ {x : V} {d : PyData}, Dp K H x d → TD d → Dp K H' x d
  | _, _, .non, _ => .non
  | _, _, .bl b, _ => .bl b
  | _, _, .int i, _ => .int i
  | _, _, .str z, _ => .str z
  | _, _, .lst _ _, t => nomatch t
  | _, _, .tup a b, .tup t => .tup (sqT_kt s a) (dpAll_kt s b t)
theorem dpAll_kt {K : PySem.W.Frag} {H H' : Hp} (s : KT H H') : ∀ {xs : List V} {ds : List PyData}, DpAll K H xs ds → (∀ d, d ∈ ds → TD d) → DpAll K H' xs ds
  | _, _, .nil, _ => .nil
  | _, _, .cons a b, t => .cons (dp_kt s a (t _ List.mem_cons_self)) (dpAll_kt s b fun d hd => t d (List.mem_cons_of_mem _ hd))
end
theorem dpAll_len {K : PySem.W.Frag} {H : Hp} : ∀ {xs : List V} {ds : List PyData}, DpAll K H xs ds → xs.length = ds.length
  | _, _, .nil => rfl
  | _, _, .cons _ b => congrArg Nat.succ (dpAll_len b)
theorem dpAll_at {K : PySem.W.Frag} {H : Hp} : ∀ {xs : List V} {ds : List PyData}, DpAll K H xs ds → ∀ (i : Nat) (x : V), xs[i]? = some x → ∃ d, ds[i]? = some d ∧ Dp K H x d
  | _, _, .nil => fun i x h => by simp at h
  | _, _, .cons a b => fun i x h => by
    cases i with
    | zero =>
      simp only [Option.some.injEq, List.getElem?_cons_zero] at h
      subst h
      exact ⟨_, rfl, a⟩
    | succ i =>
      rw [List.getElem?_cons_succ] at h ⊢
      exact dpAll_at b i x h
theorem dpAll_tk {K : PySem.W.Frag} {H : Hp} : ∀ {xs : List V} {ds : List PyData}, DpAll K H xs ds → ∀ (i : Nat) (d : PyData), ds[i]? = some d → ∃ x, xs[i]? = some x ∧ Dp K H x d
  | _, _, .nil => fun i x h => by simp at h
  | _, _, .cons a b => fun i x h => by
    cases i with
    | zero =>
      simp only [Option.some.injEq, List.getElem?_cons_zero] at h
      subst h
      exact ⟨_, rfl, a⟩
    | succ i =>
      rw [List.getElem?_cons_succ] at h ⊢
      exact dpAll_tk b i x h
theorem dpAll_app {K : PySem.W.Frag} {H : Hp} : ∀ {xs ys : List V} {ds es : List PyData}, DpAll K H xs ds → DpAll K H ys es → DpAll K H (xs ++ ys) (ds ++ es)
  | _, _, _, _, .nil, h => h
  | _, _, _, _, .cons a b, h => .cons a (dpAll_app b h)
theorem dpAll_snoc {K : PySem.W.Frag} {H : Hp} {xs : List V} {ds : List PyData} {y : V} {e : PyData} (h : DpAll K H xs ds) (a : Dp K H y e) : DpAll K H (xs ++ [y]) (ds ++ [e]) := dpAll_app h (.cons a .nil)
/-- a list of data that can't be changed itself -/
def LD (K : PySem.W.Frag) (H : Hp) (a : Addr) (ds : List PyData) : Prop := ∃ xs, H a = some (.lst xs) ∧ DpAll K H xs ds
theorem LD.dp {K : PySem.W.Frag} {H : Hp} {a : Addr} {ds : List PyData} (h : LD K H a ds) : Dp K H (.ref a) (.list ds) := by
  obtain ⟨xs, h1, h2⟩ := h
  exact .lst (SqL.of h1) h2
theorem LD.same {K : PySem.W.Frag} {H H' : Hp} {a : Addr} {ds : List PyData} (s : Same H H') (h : LD K H a ds) : LD K H' a ds := by
  obtain ⟨xs, h1, h2⟩ := h
  exact ⟨xs, s _ _ h1, dpAll_same s h2⟩
/-- where the list itself stands and all tuples do -/
theorem LD.kt {K : PySem.W.Frag} {H H' : Hp} {a : Addr} {ds : List PyData} (s : KT H H') (e : ∀ o, H a = some o → H' a = some o) (t : ∀ d, d ∈ ds → TD d) (h : LD K H a ds) : LD K H' a ds := by
  obtain ⟨xs, h1, h2⟩ := h
  exact ⟨xs, e _ h1, dpAll_kt s h2 t⟩
theorem LD.kp {K : PySem.W.Frag} {H H' : Hp} {a p : Addr} {o : HO} {ds : List PyData} (k : Kp p H H') (hp : H p = some o) (n : ¬ Fix o) (ne : a ≠ p) (t : ∀ d, d ∈ ds → TD d) (h : LD K H a ds) : LD K H' a ds :=
  h.kt (KT.kp k hp n) (fun u e => k _ _ ne e) t
/-- one more at the end -/
theorem LD.snoc {K : PySem.W.Frag} {H H1 : Hp} {a : Addr} {xs : List V} {ds : List PyData} {y : V} {e : PyData} (k : KT H H1) (h1 : H1 a = some (.lst xs)) (hd : DpAll K H xs ds) (t : ∀ d, d ∈ ds → TD d) (hy : Dp K H1 y e) (te : TD e) :
    LD K (upd H1 a (.lst (xs ++ [y]))) a (ds ++ [e]) :=
  ⟨_, upd_same, dpAll_snoc (dpAll_kt (k.trans (KT.put h1 nfix_lst)) hd t) (dp_kt (KT.put h1 nfix_lst) hy te)⟩
theorem shaped_of {d : PyData} (h1 : d.canLay0 = true) (h2 : d.depth ≤ 64) : SeqAt.shaped d = true := by
  unfold SeqAt.shaped
  rw [h1, decide_eq_true h2]
  rfl
theorem if_f {A B : Prop} (h : B) : if false = true then A else B := by
  rw [if_neg (by decide)]
  exact h
theorem if_t {A B : Prop} (h : A) : if true = true then A else B := by
  rw [if_pos rfl]
  exact h
theorem atI_mem {xs : List Int} {i : Int} (h0 : 0 ≤ i) (h1 : i < xs.length) : ∃ v, v ∈ xs ∧ atI (xs.map V.int) i = some (.int v) := by
  have hn : i.toNat < xs.length := by omega
  obtain ⟨j, rfl⟩ : ∃ j : Nat, i = (j : Int) := ⟨i.toNat, by omega⟩
  have hj : j < xs.length := by omega
  refine ⟨xs[j], List.getElem_mem hj, atI_nat ?_⟩
  rw [List.getElem?_map, List.getElem?_eq_getElem hj]
  rfl
end Tg

namespace Tg
open PySem PySem.Spec PyProof.Rows L2
/-! ### set(xs), xs a list of ints; sorted of it -/
section
variable {w : World} {P : Program} {s : Shared} {A : Around} {E : Value → Shared → Prop}
/-- a set without members, as it is laid -/
def emp (w : World) : Obj := { cls := .type "set", dict := none, data := .set #[] 0 (.fresh 0 0 (!w.params.followText "set-order")) }
/-- what has to come of it -/
def Came (w : World) (s : Shared) (ns : List Int) (h' : Heap) (c : Nat) : Prop := SetR w h' s.heap.objs.size (fun j => decide (j ∈ ns)) c ∧ c ≤ ns.length ∧ ∀ b o, s.heap.get? b = some o → h'.get? b = some o
theorem isl_plain {l : Addr} {items : Array Value} {hp : Heap} (h : hp.IsList l items) : ∃ o, hp.get? l = some o ∧ o.cls = .type "list" ∧ ∃ n, o.data = .seq items n := by
  exact h
set_option maxHeartbeats 3200000 in
theorem call_setL {l : Addr} {items : Array Value} (ns : List Int) {Q : Value → Shared → Prop} (calm : A.handled = none) (hl : s.heap.IsList l items) (are : IntsAre items.toList ns) (few : ns.length + 1 < scanBound)
    (out : ∀ (h' : Heap) (tk c : Nat), Came w s ns h' c → Q (.ref s.heap.objs.size) { s with heap := h', toks := tk }) : wpAny (model P w) A (call (.type "set") [.ref l]) Q E s := by
  have many : items.size = ns.length := by
    have z := IntsAre.length are
    rwa [Array.length_toList] at z
  obtain ⟨cc, rest, line⟩ := F.called_set.mro
  have f1 := F.called_set.made
  have f2 := F.called_set.sub
  refine wpAny_call (codeAny_of_tree (show wpAny _ _ (callAny (.type "set") _) _ _ _ from wpAny_pure ⟨Code.quiet_builtin _ (by decide +kernel), codeAny_builtin F.entry_type_call ?_⟩))
  rw [Around.under_plain (weight_type_call_type "set" [.ref l] []) rfl]; have f3 := F.called_set.notType
  have f4 := F.called_set.canCreate
  have f5 := F.typeCall_set_1 (.ref l); repeat (any_goals (first | assumption | wp_step))
  refine codeAny_mono (code_set_led1 (.ref l) (E := E) (Q₁ := fun obj s₁ => obj = .ref s.heap.objs.size ∧ s₁ = { s with heap := s.heap.push (emp w) }) ⟨rfl, rfl⟩) fun r s₁ hr => ?_
  match r, hr with
  | .error e, hr => exact hr
  | .ok .next, hr => exact hr.elim
  | .ok .brk, hr => exact hr.elim
  | .ok .cont, hr => exact hr.elim
  | .ok (.ret obj), ⟨eo, es⟩ =>
    subst eo
    subst es
    have at0 : (s.heap.push (emp w)).get? s.heap.objs.size = some (emp w) := Heap.get?_push_size _ rfl
    have ty0 : Shared.TypeIs { s with heap := s.heap.push (emp w) } (.ref s.heap.objs.size) "set" := ⟨_, at0, rfl⟩
    have f6 := F.called_set.init.lookup
    have f7 := F.called_set.init.bind (.ref s.heap.objs.size); repeat (any_goals (first | assumption | wp_step))
    refine codeAny_mono (codeAny_call_builtin (R := wants (fun r s₂ => r = .none ∧ ∃ h' tk c, s₂ = { s with heap := h', toks := tk } ∧ Came w s ns h' c) E) F.called_set.init.plain F.entry_set_init (check_set_init_1 ty0 ?_)) fun r₂ s₂ hr₂ => ?_
    · obtain ⟨⟨ocls, odict, odata, oslots⟩, hol, hcl, nl, hdl⟩ := isl_plain hl
      simp only at hcl hdl
      subst hcl
      subst hdl
      have below : l < s.heap.objs.size := Heap.lt_size hol
      have at1 : (s.heap.push (emp w)).get? l = some { cls := .type "list", dict := odict, data := .seq items nl, slots := oslots } := Heap.get?_push_of_some _ hol
      have g1 := F.sub_list_set
      have g2 := F.sub_list_frozenset
      have g3 : (Value.type "list" == Value.type "dict") = false := by decide
      have hl1 : (s.heap.push (emp w)).IsList l items := hl.push _
      unfold Builtin.«set.__init__» noKeywords Builtin.Frozenset.updateFrom; generalize hPI : pyIter = PI
      wp_walk
      subst hPI
      refine wpAny_pyIter_list hl1 (wpAny_bind (wpAny_runValue ?_))
      have hh3 : A.in1.in1.in1.handled = none := by simp [calm]
      have apart : l ≠ (s.heap.push (emp w)).objs.size := by
        rw [Heap.size_push]
        exact Nat.ne_of_lt (Nat.lt_succ_of_lt below)
      have off : s.heap.objs.size ∉ [(s.heap.push (emp w)).objs.size, l] := by
        rw [Heap.size_push]
        simp only [List.mem_cons, List.mem_singleton, List.not_mem_nil, or_false, not_or]
        exact ⟨Nat.ne_of_lt (Nat.lt_succ_self _), Nat.ne_of_gt below⟩
      have vals : ∀ (i : Nat) (v : Value), items[i]? = some v → ∃ k t, ns[i]? = some k ∧ v = .int k t := fun i v hv => by
        have hi : i < ns.length := many ▸ (Array.getElem?_eq_some_iff.mp hv).1
        obtain ⟨t, e⟩ := PyProof.Rows.IntsAre.int_at are i v (by rw [Array.getElem?_toList]; exact hv)
        rw [List.getD_eq_getElem?_getD, List.getElem?_eq_getElem hi] at e
        exact ⟨ns[i], t, List.getElem?_eq_getElem hi, e⟩
      refine set_update_ints ((Walks.list hh3 _ l apart items).toS) s.heap.objs.size off ns many few vals (items.size - 0) 0 _ (by omega) (Nat.zero_le _) ⟨⟨_, Heap.get?_push_size _ rfl, rfl, rfl⟩, hl1.push _⟩ ?_ ?_
      · exact ⟨0, Nat.le_refl 0, setR_new_at (Heap.get?_push_of_some _ at0)⟩
      · intro s' c' hm hc' hS'
        obtain ⟨h', g2', d', tk', os'⟩ := s'
        obtain rfl : g2' = s.gens := hm.gens
        obtain rfl : d' = s.drawn := hm.drawn
        obtain rfl : os' = s.os := hm.os
        show wpAny _ _ _ _ _ _
        refine wpAny_pure (show wpAny _ _ (ret Value.none) _ _ _ from wpAny_pure ⟨rfl, h', tk', c', rfl, hS', many ▸ hc', fun b o e => ?_⟩)
        have lt := Heap.lt_size e
        refine hm.heap b o ?_ (Heap.get?_push_of_some _ (Heap.get?_push_of_some _ e))
        simp only [List.mem_cons, List.mem_singleton, List.not_mem_nil, or_false, not_or]
        rw [Heap.size_push]
        exact ⟨Nat.ne_of_lt lt, Nat.ne_of_lt (Nat.lt_succ_of_lt lt)⟩
    · match r₂, hr₂ with
      | .error e, hr₂ => exact hr₂
      | .ok .next, hr₂ => exact hr₂.elim
      | .ok .brk, hr₂ => exact hr₂.elim
      | .ok .cont, hr₂ => exact hr₂.elim
      | .ok (.ret r), ⟨e1, h', tk, c', e2, come⟩ =>
        subst e1
        subst e2; repeat (any_goals (first | assumption | wp_step))
        exact out _ _ _ come
end
section
variable {X : Cx}
theorem few_of : ∀ {rs L : List Int}, rs.Nodup → (∀ r, r ∈ rs → r ∈ L) → rs.length ≤ L.length
  | [], L, _, _ => Nat.zero_le _
  | r :: rs, L, nd, h => by
    have n1 := (List.nodup_cons.mp nd).1
    have hr : r ∈ L := h r List.mem_cons_self
    have i := few_of (rs := rs) (L := L.erase r) (List.nodup_cons.mp nd).2 fun q hq => (List.mem_erase_of_ne (fun z : q = r => n1 (by rw [← z]; exact hq))).mpr (h q (List.mem_cons_of_mem _ hq))
    rw [List.length_erase_of_mem hr] at i
    have := List.length_pos_of_mem hr
    show rs.length + 1 ≤ L.length
    omega
/-- a set has no more members than any list that has them -/
theorem setR_few {w : World} {h : Heap} {a : Addr} {S : Int → Bool} {n : Nat} (R : SetR w h a S n) {L : List Int} (all : ∀ k, S k = true → k ∈ L) : n ≤ L.length := by
  obtain ⟨o, es, ep, t, _, _, _, _, nd, mem, _, _, size, _⟩ := R
  have z := few_of nd fun r hr => all r ((mem r).mpr hr)
  rw [List.length_map, Array.length_toList, size] at z
  exact z
/-- set(xs) -/
def rSetL (K : PySem.W.Frag) (w : World) : List V → Hp → VK → Prop := fun vs H Q => ∃ (l : Addr) (ns : List Int), vs = [V.ref l] ∧ SqL K H l (ns.map V.int) ∧ ns.length ≤ 1000 ∧ ∀ (a : Addr) (c : Nat), H a = none → (∀ L : List Int, (∀ k, k ∈ ns → k ∈ L) → c ≤ L.length) → Q (.ref a) (upd H a (SetO w a (fun j => decide (j ∈ ns)) c))
theorem cr_setL (hc : X.calm = true) : CallR X (.type "set") (rSetL X.K X.w) := by
  intro pins s σ H vs us Q I r want
  obtain ⟨l, ns, rfl, hl, few, q⟩ := want
  rw [Vals.ref1 r]
  obtain ⟨its, rv, isl, _⟩ := I.list hl
  refine call_setL ns (I.ok.hd hc) isl.isList ?_ (by unfold scanBound; omega) fun h' tk c come => ?_
  · exact intsAre_of rv
  · obtain ⟨R, le, kp⟩ := come
    exact ⟨.ref s.heap.objs.size, _, I.laid (t' := tk) kp (Nat.le_refl _) (setO_new R), rfl, q _ c (I.hok.fresh (Nat.le_refl _)) fun L hL => setR_few R fun k hk => hL k (of_decide_eq_true hk)⟩
end
end Tg

namespace Tg
open PySem L2
/-! ### rows: time, number, worth or none -/
abbrev Rw := Int × Int × Option Int
def Lt (x y : Rw) : Prop := x.1 < y.1 ∨ (x.1 = y.1 ∧ x.2.1 < y.2.1)
def Srt (rs : List Rw) : Prop := rs.Pairwise Lt
theorem Lt.irr (x : Rw) : ¬ Lt x x := fun h => by
  rcases h with h | h
  · omega
  · omega
theorem Srt.sub {rs : List Rw} (h : Srt rs) (p : Rw → Bool) : Srt (rs.filter p) := List.Pairwise.filter p h
/-- r is the last row of its time with a number up to n -/
def IsLast (rs : List Rw) (n : Int) (r : Rw) : Prop := r ∈ rs ∧ r.2.1 ≤ n ∧ ∀ q, q ∈ rs → q.1 = r.1 → q.2.1 ≤ n → q.2.1 ≤ r.2.1
theorem srt_tri {rs : List Rw} (h : Srt rs) {a b : Rw} (ha : a ∈ rs) (hb : b ∈ rs) : a = b ∨ Lt a b ∨ Lt b a := by
  induction rs with
  | nil => cases ha
  | cons x r ih =>
    have ⟨h1, h2⟩ := List.pairwise_cons.mp (show (x :: r).Pairwise Lt from h)
    rcases List.mem_cons.mp ha with e1 | a1
    · rcases List.mem_cons.mp hb with e2 | b1
      · exact .inl (e1.trans e2.symm)
      · rw [e1]
        exact .inr (.inl (h1 b b1))
    · rcases List.mem_cons.mp hb with e2 | b1
      · rw [e2]
        exact .inr (.inr (h1 a a1))
      · exact ih h2 a1 b1
theorem srt_same {rs : List Rw} (h : Srt rs) {a b : Rw} (ha : a ∈ rs) (hb : b ∈ rs) (e1 : a.1 = b.1) (e2 : a.2.1 = b.2.1) : a = b := by
  rcases srt_tri h ha hb with e | (e | e) | (e | e)
  · exact e
  · omega
  · omega
  · omega
  · omega
theorem last_uniq {rs : List Rw} (h : Srt rs) {n : Int} {a b : Rw} (ha : IsLast rs n a) (hb : IsLast rs n b) (e : a.1 = b.1) : a = b := by
  have h1 := ha.2.2 b hb.1 e.symm hb.2.1
  have h2 := hb.2.2 a ha.1 e ha.2.1
  exact srt_same h ha.1 hb.1 e (by omega)
theorem Srt.nodup {rs : List Rw} (h : Srt rs) : rs.Nodup := by
  unfold List.Nodup
  refine List.Pairwise.imp (fun {a b} (l : Lt a b) => ?_) h
  intro e
  rw [← e] at l
  exact Lt.irr a l
/-! ### tables by times -/
def putL {α : Type} (m : List (Int × α)) (t : Int) (a : α) : List (Int × α) := if (m.any fun p => decide (p.1 = t)) = true then m.map (fun p => if p.1 = t then (p.1, a) else p) else m ++ [(t, a)]
theorem mem_putL {α : Type} {m : List (Int × α)} {t : Int} {a : α} {p : Int × α} : p ∈ putL m t a ↔ p = (t, a) ∨ (p ∈ m ∧ ¬ p.1 = t) := by
  unfold putL
  by_cases c : (m.any fun p => decide (p.1 = t)) = true
  · rw [if_pos c]
    obtain ⟨q, hq, eq⟩ := List.any_eq_true.mp c
    have eq := of_decide_eq_true eq
    constructor
    · intro h
      obtain ⟨x, hx, e⟩ := List.mem_map.mp h
      by_cases d : x.1 = t
      · rw [if_pos d, d] at e
        exact .inl e.symm
      · rw [if_neg d] at e
        subst e
        exact .inr ⟨hx, d⟩
    · rintro (rfl | ⟨h1, h2⟩)
      · exact List.mem_map.mpr ⟨q, hq, by rw [if_pos eq, eq]⟩
      · exact List.mem_map.mpr ⟨p, h1, by rw [if_neg h2]⟩
  · rw [if_neg c]
    constructor
    · intro there
      rcases List.mem_append.mp there with old | new
      · exact .inr ⟨old, fun z => c (List.any_eq_true.mpr ⟨p, old, decide_eq_true z⟩)⟩
      · exact .inl (List.mem_singleton.mp new)
    · rintro (rfl | ⟨h1, h2⟩)
      · exact List.mem_append_right _ (List.mem_singleton.mpr rfl)
      · exact List.mem_append_left _ h1
theorem putL_keys {α : Type} {m : List (Int × α)} {t : Int} {a : α} (h : m.Pairwise fun x y => x.1 < y.1) (le : ∀ p, p ∈ m → p.1 ≤ t) : (putL m t a).Pairwise fun x y => x.1 < y.1 := by
  unfold putL
  by_cases c : (m.any fun p => decide (p.1 = t)) = true
  · rw [if_pos c, List.pairwise_map]
    refine h.imp fun {x y} l => ?_
    by_cases d : x.1 = t
    · by_cases e : y.1 = t
      · rw [if_pos d, if_pos e]
        exact l
      · rw [if_pos d, if_neg e]
        exact l
    · by_cases e : y.1 = t
      · rw [if_neg d, if_pos e]
        exact l
      · rw [if_neg d, if_neg e]
        exact l
  · rw [if_neg c, List.pairwise_append]
    refine ⟨h, List.pairwise_singleton _ _, fun x hx y hy => ?_⟩
    rw [List.mem_singleton.mp hy]
    have h1 := le x hx
    have h2 : ¬ x.1 = t := fun z => c (List.any_eq_true.mpr ⟨x, hx, decide_eq_true z⟩)
    show x.1 < t
    omega
theorem putL_len {α : Type} {m : List (Int × α)} {t : Int} {a : α} : (putL m t a).length ≤ m.length + 1 := by
  unfold putL
  split
  · rw [List.length_map]
    omega
  · rw [List.length_append]
    exact Nat.le_refl _
/-- of each time the last row up to a number -/
def lwR (rs : List Rw) (n : Int) : List (Int × Rw) := rs.foldl (fun m r => if r.2.1 ≤ n then putL m r.1 r else m) []
theorem lwR_snoc (rs : List Rw) (n : Int) (r : Rw) : lwR (rs ++ [r]) n = if r.2.1 ≤ n then putL (lwR rs n) r.1 r else lwR rs n := by
  unfold lwR
  rw [List.foldl_append]
  rfl
theorem lwR_len (rs : List Rw) (n : Int) : (lwR rs n).length ≤ rs.length := by
  obtain ⟨k, hk⟩ : ∃ k, rs.length = k := ⟨_, rfl⟩
  induction k generalizing rs with
  | zero =>
    rw [List.length_eq_zero_iff.mp hk]
    exact Nat.le_refl _
  | succ k ih =>
    rcases List.eq_nil_or_concat rs with rfl | ⟨q, x, e⟩
    · exact Nat.zero_le _
    · rw [List.concat_eq_append] at e
      subst e
      rw [List.length_append] at hk ⊢
      have i1 := ih q (by simp at hk; exact hk)
      rw [lwR_snoc]
      have := putL_len (m := lwR q n) (t := x.1) (a := x)
      show _ ≤ q.length + 1
      split <;> omega
theorem lwR_is {n : Int} (rs : List Rw) (h : Srt rs) : ((lwR rs n).Pairwise fun x y => x.1 < y.1) ∧ ∀ p : Int × Rw, p ∈ lwR rs n ↔ p.1 = p.2.1 ∧ IsLast rs n p.2 := by
  obtain ⟨k, hk⟩ : ∃ k, rs.length = k := ⟨_, rfl⟩
  induction k generalizing rs with
  | zero =>
    rw [List.length_eq_zero_iff.mp hk]
    exact ⟨.nil, fun p => ⟨(fun z => absurd z List.not_mem_nil), (fun z => absurd z.2.1 List.not_mem_nil)⟩⟩
  | succ k ih =>
    rcases List.eq_nil_or_concat rs with rfl | ⟨q, x, e⟩
    · exact ⟨.nil, fun p => ⟨(fun z => absurd z List.not_mem_nil), (fun z => absurd z.2.1 List.not_mem_nil)⟩⟩
    · rw [List.concat_eq_append] at e
      subst e
      rw [List.length_append] at hk
      obtain ⟨h1, _, h3⟩ := List.pairwise_append.mp h
      have hx : ∀ y, y ∈ q → Lt y x := fun y hy => h3 y hy x (List.mem_singleton.mpr rfl)
      obtain ⟨i1, i2⟩ := ih q h1 (by simp at hk; exact hk)
      rw [lwR_snoc]
      by_cases c : x.2.1 ≤ n
      · rw [if_pos c]
        constructor
        · refine putL_keys i1 fun p hp => ?_
          obtain ⟨e1, e2⟩ := (i2 p).mp hp
          rcases hx p.2 e2.1 with l | l <;> omega
        · intro p
          rw [mem_putL]
          constructor
          · rintro (rfl | ⟨h4, h5⟩)
            · refine ⟨rfl, List.mem_append_right _ (List.mem_singleton.mpr rfl), c, fun y hy e4 _ => ?_⟩
              rcases List.mem_append.mp hy with h | h
              · rcases hx y h with l | l
                · have e4' : y.1 = x.1 := e4
                  omega
                · show y.2.1 ≤ x.2.1
                  omega
              · rw [List.mem_singleton.mp h]
                exact Int.le_refl _
            · obtain ⟨e1, e2, e3, e4⟩ := (i2 p).mp h4
              refine ⟨e1, List.mem_append_left _ e2, e3, fun y hy e5 e6 => ?_⟩
              rcases List.mem_append.mp hy with h | h
              · exact e4 y h e5 e6
              · rw [List.mem_singleton.mp h] at e5
                omega
          · rintro ⟨e1, e2, e3, e4⟩
            rcases List.mem_append.mp e2 with h | h
            · by_cases d : p.1 = x.1
              · exfalso
                have := e4 x (List.mem_append_right _ (List.mem_singleton.mpr rfl)) (by omega) c
                rcases hx p.2 h with l | l <;> omega
              · exact .inr ⟨(i2 p).mpr ⟨e1, h, e3, fun y hy => e4 y (List.mem_append_left _ hy)⟩, d⟩
            · left
              have e := List.mem_singleton.mp h
              obtain ⟨p1, p2⟩ := p
              have e' : p2 = x := e
              rw [e'] at e1 ⊢
              exact congrArg (fun z => (z, x)) e1
      · rw [if_neg c]
        refine ⟨i1, fun p => ?_⟩
        rw [i2 p]
        constructor
        · rintro ⟨e1, e2, e3, e4⟩
          refine ⟨e1, List.mem_append_left _ e2, e3, fun y hy e5 e6 => ?_⟩
          rcases List.mem_append.mp hy with h | h
          · exact e4 y h e5 e6
          · rw [List.mem_singleton.mp h] at e6
            exact absurd e6 c
        · rintro ⟨e1, e2, e3, e4⟩
          rcases List.mem_append.mp e2 with h | h
          · exact ⟨e1, h, e3, fun y hy => e4 y (List.mem_append_left _ hy)⟩
          · rw [List.mem_singleton.mp h] at e3
            exact absurd e3 c
/-- there is a last one -/
theorem last_of {rs : List Rw} (h : Srt rs) {n t : Int} {l : Rw} (e : (rs.filter fun q => decide (q.1 = t ∧ q.2.1 ≤ n)).getLast? = some l) : IsLast rs n l ∧ l.1 = t := by
  have ml := List.mem_of_getLast? e
  obtain ⟨m1, m2⟩ := List.mem_filter.mp ml
  obtain ⟨m3, m4⟩ := of_decide_eq_true m2
  refine ⟨⟨m1, m4, fun q hq e1 e2 => ?_⟩, m3⟩
  have mq : q ∈ rs.filter fun q => decide (q.1 = t ∧ q.2.1 ≤ n) := List.mem_filter.mpr ⟨hq, decide_eq_true ⟨by omega, e2⟩⟩
  have hs := h.sub fun q => decide (q.1 = t ∧ q.2.1 ≤ n)
  revert e mq hs
  generalize rs.filter (fun q => decide (q.1 = t ∧ q.2.1 ≤ n)) = fs
  intro e mq hs
  rcases List.eq_nil_or_concat fs with rfl | ⟨g, x, eg⟩
  · cases mq
  · rw [List.concat_eq_append] at eg
    subst eg
    rw [List.getLast?_concat] at e
    cases e
    rcases List.mem_append.mp mq with hg | hg
    · rcases (List.pairwise_append.mp hs).2.2 q hg l (List.mem_singleton.mpr rfl) with z | z <;> omega
    · rw [List.mem_singleton.mp hg]
      exact Int.le_refl _
theorem last_there {rs : List Rw} (h : Srt rs) {n : Int} {r : Rw} (hr : r ∈ rs) (hn : r.2.1 ≤ n) : ∃ l, IsLast rs n l ∧ l.1 = r.1 := by
  cases e : (rs.filter fun q => decide (q.1 = r.1 ∧ q.2.1 ≤ n)).getLast? with
  | some l => exact ⟨l, last_of h e⟩
  | none =>
    rw [List.getLast?_eq_none_iff] at e
    have : r ∈ rs.filter fun q => decide (q.1 = r.1 ∧ q.2.1 ≤ n) := List.mem_filter.mpr ⟨hr, decide_eq_true ⟨rfl, hn⟩⟩
    rw [e] at this
    cases this
/-! ### rising lists are told by their members -/
theorem ext_sorted {α : Type} {lt : α → α → Prop} (irr : ∀ a, ¬ lt a a) (tr : ∀ a b c, lt a b → lt b c → lt a c) : ∀ {xs ys : List α}, xs.Pairwise lt → ys.Pairwise lt → (∀ a, a ∈ xs ↔ a ∈ ys) → xs = ys
  | [], [], _, _, _ => rfl
  | [], y :: ys, _, _, h => nomatch (h y).mpr List.mem_cons_self
  | x :: xs, [], _, _, h => nomatch (h x).mp List.mem_cons_self
  | x :: xs, y :: ys, h1, h2, h => by
    obtain ⟨a1, a2⟩ := List.pairwise_cons.mp h1
    obtain ⟨b1, b2⟩ := List.pairwise_cons.mp h2
    have e : x = y := by
      rcases List.mem_cons.mp ((h x).mp List.mem_cons_self) with z | z
      · exact z
      · rcases List.mem_cons.mp ((h y).mpr List.mem_cons_self) with u | u
        · exact u.symm
        · exact absurd (tr _ _ _ (a1 y u) (b1 x z)) (irr x)
    subst e
    refine congrArg (x :: ·) (ext_sorted irr tr a2 b2 fun a => ?_)
    constructor
    · intro ha
      rcases List.mem_cons.mp ((h a).mp (List.mem_cons_of_mem _ ha)) with z | z
      · rw [z] at ha
        exact absurd (a1 x ha) (irr x)
      · exact z
    · intro ha
      rcases List.mem_cons.mp ((h a).mpr (List.mem_cons_of_mem _ ha)) with z | z
      · rw [z] at ha
        exact absurd (b1 x ha) (irr x)
      · exact z
/-! ### what is known -/
def kn (rs : List Rw) (n : Int) : List (Int × Int) := (lwR rs n).filterMap fun p => p.2.2.2.map fun w => (p.1, w)
theorem mem_kn {rs : List Rw} (h : Srt rs) {n : Int} {x : Int × Int} : x ∈ kn rs n ↔ ∃ r, IsLast rs n r ∧ r.1 = x.1 ∧ r.2.2 = some x.2 := by
  unfold kn
  rw [List.mem_filterMap]
  constructor
  · rintro ⟨p, hp, e⟩
    obtain ⟨e1, e2⟩ := ((lwR_is rs h).2 p).mp hp
    obtain ⟨w, e3, rfl⟩ := Option.map_eq_some_iff.mp e
    exact ⟨p.2, e2, e1.symm, e3⟩
  · rintro ⟨r, h1, h2, h3⟩
    refine ⟨(r.1, r), ((lwR_is rs h).2 _).mpr ⟨rfl, h1⟩, ?_⟩
    rw [h3, h2]
    rfl
theorem kn_srt {rs : List Rw} (h : Srt rs) (n : Int) : (kn rs n).Pairwise fun x y => x.1 < y.1 := by
  unfold kn
  rw [List.pairwise_filterMap]
  refine (lwR_is rs h).1.imp fun {a b} l x hx y hy => ?_
  obtain ⟨w, _, rfl⟩ := Option.map_eq_some_iff.mp hx
  obtain ⟨u, _, rfl⟩ := Option.map_eq_some_iff.mp hy
  exact l
theorem kn_len (rs : List Rw) (n : Int) : (kn rs n).length ≤ rs.length := Nat.le_trans (List.length_filterMap_le _ _) (lwR_len rs n)
theorem kn_ext {rs qs : List Rw} (h1 : Srt rs) (h2 : Srt qs) {n m : Int} (h : ∀ r, r.2.2 ≠ none → (IsLast rs n r ↔ IsLast qs m r)) : kn rs n = kn qs m := by
  refine ext_sorted (lt := fun x y => x.1 < y.1) (fun a => Int.lt_irrefl _) (fun a b c => Int.lt_trans) (kn_srt h1 n) (kn_srt h2 m) fun x => ?_
  rw [mem_kn h1, mem_kn h2]
  constructor
  · rintro ⟨r, a, b, c⟩
    exact ⟨r, (h r (by rw [c]; simp)).mp a, b, c⟩
  · rintro ⟨r, a, b, c⟩
    exact ⟨r, (h r (by rw [c]; simp)).mpr a, b, c⟩
/-! ### what is needed -/
instance (rs : List Rw) (n : Int) (r : Rw) : Decidable (IsLast rs n r) := by
  unfold IsLast
  exact inferInstance
def Need (rs : List Rw) (n : Int) (r : Rw) : Prop := n < r.2.1 ∨ (IsLast rs n r ∧ ¬ r.2.2 = none)
instance (rs : List Rw) (n : Int) (r : Rw) : Decidable (Need rs n r) := by
  unfold Need
  exact inferInstance
def fl (rs : List Rw) (n : Int) (r : Rw) : Bool := decide (Need rs n r)
def thin (rs : List Rw) (n : Int) : List Rw := rs.filter (fl rs n)
def ndl (rs : List Rw) (n : Int) : List Rw := rs.filter fun r => !fl rs n r
theorem thin_known {rs : List Rw} (h : Srt rs) {n m : Int} (le : n ≤ m) : kn (thin rs n) m = kn rs m := by
  refine kn_ext (h.sub _) h fun r hr => ?_
  constructor
  · rintro ⟨a1, a2, a3⟩
    obtain ⟨b1, b2⟩ := List.mem_filter.mp a1
    have b3 : Need rs n r := of_decide_eq_true b2
    refine ⟨b1, a2, fun q hq e1 e2 => ?_⟩
    by_cases c : n < q.2.1
    · exact a3 q (List.mem_filter.mpr ⟨hq, decide_eq_true (.inl c)⟩) e1 e2
    · rcases b3 with z | z
      · omega
      · exact z.1.2.2 q hq e1 (by omega)
  · rintro ⟨a1, a2, a3⟩
    refine ⟨List.mem_filter.mpr ⟨a1, decide_eq_true ?_⟩, a2, fun q hq e1 e2 => a3 q (List.mem_filter.mp hq).1 e1 e2⟩
    by_cases c : n < r.2.1
    · exact .inl c
    · exact .inr ⟨⟨a1, by omega, fun q hq e1 e2 => a3 q hq e1 (by omega)⟩, hr⟩
/-- a row left out is missed -/
theorem missed {rs : List Rw} (h : Srt rs) {n : Int} {row : Rw} (hm : row ∈ thin rs n) (hw : ¬ row.2.2 = none) {b : Int} (eb : b = max n row.2.1)
    (he : (((thin rs n).filter fun q => !decide (q = row)).filter fun q => decide (q.1 = row.1 ∧ q.2.1 ≤ b)).getLast?.map (·.2.2) ≠ some row.2.2) :
    kn ((thin rs n).filter fun q => !decide (q = row)) b ≠ kn (thin rs n) b := fun z => by
  have hl : Srt (thin rs n) := h.sub _
  have hf : Srt ((thin rs n).filter fun q => !decide (q = row)) := hl.sub _
  obtain ⟨w, ew⟩ : ∃ w, row.2.2 = some w := by
    cases e : row.2.2 with
    | none => exact absurd e hw
    | some w => exact ⟨w, rfl⟩
  have last : IsLast (thin rs n) b row := by
    refine ⟨hm, by omega, fun q hq e1 e2 => ?_⟩
    obtain ⟨m1, m2⟩ := List.mem_filter.mp hm
    have nd : Need rs n row := of_decide_eq_true m2
    rcases nd with c | c
    · omega
    · have := c.1.2.1
      exact c.1.2.2 q (List.mem_filter.mp hq).1 e1 (by omega)
  have m1 : (row.1, w) ∈ kn (thin rs n) b := (mem_kn hl).mpr ⟨row, last, rfl, ew⟩
  rw [← z, mem_kn hf] at m1
  obtain ⟨r, r1, r2, r3⟩ := m1
  cases e : (((thin rs n).filter fun q => !decide (q = row)).filter fun q => decide (q.1 = row.1 ∧ q.2.1 ≤ b)).getLast? with
  | none =>
    rw [List.getLast?_eq_none_iff] at e
    have : r ∈ ((thin rs n).filter fun q => !decide (q = row)).filter fun q => decide (q.1 = row.1 ∧ q.2.1 ≤ b) := List.mem_filter.mpr ⟨r1.1, decide_eq_true ⟨r2, r1.2.1⟩⟩
    rw [e] at this
    cases this
  | some l =>
    obtain ⟨l1, l2⟩ := last_of hf e
    have el := last_uniq hf r1 l1 (by rw [l2]; exact r2)
    refine he ?_
    rw [e, ← el, ew]
    exact congrArg some r3
/-! ### the tables as dicts -/
def lwV (f : Rw → V) (rs : List Rw) (n : Int) : List (Key × V) := rs.foldl (fun m r => if r.2.1 ≤ n then putK m (Sum.inl r.1) (f r) else m) []
theorem lwV_snoc (f : Rw → V) (rs : List Rw) (n : Int) (r : Rw) : lwV f (rs ++ [r]) n = if r.2.1 ≤ n then putK (lwV f rs n) (Sum.inl r.1) (f r) else lwV f rs n := by
  unfold lwV
  rw [List.foldl_append]
  rfl
theorem putK_map (f : Rw → V) (m : List (Int × Rw)) (t : Int) (r : Rw) : putK (m.map fun p => ((Sum.inl p.1 : Key), f p.2)) (Sum.inl t) (f r) = (putL m t r).map fun p => ((Sum.inl p.1 : Key), f p.2) := by
  unfold putK putL
  have e : ((m.map fun p => ((Sum.inl p.1 : Key), f p.2)).any fun kv => decide (kv.1 = Sum.inl t)) = m.any fun p => decide (p.1 = t) := by
    rw [List.any_map]
    refine List.any_congr rfl fun p => ?_
    simp only [Function.comp_apply, Sum.inl.injEq]
  rw [e]
  by_cases c : (m.any fun p => decide (p.1 = t)) = true
  · rw [if_pos c, if_pos c, List.map_map, List.map_map]
    refine List.map_congr_left fun p _ => ?_
    simp only [Function.comp_apply]
    by_cases d : p.1 = t
    · rw [if_pos (congrArg Sum.inl d), if_pos d]
    · rw [if_neg (fun z => d (Sum.inl.inj z)), if_neg d]
  · rw [if_neg c, if_neg c, List.map_append]
    rfl
theorem lwV_eq (f : Rw → V) (rs : List Rw) (n : Int) : lwV f rs n = (lwR rs n).map fun p => ((Sum.inl p.1 : Key), f p.2) := by
  obtain ⟨k, hk⟩ : ∃ k, rs.length = k := ⟨_, rfl⟩
  induction k generalizing rs with
  | zero =>
    rw [List.length_eq_zero_iff.mp hk]
    rfl
  | succ k ih =>
    rcases List.eq_nil_or_concat rs with rfl | ⟨q, x, e⟩
    · rfl
    · rw [List.concat_eq_append] at e
      subst e
      rw [List.length_append] at hk
      have i1 := ih q (by simp at hk; exact hk)
      rw [lwV_snoc, lwR_snoc, i1]
      by_cases c : x.2.1 ≤ n
      · rw [if_pos c, if_pos c, putK_map]
      · rw [if_neg c, if_neg c]
theorem lwV_len (f : Rw → V) (rs : List Rw) (n : Int) : (lwV f rs n).length ≤ rs.length := by
  rw [lwV_eq, List.length_map]
  exact lwR_len rs n
theorem valV_of {f : Rw → V} : ∀ {m : List (Int × Rw)} {p : Int × Rw}, (m.Pairwise fun x y => x.1 < y.1) → p ∈ m → valV (m.map fun p => ((Sum.inl p.1 : Key), f p.2)) (Sum.inl p.1) = some (f p.2)
  | [], p, _, h => nomatch h
  | q :: m, p, .cons h1 h2, there => by
    rcases List.mem_cons.mp there with rfl | h
    · exact valV_pos rfl
    · rw [List.map_cons, valV_neg (fun z => by
        have := h1 p h
        have : q.1 = p.1 := Sum.inl.inj z
        omega)]
      exact valV_of h2 h
theorem lwV_last {f : Rw → V} {rs : List Rw} (h : Srt rs) {n : Int} {r : Rw} (hl : IsLast rs n r) : valV (lwV f rs n) (Sum.inl r.1 : Key) = some (f r) := by
  rw [lwV_eq]
  exact valV_of (p := (r.1, r)) (lwR_is rs h).1 (((lwR_is rs h).2 _).mpr ⟨rfl, hl⟩)
/-- the values of a list of unlike rows, as a function -/
theorem val_fun : ∀ (rs : List Rw) (xs : List V), rs.Nodup → ∃ f : Rw → V, ∀ (i : Nat) (r : Rw) (v : V), rs[i]? = some r → xs[i]? = some v → f r = v
  | [], xs, _ => ⟨fun _ => .non, fun i r v h => by simp at h⟩
  | r0 :: rs, [], _ => ⟨fun _ => .non, fun i r v _ h => by simp at h⟩
  | r0 :: rs, x :: xs, nd => by
    have n1 := (List.nodup_cons.mp nd).1
    obtain ⟨f, hf⟩ := val_fun rs xs (List.nodup_cons.mp nd).2
    refine ⟨fun r => if r = r0 then x else f r, fun i r v h1 h2 => ?_⟩
    cases i with
    | zero =>
      simp only [List.getElem?_cons_zero, Option.some.injEq] at h1 h2
      show (if r = r0 then x else f r) = v
      rw [if_pos h1.symm, h2]
    | succ i =>
      rw [List.getElem?_cons_succ] at h1 h2
      have ne : ¬ r = r0 := fun z => n1 (z ▸ List.mem_of_getElem? h1)
      show (if r = r0 then x else f r) = v
      rw [if_neg ne]
      exact hf i r v h1 h2
end Tg

namespace Tg
open PySem PySem.Spec PyProof.Rows L2
/-! ### rows and points as data -/
def dw : Option Int → PyData
  | none => .none
  | some i => .int i
def vw : Option Int → V
  | none => .non
  | some i => .int i
theorem dp_vw {K : PySem.W.Frag} {H : Hp} : ∀ o : Option Int, Dp K H (vw o) (dw o)
  | none => .non
  | some i => .int i
theorem dp_dw {K : PySem.W.Frag} {H : Hp} {v : V} : ∀ {o : Option Int}, Dp K H v (dw o) → v = vw o
  | none, h => by
    cases h
    rfl
  | some i, h => by
    cases h
    rfl
theorem vw_non (o : Option Int) : decide (vw o = .non) = o.isNone := by
  cases o with
  | none => rfl
  | some i => rfl
theorem td_dw : ∀ o : Option Int, TD (dw o)
  | none => .non
  | some i => .int i
theorem eq_dw (a b : Option Int) : PyData.eqv (dw a) (dw b) = decide (a = b) := by
  cases a with
  | none =>
    cases b with
    | none => rfl
    | some j => rfl
  | some i =>
    cases b with
    | none => rfl
    | some j =>
      show (i == j) = _
      by_cases c : i = j
      · rw [c, beq_self_eq_true, decide_eq_true rfl]
      · rw [beq_eq_false_iff_ne.mpr c, decide_eq_false fun z => c (Option.some.inj z)]
def rd (r : Rw) : PyData := .tuple [.int r.1, .int r.2.1, dw r.2.2]
def pd (x : Int × Int) : PyData := .tuple [.int x.1, .int x.2]
theorem td_rd (r : Rw) : TD (rd r) := .tup fun d hd => by
  simp only [List.mem_cons, List.not_mem_nil, or_false] at hd
  rcases hd with rfl | rfl | rfl
  · exact .int _
  · exact .int _
  · exact td_dw _
theorem td_rds (rs : List Rw) : ∀ d, d ∈ rs.map rd → TD d := fun d hd => by
  obtain ⟨x, _, rfl⟩ := List.mem_map.mp hd
  exact td_rd x
theorem td_pd (x : Int × Int) : TD (pd x) := .tup fun d hd => by
  simp only [List.mem_cons, List.not_mem_nil, or_false] at hd
  rcases hd with rfl | rfl
  · exact .int _
  · exact .int _
theorem td_pds (ps : List (Int × Int)) : ∀ d, d ∈ ps.map pd → TD d := fun d hd => by
  obtain ⟨x, _, rfl⟩ := List.mem_map.mp hd
  exact td_pd x
theorem dp_rd {K : PySem.W.Frag} {H : Hp} {v : V} {r : Rw} (h : Dp K H v (rd r)) : ∃ a, v = .ref a ∧ SqT K H a [.int r.1, .int r.2.1, vw r.2.2] := by
  cases h with
  | tup a b =>
    cases b with
    | cons h1 b =>
      cases b with
      | cons h2 b =>
        cases b with
        | cons h3 b =>
          cases b
          cases h1
          cases h2
          rw [dp_dw h3] at a
          exact ⟨_, rfl, a⟩
theorem rd_new {K : PySem.W.Frag} {H : Hp} {a : Addr} {r : Rw} (h : SqT K H a [.int r.1, .int r.2.1, vw r.2.2]) : Dp K H (.ref a) (rd r) := .tup h (.cons (.int _) (.cons (.int _) (.cons (dp_vw _) .nil)))
theorem pd_new {K : PySem.W.Frag} {H : Hp} {a : Addr} {x : Int × Int} (h : H a = some (.tup [.int x.1, .int x.2])) : Dp K H (.ref a) (pd x) := .tup (SqT.of h) (.cons (.int _) (.cons (.int _) .nil))
theorem lay_dw : ∀ o : Option Int, (dw o).canLay0 = true
  | none => rfl
  | some i => rfl
theorem dep_dw : ∀ o : Option Int, (dw o).depth = 0
  | none => rfl
  | some i => rfl
theorem lay_rd (r : Rw) : (rd r).canLay0 = true := by
  show (true && (true && ((dw r.2.2).canLay0 && true))) = true
  rw [lay_dw]
  rfl
theorem dep_rd (r : Rw) : (rd r).depth = 1 := by
  show max 0 (max 0 (max (dw r.2.2).depth 0)) + 1 = 1
  rw [dep_dw]
  rfl
theorem eq_rd (a b : Rw) : PyData.eqv (rd a) (rd b) = decide (a = b) := by
  show ((a.1 == b.1) && ((a.2.1 == b.2.1) && (PyData.eqv (dw a.2.2) (dw b.2.2) && true))) = _
  rw [eq_dw]
  by_cases c : a = b
  · subst c
    rw [beq_self_eq_true, beq_self_eq_true, decide_eq_true rfl, decide_eq_true rfl]
    rfl
  · rw [decide_eq_false c]
    by_cases c1 : a.1 = b.1
    · by_cases c2 : a.2.1 = b.2.1
      · by_cases c3 : a.2.2 = b.2.2
        · exact absurd (Prod.ext c1 (Prod.ext c2 c3)) c
        · rw [decide_eq_false c3]
          simp
      · rw [beq_eq_false_iff_ne.mpr c2]
        simp
    · rw [beq_eq_false_iff_ne.mpr c1]
      rfl
/-- lists of things of such a form -/
theorem form_all {α : Type} {f : α → PyData} (h1 : ∀ x, (f x).canLay0 = true) (h2 : ∀ x, (f x).depth ≤ 1) (h3 : ∀ x, PyData.eqv (f x) (f x) = true) (xs : List α) :
    PyData.canLayAll0 (xs.map f) = true ∧ PyData.depthAll (xs.map f) ≤ 1 ∧ PyData.eqvAll (xs.map f) (xs.map f) = true := by
  induction xs with
  | nil => exact ⟨rfl, Nat.zero_le _, rfl⟩
  | cons x r ih =>
    obtain ⟨i1, i2, i3⟩ := ih
    refine ⟨?_, ?_, ?_⟩
    · show ((f x).canLay0 && PyData.canLayAll0 (r.map f)) = true
      rw [h1, i1]
      rfl
    · show max (f x).depth (PyData.depthAll (r.map f)) ≤ 1
      have := h2 x
      omega
    · show (PyData.eqv (f x) (f x) && PyData.eqvAll (r.map f) (r.map f)) = true
      rw [h3, i3]
      rfl
theorem form_list {α : Type} {f : α → PyData} (h1 : ∀ x, (f x).canLay0 = true) (h2 : ∀ x, (f x).depth ≤ 1) (h3 : ∀ x, PyData.eqv (f x) (f x) = true) (xs : List α) : SeqAt.shaped (.list (xs.map f)) = true ∧ PyData.eqv (.list (xs.map f)) (.list (xs.map f)) = true := by
  obtain ⟨a, b, c⟩ := form_all h1 h2 h3 xs
  refine ⟨shaped_of a ?_, c⟩
  show PyData.depthAll (xs.map f) + 1 ≤ 64
  omega
theorem ref_rd (r : Rw) : PyData.eqv (rd r) (rd r) = true := by
  rw [eq_rd]
  exact decide_eq_true rfl
theorem rds_form (rs : List Rw) : SeqAt.shaped (.list (rs.map rd)) = true ∧ PyData.eqv (.list (rs.map rd)) (.list (rs.map rd)) = true := form_list lay_rd (fun r => Nat.le_of_eq (dep_rd r)) ref_rd rs
theorem ref_pd (x : Int × Int) : PyData.eqv (pd x) (pd x) = true := by
  show ((x.1 == x.1) && ((x.2 == x.2) && true)) = true
  rw [beq_self_eq_true, beq_self_eq_true]
  rfl
theorem pds_form (ps : List (Int × Int)) : SeqAt.shaped (.list (ps.map pd)) = true ∧ PyData.eqv (.list (ps.map pd)) (.list (ps.map pd)) = true := form_list (f := pd) (fun _ => rfl) (fun _ => Nat.le_refl 1) ref_pd ps
theorem sh_rd (r : Rw) : SeqAt.shaped (rd r) = true := shaped_of (lay_rd r) (by rw [dep_rd]; decide)
theorem dl_at {α : Type} {f : α → PyData} {K : PySem.W.Frag} {H : Hp} {xs : List V} {ps : List α} (h : DpAll K H xs (ps.map f)) {i : Nat} {v : V} (e : xs[i]? = some v) : ∃ x, ps[i]? = some x ∧ Dp K H v (f x) := by
  obtain ⟨d, h1, h2⟩ := dpAll_at h i v e
  rw [List.getElem?_map] at h1
  obtain ⟨x, h3, rfl⟩ := Option.map_eq_some_iff.mp h1
  exact ⟨x, h3, h2⟩
theorem dl_get {α : Type} {f : α → PyData} {K : PySem.W.Frag} {H : Hp} {xs : List V} {ps : List α} (h : DpAll K H xs (ps.map f)) {i : Nat} {x : α} (e : ps[i]? = some x) : ∃ v, xs[i]? = some v ∧ Dp K H v (f x) := dpAll_tk h i (f x) (by rw [List.getElem?_map, e]; rfl)
theorem dl_len {α : Type} {f : α → PyData} {K : PySem.W.Frag} {H : Hp} {xs : List V} {ps : List α} (h : DpAll K H xs (ps.map f)) : xs.length = ps.length := by
  have := dpAll_len h
  rw [List.length_map] at this
  exact this
theorem nodup_len {α : Type} [DecidableEq α] : ∀ {rs L : List α}, rs.Nodup → (∀ r, r ∈ rs → r ∈ L) → rs.length ≤ L.length
  | [], L, _, _ => Nat.zero_le _
  | r :: rs, L, nd, h => by
    have n1 := (List.nodup_cons.mp nd).1
    have n2 := (List.nodup_cons.mp nd).2
    have hr : r ∈ L := h r List.mem_cons_self
    have i := nodup_len (rs := rs) (L := L.erase r) n2 fun q hq => (List.mem_erase_of_ne (fun z : q = r => n1 (by rw [← z]; exact hq))).mpr (h q (List.mem_cons_of_mem _ hq))
    rw [List.length_erase_of_mem hr] at i
    have := List.length_pos_of_mem hr
    show rs.length + 1 ≤ L.length
    omega
theorem take_snoc {α : Type} {L : List α} {i : Nat} {x : α} (h : L[i]? = some x) : L.take (i + 1) = L.take i ++ [x] := by
  rw [List.take_add_one, h]
  rfl
end Tg

namespace Tg
open PySem PySem.Spec PyProof.Rows L2
/-! ### a new thing that is only read from now on -/
section
variable {X : Cx} {e : Expr} {t : TE}
def tFrz (t : TE) : TE := fun σ H Q => t σ H fun x H1 => ∃ d u, x = .ref d ∧ H1 d = some u ∧ Mut (some u) ∧ ∀ od, Q x (upd H1 d (.frz od u))
theorem pe_frz (h : PE X e t) : PE X e (tFrz t) := by
  constructor
  intro pins s σ H Q I read
  refine thn (h.run pins s σ H _ I read) fun v s1 y => ?_
  obtain ⟨x, H1, J, r, d, u, ex, hd, mu, q⟩ := y
  obtain ⟨od, J2⟩ := J.lock hd mu
  exact ⟨x, _, J2, r, q od⟩
/-- a statement that is never reached -/
theorem ps_dead {st : Stmt} : PS X st (fun _ _ _ => False) := ⟨fun _ _ _ _ _ _ h => h.elim⟩
end
end Tg

set_option maxHeartbeats 1000000
namespace Tg
open PySem PySem.Spec PyProof.Rows L2
/-! ### {(a, b): v for .. in ..}: a new dict whose keys are tuples -/
section
variable {X : Cx}
/-- one more key -/
theorem put_tup {pins : List (Addr × Obj)} {σ : L2.St} {H : Hp} {s : Shared} {E : Value → Shared → Prop} {D b : Addr} {kvs : List (List Key × V)} {k : List Key} {v : V} {r : Value} {Q : Unit → Shared → Prop} (room : X.A.units + 1 < cLine) (I : Inv X pins σ H s)
    (at_D : H D = some (.dT kvs)) (few : kvs.length < sizeLine) (at_b : H b = some (.tup (k.map kV))) (rel_v : RelV v r) (go : ∀ s', Inv X pins σ (upd H D (.dT (putK kvs k v))) s' → Q () s') : wpAny (model X.prog X.w) X.A (dictSet D (.ref b) r) Q E s := by
  obtain ⟨z, low, xs, rel, dd⟩ := dt_of I.hok at_D
  have many : (putK kvs k v).length ≤ sizeLine := Nat.le_trans (length_putK kvs k v) few
  have some_room : (tupleKind (mixKind X.prog X.w)).room X.A := by
    show X.A.units < cLine
    omega
  refine wpAny_dictSet_heap some_room (key_of I.hok at_b) dd (fun h1 dd1 same => go _ ?_) (by rw [← Paired.length rel]; exact z)
  obtain ⟨ob, es, ep, g1, g2, g3, g4, _, g5⟩ := dd1
  refine d_write I (by rw [at_D]; exact True.intro) same ⟨ob, g1⟩ ⟨many, low, _, (rel.put k at_b rel_v).keeps fun c ys at_c => ?_, ob, es, ep, g1, g2, g3, g4, g5⟩
  rw [upd_ne (ne_of at_c at_D (fun z => nomatch z))]
  exact at_c
/-- what one turn has to lead to: Nx of the heap behind it -/
def TurnT (g : TG) (tt : TT) (tk tv : TE) (vs : List Nat) (σ : L2.St) (D : Addr) (Nx : Hp → Prop) (x : V) (Hx : Hp) : Prop :=
  g x (wipe σ vs) Hx fun σ2 H2 => wipe σ2 vs = wipe σ vs ∧ tt σ2 H2 fun b H3 => if b = true then tk σ2 H3 fun y H4 => tv σ2 H4 fun z H5 =>
    ∃ kvs k c, y = .ref c ∧ H5 c = some (.tup (k.map kV)) ∧ H5 D = some (.dT kvs) ∧ kvs.length < sizeLine ∧ Nx (upd H5 D (.dT (putK kvs k z))) else Nx H3
/-- the turns, by a measure that falls -/
def TurnsT (J : It) (g : TG) (tt : TT) (tk tv : TE) (vs : List Nat) (σ : L2.St) (D : Addr) (H0 : Hp) (Qd : Hp → Prop) : Prop := ∃ W : Nat → Nat → Hp → Prop, (∃ m, W 0 m (upd H0 D (.dT []))) ∧
  ∀ i m Hi, W i m Hi → (J.stop i Hi ∧ Qd Hi) ∨ (J.go i Hi ∧ ∃ Nx : Hp → Prop, (∀ Hn, Nx Hn → ∃ fewer, fewer < m ∧ W (i + 1) fewer Hn) ∧ ∀ x Hx, J.yld i Hi x Hx → TurnT g tt tk tv vs σ D Nx x Hx)
def tDcT (wi : TI) (g : TG) (tt : TT) (tk tv : TE) (vs : List Nat) : TE := fun σ H Q => wi σ H fun J H1 => ∀ D, H1 D = none → TurnsT J g tt tk tv vs σ D H1 fun Hn => Q (.ref D) Hn
theorem pe_dcT {kx vx tg iter : Expr} {ifs : List Expr} {scope : Scope} {own : List (Str × Nat)} {pos : Pos} {wi : TI} {g : TG} {tt : TT} {tk tv : TE} (calm : X.calm = true) (names : X.N.Nodup) (room : X.A.units + 1 < cLine) (over : PI X tg iter wi) (blk : BlkOk X.N X.env.scope scope own)
    (goal : ∀ (s : Shared) (H : Hp) (C : Addr) (cl : List (Str × Addr)) (fp : List Addr), PG (X.blk s H scope (compEnvC scope cl C X.env) fp) tg g) (tests : ∀ (s : Shared) (H : Hp) (C : Addr) (cl : List (Str × Addr)) (fp : List Addr), PTs (X.blk s H scope (compEnvC scope cl C X.env) fp) ifs tt)
    (key : ∀ (s : Shared) (H : Hp) (C : Addr) (cl : List (Str × Addr)) (fp : List Addr), PE (X.blk s H scope (compEnvC scope cl C X.env) fp) kx tk)
    (val : ∀ (s : Shared) (H : Hp) (C : Addr) (cl : List (Str × Addr)) (fp : List Addr), PE (X.blk s H scope (compEnvC scope cl C X.env) fp) vx tv) (noset : ∀ x, foldedSetIterable iter X.env x = pure x := by intro _; rfl) :
    PE X (.DictComp kx vx [⟨tg, iter, ifs, 0⟩] scope pos) (tDcT wi g tt tk tv (own.map (·.2))) := by
  constructor
  intro pins s σ H Q I read
  rw [arm_eval_DictComp]
  have caught : ∀ y ∈ scope.names, y.2 = .free → ∃ c, X.env.cells.lookup y.1 = some c := fun y at_y is_free => (blk.free y at_y is_free).elim (fun z => I.ok.has _ (.inl z)) (fun z => I.ok.has _ (.inr z))
  refine wpAny_comprehension_free (use := none) rfl noset (closure_ok caught) blk.kind (fun y at_y e => by rw [blk.uniq y at_y, e]) (thn (over.run pins s σ H _ I read) fun _ s1 come => thn come fun _ s2 walked => ?_)
  obtain ⟨it, fp, tn, J, H1, rfl, I1, T, at0, free1, turns⟩ := walked
  refine wpAny_newObj_type ?dict
  refine newEnv_comp ?_
  -- the new dict, at D
  obtain ⟨D, eD⟩ : ∃ D, s2.heap.objs.size = D := ⟨_, rfl⟩
  rw [eD]
  have newD : H1 D = none := I1.hok.fresh (Nat.le_of_eq eD)
  obtain ⟨W, ⟨m0, begun⟩, turn⟩ := turns D newD
  obtain ⟨H2, eH2⟩ : ∃ H2, upd H1 D (.dT []) = H2 := ⟨_, rfl⟩
  obtain ⟨s3, e3⟩ : ∃ s3 : Shared, { s2 with heap := s2.heap.push { cls := .type "dict", data := .dict #[] } } = s3 := ⟨_, rfl⟩
  have heap3 : s3.heap = s2.heap.push { cls := .type "dict", data := .dict #[] } := by rw [← e3]
  have I2 : Inv X pins σ H2 s3 := by
    rw [← e3, ← eH2]
    exact I1.laid (t' := s2.toks) (fun b o e => Heap.get?_push_of_some _ e) (Nat.le_of_eq eD) (by rw [← eD]; exact dt_empty s2.heap I1.big)
  have below : ∀ b, b ∈ fp → b < s2.heap.objs.size := fun b m => (T.obj _ _ at0 b m).elim fun o z => Heap.lt_size z.1
  have free2 : ∀ b ∈ fp, FpOk X pins H2 b ∧ b < s3.heap.objs.size := fun b m => by
    have lt := below b m
    have ne : b ≠ D := by
      rw [← eD]
      exact Nat.ne_of_lt lt
    obtain ⟨f0, f1⟩ := free1 b m
    refine ⟨⟨?_, f1⟩, ?_⟩
    · rw [← eH2, upd_ne ne]
      exact f0
    · rw [heap3, Heap.size_push]
      exact Nat.lt_succ_of_lt lt
  have at0' : tn 0 s3.heap := T.keep _ _ _ at0 fun b _ o e => by
    rw [heap3]
    exact Heap.get?_push_of_some (h := s2.heap) _ e
  have I3 := block_start I2 blk names free2
  have pg := goal s3 H2 s3.heap.objs.size (cellsFrom (s3.heap.objs.size + 1) scope.names (cloFrom X.env.cells scope.names [])) fp
  have pt := tests s3 H2 s3.heap.objs.size (cellsFrom (s3.heap.objs.size + 1) scope.names (cloFrom X.env.cells scope.names [])) fp
  have pk := key s3 H2 s3.heap.objs.size (cellsFrom (s3.heap.objs.size + 1) scope.names (cloFrom X.env.cells scope.names [])) fp
  have pe := val s3 H2 s3.heap.objs.size (cellsFrom (s3.heap.objs.size + 1) scope.names (cloFrom X.env.cells scope.names [])) fp
  rw [eH2] at begun
  show codeAny _ _ (.compStart (.DictComp kx vx [⟨tg, iter, ifs, 0⟩] scope pos) 0 (.ref it) (.ref D) (compEnvC scope (cellsFrom ({ s2 with heap := s2.heap.push { cls := .type "dict", data := .dict #[] } } : Shared).heap.objs.size.succ scope.names (cloFrom X.env.cells scope.names [])) ({ s2 with heap := s2.heap.push { cls := .type "dict", data := .dict #[] } } : Shared).heap.objs.size X.env)) _ { ({ s2 with heap := s2.heap.push { cls := .type "dict", data := .dict #[] } } : Shared) with heap := pushCells (({ s2 with heap := s2.heap.push { cls := .type "dict", data := .dict #[] } } : Shared).heap.push { cls := .type "dict", data := .dict #[] }) scope.names }
  rw [e3]
  obtain ⟨ce, ece⟩ : ∃ ce, compEnvC scope (cellsFrom (s3.heap.objs.size + 1) scope.names (cloFrom X.env.cells scope.names [])) s3.heap.objs.size X.env = ce := ⟨_, rfl⟩
  have own_loc : ce.locals = s3.heap.objs.size := by
    rw [← ece]
    rfl
  rw [ece] at I3 pg pt pk pe
  show codeAny _ _ (.compStart (.DictComp kx vx [⟨tg, iter, ifs, 0⟩] scope pos) 0 (.ref it) (.ref D) (compEnvC scope (cellsFrom (s3.heap.objs.size + 1) scope.names (cloFrom X.env.cells scope.names [])) s3.heap.objs.size X.env)) _ _
  rw [ece]
  obtain ⟨s4, e4⟩ : ∃ s4 : Shared, { s3 with heap := pushCells (s3.heap.push { cls := .type "dict", data := .dict #[] }) scope.names } = s4 := ⟨_, rfl⟩
  rw [e4] at I3
  rw [e4]
  have at4 : tn 0 s4.heap := T.keep _ _ _ at0' fun b _ o e => by
    rw [← e4]
    exact pushCells_keeps _ _ _ _ (Heap.get?_push_of_some _ e)
  have none2 : ∀ b ∈ fp, H2 b = none := fun b m => (free2 b m).1.1
  have held : ∀ {σ' : L2.St} {H' : Hp} {s' : Shared}, Inv (X.blk s3 H2 scope ce fp) [] σ' H' s' → (∀ b ∈ fp, H' b = none) → ∀ b ∈ fp, FpOk (X.blk s3 H2 scope ce fp) [] H' b := fun I' no b m =>
    ⟨no b m, (I'.ok.exf b m).1, I'.ok.exfs b m, .inl m, fun x c e => (I'.ok.exf b m).2 x c e, fun p mp => absurd (show p ∈ ([] : List (Addr × Obj)) ++ [] from mp) List.not_mem_nil⟩
  suffices loop : codeAny (model X.prog X.w) X.A (.compLoop (.DictComp kx vx [⟨tg, iter, ifs, 0⟩] scope pos) 0 (.ref it) (.ref D) ce) (compPost (model X.prog X.w) X.A X.xe none (EP X pins σ Q) (.ref D) s3.heap.objs.size) s4 from codeAny_compStart_dict loop (T.self X.A 0 _ _ _ at4 loop)
  refine compLoop_anyD (fun n s' => ∃ i H', Inv (X.blk s3 H2 scope ce fp) [] (wipe σ (own.map (·.2))) H' s' ∧ tn i s'.heap ∧ (∀ b ∈ fp, H' b = none) ∧ W i n H') ?_ m0 ⟨0, H2, I3, at4, none2, begun⟩
  rintro n s5 ⟨i, H5, I5, at5, none5, w5⟩
  rcases turn i n H5 w5 with ⟨ends, told⟩ | ⟨goes, Nx, next, body⟩
  · -- no item is left
    refine thnF (T.done (X.blk s3 H2 scope ce fp) rfl rfl rfl calm i [] s5 _ H5 (fun _ _ => False) I5 (held I5 none5) at5 ends) fun r s6 come => ?_
    obtain ⟨rfl, I6⟩ := come
    have home : Inv X pins σ H5 s6 := I2.call' (ch := fp) I6.os I6.base I6.hok I6.bare fun b m => by
      obtain ⟨_, f1, _, f3, f4, f5⟩ := (free2 b m).1
      exact ⟨f3, f1, f4, f5⟩
    have noC : H5 s3.heap.objs.size = none := by
      rw [← own_loc]
      exact I6.free
    obtain ⟨mm, ns, _⟩ := I6.loc
    have ns' : s6.heap.Ns s3.heap.objs.size mm := by
      rw [← own_loc]
      exact ns
    obtain ⟨c0, c1, c2, c3, c4, c5⟩ := I2.fpOk (Nat.le_refl s3.heap.objs.size) noC
    exact ⟨mm, ns', fun h6 sb => ⟨.ref D, H5, home.turned (t' := s6.toks) (fun b o hb e => (sb.2 b hb).trans e) c0 c1 c3 c4 c5, rfl, told⟩⟩
  · -- a next item
    refine thnF (T.item (X.blk s3 H2 scope ce fp) rfl rfl rfl calm i [] s5 _ H5 (fun _ _ => False) I5 (held I5 none5) at5 goes) fun r s6 come => ?_
    obtain ⟨u, rfl, come⟩ := come
    refine thnF come fun _ s7 come => ?_
    obtain ⟨x, H7, I7, rel7, yld7, at7, none7⟩ := come
    have P7 := I7.pinned (held I7 none7) (T.obj _ _ at7)
    refine thnF (pg.run _ s7 _ H7 x u _ P7 rel7 (body x H7 yld7)) fun _ s8 come => ?_
    obtain ⟨σ8, H8, I8, kept8, q8⟩ := come
    refine thnF (pt.run _ s8 σ8 H8 _ I8 q8) fun b s9 come => ?_
    obtain ⟨H9, I9, q9⟩ := come
    have again : ∀ {s' : Shared} {H' : Hp}, Inv (X.blk s3 H2 scope ce fp) ([] ++ pinsAt fp s7.heap) σ8 H' s' → Nx H' → ∃ m, m < n ∧ ∃ i H', Inv (X.blk s3 H2 scope ce fp) [] (wipe σ (own.map (·.2))) H' s' ∧ tn i s'.heap ∧ (∀ b ∈ fp, H' b = none) ∧ W i m H' := fun {s' H'} I' nx => by
      obtain ⟨m', lt, w'⟩ := next H' nx
      have stays : ∀ c ∈ fp, ∀ o, s7.heap.get? c = some o → s'.heap.get? c = some o ∧ H' c = none := fun c mc o e => by
        obtain ⟨y1, y2, _⟩ := I'.pin (c, o) (List.mem_append_right _ (List.mem_append_right _ (mem_pinsAt mc e)))
        exact ⟨y1, y2⟩
      refine ⟨m', lt, i + 1, H', (I'.unpinned (pins := [])).weak ?_ (fun j v e => ?_), T.keep _ _ _ at7 fun c mc o e => (stays c mc o e).1, fun c mc => ?_, w'⟩
      · rw [← kept8, wipe_length]
      · rw [← kept8] at e
        exact (wipe_some e).1
      · obtain ⟨o, e, _⟩ := T.obj _ _ at7 c mc
        exact (stays c mc o e).2
    cases b with
    | false => exact again I9 q9
    | true =>
      refine thnF (pk.run _ s9 σ8 H9 _ I9 q9) fun uk s10 come => ?_
      obtain ⟨yk, H10, I10, rel10, q10⟩ := come
      refine thnF (pe.run _ s10 σ8 H10 _ I10 q10) fun uv s11 come => ?_
      obtain ⟨yv, H11, I11, rel11, kvs, k, c, rfl, at_c, at_D, few, nx⟩ := come
      cases (show uk = Value.ref c from rel10)
      exact put_tup (X := X.blk s3 H2 scope ce fp) room I11 at_D few at_c rel11 fun s12 I12 => again I12 nx
end
/-- over whatever walks -/
theorem dcT_it {J : It} {n : Nat} {G : Hp → Prop} {Y : Nat → Hp → V → Hp → Prop} (w : Walk J n G Y) {g : TG} {tt : TT} {tk tv : TE} {vs : List Nat} {σ : L2.St} {H1 : Hp} {D : Addr} {Qd : Hp → Prop} (Pv : Nat → Hp → Prop) (first : Pv 0 (upd H1 D (.dT []))) (stays : ∀ i Hi, i ≤ n → Pv i Hi → G Hi)
    (step : ∀ i x Hi Hx, i < n → Pv i Hi → Y i Hi x Hx → TurnT g tt tk tv vs σ D (Pv (i + 1)) x Hx) (last : ∀ Hn, Pv n Hn → Qd Hn) : TurnsT J g tt tk tv vs σ D H1 Qd := by
  refine ⟨fun i m H => i + m = n ∧ Pv i H, ⟨n, Nat.zero_add n, first⟩, ?_⟩
  rintro i m H ⟨sum, here⟩
  have stands := stays i H (by omega) here
  cases m with
  | zero =>
    have e : i = n := by omega
    subst e
    exact .inl ⟨w.stops H stands, last H here⟩
  | succ m =>
    have lt : i < n := by omega
    exact .inr ⟨w.goes i H lt stands, Pv (i + 1), fun H' there => ⟨m, Nat.lt_succ_self m, by omega, there⟩, fun x H' y => step i x H H' lt here (w.yields i H x H' lt stands y)⟩
end Tg

set_option maxHeartbeats 1000000
namespace Tg
open PySem PySem.Spec PyProof.Rows L2
/-! ### sorted(d), the keys of d pairs of ints -/
/-- the two ints of a tuple in the heap -/
def two (H : Hp) (b : Addr) : Int × Int := match H b with
  | some (.tup [.int x, .int y]) => (x, y)
  | _ => (0, 0)
theorem two_of {H : Hp} {b : Addr} {x y : Int} (h : H b = some (.tup [.int x, .int y])) : two H b = (x, y) := by
  unfold two
  rw [h]
def vAddr : Value → Addr
  | .ref b => b
  | _ => 0
def rSortDT : List V → Hp → VK → Prop := fun vs H Q => ∃ (d : Addr) (kvs : List (List Key × V)), vs = [.ref d] ∧ H d = some (.dT kvs) ∧ (∀ e, e ∈ kvs → ∃ x y : Int, e.1 = [Sum.inl x, Sum.inl y]) ∧
  ∀ (bs ys : List Addr) (p : Addr), IsKeys H kvs bs → ys.Perm bs → ys.Pairwise (fun a b => ¬ ((two H b).1 < (two H a).1 ∨ ((two H b).1 = (two H a).1 ∧ (two H b).2 < (two H a).2))) → H p = none → Q (.ref p) (upd H p (.lst (ys.map V.ref)))
theorem keys_two {H : Hp} : ∀ {kvs : List (List Key × V)} {bs : List Addr}, IsKeys H kvs bs → (∀ e, e ∈ kvs → ∃ x y : Int, e.1 = [Sum.inl x, Sum.inl y]) → ∀ b, b ∈ bs → ∃ x y : Int, H b = some (.tup [.int x, .int y])
  | _, _, .nil, _, b, hb => nomatch hb
  | _, _, .cons h r, all, b, hb => by
    rcases List.mem_cons.mp hb with here | there
    · obtain ⟨x, y, e⟩ := all _ List.mem_cons_self
      rw [e] at h
      rw [here]
      exact ⟨x, y, h⟩
    · exact keys_two r (fun e he => all e (List.mem_cons_of_mem _ he)) b there
section
variable {X : Cx}
theorem cr_sortDT (calm : X.calm = true) : CallR X (.builtin "sorted") rSortDT := by
  rintro pins s σ H _ us Q I rel ⟨d, kvs, rfl, hd, pairs, q⟩
  rw [Vals.ref1 rel]
  obtain ⟨small, low, ks, pr, o, es, ep, at_d, exact_, data, entries, _⟩ := (show ObjOk X.prog X.w H s.heap d (.dT kvs) from I.hok d _ hd)
  have m1 : es.size = ks.length := size_of_entries entries
  have m2 : kvs.length = ks.length := Paired.length pr
  have isk : IsKeys H kvs (ks.map fun x => x.2.1) := isKeys_of pr
  apply Calls.call_function_entry kind_sorted plain_sorted entry_sorted (args_sorted1 _)
  unfold Builtin.«sorted»
  refine wpAny_bind (m := checkCount "sorted" 1 1 _) (wpAny_pure (wpAny_bind (PySem.W.kdu_collect (kdl_raw low exact_ data) (I.ok.hd calm) at_d (by omega) fun h' tk acc kp items => ?_)))
  -- what was collected: the keys, in order
  have got : acc.toList = (ks.map fun x => x.2.1).map Value.ref := by
    apply List.ext_getElem?; intro j
    have len : acc.toList.length = ks.length := by rw [Array.length_toList, items.1, m1]
    simp only [List.getElem?_map]
    by_cases c : j < ks.length
    · have hv : acc.toList[j]? = some (acc.toList[j]'(by omega)) := List.getElem?_eq_getElem _
      obtain ⟨en, at_j, is⟩ := items.2 j _ (by rw [← Array.getElem?_toList]; exact hv)
      have z := entry_at entries j
      rw [at_j, List.getElem?_eq_getElem c] at z
      rw [hv, is, Option.some.inj z, List.getElem?_eq_getElem c]
      rfl
    · rw [List.getElem?_eq_none (by omega), List.getElem?_eq_none (show ks.length ≤ j by omega)]
      rfl
  have I1 : Inv X pins σ H { s with heap := h', toks := tk } := I.kept kp
  have few : acc.toList.length ≤ sizeLine := by
    rw [got, List.length_map, List.length_map]
    omega
  refine wpAny_bind (wpAny_newList ?_ few)
  have new : (h'.push (seqObj "list" acc.toList.toArray 0)).get? h'.objs.size = some (seqObj "list" acc.toList.toArray 0) := Heap.get?_push_size _ rfl
  have isp : ∀ v, v ∈ acc.toList → Srt.IsPair (h'.push (seqObj "list" acc.toList.toArray 0)) v (two H (vAddr v)).1 (two H (vAddr v)).2 := fun v hv => by
    rw [got] at hv
    obtain ⟨b, hb, rfl⟩ := List.mem_map.mp hv
    obtain ⟨x, y, hxy⟩ := keys_two isk pairs b hb
    obtain ⟨_, its, r2, ob, ho, hc, n, hdt⟩ := (show ObjOk X.prog X.w H h' b (.tup [.int x, .int y]) from I1.hok b _ hxy)
    obtain ⟨u1, u2, rfl, ⟨t1, rfl⟩, ⟨t2, rfl⟩⟩ := vals2 r2
    have e : two H (vAddr (.ref b)) = (x, y) := two_of hxy
    rw [e]
    exact ⟨b, ob, t1, t2, n, rfl, Heap.get?_push_of_some _ ho, hc, hdt⟩
  show wpAny _ _ _ _ _ { s with toks := tk, heap := h'.push (seqObj "list" acc.toList.toArray 0) }
  refine wpAny_bind (wpAny_holding (wpAny_call_entry slot_list_sort ⟨_, new, rfl⟩ entry_list_sort (SrtO.list_sort_ord (s := { s with heap := h'.push (seqObj "list" acc.toList.toArray 0), toks := tk }) (SrtO.swo_lex fun v => two H (vAddr v)) new few (fun h2 => SrtO.pairs_sortableO (s := { s with heap := h'.push (seqObj "list" acc.toList.toArray 0), toks := tk }) (by omega) isp fun ob eb => ?_) fun out srt stb => ⟨_, rfl, ?_⟩) (args_list_sort _)))
  · have z : some ob = some (seqObj "list" acc.toList.toArray 0) := eb.symm.trans new
    cases z
    exact fun c => absurd (Value.type.inj c) (by decide)
  · obtain ⟨n, at_new⟩ := sortedHeap_at (vs := acc.toList) (out := out.toArray) new
    have refs : ∀ v, v ∈ out → v = Value.ref (vAddr v) := fun v hv => by
      have m := stb.perm.mem_iff.mp hv
      rw [got] at m
      obtain ⟨b, _, rfl⟩ := List.mem_map.mp m
      rfl
    have eo : out = (out.map vAddr).map Value.ref := by
      rw [List.map_map]
      conv => lhs; rw [← List.map_id out]
      exact List.map_congr_left refs
    have perm : (out.map vAddr).Perm (ks.map fun x => x.2.1) := by
      have z := stb.perm.map vAddr
      rw [got, List.map_map, List.map_map] at z
      rw [List.map_map] at *
      exact z
    have order : (out.map vAddr).Pairwise (fun a b => ¬ ((two H b).1 < (two H a).1 ∨ ((two H b).1 = (two H a).1 ∧ (two H b).2 < (two H a).2))) := by
      rw [List.pairwise_map]
      exact srt.imp fun z => SrtO.lexB_no.mp z
    have rv : Vals ((out.map vAddr).map V.ref) out := by
      conv => rhs; rw [eo]
      exact vals_refs _
    refine wpAny_pure ⟨_, rfl, .ref h'.objs.size, _, I1.laid (t' := tk) (fun b ob eb => ?_) (Nat.le_refl _) (show ObjOk X.prog X.w _ _ _ (.lst ((out.map vAddr).map V.ref)) from ⟨?_, out, n, rv, at_new⟩), rfl, q _ _ _ isk perm order (I1.hok.fresh (Nat.le_refl _))⟩
    · have lt : b < h'.objs.size := Heap.lt_size eb
      rw [sortedHeap_old (Nat.ne_of_lt lt) (by rw [size_push']; exact Nat.lt_succ_of_lt lt)]
      exact Heap.get?_push_of_some _ eb
    · rw [List.length_map, perm.length_eq, List.length_map]
      omega
end
end Tg

namespace Tg
open PySem PySem.Spec PyProof.Rows L2
/-! ### the text -/
def topS (i : Nat) : Stmt := PySem.Challenge.pw_timegranary_k28_whole_rows_poured.main.body.getD i (.Pass ⟨0, 0, 0, 0⟩)
abbrev sDraws : Stmt := topS 7
abbrev sNext : Stmt := topS 8
theorem scDraws : FnScope ["_law_cell", "_law_cut", "_law_k"] ["_law_cell"] (defScope sDraws) := ⟨rfl, rfl, rfl, by decide +kernel, rfl, by decide +kernel, by decide +kernel⟩
theorem scNext : FnScope ["_law_draws_here", "_law_k", "_law_number"] ["_law_draws_here"] (defScope sNext) := ⟨rfl, rfl, rfl, by decide +kernel, rfl, by decide +kernel, by decide +kernel⟩
section
variable {P : Program} {w : World} {K : PySem.W.Frag} {mg : Str → Option Value} {base : Heap}
/-! ### _law_draws -/
/-- the draws at p, of which at most n were taken -/
def Dr (H : Hp) (p : Addr) (n : Nat) : Prop := ∃ (a k : Int) (b : Bool), H p = some (.lst [.int a, .int k, .bl b]) ∧ 0 ≤ k ∧ k ≤ n
theorem Dr.same {H H' : Hp} {p : Addr} {n : Nat} (s : Same H H') (d : Dr H p n) : Dr H' p n := by
  obtain ⟨a, k, b, h, r⟩ := d
  exact ⟨a, k, b, s _ _ h, r⟩
theorem Dr.ne {H : Hp} {p l : Addr} {n : Nat} (d : Dr H p n) (h : H l = none) : l ≠ p := fun z => by
  obtain ⟨_, _, _, z2, _⟩ := d
  rw [z, z2] at h
  cases h
def spDraws : Sp := fun vs H Q _ => ∃ c : Int, vs = [.int c] ∧ ∀ (p : Addr) (a : Int) (b : Bool), H p = none → Q (.ref p) (upd H p (.lst [.int a, .int 0, .bl b]))
theorem ok_draws {f : Addr} {fd : FuncData} {k : Nat} (F : Fun K "_law_draws" "_law_draws" sDraws f fd) (mr : mg "range" = none) : FnOk P w K mg base CX0 (k + 1) f fd ["_law_cell"] spDraws := by
  refine F.ok scDraws (fun vs H Q E h => ?_) (fun cdv A outer s H vs Q E hr h => ?_)
  · obtain ⟨c, rfl, _⟩ := h
    rfl
  · obtain ⟨c, rfl, q⟩ := h
    refine ⟨_, pss_cons (ps_set (i := 1) scDraws.nd rfl (.inl rfl) (pe_op op_pow pe_int pe_int))
      (pss_cons (ps_for PassesOwn.never rfl (pi_range1 (by rfl) mr (pa_cons pe_int pa_nil)) (pg_name (i := 2) scDraws.nd rfl (.inl rfl))
        (pss_one (ps_set (i := 1) scDraws.nd rfl (.inl rfl) (pe_op op_mulW (pv 1) (pv 1)))))
      (pss_one (ps_ret (pe_lst (pa_cons (pe_op op_mod (pv 0) (pv 1)) (pa_cons pe_int (pa_cons (pe_cmpR op_ge (pv 0) (pe_op op_pow pe_int pe_int) (nomark _)) pa_nil))))))), ?_⟩
    refine ⟨10, 60, rfl, rfl, ⟨by decide, by decide, by decide⟩, ?_⟩
    refine ⟨7, rfl, by decide, by decide, for_range (n := 7) (fun i σ H2 => ∃ (x : Int) (y : Option V), σ = [some (.int c), some (.int x), y] ∧ H2 = H ∧ 0 < x ∧ x.natAbs < 2 ^ (200 * 2 ^ i)) ?_ ?_ ?_⟩
    · exact ⟨_, none, rfl, rfl, by decide, by decide⟩
    · rintro i σ H2 hi ⟨x, y, rfl, rfl, hx, hb⟩
      refine ⟨_, rfl, _, rfl, x, x, rfl, rfl, ?_, x * x, _, rfl, rfl, Int.mul_pos hx hx, ?_⟩
      · have h7 : 2 ^ i ≤ 2 ^ 6 := Nat.pow_le_pow_right (by decide) (by omega)
        have h0 : 0 < 2 ^ i := Nat.pow_pos (by decide)
        exact wide_mul hb hb (by omega) (by omega) (by omega)
      · have e := wide_lt hb hb
        rw [show 200 * 2 ^ (i + 1) = 200 * 2 ^ i + 200 * 2 ^ i by rw [Nat.pow_succ]; omega]
        exact e
    · rintro σ H2 ⟨x, y, rfl, rfl, hx, _⟩
      refine ⟨_, rfl, _, rfl, c, x, rfl, rfl, hx, _, rfl, 10, 18, rfl, rfl, ⟨by decide, by decide, by decide⟩, c, _, rfl, rfl, ?_, fun p hp => ?_⟩
      · show 3 ≤ sizeLine
        decide
      · exact q p _ _ hp
/-! ### _law_next -/
def spNext : Sp := fun vs H Q _ => ∃ (p : Addr) (n : Nat), vs = [.ref p] ∧ Dr H p n ∧ n < 1000000 ∧
  ∀ (v : Int) (H' : Hp), Kp p H H' → Dr H' p (n + 1) → 0 ≤ v → v < 1000000000 → Q (.int v) H'
theorem ok_next {f : Addr} {fd : FuncData} {k : Nat} (F : Fun K "_law_next" "_law_next" sNext f fd) : FnOk P w K mg base CX0 (k + 1) f fd ["_law_draws_here"] spNext := by
  refine F.ok scNext (fun vs H Q E h => ?_) (fun cdv A outer s H vs Q E hr h => ?_)
  · obtain ⟨p, n, rfl, _⟩ := h
    rfl
  · obtain ⟨p, n, rfl, ⟨a, k, b, hp, k0, kn⟩, hn, q⟩ := h
    refine ⟨_, pss_cons (ps_asg (pe_op op_add (pe_ix ix_list (pv 0) pe_int (fun _ _ => rfl)) pe_int) (pg_sub (pv 0) pe_int set_list))
      (pss_cons (ps_set (i := 1) scNext.nd rfl (.inl rfl) (pe_ix ix_list (pv 0) pe_int (fun _ _ => rfl)))
      (pss_cons (ps_if (pt_val (pe_ix ix_list (pv 0) pe_int (fun _ _ => rfl)))
        (pss_cons (ps_set (i := 2) scNext.nd rfl (.inl rfl) (pe_op op_mod (pe_ix ix_list (pv 0) pe_int (fun _ _ => rfl)) (pe_op op_pow pe_int pe_int)))
        (pss_cons (ps_asg (pe_op op_fdiv (pe_ix ix_list (pv 0) pe_int (fun _ _ => rfl)) (pe_op op_pow pe_int pe_int)) (pg_sub (pv 0) pe_int set_list))
        (pss_one (ps_ret (pv 2))))) pss_nil)
      (pss_cons (ps_set (i := 2) scNext.nd rfl (.inl rfl) (pe_op op_mod (pe_op op_mul (pe_op op_add (pe_op op_add (pe_op op_mod (pe_ix ix_list (pv 0) pe_int (fun _ _ => rfl)) pe_int) (pe_op op_mul (pe_op op_mul (pv 1) (pv 1)) pe_int)) (pv 1)) pe_int) pe_int))
      (pss_cons (ps_set (i := 2) scNext.nd rfl (.inl rfl) (pe_op op_mod (pe_op op_mul (pv 2) (pv 2)) pe_int))
      (pss_one (ps_ret (pe_op op_fdiv (pe_op op_mod (pe_op op_mul (pv 2) (pe_op op_add (pv 2) pe_int)) pe_int) pe_int))))))), ?_⟩
    have h1 : (upd H p (.lst [.int a, .int (k + 1), .bl b])) p = some (.lst [.int a, .int (k + 1), .bl b]) := upd_same
    refine ⟨_, rfl, p, _, 1, .int k, rfl, rfl, SqL.of hp, rfl, k, 1, rfl, rfl, _, rfl, p, _, 1, 1, rfl, rfl, hp, rfl, ?_⟩
    refine ⟨_, rfl, p, _, 1, .int (k + 1), rfl, rfl, SqL.of h1, rfl, ?_⟩
    refine ⟨_, rfl, p, _, 2, .bl b, rfl, rfl, SqL.of h1, rfl, b, rfl, ?_⟩
    cases b with
    | true =>
      refine ⟨_, rfl, p, _, 0, .int a, rfl, rfl, SqL.of h1, rfl, 10, 6, rfl, rfl, ⟨by decide, by decide, by decide⟩, a, 1000000, rfl, rfl, (by show (0 : Int) < 1000000; decide), ?_⟩
      refine ⟨_, rfl, p, _, 0, .int a, rfl, rfl, SqL.of h1, rfl, 10, 6, rfl, rfl, ⟨by decide, by decide, by decide⟩, a, 1000000, rfl, rfl, ⟨by decide, by decide⟩, _, rfl, p, _, 0, 0, rfl, rfl, h1, rfl, ?_⟩
      refine ⟨_, rfl, ?_⟩
      rw [upd_upd]
      exact q _ _ Kp.put ⟨_, _, _, upd_same, by omega, by omega⟩ (Int.emod_nonneg _ (by decide)) (Int.lt_of_lt_of_le (Int.emod_lt_of_pos _ (by decide)) (by decide))
    | false =>
      refine ⟨_, rfl, p, _, 0, .int a, rfl, rfl, SqL.of h1, rfl, a, 1000003, rfl, rfl, (by show (0 : Int) < 1000003; decide), _, rfl, _, rfl, k + 1, k + 1, rfl, rfl, .inl ⟨by omega, by omega⟩, _, 7919, rfl, rfl, .inr ⟨by decide, by decide⟩,
        _, _, rfl, rfl, _, rfl, _, k + 1, rfl, rfl, _, 48271, rfl, rfl, .inr ⟨by decide, by decide⟩, _, 2147483629, rfl, rfl, (by show (0 : Int) < 2147483629; decide), ?_⟩
      obtain ⟨x, ex⟩ : ∃ x : Int, (a % 1000003 + (k + 1) * (k + 1) * 7919 + (k + 1)) * 48271 % 2147483629 = x := ⟨_, rfl⟩
      have x0 : 0 ≤ x := by
        rw [← ex]
        exact Int.emod_nonneg _ (by decide)
      have x1 : x < 2147483629 := by
        rw [← ex]
        exact Int.emod_lt_of_pos _ (by decide)
      refine ⟨_, rfl, _, rfl, x, x, congrArg V.int ex, congrArg V.int ex, .inl ⟨by omega, by omega⟩, _, 2147483587, rfl, rfl, (by show (0 : Int) < 2147483587; decide), ?_⟩
      obtain ⟨y, ey⟩ : ∃ y : Int, x * x % 2147483587 = y := ⟨_, rfl⟩
      have y0 : 0 ≤ y := by
        rw [← ey]
        exact Int.emod_nonneg _ (by decide)
      have y1 : y < 2147483587 := by
        rw [← ey]
        exact Int.emod_lt_of_pos _ (by decide)
      refine ⟨_, rfl, _, rfl, y, 2, congrArg V.int ey, rfl, y, _, congrArg V.int ey, rfl, .inl ⟨by omega, by omega⟩, _, 2147483579, rfl, rfl, (by show (0 : Int) < 2147483579; decide), _, 7, rfl, rfl, ⟨by decide, by decide⟩, ?_⟩
      have z0 : 0 ≤ y * (y + 2) % 2147483579 := Int.emod_nonneg _ (by decide)
      have z1 : y * (y + 2) % 2147483579 < 2147483579 := Int.emod_lt_of_pos _ (by decide)
      exact q _ _ Kp.put ⟨_, _, _, upd_same, by omega, by omega⟩ (by omega) (by omega)
end
end Tg

set_option maxHeartbeats 1000000
namespace Tg
open PySem PySem.Spec PyProof.Rows L2
abbrev sRows : Stmt := topS 9
abbrev NRw : List Str := ["_law_draws_here", "_law_most", "_law_told", "_law_k", "_law_pick", "_law_time", "_law_number", "_law_j", "_law_some", "_law_times", "_law_row", "_law_found", "_law_numbers"]
theorem scRows : FnScope NRw ["_law_draws_here", "_law_most"] (defScope sRows) := ⟨rfl, rfl, rfl, by decide +kernel, rfl, by decide +kernel, by decide +kernel⟩
/-- the names in the outer comprehension -/
abbrev scC : Scope := { kind := .function, names := [(".0", .local), ("_law_number", .cell), ("_law_time", .cell), ("_law_told", .cell)], isGenerator := false, isCoroutine := false }
theorem Dr.kt {H H' : Hp} {p : Addr} {n : Nat} (d : Dr H p n) (k : Kp p H H') : KT H H' := by
  obtain ⟨_, _, _, z2, _⟩ := d
  exact KT.kp k z2 nfix_lst
theorem Dr.mono {H : Hp} {p : Addr} {n m : Nat} (d : Dr H p n) (h : n ≤ m) : Dr H p m := by
  obtain ⟨a, k, b, e, r0, r1⟩ := d
  exact ⟨a, k, b, e, r0, by omega⟩
theorem Dr.ld {K : PySem.W.Frag} {H H' : Hp} {p l : Addr} {n : Nat} {ds : List PyData} (d : Dr H p n) (k : Kp p H H') (ne : l ≠ p) (t : ∀ x, x ∈ ds → TD x) (h : LD K H l ds) : LD K H' l ds := by
  obtain ⟨_, _, _, z2, _⟩ := d
  exact h.kp k z2 nfix_lst ne t
theorem atV_mem {xs : List V} {i : Int} (h0 : 0 ≤ i) (h1 : i < xs.length) : ∃ v, v ∈ xs ∧ atI xs i = some v := by
  obtain ⟨j, rfl⟩ : ∃ j : Nat, i = (j : Int) := ⟨i.toNat, by omega⟩
  have hj : j < xs.length := by omega
  exact ⟨xs[j], List.getElem_mem hj, atI_nat (List.getElem?_eq_getElem hj)⟩
/-- found rows go on in order -/
theorem srt_more {rs qs : List Rw} {t : Int} {ns : List Int} (h : Srt rs) (lt : ∀ r, r ∈ rs → r.1 < t) (hn : ns.Pairwise (· < ·)) (e : qs.map (fun r => (r.1, r.2.1)) = ns.map fun n => (t, n)) : Srt (rs ++ qs) := by
  have hq : ∀ q, q ∈ qs → q.1 = t := fun q hq => by
    have : (q.1, q.2.1) ∈ qs.map fun r => (r.1, r.2.1) := List.mem_map.mpr ⟨q, hq, rfl⟩
    rw [e] at this
    obtain ⟨n, _, z⟩ := List.mem_map.mp this
    exact (congrArg Prod.fst z).symm
  refine List.pairwise_append.mpr ⟨h, ?_, fun a ha b hb => .inl (by rw [hq b hb]; exact lt a ha)⟩
  have : (qs.map fun r => (r.1, r.2.1)).Pairwise fun x y => x.1 = y.1 ∧ x.2 < y.2 := by
    rw [e, List.pairwise_map]
    exact hn.imp fun l => ⟨rfl, l⟩
  rw [List.pairwise_map] at this
  exact this.imp fun l => .inr l
section
variable {P : Program} {w : World} {K : PySem.W.Frag} {mg : Str → Option Value} {base : Heap}
def spRows (K : PySem.W.Frag) : Sp := fun vs H Q _ => ∃ (p : Addr) (n : Nat) (m : Int), vs = [.ref p, .int m] ∧ Dr H p n ∧ n < 900000 ∧
  ∀ (l : Addr) (rs : List Rw) (H' : Hp), Kp p H H' → Dr H' p (n + 100) → H l = none → LD K H' l (rs.map rd) → Srt rs → rs.length ≤ 36 → Q (.ref l) H'
theorem ok_rows {f : Addr} {fd : FuncData} {k : Nat} (F : Fun K "_law_rows" "_law_rows" sRows f fd) (L_next : Cal P w K mg base k "_law_next" ["_law_draws_here"] spNext) (m_range : mg "range" = none) (m_sorted : mg "sorted" = none) (m_set : mg "set" = none) :
    FnOk P w K mg base CX0 (k + 1) f fd ["_law_draws_here", "_law_most"] (spRows K) := by
  refine F.ok scRows (fun vs H Q E h => ?_) (fun cdv A outer s H vs Q E hr h => ?_)
  · obtain ⟨p, n, m, rfl, _⟩ := h
    rfl
  · obtain ⟨p, n, m, rfl, hp, hn, q⟩ := h
    have hu := hr.units
    refine ⟨_, pss_cons (ps_set (i := 2) scRows.nd rfl (.inr rfl) (pe_lst pa_nil))
      (pss_cons (ps_for PassesOwn.never rfl (pi_range1 (by rfl) m_range (pa_cons (pe_op op_mod (pe_cal L_next (hr.mono (by omega)) (by rfl) (pa_cons (pv 0) pa_nil)) pe_int) pa_nil)) (pg_name (i := 3) scRows.nd rfl (.inl rfl))
        (pss_cons (ps_set (i := 4) scRows.nd rfl (.inl rfl) (pe_cal L_next (hr.mono (by omega)) (by rfl) (pa_cons (pv 0) pa_nil)))
        (pss_cons (ps_set (i := 5) scRows.nd rfl (.inr rfl) (pe_op op_add (pe_ix ix_list (pe_lst (pa_cons (pv 3) (pa_cons (pe_op op_mul pe_int (pv 3)) (pa_cons (pe_op op_sub (pv 3) pe_int) (pa_cons (pe_op op_sub (pe_op op_mul (pv 3) (pe_op op_pow pe_int pe_int)) (pe_op op_pow pe_int pe_int)) pa_nil))))) (pe_op op_mod (pv 4) pe_int) (fun _ _ => rfl)) (pe_op op_mul pe_int (pe_op op_mod (pe_op op_fdiv (pv 4) pe_int) pe_int))))
        (pss_cons (ps_set (i := 6) scRows.nd rfl (.inl rfl) pe_int)
        (pss_one (ps_for PassesOwn.never rfl (pi_range1 (by rfl) m_range (pa_cons (pe_op op_add pe_int (pe_op op_mod (pe_cal L_next (hr.mono (by omega)) (by rfl) (pa_cons (pv 0) pa_nil)) pe_int)) pa_nil)) (pg_name (i := 7) scRows.nd rfl (.inl rfl))
          (pss_cons (ps_set (i := 8) scRows.nd rfl (.inl rfl) (pe_cal L_next (hr.mono (by omega)) (by rfl) (pa_cons (pv 0) pa_nil)))
          (pss_cons (ps_set (i := 6) scRows.nd rfl (.inl rfl) (pe_op op_add (pe_op op_add (pv 6) pe_int) (pe_op op_mod (pv 8) (pe_ix ix_list (pe_lst (pa_cons pe_int (pa_cons pe_int pa_nil))) (pe_op op_mod (pe_op op_fdiv (pv 8) pe_int) pe_int) (fun _ _ => rfl)))))
          (pss_one (ps_if (pt_cmpR op_le (pv 6) (pv 1) (nomark _))
            (pss_one (ps_expr (pe_bm PySem.F.plainAttrs_list PySem.F.slot_list_append PySem.F.type_list_append mt_append (pv 2) (pa_cons (pe_tup (pa_cons (pv 5) (pa_cons (pv 6) (pa_cons (pe_ix ix_list (pe_lst (pa_cons (pe_op op_sub (pe_op op_mod (pe_op op_fdiv (pv 8) pe_int) pe_int) pe_int) (pa_cons pe_non (pa_cons (pe_op op_mul (pv 8) (pe_op op_pow pe_int pe_int)) (pa_cons pe_int pa_nil))))) (pe_op op_mod (pe_op op_fdiv (pv 8) pe_int) pe_int) (fun _ _ => rfl)) pa_nil)))) pa_nil))))
            pss_nil))))))))))
      (pss_cons (ps_set (i := 9) scRows.nd rfl (.inl rfl) (pe_callB (cr_sortedSet rfl) (by rfl) m_sorted boot_sorted (pa_cons (pe_callTy (cr_setL rfl) (by rfl) m_set (by decide +kernel) (pa_cons (pe_lc (own := [("_law_row", 10)]) (g := (gName 10)) (tt := tYes) rfl scRows.nd (pi_list (pv 2)) (blkOk_by (own := [("_law_row", 10)]) (N := NRw) (sc := defScope sRows) (by decide +kernel)) (fun _ _ _ _ _ => (pg_name (i := 10) scRows.nd rfl (.inl rfl))) (fun _ _ _ _ _ => pts_nil) (fun _ _ _ _ _ => (pe_ix (r := rIxT K) ix_tup (pv 10) pe_int (fun _ _ => rfl)))) pa_nil)) pa_nil)))
      (pss_cons (ps_set (i := 11) scRows.nd rfl (.inl rfl) (pe_lst pa_nil))
      (pss_cons (ps_for PassesOwn.never rfl (pi_list (pv 9)) (pg_name (i := 5) scRows.nd rfl (.inr rfl))
        (pss_cons (ps_set (i := 12) scRows.nd rfl (.inl rfl) (pe_callB (cr_sortedSet rfl) (by rfl) m_sorted boot_sorted (pa_cons (pe_callTy (cr_setL rfl) (by rfl) m_set (by decide +kernel) (pa_cons (pe_lc (own := [("_law_row", 10)]) (g := (gName 10)) rfl scRows.nd (pi_list (pv 2)) (blkOk_by (own := [("_law_row", 10)]) (N := NRw) (sc := defScope sRows) (by decide +kernel)) (fun _ _ _ _ _ => (pg_name (i := 10) scRows.nd rfl (.inl rfl))) (fun _ _ _ _ _ => pts_one (pt_cmpR op_eq (pe_ix (r := rIxT K) ix_tup (pv 10) pe_int (fun _ _ => rfl)) (pv 5) (nomark _))) (fun _ _ _ _ _ => (pe_ix (r := rIxT K) ix_tup (pv 10) pe_int (fun _ _ => rfl)))) pa_nil)) pa_nil)))
        (pss_one (ps_set (i := 11) scRows.nd rfl (.inl rfl) (pe_op op_cat (pv 11) (pe_lc (own := [("_law_number", 6)]) (g := (gName 6)) (tt := tYes) rfl scRows.nd (pi_list (pv 12)) (blkOk_by (own := [("_law_number", 6)]) (N := NRw) (sc := defScope sRows) (by decide +kernel)) (fun _ _ _ _ _ => (pg_name (i := 6) scRows.nd rfl (.inr rfl))) (fun _ _ _ _ _ => pts_nil) (fun _ _ _ _ _ => (pe_ix (r := rIxL K) ix_list (pe_lc (own := [("_law_row", 10)]) (g := (gName 10)) (wi := iList K (tVar 2)) rfl scRows.nd (pi_list (pv 2)) (blkOk_by (own := [("_law_row", 10)]) (N := NRw) (sc := scC) (by decide +kernel)) (fun _ _ _ _ _ => (pg_name (i := 10) scRows.nd rfl (.inl rfl))) (fun _ _ _ _ _ => pts_one (pt_cmpR (r := rEqD K) (op_eqD hu) (pe_slice (r := rSlT K) sl_tup (pv 10) po_none (po_some pe_int)) (pe_tup (pa_cons (pv 5) (pa_cons (pv 6) pa_nil))) (nomark _))) (fun _ _ _ _ _ => (pv 10))) pe_int (fun _ _ => rfl)))))))))
      (pss_one (ps_ret (pv 11))))))), ?_⟩
    -- told = []
    refine ⟨Nat.zero_le _, fun l nl => ?_⟩
    have nlp : l ≠ p := hp.ne nl
    have s1 : Same H (upd H l (.lst [])) := same_new nl
    refine ⟨_, rfl, p, n, rfl, hp.same s1, by omega, fun v1 H1 k1 d1 v10 v11 => ?_⟩
    have hl1 : H1 l = some (.lst []) := k1 _ _ nlp upd_same
    have m9 := Int.emod_nonneg v1 (show (9 : Int) ≠ 0 by decide)
    have m9' := Int.emod_lt_of_pos v1 (show (0 : Int) < 9 by decide)
    refine ⟨_, _, rfl, rfl, (by show (0 : Int) < 9; decide), _, rfl, by omega, by omega, ?_⟩
    obtain ⟨cn, ec⟩ : ∃ cn : Nat, (v1 % 9).toNat = cn := ⟨_, rfl⟩
    rw [ec]
    refine for_range (n := cn) (fun i σ Hc => ∃ (L : List Rw) (z3 z4 z5 z6 z7 z8 : Option V), σ = [some (.ref p), some (.int m), some (.ref l), z3, z4, z5, z6, z7, z8, none, none, none, none] ∧ Kp p H Hc ∧ Dr Hc p (n + 1 + 6 * i) ∧ LD K Hc l (L.map rd) ∧ L.length ≤ 4 * i) ?_ ?_ ?_
    · exact ⟨[], none, none, none, none, none, none, rfl, (Kp.of s1).trans k1, d1, ⟨[], hl1, .nil⟩, Nat.le_refl _⟩
    · rintro i σ Hc hi ⟨L, z3, z4, z5, z6, z7, z8, rfl, kc, dc, ldc, hL⟩
      -- pick
      refine ⟨_, rfl, p, _, rfl, dc, by omega, fun v2 H2 k2 d2 v20 v21 => ?_⟩
      have ld2 := dc.ld k2 nlp (td_rds L) ldc
      -- time
      refine ⟨_, rfl, _, rfl, _, _, rfl, rfl, .inl ⟨by decide, by decide⟩, _, rfl, _, _, rfl, rfl, _, rfl, 10, 9, rfl, rfl, ⟨by decide, by decide, by decide⟩, _, _, rfl, rfl, .inr ⟨by decide, by decide⟩, 10, 10, rfl, rfl, ⟨by decide, by decide, by decide⟩, _, _, rfl, rfl, by show 4 ≤ sizeLine; decide, fun l2 n2 => ?_⟩
      have s3 := same_new (o := .lst ([0 + (i : Int), 10 * (0 + (i : Int)), 0 + (i : Int) - 4, (0 + (i : Int)) * 10 ^ 9 - 10 ^ 10].map V.int)) n2
      obtain ⟨tb, _, etb⟩ := atI_mem (xs := [0 + (i : Int), 10 * (0 + (i : Int)), 0 + (i : Int) - 4, (0 + (i : Int)) * 10 ^ 9 - 10 ^ 10]) (Int.emod_nonneg v2 (show (4 : Int) ≠ 0 by decide)) (Int.emod_lt_of_pos v2 (show (0 : Int) < 4 by decide))
      refine ⟨_, rfl, _, _, rfl, rfl, (by show (0 : Int) < 4; decide), l2, _, _, .int tb, rfl, rfl, SqL.of upd_same, etb, _, rfl, _, _, rfl, rfl, ⟨by decide, by decide⟩, _, _, rfl, rfl, (by show (0 : Int) < 3; decide), _, _, rfl, rfl, .inl ⟨by decide, by decide⟩, _, _, rfl, rfl, ?_⟩
      obtain ⟨tm, etm⟩ : ∃ tm : Int, tb + 40 * (v2 / 4 % 3) = tm := ⟨_, rfl⟩
      have d3 := d2.same s3
      have ld3 := ld2.same s3
      have k3 : Kp p H (upd H2 l2 (.lst ([0 + (i : Int), 10 * (0 + (i : Int)), 0 + (i : Int) - 4, (0 + (i : Int)) * 10 ^ 9 - 10 ^ 10].map V.int))) := (kc.trans k2).trans (.of s3)
      -- how many
      refine ⟨_, rfl, p, _, rfl, d3, by omega, fun v4 H4 k4 d4 v40 v41 => ?_⟩
      have ld4 := d3.ld k4 nlp (td_rds L) ld3
      have k4H := k3.trans k4
      have r4 := Int.emod_nonneg v4 (show (4 : Int) ≠ 0 by decide)
      have r4' := Int.emod_lt_of_pos v4 (show (0 : Int) < 4 by decide)
      refine ⟨_, _, rfl, rfl, (by show (0 : Int) < 4; decide), _, _, rfl, rfl, _, rfl, by omega, by omega, ?_⟩
      obtain ⟨jn, ej⟩ : ∃ jn : Nat, (1 + v4 % 4).toNat = jn := ⟨_, rfl⟩
      rw [ej]
      refine for_range (n := jn) (fun j σ He => ∃ (L2 : List Rw) (an : Int) (z7 z8 : Option V), σ = [some (.ref p), some (.int m), some (.ref l), some (.int (0 + i)), some (.int v2), some (.int tm), some (.int an), z7, z8, none, none, none, none] ∧ Kp p H He ∧ Dr He p (n + 1 + 6 * i + 2 + j) ∧ LD K He l (L2.map rd) ∧ L2.length ≤ 4 * i + j) ?_ ?_ ?_
      · exact ⟨L, 0, z7, z8, by rw [← etm]; rfl, k4H, d4, ld4, hL⟩
      · rintro j σ He hj ⟨L2, an, y7, y8, rfl, ke, de, lde, hL2⟩
        refine ⟨_, rfl, p, _, rfl, de, by omega, fun v5 H5 k5 d5 v50 v51 => ?_⟩
        have ld5 := de.ld k5 nlp (td_rds L2) lde
        refine ⟨_, rfl, _, _, rfl, rfl, _, rfl, by show 2 ≤ sizeLine; decide, fun l3 n3 => ?_⟩
        have s6 := same_new (o := .lst ([2, 9].map V.int)) n3
        obtain ⟨dv, hdv, edv⟩ := atI_mem (xs := [2, 9]) (Int.emod_nonneg (v5 / 16) (show (2 : Int) ≠ 0 by decide)) (Int.emod_lt_of_pos (v5 / 16) (show (0 : Int) < 2 by decide))
        have dv0 : 0 < dv := by
          simp only [List.mem_cons, List.not_mem_nil, or_false] at hdv
          rcases hdv with rfl | rfl <;> decide
        refine ⟨_, rfl, _, _, rfl, rfl, ⟨by decide, by decide⟩, _, _, rfl, rfl, (by show (0 : Int) < 2; decide), l3, _, _, .int dv, rfl, rfl, SqL.of upd_same, edv, _, _, rfl, rfl, dv0, _, _, rfl, rfl, ?_⟩
        have d6 := d5.same s6
        obtain ⟨xs, hx, hd⟩ := ld5.same s6
        have k6 : Kp p H (upd H5 l3 (.lst ([2, 9].map V.int))) := (ke.trans k5).trans (.of s6)
        have lx : xs.length = L2.length := dl_len hd
        refine ⟨_, rfl, _, rfl, _, _, rfl, rfl, _, rfl, ite2 (fun g => ?_) (fun g => ?_)⟩
        · refine ⟨_, rfl, .inl ⟨rfl, _, SqL.of hx⟩, _, rfl, _, rfl, _, rfl, _, _, rfl, rfl, ⟨by decide, by decide⟩, _, _, rfl, rfl, (by show (0 : Int) < 9; decide), _, _, rfl, rfl, _, rfl, 10, 6, rfl, rfl, ⟨by decide, by decide, by decide⟩, _, _, rfl, rfl, .inr ⟨by decide, by decide⟩, by show 4 ≤ sizeLine; decide, fun l4 n4 => ?_⟩
          have s7 := same_new (o := .lst [.int (v5 / 32 % 9 - 4), .non, .int (v5 * 10 ^ 6), .int 0]) n4
          obtain ⟨wv, hwv, ewv⟩ := atV_mem (xs := [.int (v5 / 32 % 9 - 4), .non, .int (v5 * 10 ^ 6), .int 0]) (Int.emod_nonneg (v5 / 8) (show (4 : Int) ≠ 0 by decide)) (Int.emod_lt_of_pos (v5 / 8) (show (0 : Int) < 4 by decide))
          obtain ⟨ow, rfl⟩ : ∃ ow : Option Int, wv = vw ow := by
            simp only [List.mem_cons, List.not_mem_nil, or_false] at hwv
            rcases hwv with rfl | rfl | rfl | rfl
            · exact ⟨some _, rfl⟩
            · exact ⟨none, rfl⟩
            · exact ⟨some _, rfl⟩
            · exact ⟨some _, rfl⟩
          refine ⟨_, rfl, _, _, rfl, rfl, ⟨by decide, by decide⟩, _, _, rfl, rfl, (by show (0 : Int) < 4; decide), l4, _, _, vw ow, rfl, rfl, SqL.of upd_same, ewv, by show 3 ≤ sizeLine; decide, fun t nt => ?_⟩
          have s8 := same_new (o := .tup [.int tm, .int (an + 1 + v5 % dv), vw ow]) nt
          have hx8 := (s7.trans s8) _ _ hx
          refine ⟨l, _, _, rfl, rfl, hx8, small1000 (by omega), ?_⟩
          have d8 := d6.same (s7.trans s8)
          have dt := rd_new (K := K) (r := (tm, an + 1 + v5 % dv, ow)) (SqT.of (upd_same (H := upd (upd H5 l3 (.lst ([2, 9].map V.int))) l4 (.lst [.int (v5 / 32 % 9 - 4), .non, .int (v5 * 10 ^ 6), .int 0])) (a := t) (o := .tup [.int tm, .int (an + 1 + v5 % dv), vw ow])))
          have ld8 := LD.snoc (KT.of (s7.trans s8)) hx8 hd (td_rds L2) dt (td_rd _)
          refine ⟨L2 ++ [(tm, an + 1 + v5 % dv, ow)], _, _, _, rfl, fun c o hc e => ?_, ?_, ?_, ?_⟩
          · rw [upd_ne (ne_of_none e nl)]
            exact (s7.trans s8) _ _ (k6 _ _ hc e)
          · obtain ⟨da, dk, db, h1, h2, h3⟩ := d8
            exact ⟨da, dk, db, by rw [upd_ne nlp.symm]; exact h1, h2, by omega⟩
          · rw [List.map_append]
            exact ld8
          · rw [List.length_append]
            show L2.length + 1 ≤ _
            omega
        · exact ⟨L2, _, _, _, rfl, k6, d6.mono (by omega), ⟨xs, hx, hd⟩, by omega⟩
      · rintro σ He ⟨L2, an, y7, y8, rfl, ke, de, lde, hL2⟩
        exact ⟨L2, _, _, _, _, _, _, rfl, ke, de.mono (by omega), lde, by omega⟩
    · rintro σ Hb ⟨L, z3, z4, z5, z6, z7, z8, rfl, kb, db, ⟨xs, hx, hd⟩, hL⟩
      have lx : xs.length = L.length := dl_len hd
      -- the times
      refine ⟨_, rfl, l, rfl, ⟨_, SqL.of hx⟩, fun D1 nD1 => lc_list (K := K) (a := l) (xs := xs) (fun j Hc => Same Hb Hc ∧ Hc D1 = some (.lst (((L.take j).map (·.1)).map V.int))) ⟨same_new nD1, upd_same⟩ (fun j Hc _ h => SqL.of (h.1 _ _ hx)) ?_ ?_⟩
      · rintro j v Hc hj ⟨sc, hD⟩
        obtain ⟨r, hr1, dr⟩ := dl_at hd hj
        obtain ⟨a, rfl, ha⟩ := dp_rd (dp_same sc dr)
        refine ⟨rfl, ?_⟩
        unfold tYes
        dsimp only
        rw [if_pos rfl]
        refine ⟨_, rfl, a, _, 0, .int r.1, rfl, rfl, ha, rfl, _, hD, ?_, same_put nD1 sc, ?_⟩
        · rw [List.length_map, List.length_map, List.length_take]
          exact small1000 (by omega)
        · rw [upd_same, take_snoc hr1, List.map_append, List.map_append]
          rfl
      · rintro Hc ⟨sc, hD⟩
        rw [lx, List.take_length] at hD
        refine ⟨D1, L.map (·.1), rfl, SqL.of hD, by rw [List.length_map]; omega, fun a1 c1 na1 hc10 => ?_⟩
        have hc1 := hc10 _ fun k hk => hk
        rw [List.length_map] at hc1
        have s3 := same_new (o := SetO w a1 (fun j => decide (j ∈ L.map (·.1))) c1) na1
        refine ⟨a1, _, c1, rfl, upd_same, by omega, fun ts q1 hts hmem hlen nq1 => ?_⟩
        have s4 := same_new (o := .lst (ts.map V.int)) nq1
        have sB : Same Hb (upd (upd Hc a1 (SetO w a1 (fun j => decide (j ∈ L.map (·.1))) c1)) q1 (.lst (ts.map V.int))) := (sc.trans s3).trans s4
        have hq1 : (upd (upd Hc a1 (SetO w a1 (fun j => decide (j ∈ L.map (·.1))) c1)) q1 (.lst (ts.map V.int))) q1 = some (.lst (ts.map V.int)) := upd_same
        obtain ⟨He, eHe⟩ : ∃ He : Hp, upd (upd Hc a1 (SetO w a1 (fun j => decide (j ∈ L.map (·.1))) c1)) q1 (.lst (ts.map V.int)) = He := ⟨_, rfl⟩
        rw [eHe] at sB hq1
        -- found = []
        refine ⟨Nat.zero_le _, fun f0 nf00 => ?_⟩
        have nf0 : He f0 = none := by
          rw [← eHe]
          exact nf00
        have sf : Same He (upd (upd (upd Hc a1 (SetO w a1 (fun j => decide (j ∈ L.map (·.1))) c1)) q1 (.lst (ts.map V.int))) f0 (.lst [])) := by
          rw [eHe]
          exact same_new nf0
        refine ⟨_, rfl, q1, rfl, ⟨_, SqL.of (sf _ _ hq1)⟩, for_list (K := K) (a := q1) (xs := ts.map V.int) (fun j σ Hg => ∃ (rs : List Rw) (fa : Addr) (y3 y4 y5 y6 y7 y8 y12 : Option V), σ = [some (.ref p), some (.int m), some (.ref l), y3, y4, y5, y6, y7, y8, some (.ref q1), none, some (.ref fa), y12] ∧ Same He Hg ∧ LD K Hg fa (rs.map rd) ∧ He fa = none ∧ Srt rs ∧ (∀ r, r ∈ rs → r ∈ L ∧ r.1 ∈ ts.take j)) ?_ ?_ ?_ ?_⟩
        · exact ⟨[], f0, z3, z4, z5, z6, z7, z8, none, rfl, sf, ⟨[], upd_same, .nil⟩, nf0, .nil, fun r h => absurd h List.not_mem_nil⟩
        · rintro j σ Hg _ ⟨_, _, _, _, _, _, _, _, _, _, sg, _⟩
          exact SqL.of (sg _ _ hq1)
        · rintro j tv σ Hg hj ⟨rs, fa, y3, y4, y5, y6, y7, y8, y12, rfl, sg, ldf, nfa, hsrt, hrs⟩
          rw [List.getElem?_map] at hj
          obtain ⟨t, ht, rfl⟩ := Option.map_eq_some_iff.mp hj
          have sbg := sB.trans sg
          have hxg := sbg _ _ hx
          have hdg := dpAll_same sbg hd
          -- the numbers
          refine ⟨_, rfl, l, rfl, ⟨_, SqL.of hxg⟩, fun D2 nD2 => lc_list (K := K) (a := l) (xs := xs) (fun j Hi => Same Hg Hi ∧ Hi D2 = some (.lst ((((L.take j).filter fun r => decide (r.1 = t)).map (·.2.1)).map V.int))) ⟨same_new nD2, upd_same⟩ (fun j Hi _ h => SqL.of (h.1 _ _ hxg)) ?_ ?_⟩
          · rintro j v Hi hj ⟨si, hD⟩
            obtain ⟨r, hr1, dr⟩ := dl_at hdg hj
            obtain ⟨a, rfl, ha⟩ := dp_rd (dp_same si dr)
            have len : ((L.take j).filter fun r => decide (r.1 = t)).length ≤ 32 := by
              have h1 := List.length_filter_le (fun r : Rw => decide (r.1 = t)) (L.take j)
              rw [List.length_take] at h1
              omega
            refine ⟨rfl, _, rfl, a, _, 0, .int r.1, rfl, rfl, ha, rfl, _, rfl, rfl, _, rfl, ite2 (fun g => ?_) (fun g => ?_)⟩
            · have g1 : decide (r.1 = t) = true := by
                have := of_decide_eq_true g
                exact decide_eq_true (V.int.inj this)
              refine ⟨_, rfl, a, _, 1, .int r.2.1, rfl, rfl, ha, rfl, _, hD, ?_, same_put nD2 si, ?_⟩
              · rw [List.length_map, List.length_map]
                exact small1000 (by omega)
              · rw [upd_same, take_snoc hr1, List.filter_append, List.filter_cons, if_pos g1, List.filter_nil, List.map_append, List.map_append]
                rfl
            · have g1 : ¬ decide (r.1 = t) = true := fun z => g (decide_eq_true (congrArg V.int (of_decide_eq_true z)))
              refine ⟨si, ?_⟩
              rw [hD, take_snoc hr1, List.filter_append, List.filter_cons, if_neg g1, List.filter_nil, List.append_nil]
          · rintro Hi ⟨si, hD⟩
            rw [lx, List.take_length] at hD
            have lf := List.length_filter_le (fun r : Rw => decide (r.1 = t)) L
            refine ⟨D2, _, rfl, SqL.of hD, by rw [List.length_map]; omega, fun a2 c2 na2 hc20 => ?_⟩
            have hc2 := hc20 _ fun k hk => hk
            rw [List.length_map] at hc2
            have s5 := same_new (o := SetO w a2 (fun j => decide (j ∈ (L.filter fun r => decide (r.1 = t)).map (·.2.1))) c2) na2
            refine ⟨a2, _, c2, rfl, upd_same, by omega, fun ns q2 hns nmem nlen nq2 => ?_⟩
            have s6 := same_new (o := .lst (ns.map V.int)) nq2
            have sj : Same Hg (upd (upd Hi a2 (SetO w a2 (fun j => decide (j ∈ (L.filter fun r => decide (r.1 = t)).map (·.2.1))) c2)) q2 (.lst (ns.map V.int))) := (si.trans s5).trans s6
            have hq2 : (upd (upd Hi a2 (SetO w a2 (fun j => decide (j ∈ (L.filter fun r => decide (r.1 = t)).map (·.2.1))) c2)) q2 (.lst (ns.map V.int))) q2 = some (.lst (ns.map V.int)) := upd_same
            obtain ⟨Hj, eHj⟩ : ∃ Hj : Hp, upd (upd Hi a2 (SetO w a2 (fun j => decide (j ∈ (L.filter fun r => decide (r.1 = t)).map (·.2.1))) c2)) q2 (.lst (ns.map V.int)) = Hj := ⟨_, rfl⟩
            have hq20 := hq2
            rw [eHj] at sj hq2
            have hxj := sj _ _ hxg
            have hdj := dpAll_same sj hdg
            -- the rows of the time
            refine ⟨_, rfl, _, rfl, q2, rfl, ⟨_, SqL.of hq20⟩, fun D3 nD30 => lc_list (K := K) (a := q2) (xs := ns.map V.int) (fun i Hk => Same Hj Hk ∧ ∃ qs : List Rw, LD K Hk D3 (qs.map rd) ∧ qs.map (fun r => (r.1, r.2.1)) = (ns.take i).map (fun n => (t, n)) ∧ ∀ r, r ∈ qs → r ∈ L) (by rw [← eHj]; exact ⟨same_new nD30, [], ⟨[], upd_same, .nil⟩, rfl, fun r h => absurd h List.not_mem_nil⟩) (fun i Hk _ h => SqL.of (h.1 _ _ hq2)) ?_ ?_⟩
            · have nD3 : Hj D3 = none := by
                rw [← eHj]
                exact nD30
              rintro i nv Hk hi ⟨sk, qs, ⟨ys, hD3, hdy⟩, eqs, hqs⟩
              rw [List.getElem?_map] at hi
              obtain ⟨nb, hnb, rfl⟩ := Option.map_eq_some_iff.mp hi
              refine ⟨rfl, ?_⟩
              unfold tYes
              dsimp only
              rw [if_pos rfl]
              have hxk := sk _ _ hxj
              have hdk := dpAll_same sk hdj
              refine ⟨_, rfl, l, rfl, ⟨_, SqL.of hxk⟩, fun D4 nD4 => lc_list (K := K) (a := l) (xs := xs) (fun j Hm => Same Hk Hm ∧ LD K Hm D4 (((L.take j).filter fun r => decide (r.1 = t ∧ r.2.1 = nb)).map rd)) ⟨same_new nD4, ⟨[], upd_same, .nil⟩⟩ (fun j Hm _ h => SqL.of (h.1 _ _ hxk)) ?_ ?_⟩
              · rintro j v Hm hj2 ⟨sm, us, hD4, hdu⟩
                obtain ⟨r, hr1, dr⟩ := dl_at hdk hj2
                have drm := dp_same sm dr
                obtain ⟨a, rfl, ha⟩ := dp_rd drm
                have lus : us.length ≤ 32 := by
                  have h0 := dl_len hdu
                  have h1 := List.length_filter_le (fun r : Rw => decide (r.1 = t ∧ r.2.1 = nb)) (L.take j)
                  rw [List.length_take] at h1
                  omega
                refine ⟨rfl, _, rfl, 2, rfl, a, _, rfl, ha, (by show ¬ (HT.sIx 3 0 none = 0 ∧ HT.sIx 3 3 (some 2) = 3); decide), fun sl1 nsl => ?_⟩
                have s7 := same_new (o := .tup [.int r.1, .int r.2.1]) nsl
                refine ⟨_, rfl, _, rfl, by show 2 ≤ sizeLine; decide, fun sl2 nsl2 => ?_⟩
                have s8 := same_new (o := .tup [.int t, .int nb]) nsl2
                have sq := s7.trans s8
                refine ⟨.tuple [.int r.1, .int r.2.1], .tuple [.int t, .int nb], .tup (SqT.of (s8 _ _ upd_same)) (.cons (.int _) (.cons (.int _) .nil)), .tup (SqT.of upd_same) (.cons (.int _) (.cons (.int _) .nil)), shaped_of rfl (by show 1 ≤ 64; decide), shaped_of rfl (by show 1 ≤ 64; decide), _, rfl, ite2 (fun g => ?_) (fun g => ?_)⟩
                · have g1 : r.1 = t ∧ r.2.1 = nb := by
                    have z : ((r.1 == t) && ((r.2.1 == nb) && true)) = true := g
                    rw [Bool.and_true, Bool.and_eq_true] at z
                    exact ⟨eq_of_beq z.1, eq_of_beq z.2⟩
                  have hD5 := sq _ _ hD4
                  refine ⟨_, rfl, _, hD5, small1000 (by omega), same_put nD4 (sm.trans sq), ?_⟩
                  rw [take_snoc hr1, List.filter_append, List.filter_cons, if_pos (decide_eq_true g1), List.filter_nil, List.map_append]
                  exact LD.snoc (KT.of sq) hD5 hdu (td_rds _) (dp_same sq drm) (td_rd _)
                · have g1 : ¬ (r.1 = t ∧ r.2.1 = nb) := fun z => g (by
                    show ((r.1 == t) && ((r.2.1 == nb) && true)) = true
                    rw [z.1, z.2, beq_self_eq_true, beq_self_eq_true]
                    rfl)
                  refine ⟨sm.trans sq, ?_⟩
                  rw [take_snoc hr1, List.filter_append, List.filter_cons, if_neg (fun z => g1 (of_decide_eq_true z)), List.filter_nil, List.append_nil]
                  exact LD.same sq ⟨us, hD4, hdu⟩
              · rintro Hm ⟨sm, us, hD4, hdu⟩
                rw [lx, List.take_length] at hdu
                obtain ⟨r0, hr0⟩ : ∃ r0, r0 ∈ L.filter fun r => decide (r.1 = t ∧ r.2.1 = nb) := by
                  have z := (nmem nb).mp (List.mem_of_getElem? hnb)
                  obtain ⟨r, h1, h2⟩ := List.mem_map.mp (of_decide_eq_true z)
                  obtain ⟨h3, h4⟩ := List.mem_filter.mp h1
                  exact ⟨r, List.mem_filter.mpr ⟨h3, decide_eq_true ⟨of_decide_eq_true h4, h2⟩⟩⟩
                obtain ⟨r1, rr, er⟩ : ∃ r1 rr, (L.filter fun r => decide (r.1 = t ∧ r.2.1 = nb)) = r1 :: rr := by
                  cases e : L.filter fun r => decide (r.1 = t ∧ r.2.1 = nb) with
                  | nil =>
                    rw [e] at hr0
                    cases hr0
                  | cons a b => exact ⟨a, b, rfl⟩
                obtain ⟨m1, m2⟩ := List.mem_filter.mp (show r1 ∈ L.filter fun r => decide (r.1 = t ∧ r.2.1 = nb) by rw [er]; exact List.mem_cons_self)
                obtain ⟨e1, e2⟩ := of_decide_eq_true m2
                rw [er] at hdu
                obtain ⟨v0, hv0, dv0⟩ := dl_get (i := 0) (x := r1) hdu rfl
                have hD3m := sm _ _ hD3
                refine ⟨D4, us, 0, v0, rfl, rfl, SqL.of hD4, ?_, _, hD3m, ?_, same_put nD3 (sk.trans sm), qs ++ [r1], ?_, ?_, ?_⟩
                · show atI us ((0 : Nat) : Int) = _
                  exact atI_nat hv0
                · have h1 := dl_len hdy
                  have h2 := congrArg List.length eqs
                  rw [List.length_map, List.length_map, List.length_take] at h2
                  exact small1000 (by omega)
                · rw [List.map_append]
                  exact LD.snoc (KT.of sm) hD3m hdy (td_rds _) dv0 (td_rd _)
                · rw [List.map_append, eqs, take_snoc hnb, List.map_append]
                  show _ ++ [(r1.1, r1.2.1)] = _
                  rw [e1, e2]
                  rfl
                · intro r hr3
                  rcases List.mem_append.mp hr3 with h | h
                  · exact hqs r h
                  · rw [List.mem_singleton.mp h]
                    exact m1
            · rintro Hk ⟨sk, qs, ⟨ys, hD3, hdy⟩, eqs, hqs⟩
              rw [List.length_map, List.take_length] at eqs
              obtain ⟨fs, hfa, hdf⟩ := ldf.same (sj.trans sk)
              have lt : ∀ r, r ∈ rs → r.1 < t := fun r hr2 => by
                obtain ⟨_, h1⟩ := hrs r hr2
                obtain ⟨i2, hi2, e2⟩ := List.getElem_of_mem h1
                rw [List.length_take] at hi2
                rw [List.getElem_take] at e2
                have jl := (List.getElem?_eq_some_iff.mp ht)
                obtain ⟨jl1, jl2⟩ := jl
                rw [← e2, ← jl2]
                exact List.pairwise_iff_getElem.mp hts i2 j (by omega) jl1 (by omega)
              have hs2 : Srt (rs ++ qs) := srt_more hsrt lt hns eqs
              have hin : ∀ r, r ∈ rs ++ qs → r ∈ L ∧ r.1 ∈ ts.take (j + 1) := fun r hr2 => by
                rw [take_snoc ht]
                rcases List.mem_append.mp hr2 with h | h
                · exact ⟨(hrs r h).1, List.mem_append_left _ (hrs r h).2⟩
                · refine ⟨hqs r h, List.mem_append_right _ ?_⟩
                  have : (r.1, r.2.1) ∈ qs.map fun r => (r.1, r.2.1) := List.mem_map.mpr ⟨r, h, rfl⟩
                  rw [eqs] at this
                  obtain ⟨n2, _, z⟩ := List.mem_map.mp this
                  exact List.mem_singleton.mpr (congrArg Prod.fst z).symm
              have l2 : (rs ++ qs).length ≤ L.length := nodup_len hs2.nodup fun r h => (hin r h).1
              rw [List.length_append] at l2
              have lfs := dl_len hdf
              have lys := dl_len hdy
              refine ⟨fa, D3, _, _, rfl, rfl, hfa, hD3, Nat.le_of_lt (small1000 (by omega)), fun g1 ng1 => ?_⟩
              have s9 := same_new (o := .lst (fs ++ ys)) ng1
              refine ⟨rs ++ qs, g1, _, _, _, _, _, _, _, rfl, ((sg.trans sj).trans sk).trans s9, ⟨fs ++ ys, upd_same, ?_⟩, ((sg.trans sj).trans sk).free ng1, hs2, hin⟩
              rw [List.map_append]
              exact dpAll_same s9 (dpAll_app hdf hdy)
        · rintro σ Hg ⟨rs, fa, y3, y4, y5, y6, y7, y8, y12, rfl, sg, ldf, nfa, hsrt, hrs⟩
          have l2 : rs.length ≤ L.length := nodup_len hsrt.nodup fun r h => (hrs r h).1
          have dg := db.same (sB.trans sg)
          have nfH2 : H fa = none := by
            cases e : H fa with
            | none => rfl
            | some o =>
              have fp : fa ≠ p := fun z => by
                obtain ⟨_, _, _, h1, _⟩ := db.same sB
                rw [z, h1] at nfa
                cases nfa
              rw [sB _ _ (kb _ _ fp e)] at nfa
              cases nfa
          exact ⟨_, rfl, q fa rs Hg (kb.trans (.of (sB.trans sg))) (dg.mono (by omega)) nfH2 ldf hsrt (by omega)⟩
end
end Tg

set_option maxHeartbeats 1000000
namespace Tg
open PySem PySem.Spec PyProof.Rows L2
abbrev sLastW : Stmt := topS 1
abbrev sKnown : Stmt := topS 2
abbrev sFlags : Stmt := topS 3
abbrev sThinned : Stmt := topS 4
abbrev NKn : List Str := ["rows", "number", "time", "worth"]
abbrev NNd : List Str := ["rows", "number", "row", "needed"]
abbrev NFl : List Str := ["rows", "number", "last_numbers", "time", "own_number", "worth"]
theorem scLastW : FnScope ["rows", "number", "worths", "time", "own_number", "worth"] ["rows", "number"] (defScope sLastW) := ⟨rfl, rfl, rfl, by decide +kernel, rfl, by decide +kernel, by decide +kernel⟩
theorem scKnown : FnScope NKn ["rows", "number"] (defScope sKnown) := ⟨rfl, rfl, rfl, by decide +kernel, rfl, by decide +kernel, by decide +kernel⟩
theorem scFlags : FnScope NFl ["rows", "number"] (defScope sFlags) := ⟨rfl, rfl, rfl, by decide +kernel, rfl, by decide +kernel, by decide +kernel⟩
theorem scThinned : FnScope NNd ["rows", "number"] (defScope sThinned) := ⟨rfl, rfl, rfl, by decide +kernel, rfl, by decide +kernel, by decide +kernel⟩
theorem putK_len2 (kvs : List (Key × V)) (k : Key) (v : V) : (putK kvs k v).length ≤ kvs.length + 1 := by
  unfold putK
  split
  · rw [List.length_map]
    omega
  · rw [List.length_append]
    exact Nat.le_refl _
section
variable {P : Program} {w : World} {K : PySem.W.Frag} {mg : Str → Option Value} {base : Heap}
/-! ### last_worths, known -/
def spLastW (K : PySem.W.Frag) : Sp := fun vs H Q _ => ∃ (l : Addr) (n : Int) (rs : List Rw), vs = [.ref l, .int n] ∧ LD K H l (rs.map rd) ∧ rs.length ≤ 900 ∧
  ∀ (d : Addr) (H' : Hp), Same H H' → H d = none → H' d = some (.dK (lwV (fun r => vw r.2.2) rs n)) → Q (.ref d) H'
theorem ok_lastW {f : Addr} {fd : FuncData} {k : Nat} (F : Fun K "last_worths" "last_worths" sLastW f fd) : FnOk P w K mg base CX0 (k + 1) f fd ["rows", "number"] (spLastW K) := by
  refine F.ok scLastW (fun vs H Q E h => ?_) (fun cdv A outer s H vs Q E hr h => ?_)
  · obtain ⟨l, n, rs, rfl, _⟩ := h
    rfl
  · obtain ⟨l, n, rs, rfl, ⟨xs, hx, hd⟩, hlen, q⟩ := h
    have hu := hu_of hr
    refine ⟨_, pss_cons (ps_set (i := 2) scLastW.nd rfl (.inl rfl) pe_dnewK)
      (pss_cons (ps_for PassesOwn.never rfl (pi_list (pv 0)) (pg_tup rfl (pgs_cons (pg_name (i := 3) scLastW.nd rfl (.inl rfl)) (pgs_cons (pg_name (i := 4) scLastW.nd rfl (.inl rfl)) (pgs_cons (pg_name (i := 5) scLastW.nd rfl (.inl rfl)) pgs_nil))))
        (pss_one (ps_if (pt_cmpR op_le (pv 4) (pv 1) (nomark _))
          (pss_one (ps_dput hu (pv 2) (pv 3) (pv 5) rfl))
          pss_nil)))
      (pss_one (ps_ret (pv 2)))), ?_⟩
    intro d nd
    have sd := same_new (o := .dK []) nd
    refine ⟨_, rfl, l, rfl, ⟨_, SqL.of (sd _ _ hx)⟩, for_list (K := K) (a := l) (xs := xs) (fun i σ H2 => ∃ z3 z4 z5 : Option V, σ = [some (.ref l), some (.int n), some (.ref d), z3, z4, z5] ∧ Same H H2 ∧ H2 d = some (.dK (lwV (fun r => vw r.2.2) (rs.take i) n))) ?_ ?_ ?_ ?_⟩
    · exact ⟨none, none, none, rfl, sd, upd_same⟩
    · rintro i σ H2 _ ⟨_, _, _, _, sm, _⟩
      exact SqL.of (sm _ _ hx)
    · rintro i v σ H2 hi ⟨z3, z4, z5, rfl, sm, h2⟩
      obtain ⟨r, hr1, dr⟩ := dl_at hd hi
      obtain ⟨a, rfl, ha⟩ := dp_rd (dp_same sm dr)
      refine ⟨a, _, rfl, ha, rfl, .int r.1, [.int r.2.1, vw r.2.2], rfl, .int r.2.1, [vw r.2.2], rfl, vw r.2.2, [], rfl, rfl, ?_⟩
      refine ⟨_, rfl, _, rfl, _, _, rfl, rfl, _, rfl, ite2 (fun g => ?_) (fun g => ?_)⟩
      · have g1 : r.2.1 ≤ n := of_decide_eq_true g
        have ln := lwV_len (fun r => vw r.2.2) (rs.take i) n
        rw [List.length_take] at ln
        refine ⟨_, rfl, _, rfl, _, rfl, d, _, rfl, DPut.k (k := Sum.inl r.1) h2 (small1000 (by omega)), _, _, _, rfl, same_put nd sm, ?_⟩
        rw [upd_same, take_snoc hr1, lwV_snoc, if_pos g1]
      · have g1 : ¬ r.2.1 ≤ n := fun z => g (decide_eq_true z)
        refine ⟨_, _, _, rfl, sm, ?_⟩
        rw [h2, take_snoc hr1, lwV_snoc, if_neg g1]
    · rintro σ H2 ⟨z3, z4, z5, rfl, sm, h2⟩
      rw [dl_len hd, List.take_length] at h2
      exact ⟨_, rfl, q d H2 sm nd h2⟩
def spKnown (K : PySem.W.Frag) : Sp := fun vs H Q _ => ∃ (l : Addr) (n : Int) (rs : List Rw), vs = [.ref l, .int n] ∧ LD K H l (rs.map rd) ∧ rs.length ≤ 900 ∧
  ∀ (D : Addr) (H' : Hp), Same H H' → H D = none → LD K H' D ((kn rs n).map pd) → Q (.ref D) H'
theorem ok_known {f : Addr} {fd : FuncData} {k : Nat} (F : Fun K "known" "known" sKnown f fd) (C_last_worths : Cal P w K mg base k "last_worths" ["rows", "number"] (spLastW K)) : FnOk P w K mg base CX0 (k + 1) f fd ["rows", "number"] (spKnown K) := by
  refine F.ok scKnown (fun vs H Q E h => ?_) (fun cdv A outer s H vs Q E hr h => ?_)
  · obtain ⟨l, n, rs, rfl, _⟩ := h
    rfl
  · obtain ⟨l, n, rs, rfl, ld, hlen, q⟩ := h
    refine ⟨_, pss_one (ps_ret (pe_lc (own := [("time", 2), ("worth", 3)]) (g := gTup K 2 _) rfl scKnown.nd (pi_items (pe_frz (pe_cal C_last_worths (hr.mono (by omega)) (by rfl) (pa_cons (pv 0) (pa_cons (pv 1) pa_nil))))) (blkOk_by (own := [("time", 2), ("worth", 3)]) (N := NKn) (sc := defScope sKnown) (by decide +kernel)) (fun _ _ _ _ _ => (pg_tup rfl (pgs_cons (pg_name (i := 2) scKnown.nd rfl (.inl rfl)) (pgs_cons (pg_name (i := 3) scKnown.nd rfl (.inl rfl)) pgs_nil)))) (fun _ _ _ _ _ => pts_one (pt_cmpR op_notN (pv 3) pe_non (nomark _))) (fun _ _ _ _ _ => (pe_tup (pa_cons (pv 2) (pa_cons (pv 3) pa_nil)))))), ?_⟩
    refine ⟨_, rfl, _, rfl, l, n, rs, rfl, ld, hlen, fun d H1 s1 nd hd1 => ?_⟩
    refine ⟨d, _, rfl, hd1, trivial, fun od => ?_⟩
    have sF : Same H (upd H1 d (.frz od (.dK (lwV (fun r => vw r.2.2) rs n)))) := same_put nd s1
    have hF : (upd H1 d (.frz od (.dK (lwV (fun r => vw r.2.2) rs n)))) d = some (.frz od (.dK (lwV (fun r => vw r.2.2) rs n))) := upd_same
    revert sF hF
    generalize upd H1 d (.frz od (.dK (lwV (fun r => vw r.2.2) rs n))) = H2
    intro sF hF
    refine ⟨d, od, _, rfl, hF, fun D nD => lc_it walk_items (fun j Hc => Same H2 Hc ∧ LD K Hc D ((((lwR rs n).take j).filterMap fun p => p.2.2.2.map fun w => (p.1, w)).map pd)) ⟨same_new nD, ⟨[], upd_same, .nil⟩⟩ (fun j Hc _ h => h.1 _ _ hF) ?_ ?_⟩
    · rintro j v Hc Hc' hj ⟨sc, ys, hD, hdy⟩ ⟨T, x, y, rfl, nT, rfl, ex, ey⟩
      dsimp only at ex ey
      rw [lwV_eq, List.getElem?_map] at ex ey
      obtain ⟨kv, ekv, ex⟩ := Option.map_eq_some_iff.mp ex
      obtain ⟨pr, hpr, rfl⟩ := Option.map_eq_some_iff.mp ekv
      subst ex
      rw [hpr] at ey
      cases ey
      obtain ⟨pt, pq, pn, ow⟩ := pr
      have lys : ys.length ≤ rs.length := by
        have h1 := dl_len hdy
        have h2 := List.length_filterMap_le (fun p : Int × Rw => p.2.2.2.map fun w => (p.1, w)) ((lwR rs n).take j)
        have h3 := lwR_len rs n
        rw [List.length_take] at h2
        omega
      refine ⟨T, _, rfl, SqT.of upd_same, rfl, _, _, rfl, _, [], rfl, rfl, rfl, ?_⟩
      refine ⟨_, rfl, rfl, _, rfl, ?_⟩
      cases ow with
      | none =>
        have sT := same_new (o := .tup [.int pt, .non]) nT
        refine if_f ⟨sc.trans sT, ?_⟩
        rw [take_snoc hpr, List.filterMap_append, List.filterMap_cons_none rfl, List.filterMap_nil, List.append_nil]
        exact LD.same sT ⟨ys, hD, hdy⟩
      | some w1 =>
        have sT := same_new (o := .tup [.int pt, .int w1]) nT
        refine if_t ?_
        refine ⟨_, rfl, _, rfl, by show 2 ≤ sizeLine; decide, fun t2 nt2 => ?_⟩
        have s2 := same_new (o := .tup [.int pt, .int w1]) (H := upd Hc T (.tup [.int pt, .int w1])) nt2
        have sq := sT.trans s2
        refine ⟨_, sq _ _ hD, small1000 (by omega), same_put nD (sc.trans sq), ?_⟩
        have ef : List.filterMap (fun p : Int × Rw => p.2.2.2.map fun w => (p.1, w)) [(pt, pq, pn, some w1)] = [(pt, w1)] := rfl
        rw [take_snoc hpr, List.filterMap_append, ef, List.map_append]
        exact LD.snoc (KT.of sq) (sq _ _ hD) hdy (td_pds _) (pd_new (x := (pt, w1)) upd_same) (td_pd _)
    · rintro Hc ⟨sc, ld2⟩
      refine q D Hc (sF.trans sc) (sF.free nD) ?_
      rw [lwV_eq, List.length_map, List.take_length] at ld2
      exact ld2
/-! ### needed_flags, needless, thinned -/
def spFlags (K : PySem.W.Frag) : Sp := fun vs H Q _ => ∃ (l : Addr) (n : Int) (rs : List Rw), vs = [.ref l, .int n] ∧ LD K H l (rs.map rd) ∧ Srt rs ∧ rs.length ≤ 900 ∧
  ∀ (D : Addr) (H' : Hp), Same H H' → H D = none → H' D = some (.lst ((rs.map (fl rs n)).map V.bl)) → Q (.ref D) H'
theorem ok_flags {f : Addr} {fd : FuncData} {k : Nat} (F : Fun K "needed_flags" "needed_flags" sFlags f fd) : FnOk P w K mg base CX0 (k + 1) f fd ["rows", "number"] (spFlags K) := by
  refine F.ok scFlags (fun vs H Q E h => ?_) (fun cdv A outer s H vs Q E hr h => ?_)
  · obtain ⟨l, n, rs, rfl, _⟩ := h
    rfl
  · obtain ⟨l, n, rs, rfl, ⟨xs, hx, hd⟩, hs, hlen, q⟩ := h
    have hu := hu_of hr
    refine ⟨_, pss_cons (ps_set (i := 2) scFlags.nd rfl (.inr rfl) pe_dnewK)
      (pss_cons (ps_for PassesOwn.never rfl (pi_list (pv 0)) (pg_tup rfl (pgs_cons (pg_name (i := 3) scFlags.nd rfl (.inl rfl)) (pgs_cons (pg_name (i := 4) scFlags.nd rfl (.inl rfl)) (pgs_cons (pg_name (i := 5) scFlags.nd rfl (.inl rfl)) pgs_nil))))
        (pss_one (ps_if (pt_cmpR op_le (pv 4) (pv 1) (nomark _))
          (pss_one (ps_dput hu (pv 2) (pv 3) (pv 4) rfl))
          pss_nil)))
      (pss_one (ps_ret (pe_lc (own := [("time", 3), ("own_number", 4), ("worth", 5)]) (g := gTup K 3 _) (tt := tYes) rfl scFlags.nd (pi_list (pv 0)) (blkOk_by (own := [("time", 3), ("own_number", 4), ("worth", 5)]) (N := NFl) (sc := defScope sFlags) (by decide +kernel)) (fun _ _ _ _ _ => (pg_tup rfl (pgs_cons (pg_name (i := 3) scFlags.nd rfl (.inl rfl)) (pgs_cons (pg_name (i := 4) scFlags.nd rfl (.inl rfl)) (pgs_cons (pg_name (i := 5) scFlags.nd rfl (.inl rfl)) pgs_nil))))) (fun _ _ _ _ _ => pts_nil) (fun _ _ _ _ _ => (pe_or (pe_cmpR op_gt (pv 4) (pv 1) (nomark _)) (pe_one (pe_and (pe_cmpR op_eq (pe_dget hu (pv 2) (pv 3) (fun _ _ => rfl)) (pv 4) (nomark _)) (pe_one (pe_cmpR op_notN (pv 5) pe_non (nomark _))))))))))), ?_⟩
    intro d nd
    have sd := same_new (o := .dK []) nd
    refine ⟨_, rfl, l, rfl, ⟨_, SqL.of (sd _ _ hx)⟩, for_list (K := K) (a := l) (xs := xs) (fun i σ H2 => ∃ z3 z4 z5 : Option V, σ = [some (.ref l), some (.int n), some (.ref d), z3, z4, z5] ∧ Same H H2 ∧ H2 d = some (.dK (lwV (fun r => .int r.2.1) (rs.take i) n))) ?_ ?_ ?_ ?_⟩
    · exact ⟨none, none, none, rfl, sd, upd_same⟩
    · rintro i σ H2 _ ⟨_, _, _, _, sm, _⟩
      exact SqL.of (sm _ _ hx)
    · rintro i v σ H2 hi ⟨z3, z4, z5, rfl, sm, h2⟩
      obtain ⟨r, hr1, dr⟩ := dl_at hd hi
      obtain ⟨a, rfl, ha⟩ := dp_rd (dp_same sm dr)
      refine ⟨a, _, rfl, ha, rfl, .int r.1, [.int r.2.1, vw r.2.2], rfl, .int r.2.1, [vw r.2.2], rfl, vw r.2.2, [], rfl, rfl, ?_⟩
      refine ⟨_, rfl, _, rfl, _, _, rfl, rfl, _, rfl, ite2 (fun g => ?_) (fun g => ?_)⟩
      · have g1 : r.2.1 ≤ n := of_decide_eq_true g
        have ln := lwV_len (fun r => .int r.2.1) (rs.take i) n
        rw [List.length_take] at ln
        refine ⟨_, rfl, _, rfl, _, rfl, d, _, rfl, DPut.k (k := Sum.inl r.1) h2 (small1000 (by omega)), _, _, _, rfl, same_put nd sm, ?_⟩
        rw [upd_same, take_snoc hr1, lwV_snoc, if_pos g1]
      · have g1 : ¬ r.2.1 ≤ n := fun z => g (decide_eq_true z)
        refine ⟨_, _, _, rfl, sm, ?_⟩
        rw [h2, take_snoc hr1, lwV_snoc, if_neg g1]
    · rintro σ H2 ⟨z3, z4, z5, rfl, sm, h2⟩
      rw [dl_len hd, List.take_length] at h2
      refine ⟨_, rfl, l, rfl, ⟨_, SqL.of (sm _ _ hx)⟩, fun D nD => lc_list (K := K) (a := l) (xs := xs) (fun j Hc => Same H2 Hc ∧ Hc D = some (.lst (((rs.take j).map (fl rs n)).map V.bl))) ⟨same_new nD, upd_same⟩ (fun j Hc _ h => SqL.of (h.1 _ _ (sm _ _ hx))) ?_ ?_⟩
      · rintro j v Hc hj ⟨sc, hD⟩
        obtain ⟨r, hr1, dr⟩ := dl_at hd hj
        obtain ⟨a, rfl, ha⟩ := dp_rd (dp_same (sm.trans sc) dr)
        refine ⟨a, _, rfl, ha, rfl, .int r.1, [.int r.2.1, vw r.2.2], rfl, .int r.2.1, [vw r.2.2], rfl, vw r.2.2, [], rfl, rfl, rfl, ?_⟩
        unfold tYes
        dsimp only
        rw [if_pos rfl]
        have fin : ∀ b : Bool, b = fl rs n r → ∃ acc, Hc D = some (.lst acc) ∧ acc.length < sizeLine ∧ Same H2 (upd Hc D (.lst (acc ++ [.bl b]))) ∧ (upd Hc D (.lst (acc ++ [.bl b]))) D = some (.lst (((rs.take (j + 1)).map (fl rs n)).map V.bl)) := fun b eb => by
          refine ⟨_, hD, ?_, same_put nD sc, ?_⟩
          · rw [List.length_map, List.length_map, List.length_take]
            exact small1000 (by omega)
          · rw [upd_same, take_snoc hr1, List.map_append, List.map_append, eb]
            rfl
        refine ⟨_, rfl, _, rfl, _, _, rfl, rfl, _, rfl, ite2 (fun g => ?_) (fun g => ?_)⟩
        · exact fin true (decide_eq_true (.inl (of_decide_eq_true g))).symm
        · have g1 : ¬ n < r.2.1 := fun z => g (decide_eq_true z)
          obtain ⟨la, hla, ela⟩ := last_there hs (List.mem_of_getElem? hr1) (n := n) (by omega)
          have hv := lwV_last (f := fun r => .int r.2.1) hs hla
          rw [ela] at hv
          refine ⟨_, rfl, _, rfl, d, _, rfl, hv ▸ DGet.k (k := Sum.inl r.1) (sc _ _ h2), _, rfl, rfl, _, rfl, ite2 (fun g2 => ?_) (fun g2 => ?_)⟩
          · have e2 : la.2.1 = r.2.1 := V.int.inj (of_decide_eq_true g2)
            have el : la = r := srt_same hs hla.1 (List.mem_of_getElem? hr1) ela e2
            refine ⟨_, rfl, rfl, fin _ ?_⟩
            rw [vw_non]
            unfold fl
            cases ew : r.2.2 with
            | none =>
              refine (decide_eq_false fun z => ?_).symm
              rcases z with z | z
              · exact g1 z
              · exact z.2 ew
            | some i => exact (decide_eq_true (.inr ⟨el ▸ hla, fun z => by rw [ew] at z; cases z⟩)).symm
          · have ne : ¬ la.2.1 = r.2.1 := fun z => g2 (decide_eq_true (congrArg V.int z))
            refine fin false (decide_eq_false fun z => ?_).symm
            rcases z with z | z
            · exact g1 z
            · exact ne (congrArg (·.2.1) (last_uniq hs hla z.1 ela))
      · rintro Hc ⟨sc, hD⟩
        rw [dl_len hd, List.take_length] at hD
        exact q D Hc (sm.trans sc) (sm.free nD) hD
def spPick (K : PySem.W.Frag) (g : List Rw → Int → List Rw) : Sp := fun vs H Q _ => ∃ (l : Addr) (n : Int) (rs : List Rw), vs = [.ref l, .int n] ∧ LD K H l (rs.map rd) ∧ Srt rs ∧ rs.length ≤ 900 ∧
  ∀ (D : Addr) (H' : Hp), Same H H' → H D = none → LD K H' D ((g rs n).map rd) → Q (.ref D) H'
theorem ok_thinned {f : Addr} {fd : FuncData} {k : Nat} (F : Fun K "thinned" "thinned" sThinned f fd) (C_needed_flags : Cal P w K mg base k "needed_flags" ["rows", "number"] (spFlags K)) (m_zip : mg "zip" = none) : FnOk P w K mg base CX0 (k + 1) f fd ["rows", "number"] (spPick K thin) := by
  refine F.ok scThinned (fun vs H Q E h => ?_) (fun cdv A outer s H vs Q E hr h => ?_)
  · obtain ⟨l, n, rs, rfl, _⟩ := h
    rfl
  · obtain ⟨l, n, rs, rfl, ld, hs, hlen, q⟩ := h
    obtain ⟨xs, hx, hd⟩ := id ld
    refine ⟨_, pss_one (ps_ret (pe_lc (own := [("row", 2), ("needed", 3)]) (g := gTup K 2 _) rfl scThinned.nd (pi_zip (by rfl) m_zip (pa_cons (pv 0) (pa_cons (pe_cal C_needed_flags (hr.mono (by omega)) (by rfl) (pa_cons (pv 0) (pa_cons (pv 1) pa_nil))) pa_nil))) (blkOk_by (own := [("row", 2), ("needed", 3)]) (N := NNd) (sc := defScope sThinned) (by decide +kernel)) (fun _ _ _ _ _ => (pg_tup rfl (pgs_cons (pg_name (i := 2) scThinned.nd rfl (.inl rfl)) (pgs_cons (pg_name (i := 3) scThinned.nd rfl (.inl rfl)) pgs_nil)))) (fun _ _ _ _ _ => pts_one (pt_val (pv 3))) (fun _ _ _ _ _ => (pv 2)))), ?_⟩
    refine ⟨_, rfl, _, rfl, _, rfl, l, n, rs, rfl, ld, hs, hlen, fun D0 H1 s1 nD0 hD0 => ?_⟩
    have hx1 := s1 _ _ hx
    have hd1 := dpAll_same s1 hd
    refine ⟨l, D0, xs, _, rfl, SqL.of hx1, SqL.of hD0, fun D nD => lc_it (walk_zip (n := rs.length) (by rw [List.length_map, List.length_map, dl_len hd]; omega)) (fun j Hc => Same H1 Hc ∧ LD K Hc D (((rs.take j).filter (fl rs n)).map rd)) ⟨same_new nD, ⟨[], upd_same, .nil⟩⟩ (fun j Hc _ h => ⟨SqL.of (h.1 _ _ hx1), SqL.of (h.1 _ _ hD0)⟩) ?_ ?_⟩
    · rintro j v Hc Hc' hj ⟨sc, ys, hD, hdy⟩ ⟨T, x, y, rfl, nT, rfl, ex, ey⟩
      dsimp only at ex ey
      obtain ⟨r, hr1, dr⟩ := dl_at hd1 ex
      rw [List.getElem?_map, List.getElem?_map, hr1] at ey
      cases ey
      have sT := same_new (o := .tup [x, .bl (fl rs n r)]) nT
      have lys : ys.length ≤ rs.length := by
        have h1 := dl_len hdy
        have h2 := List.length_filter_le (fl rs n) (rs.take j)
        rw [List.length_take] at h2
        omega
      refine ⟨T, _, rfl, SqT.of upd_same, rfl, _, _, rfl, _, [], rfl, rfl, rfl, ?_⟩
      refine ⟨_, rfl, _, rfl, ?_⟩
      cases ef : fl rs n r with
      | false =>
        refine if_f ⟨sc.trans (by rw [← ef]; exact sT), ?_⟩
        rw [take_snoc hr1, List.filter_append, List.filter_cons, if_neg (by rw [ef]; decide), List.filter_nil, List.append_nil]
        exact LD.same (by rw [← ef]; exact sT) ⟨ys, hD, hdy⟩
      | true =>
        rw [ef] at sT
        refine if_t ⟨_, rfl, _, sT _ _ hD, small1000 (by omega), same_put nD (sc.trans sT), ?_⟩
        rw [take_snoc hr1, List.filter_append, List.filter_cons, if_pos ef, List.filter_nil, List.map_append]
        exact LD.snoc (KT.of sT) (sT _ _ hD) hdy (td_rds _) (dp_same (sc.trans sT) dr) (td_rd _)
    · rintro Hc ⟨sc, ld2⟩
      rw [List.take_length] at ld2
      exact q D Hc (s1.trans sc) (s1.free nD) ld2
end
end Tg

set_option maxHeartbeats 1000000
namespace Tg
open PySem PySem.Spec PyProof.Rows L2
abbrev sLast : Stmt := topS 10
abbrev sLKnown : Stmt := topS 11
abbrev NLk : List Str := ["_law_rows_here", "_law_number", "_law_last_here", "_law_time"]
theorem scLast : FnScope ["_law_rows_here", "_law_number", "_law_last_here", "_law_row"] ["_law_rows_here", "_law_number"] (defScope sLast) := ⟨rfl, rfl, rfl, by decide +kernel, rfl, by decide +kernel, by decide +kernel⟩
theorem scLKnown : FnScope NLk ["_law_rows_here", "_law_number"] (defScope sLKnown) := ⟨rfl, rfl, rfl, by decide +kernel, rfl, by decide +kernel, by decide +kernel⟩
theorem perm_eq {ys ks : List Int} (h : ys.Perm ks) (h1 : ys.Pairwise (· ≤ ·)) (h2 : ks.Pairwise (· < ·)) : ys = ks := by
  have nd : ks.Nodup := by
    unfold List.Nodup
    exact h2.imp fun {a b} l e => by omega
  have nd2 : ys.Nodup := h.nodup_iff.mpr nd
  refine ext_sorted (lt := fun a b : Int => a < b) (fun a => Int.lt_irrefl a) (fun a b c => Int.lt_trans) ?_ h2 fun a => h.mem_iff
  unfold List.Nodup at nd2
  exact (h1.and nd2).imp fun {a b} l => by
    have := l.2
    omega
/-- the last of a list, as a list -/
theorem cut_last (ys : List V) : cutV ys (some (-1)) none = match ys.getLast? with
    | none => []
    | some v => [v] := by
  rcases List.eq_nil_or_concat ys with rfl | ⟨g, x, e⟩
  · rfl
  · rw [List.concat_eq_append] at e
    subst e
    rw [List.getLast?_concat]
    have e1 : HT.sIx (g ++ [x]).length 0 (some (-1)) = g.length := by
      show (if (-1 : Int) < 0 then (-1 + ((g ++ [x]).length : Int)).toNat else min (-1 : Int).toNat (g ++ [x]).length) = _
      rw [if_pos (by decide), List.length_append]
      show (-1 + ((g.length + 1 : Nat) : Int)).toNat = _
      omega
    unfold cutV
    rw [e1, HT.sIx_none, List.drop_left, List.length_append]
    have : g.length + [x].length - g.length = 1 := by
      show g.length + 1 - g.length = 1
      omega
    rw [this]
    rfl
theorem pd_inj (x y : Int × Int) : PyData.eqv (pd x) (pd y) = true → x = y := fun h => by
  have z : ((x.1 == y.1) && ((x.2 == y.2) && true)) = true := h
  rw [Bool.and_true, Bool.and_eq_true] at z
  exact Prod.ext (eq_of_beq z.1) (eq_of_beq z.2)
theorem pds_inj : ∀ (xs ys : List (Int × Int)), PyData.eqvAll (xs.map pd) (ys.map pd) = true → xs = ys
  | [], [], _ => rfl
  | [], y :: ys, h => nomatch h
  | x :: xs, [], h => nomatch h
  | x :: xs, y :: ys, h => by
    have z : (PyData.eqv (pd x) (pd y) && PyData.eqvAll (xs.map pd) (ys.map pd)) = true := h
    rw [Bool.and_eq_true] at z
    rw [pd_inj x y z.1, pds_inj xs ys z.2]
section
variable {P : Program} {w : World} {K : PySem.W.Frag} {mg : Str → Option Value} {base : Heap}
def spLast (K : PySem.W.Frag) : Sp := fun vs H Q _ => ∃ (l : Addr) (n : Int) (rs : List Rw), vs = [.ref l, .int n] ∧ LD K H l (rs.map rd) ∧ Srt rs ∧ rs.length ≤ 36 ∧
  ∀ (d : Addr) (f : Rw → V) (H' : Hp), Same H H' → H d = none → H' d = some (.dK (lwV f rs n)) → (∀ r, r ∈ rs → Dp K H' (f r) (rd r)) → Q (.ref d) H'
theorem ok_last {f : Addr} {fd : FuncData} {k : Nat} (F : Fun K "_law_last" "_law_last" sLast f fd) : FnOk P w K mg base CX0 (k + 1) f fd ["_law_rows_here", "_law_number"] (spLast K) := by
  refine F.ok scLast (fun vs H Q E h => ?_) (fun cdv A outer s H vs Q E hr h => ?_)
  · obtain ⟨l, n, rs, rfl, _⟩ := h
    rfl
  · obtain ⟨l, n, rs, rfl, ⟨xs, hx, hd⟩, hs, hlen, q⟩ := h
    have hu := hu_of hr
    refine ⟨_, pss_cons (ps_set (i := 2) scLast.nd rfl (.inl rfl) pe_dnewK)
      (pss_cons (ps_for PassesOwn.never rfl (pi_list (pv 0)) (pg_name (i := 3) scLast.nd rfl (.inl rfl))
        (pss_one (ps_if (pt_cmpR op_le (pe_ix ix_tup (pv 3) pe_int (fun _ _ => rfl)) (pv 1) (nomark _))
          (pss_one (ps_dput hu (pv 2) (pe_ix ix_tup (pv 3) pe_int (fun _ _ => rfl)) (pv 3) rfl))
          pss_nil)))
      (pss_one (ps_ret (pv 2)))), ?_⟩
    obtain ⟨fv, hfv⟩ := val_fun rs xs hs.nodup
    intro d nd
    have sd := same_new (o := .dK []) nd
    refine ⟨_, rfl, l, rfl, ⟨_, SqL.of (sd _ _ hx)⟩, for_list (K := K) (a := l) (xs := xs) (fun i σ H2 => ∃ z3 : Option V, σ = [some (.ref l), some (.int n), some (.ref d), z3] ∧ Same H H2 ∧ H2 d = some (.dK (lwV fv (rs.take i) n))) ⟨none, rfl, sd, upd_same⟩ ?_ ?_ ?_⟩
    · rintro i σ H2 _ ⟨_, _, sm, _⟩
      exact SqL.of (sm _ _ hx)
    · rintro i v σ H2 hi ⟨z3, rfl, sm, h2⟩
      obtain ⟨r, hr1, dr⟩ := dl_at hd hi
      have ev := hfv i r v hr1 hi
      obtain ⟨a, rfl, ha⟩ := dp_rd (dp_same sm dr)
      refine ⟨_, rfl, a, _, 1, .int r.2.1, rfl, rfl, ha, rfl, _, rfl, _, _, rfl, rfl, _, rfl, ite2 (fun g => ?_) (fun g => ?_)⟩
      · have g1 : r.2.1 ≤ n := of_decide_eq_true g
        have ln := lwV_len fv (rs.take i) n
        rw [List.length_take] at ln
        refine ⟨_, rfl, _, rfl, _, rfl, a, _, 0, .int r.1, rfl, rfl, ha, rfl, d, _, rfl, DPut.k (k := Sum.inl r.1) h2 (small1000 (by omega)), _, rfl, same_put nd sm, ?_⟩
        rw [upd_same, take_snoc hr1, lwV_snoc, if_pos g1, ev]
      · have g1 : ¬ r.2.1 ≤ n := fun z => g (decide_eq_true z)
        refine ⟨_, rfl, sm, ?_⟩
        rw [h2, take_snoc hr1, lwV_snoc, if_neg g1]
    · rintro σ H2 ⟨z3, rfl, sm, h2⟩
      rw [dl_len hd, List.take_length] at h2
      refine ⟨_, rfl, q d fv H2 sm nd h2 fun r hr2 => ?_⟩
      obtain ⟨i, hi, e⟩ := List.getElem_of_mem hr2
      have e1 : rs[i]? = some r := by rw [List.getElem?_eq_getElem hi, e]
      obtain ⟨v, hv, dv⟩ := dl_get hd e1
      rw [hfv i r v e1 hv]
      exact dp_same sm dv
def spLKnown (K : PySem.W.Frag) : Sp := fun vs H Q _ => ∃ (l : Addr) (n : Int) (rs : List Rw), vs = [.ref l, .int n] ∧ LD K H l (rs.map rd) ∧ Srt rs ∧ rs.length ≤ 36 ∧
  ∀ (D : Addr) (H' : Hp), Same H H' → H D = none → LD K H' D ((kn rs n).map pd) → Q (.ref D) H'
theorem ok_lknown {f : Addr} {fd : FuncData} {k : Nat} (F : Fun K "_law_known" "_law_known" sLKnown f fd) (L_last : Cal P w K mg base k "_law_last" ["_law_rows_here", "_law_number"] (spLast K)) (m_sorted : mg "sorted" = none) : FnOk P w K mg base CX0 (k + 1) f fd ["_law_rows_here", "_law_number"] (spLKnown K) := by
  refine F.ok scLKnown (fun vs H Q E h => ?_) (fun cdv A outer s H vs Q E hr h => ?_)
  · obtain ⟨l, n, rs, rfl, _⟩ := h
    rfl
  · obtain ⟨l, n, rs, rfl, ld, hs, hlen, q⟩ := h
    have hu := hu_of hr
    refine ⟨_, pss_cons (ps_set (i := 2) scLKnown.nd rfl (.inr rfl) (pe_cal L_last (hr.mono (by omega)) (by rfl) (pa_cons (pv 0) (pa_cons (pv 1) pa_nil))))
      (pss_one (ps_ret (pe_lc (own := [("_law_time", 3)]) (g := (gName 3)) rfl scLKnown.nd (pi_list (pe_callB (call_sortedDI rfl) (by rfl) m_sorted boot_sorted (pa_cons (pv 2) pa_nil))) (blkOk_by (own := [("_law_time", 3)]) (N := NLk) (sc := defScope sLKnown) (by decide +kernel)) (fun _ _ _ _ _ => (pg_name (i := 3) scLKnown.nd rfl (.inl rfl))) (fun _ _ _ _ _ => pts_one (pt_cmpR op_notN (pe_ix (r := rIxT K) ix_tup (pe_dget hu (pv 2) (pv 3) (fun _ _ => rfl)) pe_int (fun _ _ => rfl)) pe_non (nomark _))) (fun _ _ _ _ _ => (pe_tup (pa_cons (pv 3) (pa_cons (pe_ix (r := rIxT K) ix_tup (pe_dget hu (pv 2) (pv 3) (fun _ _ => rfl)) pe_int (fun _ _ => rfl)) pa_nil))))))), ?_⟩
    refine ⟨_, rfl, _, rfl, l, n, rs, rfl, ld, hs, hlen, fun d fv H1 s1 nd hd1 hf => ?_⟩
    have hl := lwR_len rs n
    have keys := (lwR_is (n := n) rs hs).1
    refine ⟨_, rfl, d, _, (lwR rs n).map (·.1), rfl, .inl hd1, ?_, by rw [List.length_map]; omega, fun ys p hp hle np => ?_⟩
    · rw [lwV_eq, List.map_map, List.map_map]
      rfl
    · have e1 : ys = (lwR rs n).map (·.1) := perm_eq hp hle (by rw [List.pairwise_map]; exact keys)
      subst e1
      have sp := same_new (o := .lst (((lwR rs n).map (·.1)).map V.int)) np
      have hp2 : (upd H1 p (.lst (((lwR rs n).map (·.1)).map V.int))) p = some (.lst (((lwR rs n).map (·.1)).map V.int)) := upd_same
      refine ⟨p, rfl, ⟨_, SqL.of hp2⟩, fun D nD => lc_list (K := K) (a := p) (xs := ((lwR rs n).map (·.1)).map V.int) (fun j Hc => Same (upd H1 p (.lst (((lwR rs n).map (·.1)).map V.int))) Hc ∧ LD K Hc D ((((lwR rs n).take j).filterMap fun p => p.2.2.2.map fun w => (p.1, w)).map pd)) ⟨same_new nD, ⟨[], upd_same, .nil⟩⟩ (fun j Hc _ h => SqL.of (h.1 _ _ hp2)) ?_ ?_⟩
      · rintro j v Hc hj ⟨sc, zs, hD, hdz⟩
        rw [List.getElem?_map, List.getElem?_map] at hj
        obtain ⟨t, ht, rfl⟩ := Option.map_eq_some_iff.mp hj
        obtain ⟨pr, hpr, rfl⟩ := Option.map_eq_some_iff.mp ht
        obtain ⟨e2, il⟩ := ((lwR_is (n := n) rs hs).2 pr).mp (List.mem_of_getElem? hpr)
        have sq := sp.trans sc
        have hv : valV (lwV fv rs n) (Sum.inl pr.1 : Key) = some (fv pr.2) := by
          rw [e2]
          exact lwV_last hs il
        obtain ⟨a, ea, ha⟩ := dp_rd (dp_same sq (hf pr.2 il.1))
        have dg : DGet Hc d (.int pr.1) (some (.ref a)) := by
          rw [← ea, ← hv]
          exact DGet.k (k := Sum.inl pr.1) (sq _ _ hd1)
        have lz : zs.length ≤ rs.length := by
          have h1 := dl_len hdz
          have h2 := List.length_filterMap_le (fun p : Int × Rw => p.2.2.2.map fun w => (p.1, w)) ((lwR rs n).take j)
          rw [List.length_take] at h2
          omega
        obtain ⟨pt, pq, pn, ow⟩ := pr
        refine ⟨rfl, _, rfl, _, rfl, d, _, rfl, dg, a, _, 2, vw ow, rfl, rfl, ha, rfl, rfl, _, rfl, ?_⟩
        cases ow with
        | none =>
          refine if_f ⟨sc, zs, hD, ?_⟩
          rw [take_snoc hpr, List.filterMap_append, List.filterMap_cons_none rfl, List.filterMap_nil, List.append_nil]
          exact hdz
        | some w1 =>
          refine if_t ?_
          refine ⟨_, rfl, _, rfl, _, rfl, d, _, rfl, dg, a, _, 2, .int w1, rfl, rfl, ha, rfl, by show 2 ≤ sizeLine; decide, fun t2 nt2 => ?_⟩
          have s2 := same_new (o := .tup [.int pt, .int w1]) nt2
          have ef : List.filterMap (fun p : Int × Rw => p.2.2.2.map fun w => (p.1, w)) [(pt, pq, pn, some w1)] = [(pt, w1)] := rfl
          refine ⟨_, s2 _ _ hD, small1000 (by omega), same_put nD (sc.trans s2), ?_⟩
          rw [take_snoc hpr, List.filterMap_append, ef, List.map_append]
          exact LD.snoc (KT.of s2) (s2 _ _ hD) hdz (td_pds _) (pd_new (x := (pt, w1)) upd_same) (td_pd _)
      · rintro Hc ⟨sc, ld2⟩
        rw [List.length_map, List.length_map, List.take_length] at ld2
        exact q D Hc ((s1.trans sp).trans sc) ((s1.trans sp).free nD) ld2
end
end Tg

set_option maxHeartbeats 1000000
namespace Tg
open PySem PySem.Spec PyProof.Rows L2
abbrev sPoured : Stmt := topS 5
abbrev NPo : List Str := ["one", "two", "rows", "row", "key"]
theorem scPoured : FnScope NPo ["one", "two"] (defScope sPoured) := ⟨rfl, rfl, rfl, by decide +kernel, rfl, by decide +kernel, by decide +kernel⟩
/-! ### the mathematics -/
def ky (r : Rw) : Int × Int := (r.1, r.2.1)
def kk (r : Rw) : List Key := [Sum.inl r.1, Sum.inl r.2.1]
/-- out: the rows of L that are in one of both, in order -/
structure Pour (rs qs out : List Rw) : Prop where
  srt : Srt out
  mem : ∀ r, r ∈ out ↔ r ∈ rs ∨ r ∈ qs
theorem kk_inj {a b : Rw} (h : kk a = kk b) : ky a = ky b := by
  injection h with h1 h2
  injection h2 with h2 _
  exact Prod.ext (Sum.inl.inj h1) (Sum.inl.inj h2)
/-- rows of one sorted list are told apart by their keys -/
theorem ky_same {L : List Rw} (h : Srt L) {a b : Rw} (ha : a ∈ L) (hb : b ∈ L) (e : ky a = ky b) : a = b := by
  have e1 := congrArg Prod.fst e
  have e2 := congrArg Prod.snd e
  exact srt_same h ha hb e1 e2
theorem putK_keys {kvs : List (List Key × V)} {k : List Key} {v : V} (nd : (kvs.map (·.1)).Nodup) : ((putK kvs k v).map (·.1)).Nodup := by
  unfold putK
  split
  · rw [List.map_map]
    have e : kvs.map ((fun x => x.1) ∘ fun kv => if kv.1 = k then (kv.1, v) else kv) = kvs.map (·.1) := List.map_congr_left fun x _ => by
      show (if x.1 = k then (x.1, v) else x).1 = x.1
      split <;> rfl
    rw [e]
    exact nd
  · rename_i c
    rw [List.map_append, List.nodup_append]
    refine ⟨nd, List.pairwise_singleton _ _, fun a ha b hb z => ?_⟩
    obtain ⟨x, hx, rfl⟩ := List.mem_map.mp ha
    have eb : b = k := List.mem_singleton.mp hb
    exact c (List.any_eq_true.mpr ⟨x, hx, decide_eq_true (z.trans eb)⟩)
theorem mem_putK {kvs : List (List Key × V)} {k : List Key} {v : V} {e : List Key × V} (h : e ∈ putK kvs k v) : e = (k, v) ∨ e ∈ kvs := by
  unfold putK at h
  split at h
  · obtain ⟨x, hx, rfl⟩ := List.mem_map.mp h
    by_cases c : x.1 = k
    · rw [if_pos c, c]
      exact .inl rfl
    · rw [if_neg c]
      exact .inr hx
  · rcases List.mem_append.mp h with old | new
    · exact .inr old
    · exact .inl (List.mem_singleton.mp new)
theorem valV_mem {kvs : List (List Key × V)} {k : List Key} {v : V} (h : valV kvs k = some v) : (k, v) ∈ kvs := by
  unfold valV at h
  obtain ⟨x, hx, rfl⟩ := Option.map_eq_some_iff.mp h
  have := List.find?_some hx
  have e : x.1 = k := of_decide_eq_true this
  rw [← e]
  exact List.mem_of_find?_eq_some hx
theorem mem_valV {kvs : List (List Key × V)} (nd : (kvs.map (·.1)).Nodup) {e : List Key × V} (h : e ∈ kvs) : valV kvs e.1 = some e.2 := by
  induction kvs with
  | nil => cases h
  | cons x r ih =>
    rw [List.map_cons] at nd
    have n1 := (List.nodup_cons.mp nd).1
    rcases List.mem_cons.mp h with here | there
    · rw [here]
      exact valV_pos rfl
    · rw [valV_neg (fun z => n1 (by rw [z]; exact List.mem_map.mpr ⟨e, there, rfl⟩))]
      exact ih (List.nodup_cons.mp nd).2 there
/-- the dict of some rows, behind some of them -/
structure RowsD (K : PySem.W.Frag) (Hc : Hp) (D : Addr) (L : List Rw) (kvs : List (List Key × V)) : Prop where
  at_ : Hc D = some (.dT kvs)
  nd : (kvs.map (·.1)).Nodup
  each : ∀ e, e ∈ kvs → ∃ r, r ∈ L ∧ e.1 = kk r ∧ Dp K Hc e.2 (rd r)
  all : ∀ r, r ∈ L → ∃ v, (kk r, v) ∈ kvs
theorem RowsD.kt {K : PySem.W.Frag} {H H' : Hp} {D : Addr} {L : List Rw} {kvs : List (List Key × V)} (h : RowsD K H D L kvs) (s : Same H H') : RowsD K H' D L kvs :=
  ⟨s _ _ h.at_, h.nd, fun e he => by
    obtain ⟨r, h1, h2, h3⟩ := h.each e he
    exact ⟨r, h1, h2, dp_same s h3⟩, h.all⟩
theorem RowsD.put {K : PySem.W.Frag} {H : Hp} {D : Addr} {L : List Rw} {kvs : List (List Key × V)} (h : RowsD K H D L kvs) {r : Rw} {v : V} (dv : Dp K H v (rd r)) : RowsD K (upd H D (.dT (putK kvs (kk r) v))) D (L ++ [r]) (putK kvs (kk r) v) := by
  have kt : KT H (upd H D (.dT (putK kvs (kk r) v))) := KT.put h.at_ (fun z => z)
  refine ⟨upd_same, putK_keys h.nd, fun e he => ?_, fun q hq => ?_⟩
  · rcases mem_putK he with rfl | old
    · exact ⟨r, List.mem_append_right _ (List.mem_singleton.mpr rfl), rfl, dp_kt kt dv (td_rd _)⟩
    · obtain ⟨q, h1, h2, h3⟩ := h.each e old
      exact ⟨q, List.mem_append_left _ h1, h2, dp_kt kt h3 (td_rd _)⟩
  · have there : ∀ u, valV (putK kvs (kk r) v) (kk q) = some u → ∃ v', (kk q, v') ∈ putK kvs (kk r) v := fun u hu => ⟨u, valV_mem hu⟩
    by_cases c : kk q = kk r
    · exact there v (by rw [valV_put, if_pos c])
    · rcases List.mem_append.mp hq with old | new
      · obtain ⟨u, hu⟩ := h.all q old
        exact there u (by rw [valV_put, if_neg c]; exact mem_valV h.nd hu)
      · exact absurd (by rw [List.mem_singleton.mp new]) c
theorem isKeys_mem {H : Hp} : ∀ {kvs : List (List Key × V)} {bs : List Addr}, IsKeys H kvs bs → (∀ b, b ∈ bs → ∃ e, e ∈ kvs ∧ H b = some (.tup (e.1.map kV))) ∧ (∀ e, e ∈ kvs → ∃ b, b ∈ bs ∧ H b = some (.tup (e.1.map kV)))
  | _, _, .nil => ⟨(fun _ h => nomatch h), (fun _ h => nomatch h)⟩
  | _, _, .cons h r => by
    obtain ⟨i1, i2⟩ := isKeys_mem r
    refine ⟨fun b hb => ?_, fun e he => ?_⟩
    · rcases List.mem_cons.mp hb with here | there
      · exact ⟨_, List.mem_cons_self, by rw [here]; exact h⟩
      · obtain ⟨e, m, z⟩ := i1 b there
        exact ⟨e, List.mem_cons_of_mem _ m, z⟩
    · rcases List.mem_cons.mp he with here | there
      · exact ⟨_, List.mem_cons_self, by rw [here]; exact h⟩
      · obtain ⟨b, m, z⟩ := i2 e there
        exact ⟨b, List.mem_cons_of_mem _ m, z⟩
/-- no key twice: no two keys' tuples are alike -/
theorem isKeys_nodup {H : Hp} : ∀ {kvs : List (List Key × V)} {bs : List Addr}, IsKeys H kvs bs → (kvs.map (·.1)).Nodup → (∀ e, e ∈ kvs → ∃ r : Rw, e.1 = kk r) → (bs.map (two H)).Nodup
  | _, _, .nil, _, _ => List.nodup_nil
  | _, _, .cons h r, nd, form => by
    rw [List.map_cons] at nd ⊢
    have n1 := (List.nodup_cons.mp nd).1
    refine List.nodup_cons.mpr ⟨fun z => ?_, isKeys_nodup r (List.nodup_cons.mp nd).2 fun e he => form e (List.mem_cons_of_mem _ he)⟩
    obtain ⟨b, hb, eb⟩ := List.mem_map.mp z
    obtain ⟨e, he, hbe⟩ := (isKeys_mem r).1 b hb
    obtain ⟨r1, e1⟩ := form _ List.mem_cons_self
    obtain ⟨r2, e2⟩ := form e (List.mem_cons_of_mem _ he)
    rw [e1] at h
    rw [e2] at hbe
    rw [two_of (x := r1.1) (y := r1.2.1) h, two_of (x := r2.1) (y := r2.2.1) hbe] at eb
    refine n1 (List.mem_map.mpr ⟨e, he, ?_⟩)
    rw [e1, e2]
    have f1 := congrArg Prod.fst eb
    have f2 := congrArg Prod.snd eb
    replace f1 : r2.1 = r1.1 := f1
    replace f2 : r2.2.1 = r1.2.1 := f2
    unfold kk
    rw [f1, f2]
section
variable {P : Program} {w : World} {K : PySem.W.Frag} {mg : Str → Option Value} {base : Heap}
def spPoured (K : PySem.W.Frag) : Sp := fun vs H Q _ => ∃ (l1 l2 : Addr) (rs qs L : List Rw), vs = [.ref l1, .ref l2] ∧ LD K H l1 (rs.map rd) ∧ LD K H l2 (qs.map rd) ∧ rs.length ≤ 400 ∧ qs.length ≤ 400 ∧ Srt L ∧ (∀ r, r ∈ rs ∨ r ∈ qs → r ∈ L) ∧
  ∀ (l : Addr) (out : List Rw) (H' : Hp), Same H H' → H l = none → LD K H' l (out.map rd) → Pour rs qs out → Q (.ref l) H'
theorem ok_poured {f : Addr} {fd : FuncData} {k : Nat} (F : Fun K "poured" "poured" sPoured f fd) (m_sorted : mg "sorted" = none) : FnOk P w K mg base CX0 (k + 1) f fd ["one", "two"] (spPoured K) := by
  refine F.ok scPoured (fun vs H Q E h => ?_) (fun cdv A outer s H vs Q E hr h => ?_)
  · obtain ⟨l1, l2, rs, qs, L, rfl, _⟩ := h
    rfl
  · obtain ⟨l1, l2, rs, qs, L, rfl, ⟨xs, hx, dx⟩, ⟨ys, hy, dy⟩, lr, lq, srt, inL, q⟩ := h
    have hu := hu_of hr
    refine ⟨_, pss_cons (ps_set (i := 2) scPoured.nd rfl (.inr rfl) (pe_dcT (own := [("row", 3)]) (g := (gName 3)) (tt := tYes) rfl scPoured.nd hu (pi_list (pe_lst (StX.pa_star (pv 0) (StX.pa_star (pv 1) pa_nil)))) (blkOk_by (own := [("row", 3)]) (N := NPo) (sc := defScope sPoured) (by decide +kernel)) (fun _ _ _ _ _ => (pg_name (i := 3) scPoured.nd rfl (.inl rfl))) (fun _ _ _ _ _ => pts_nil)
        (fun _ _ _ _ _ => pe_tup (pa_cons (pe_ix (r := rIxT K) ix_tup (pv 3) pe_int (fun _ _ => rfl)) (pa_cons (pe_ix (r := rIxT K) ix_tup (pv 3) pe_int (fun _ _ => rfl)) pa_nil))) (fun _ _ _ _ _ => (pv 3))))
      (pss_one (ps_ret (pe_lc (own := [("key", 4)]) (g := (gName 4)) (tt := tYes) rfl scPoured.nd (pi_list (pe_callB (cr_sortDT rfl) (by rfl) m_sorted boot_sorted (pa_cons (pv 2) pa_nil))) (blkOk_by (own := [("key", 4)]) (N := NPo) (sc := defScope sPoured) (by decide +kernel)) (fun _ _ _ _ _ => (pg_name (i := 4) scPoured.nd rfl (.inl rfl))) (fun _ _ _ _ _ => pts_nil) (fun _ _ _ _ _ => (pe_dget hu (pv 2) (pv 4) (fun _ _ => rfl)))))), ?_⟩
    have d0 : DpAll K H (xs ++ ys) ((rs ++ qs).map rd) := by
      rw [List.map_append]
      exact dpAll_app dx dy
    have lx := dl_len dx
    have ly := dl_len dy
    have lxy := dl_len d0
    have e2 : xs ++ (ys ++ []) = xs ++ ys := by rw [List.append_nil]
    refine ⟨_, rfl, l1, xs, rfl, .inr (SqL.of hx), _, rfl, l2, ys, rfl, .inr (SqL.of hy), ?_⟩
    show (xs ++ (ys ++ [])).length ≤ sizeLine ∧ _
    rw [e2]
    refine ⟨by rw [List.length_append]; exact Nat.le_of_lt (small1000 (by omega)), fun l nl => ?_⟩
    have s1 := same_new (o := .lst (xs ++ ys)) nl
    have hl1 : (upd H l (.lst (xs ++ ys))) l = some (.lst (xs ++ ys)) := upd_same
    refine ⟨l, rfl, ⟨_, SqL.of hl1⟩, fun D nD => dcT_it (walk_list (K := K) (a := l) (xs := xs ++ ys)) (fun j Hc => Same (upd H l (.lst (xs ++ ys))) Hc ∧ ∃ kvs, RowsD K Hc D ((rs ++ qs).take j) kvs ∧ kvs.length ≤ j) ?_ ?_ ?_ ?_⟩
    · exact ⟨same_new nD, [], ⟨upd_same, List.nodup_nil, (fun _ z => nomatch z), fun r z => by rw [List.take_zero] at z; cases z⟩, Nat.zero_le _⟩
    · rintro j Hc _ ⟨sc, _⟩
      exact SqL.of (sc _ _ hl1)
    · rintro j x Hc Hd hj ⟨sc, kvs, rd_, lk⟩ ⟨rfl, ex⟩
      obtain ⟨r, hr1, dr⟩ := dl_at (dpAll_same (s1.trans sc) d0) ex
      obtain ⟨a, rfl, ha⟩ := dp_rd dr
      refine ⟨rfl, ?_⟩
      unfold tYes
      refine (if_pos rfl).mpr ?_
      refine ⟨_, rfl, a, _, 0, .int r.1, rfl, rfl, ha, rfl, _, rfl, a, _, 1, .int r.2.1, rfl, rfl, ha, rfl, by show 2 ≤ sizeLine; decide, fun t nt => ?_⟩
      have st := same_new (o := .tup [.int r.1, .int r.2.1]) nt
      have rd2 := rd_.kt st
      refine ⟨_, rfl, kvs, kk r, t, rfl, upd_same, rd2.at_, small1000 (by rw [List.length_append] at hj; omega), ?_, putK kvs (kk r) (.ref a), ?_, Nat.le_trans (length_putK _ _ _) (Nat.succ_le_succ lk)⟩
      · exact same_put nD (sc.trans st)
      · rw [take_snoc hr1]
        exact rd2.put (dp_same st dr)
    · rintro Hc ⟨sc, kvs, rd_, lk⟩
      rw [lxy, List.take_length] at rd_
      have s2 := s1.trans sc
      refine ⟨_, rfl, D, kvs, rfl, rd_.at_, fun e he => ?_, fun bs zs p isk perm ord np => ?_⟩
      · obtain ⟨r, _, h2, _⟩ := rd_.each e he
        exact ⟨r.1, r.2.1, h2⟩
      have s3 := same_new (o := .lst (zs.map V.ref)) np
      have hp : (upd Hc p (.lst (zs.map V.ref))) p = some (.lst (zs.map V.ref)) := upd_same
      -- the keys, told apart
      have nd := isKeys_nodup isk rd_.nd fun e he => by
        obtain ⟨r, _, h2, _⟩ := rd_.each e he
        exact ⟨r, h2⟩
      have ndz : (zs.map (two Hc)).Nodup := (perm.map (two Hc)).nodup_iff.mpr nd
      have strict : (zs.map (two Hc)).Pairwise fun x y => x.1 < y.1 ∨ (x.1 = y.1 ∧ x.2 < y.2) := by
        rw [List.pairwise_map]
        have n2 : zs.Pairwise fun a b => two Hc a ≠ two Hc b := by
          unfold List.Nodup at ndz
          rw [List.pairwise_map] at ndz
          exact ndz
        exact (ord.and n2).imp fun {a b} z => by
          obtain ⟨z1, z2⟩ := z
          by_cases c : (two Hc a).1 = (two Hc b).1
          · refine .inr ⟨c, ?_⟩
            have : (two Hc a).2 ≠ (two Hc b).2 := fun y => z2 (Prod.ext c y)
            omega
          · omega
      have lz : zs.length ≤ 800 := by
        have h1 := perm.length_eq
        have h2 := Paired.length isk
        rw [lxy] at lk
        rw [List.length_append] at lk
        omega
      refine ⟨p, rfl, ⟨_, SqL.of hp⟩, fun R nR => lc_it (walk_list (K := K) (a := p) (xs := zs.map V.ref)) (fun j He => Same (upd Hc p (.lst (zs.map V.ref))) He ∧ ∃ out : List Rw, LD K He R (out.map rd) ∧ out.map ky = (zs.take j).map (two Hc) ∧ ∀ r, r ∈ out → r ∈ rs ++ qs) ?_ ?_ ?_ ?_⟩
      · exact ⟨same_new nR, [], ⟨[], upd_same, .nil⟩, rfl, fun _ z => nomatch z⟩
      · rintro j He _ ⟨se, _⟩
        exact SqL.of (se _ _ hp)
      · rintro j x He Hf hj ⟨se, out, ⟨us, hR, du⟩, eo, mo⟩ ⟨rfl, ex⟩
        replace ex : (zs.map V.ref)[j]? = some x := ex
        rw [List.getElem?_map] at ex
        obtain ⟨b, hb, rfl⟩ := Option.map_eq_some_iff.mp ex
        obtain ⟨e, he, hbe⟩ := (isKeys_mem isk).1 b (perm.mem_iff.mp (List.mem_of_getElem? hb))
        obtain ⟨r, hr1, ek, dv⟩ := rd_.each e he
        have s4 := s3.trans se
        have rd4 := rd_.kt s4
        rw [ek] at hbe
        have tb : two Hc b = ky r := two_of hbe
        refine ⟨rfl, ?_⟩
        unfold tYes
        refine (if_pos rfl).mpr ?_
        have get : DGet Hf D (.ref b) (some e.2) := by
          have z := DGet.t (k := kk r) rd4.at_ (s4 _ _ hbe)
          rw [← ek, mem_valV rd_.nd he] at z
          exact z
        have lu := dl_len du
        have lo := congrArg List.length eo
        rw [List.length_map, List.length_map, List.length_take] at lo
        refine ⟨_, rfl, _, rfl, D, e.2, rfl, get, _, hR, small1000 (by omega), same_put nR se, out ++ [r], ?_, ?_, fun q2 hq2 => ?_⟩
        · rw [List.map_append]
          exact LD.snoc (KT.refl _) hR du (td_rds _) (dp_same s4 dv) (td_rd _)
        · rw [List.map_append, eo, take_snoc hb, List.map_append]
          show _ ++ [ky r] = _ ++ [two Hc b]
          rw [tb]
        · rcases List.mem_append.mp hq2 with old | new
          · exact mo q2 old
          · rw [List.mem_singleton.mp new]
            exact hr1
      · rintro He ⟨se, out, ldR, eo, mo⟩
        rw [List.length_map, List.take_length] at eo
        have sA := (s2.trans s3).trans se
        refine q R out He sA ((s2.trans s3).free nR) ldR ⟨?_, fun r => ⟨fun hr1 => ?_, fun hr1 => ?_⟩⟩
        · have z : (out.map ky).Pairwise fun x y => x.1 < y.1 ∨ (x.1 = y.1 ∧ x.2 < y.2) := by
            rw [eo]
            exact strict
          rw [List.pairwise_map] at z
          exact z
        · exact List.mem_append.mp (mo r hr1)
        · obtain ⟨v, hv⟩ := rd_.all r (List.mem_append.mpr hr1)
          obtain ⟨b, hb, hbe⟩ := (isKeys_mem isk).2 _ hv
          have tb : two Hc b = ky r := two_of hbe
          have m : ky r ∈ out.map ky := by
            rw [eo, ← tb]
            exact List.mem_map.mpr ⟨b, perm.mem_iff.mpr hb, rfl⟩
          obtain ⟨r2, h2, e2⟩ := List.mem_map.mp m
          rw [← ky_same srt (inL r2 (List.mem_append.mp (mo r2 h2))) (inL r hr1) e2]
          exact h2
end
end Tg

set_option maxHeartbeats 1000000
namespace Tg
open PySem PySem.Spec PyProof.Rows L2
abbrev sParts : Stmt := topS 12
theorem scParts : FnScope ["_law_draws_here", "_law_rows_here", "_law_parts_here", "_law_row", "_law_pick", "_law_k"] ["_law_draws_here", "_law_rows_here"] (defScope sParts) := ⟨rfl, rfl, rfl, by decide +kernel, rfl, by decide +kernel, by decide +kernel⟩
/-- the three parts: k of them have row i already -/
structure Pts (K : PySem.W.Frag) (Hc : Hp) (as : List Addr) (Ls : List (List Rw)) (R : List Rw) (i k : Nat) : Prop where
  len : Ls.length = 3
  ld : ∀ (j : Nat) (a : Addr) (L : List Rw), as[j]? = some a → Ls[j]? = some L → LD K Hc a (L.map rd)
  sub : ∀ (j : Nat) (L : List Rw), Ls[j]? = some L → L.Sublist (R.take (if j < k then i + 1 else i))
theorem Pts.same {K : PySem.W.Frag} {H H' : Hp} {as : List Addr} {Ls : List (List Rw)} {R : List Rw} {i k : Nat} (h : Pts K H as Ls R i k) (s : Same H H') : Pts K H' as Ls R i k :=
  ⟨h.len, fun j a L e1 e2 => (h.ld j a L e1 e2).same s, h.sub⟩
theorem Pts.kp {K : PySem.W.Frag} {H H' : Hp} {as : List Addr} {Ls : List (List Rw)} {R : List Rw} {i k n : Nat} {p : Addr} (h : Pts K H as Ls R i k) (d : Dr H p n) (kp : Kp p H H') (ne : ∀ a, a ∈ as → a ≠ p) : Pts K H' as Ls R i k :=
  ⟨h.len, fun j a L e1 e2 => d.ld kp (ne a (List.mem_of_getElem? e1)) (td_rds L) (h.ld j a L e1 e2), h.sub⟩
theorem sub_step {R L : List Rw} {i j k : Nat} (h : L.Sublist (R.take (if j < k then i + 1 else i))) : L.Sublist (R.take (if j < k + 1 then i + 1 else i)) := by
  refine h.trans ?_
  by_cases c : j < k
  · rw [if_pos c, if_pos (by omega)]
    exact List.Sublist.refl _
  · rw [if_neg c]
    split
    · rw [List.take_add_one]
      exact List.sublist_append_left _ _
    · exact List.Sublist.refl _
section
variable {P : Program} {w : World} {K : PySem.W.Frag} {mg : Str → Option Value} {base : Heap}
def spParts (K : PySem.W.Frag) : Sp := fun vs H Q _ => ∃ (p l0 : Addr) (n : Nat) (R : List Rw), vs = [.ref p, .ref l0] ∧ Dr H p n ∧ n < 900000 ∧ l0 ≠ p ∧ LD K H l0 (R.map rd) ∧ R.length ≤ 36 ∧
  ∀ (l a1 a2 a3 : Addr) (A B C : List Rw) (H' : Hp), Kp p H H' → Dr H' p (n + 36) → H' l = some (.lst [.ref a1, .ref a2, .ref a3]) → a1 ≠ p → a2 ≠ p → a3 ≠ p → LD K H' a1 (A.map rd) → LD K H' a2 (B.map rd) → LD K H' a3 (C.map rd) → A.Sublist R → B.Sublist R → C.Sublist R → Q (.ref l) H'
theorem ok_parts {f : Addr} {fd : FuncData} {k : Nat} (F : Fun K "_law_parts" "_law_parts" sParts f fd) (L_next : Cal P w K mg base k "_law_next" ["_law_draws_here"] spNext) (m_range : mg "range" = none) : FnOk P w K mg base CX0 (k + 1) f fd ["_law_draws_here", "_law_rows_here"] (spParts K) := by
  refine F.ok scParts (fun vs H Q E h => ?_) (fun cdv A outer s H vs Q E hr h => ?_)
  · obtain ⟨p, l0, n, R, rfl, _⟩ := h
    rfl
  · obtain ⟨p, l0, n, R, rfl, hp, hn, n0p, ⟨xs, hx, dx⟩, lR, q⟩ := h
    refine ⟨_, pss_cons (ps_set (i := 2) scParts.nd rfl (.inl rfl) (pe_lst (pa_cons (pe_lst pa_nil) (pa_cons (pe_lst pa_nil) (pa_cons (pe_lst pa_nil) pa_nil)))))
      (pss_cons (ps_for PassesOwn.never rfl (pi_list (pv 1)) (pg_name (i := 3) scParts.nd rfl (.inl rfl))
        (pss_cons (ps_set (i := 4) scParts.nd rfl (.inl rfl) (pe_cal L_next (hr.mono (by omega)) (by rfl) (pa_cons (pv 0) pa_nil)))
        (pss_one (ps_for PassesOwn.never rfl (pi_range1 (by rfl) m_range (pa_cons pe_int pa_nil)) (pg_name (i := 5) scParts.nd rfl (.inl rfl))
          (pss_one (ps_if (pt_cmpR op_eq (pe_op op_mod (pe_op op_fdiv (pv 4) (pe_ix ix_list (pe_lst (pa_cons pe_int (pa_cons pe_int (pa_cons pe_int pa_nil)))) (pv 5) (fun _ _ => rfl))) pe_int) pe_int (nomark _))
            (pss_one (ps_expr (pe_bm PySem.F.plainAttrs_list PySem.F.slot_list_append PySem.F.type_list_append mt_append (pe_ix ix_list (pv 2) (pv 5) (fun _ _ => rfl)) (pa_cons (pv 3) pa_nil))))
            pss_nil))))))
      (pss_one (ps_ret (pv 2)))), ?_⟩
    refine ⟨Nat.zero_le _, fun a1 m1 => ⟨Nat.zero_le _, fun a2 m2 => ⟨Nat.zero_le _, fun a3 m3 => ⟨by show 3 ≤ sizeLine; decide, fun l nl => ?_⟩⟩⟩⟩
    have s1 : Same H (upd H a1 (.lst [])) := same_new m1
    have s2 : Same (upd H a1 (.lst [])) (upd (upd H a1 (.lst [])) a2 (.lst [])) := same_new m2
    have s3 : Same (upd (upd H a1 (.lst [])) a2 (.lst [])) (upd (upd (upd H a1 (.lst [])) a2 (.lst [])) a3 (.lst [])) := same_new m3
    have s4 := same_new (o := .lst [V.ref a1, V.ref a2, V.ref a3]) nl
    have s14 := ((s1.trans s2).trans s3).trans s4
    have g1 : (upd (upd (upd H a1 (.lst [])) a2 (.lst [])) a3 (.lst [])) a1 = some (.lst []) := s3 _ _ (s2 _ _ upd_same)
    have g2 : (upd (upd (upd H a1 (.lst [])) a2 (.lst [])) a3 (.lst [])) a2 = some (.lst []) := s3 _ _ upd_same
    have g3 : (upd (upd (upd H a1 (.lst [])) a2 (.lst [])) a3 (.lst [])) a3 = some (.lst []) := upd_same
    have n12 : a1 ≠ a2 := ne_of_none (show (upd H a1 (.lst [])) a1 = some (.lst []) from upd_same) m2
    have n13 : a1 ≠ a3 := ne_of_none (s2 _ _ upd_same) m3
    have n23 : a2 ≠ a3 := ne_of_none (show (upd (upd H a1 (.lst [])) a2 (.lst [])) a2 = some (.lst []) from upd_same) m3
    have d3 := ((hp.same s1).same s2).same s3
    have d4 := d3.same s4
    have f1 : H a1 = none := m1
    have f2 : H a2 = none := s1.free m2
    have f3 : H a3 = none := (s1.trans s2).free m3
    have fl : H l = none := ((s1.trans s2).trans s3).free nl
    have p1 := hp.ne f1
    have p2 := hp.ne f2
    have p3 := hp.ne f3
    have pl := hp.ne fl
    have r1 : a1 ≠ l := ne_of_none g1 nl
    have r2 : a2 ≠ l := ne_of_none g2 nl
    have r3 : a3 ≠ l := ne_of_none g3 nl
    have hl4 : (upd (upd (upd (upd H a1 (.lst [])) a2 (.lst [])) a3 (.lst [])) l (.lst [V.ref a1, V.ref a2, V.ref a3])) l = some (.lst [V.ref a1, V.ref a2, V.ref a3]) := upd_same
    have P0 : Pts K (upd (upd (upd (upd H a1 (.lst [])) a2 (.lst [])) a3 (.lst [])) l (.lst [V.ref a1, V.ref a2, V.ref a3])) [a1, a2, a3] [[], [], []] R 0 0 := by
      refine ⟨rfl, fun j a L e1 e2 => ?_, fun j L e => ?_⟩
      · match j, e1, e2 with
        | 0, rfl, rfl => exact ⟨[], s4 _ _ g1, .nil⟩
        | 1, rfl, rfl => exact ⟨[], s4 _ _ g2, .nil⟩
        | 2, rfl, rfl => exact ⟨[], s4 _ _ g3, .nil⟩
      · match j, e with
        | 0, rfl => exact List.nil_sublist _
        | 1, rfl => exact List.nil_sublist _
        | 2, rfl => exact List.nil_sublist _
    obtain ⟨H4, e4⟩ : ∃ H4, upd (upd (upd (upd H a1 (.lst [])) a2 (.lst [])) a3 (.lst [])) l (.lst [V.ref a1, V.ref a2, V.ref a3]) = H4 := ⟨_, rfl⟩
    rw [e4] at s14 d4 hl4 P0
    rw [e4]
    clear s4
    have nas : ∀ a, a ∈ [a1, a2, a3] → a ≠ p ∧ a ≠ l ∧ a ≠ l0 := fun a ha => by
      have nl0 : ∀ b, H b = none → b ≠ l0 := fun b hb z => by
        rw [z, hx] at hb
        cases hb
      simp only [List.mem_cons, or_false, List.not_mem_nil] at ha
      rcases ha with rfl | rfl | rfl
      · exact ⟨p1, r1, nl0 _ f1⟩
      · exact ⟨p2, r2, nl0 _ f2⟩
      · exact ⟨p3, r3, nl0 _ f3⟩
    have lx := dl_len dx
    -- what stands all along
    refine ⟨_, rfl, l0, rfl, ⟨_, SqL.of (s14 _ _ hx)⟩, for_list (K := K) (a := l0) (xs := xs) (fun i σ Hc => ∃ (Ls : List (List Rw)) (z3 z4 z5 : Option V), σ = [some (.ref p), some (.ref l0), some (.ref l), z3, z4, z5] ∧ Kp p H Hc ∧ Dr Hc p (n + i) ∧ Hc l = some (.lst [V.ref a1, V.ref a2, V.ref a3]) ∧ Pts K Hc [a1, a2, a3] Ls R i 0) ?_ ?_ ?_ ?_⟩
    · exact ⟨_, none, none, none, rfl, .of s14, d4, hl4, P0⟩
    · rintro i σ Hc _ ⟨_, _, _, _, _, kc, _⟩
      exact SqL.of (kc _ _ n0p hx)
    · rintro i x σ Hc hi ⟨Ls, z3, z4, z5, rfl, kc, dc, hlc, P⟩
      have hi' : i < 36 := by
        have := (List.getElem?_eq_some_iff.mp hi).1
        omega
      refine ⟨_, rfl, p, _, rfl, dc, by omega, fun v H5 k5 d5 v0 v1 => ?_⟩
      have P5 := P.kp dc k5 fun a ha => (nas a ha).1
      have kH5 := kc.trans k5
      have hl5 := k5 _ _ pl hlc
      refine ⟨3, rfl, by decide, by decide, for_range (n := 3) (fun j σ He => ∃ (Ls : List (List Rw)) (z5 : Option V), σ = [some (.ref p), some (.ref l0), some (.ref l), some x, some (.int v), z5] ∧ Kp p H He ∧ Dr He p (n + i + 1) ∧ He l = some (.lst [V.ref a1, V.ref a2, V.ref a3]) ∧ Pts K He [a1, a2, a3] Ls R i j) ?_ ?_ ?_⟩
      · exact ⟨Ls, z5, rfl, kH5, d5, hl5, P5⟩
      · rintro j σ He hj ⟨Ls, z5, rfl, ke, de, hle, Pe⟩
        obtain ⟨r, hr1, dr0⟩ := dl_at dx hi
        have dr := dp_kt (hp.kt ke) dr0 (td_rd _)
        obtain ⟨t, rfl, ht⟩ := dp_rd dr
        refine ⟨_, rfl, by show 3 ≤ sizeLine; decide, fun m nm => ?_⟩
        have s6 := same_new (o := .lst ([1, 2, 4].map V.int)) nm
        obtain ⟨c, hc, ec⟩ := atI_mem (xs := [1, 2, 4]) (i := 0 + (j : Int)) (by omega) (by show _ < (3 : Int); omega)
        have cb : 0 < c ∧ c < 2 ^ 30 := by
          simp only [List.mem_cons, or_false, List.not_mem_nil] at hc
          rcases hc with rfl | rfl | rfl <;> decide
        refine ⟨_, rfl, m, _, _, .int c, rfl, rfl, SqL.of upd_same, ec, _, _, rfl, rfl, cb, _, _, rfl, rfl, (by show (0 : Int) < 2; decide), rfl, _, rfl, ite2 (fun g => ?_) (fun g => ?_)⟩
        · -- put behind
          have k6 := ke.trans (.of s6)
          have hl6 := s6 _ _ hle
          have P6 := Pe.same s6
          obtain ⟨L, eL⟩ : ∃ L, Ls[j]? = some L := ⟨_, List.getElem?_eq_getElem (by rw [Pe.len]; exact hj)⟩
          obtain ⟨a, ea⟩ : ∃ a, [a1, a2, a3][j]? = some a := ⟨_, List.getElem?_eq_getElem (show j < [a1, a2, a3].length from hj)⟩
          obtain ⟨us, hu, du⟩ := P6.ld j a L ea eL
          obtain ⟨na1, na2, na3⟩ := nas a (List.mem_of_getElem? ea)
          have lu : us.length ≤ 36 := by
            have h1 := dl_len du
            have h2 := (P6.sub j L eL).length_le
            rw [List.length_take] at h2
            omega
          have ev : atI [V.ref a1, V.ref a2, V.ref a3] (0 + (j : Int)) = some (.ref a) := by
            rw [Int.zero_add]
            refine atI_nat ?_
            show ([a1, a2, a3].map V.ref)[j]? = _
            rw [List.getElem?_map, ea]
            rfl
          refine ⟨_, rfl, _, rfl, l, _, _, .ref a, rfl, rfl, SqL.of hl6, ev, .inl ⟨rfl, _, SqL.of hu⟩, _, rfl, a, us, _, rfl, rfl, hu, small1000 (by omega), ?_⟩
          have kt : KT (upd He m (.lst ([1, 2, 4].map V.int))) (upd (upd He m (.lst ([1, 2, 4].map V.int))) a (.lst (us ++ [.ref t]))) := KT.put hu nfix_lst
          have nH : H a = none := by
            have h := List.mem_of_getElem? ea
            simp only [List.mem_cons, or_false, List.not_mem_nil] at h
            rcases h with rfl | rfl | rfl
            · exact f1
            · exact f2
            · exact f3
          refine ⟨Ls.set j (L ++ [r]), _, rfl, fun b o hb e => ?_, ?_, ?_, ?_⟩
          · rw [upd_ne (ne_of_none e nH)]
            exact k6 _ _ hb e
          · obtain ⟨da, dk, db, e1, e2⟩ := de.same s6
            exact ⟨da, dk, db, by rw [upd_ne na1.symm]; exact e1, e2⟩
          · rw [upd_ne na2.symm]
            exact hl6
          · refine ⟨by rw [List.length_set]; exact Pe.len, fun j2 b L2 e1 e2 => ?_, fun j2 L2 e2 => ?_⟩
            · by_cases c2 : j2 = j
              · subst c2
                rw [ea] at e1
                cases e1
                rw [List.getElem?_set_self (by rw [Pe.len]; exact hj)] at e2
                cases e2
                rw [List.map_append]
                exact LD.snoc (KT.refl _) hu du (td_rds _) (dp_same s6 dr) (td_rd _)
              · rw [List.getElem?_set_ne (fun z => c2 z.symm)] at e2
                have nb : b ≠ a := fun z => by
                  subst z
                  have i1 := (List.getElem?_eq_some_iff.mp e1).1
                  have i1' : j2 < 3 := i1
                  match j, j2, hj, i1', ea, e1, c2 with
                  | 0, 0, _, _, _, _, c => exact c rfl
                  | 1, 1, _, _, _, _, c => exact c rfl
                  | 2, 2, _, _, _, _, c => exact c rfl
                  | 0, 1, _, _, e, e', _ => exact n12 (Option.some.inj (e.trans e'.symm))
                  | 1, 0, _, _, e, e', _ => exact n12 (Option.some.inj (e'.trans e.symm))
                  | 0, 2, _, _, e, e', _ => exact n13 (Option.some.inj (e.trans e'.symm))
                  | 2, 0, _, _, e, e', _ => exact n13 (Option.some.inj (e'.trans e.symm))
                  | 1, 2, _, _, e, e', _ => exact n23 (Option.some.inj (e.trans e'.symm))
                  | 2, 1, _, _, e, e', _ => exact n23 (Option.some.inj (e'.trans e.symm))
                exact (P6.ld j2 b L2 e1 e2).kt kt (fun o e => by rw [upd_ne nb]; exact e) (td_rds _)
            · by_cases c2 : j2 = j
              · subst c2
                rw [List.getElem?_set_self (by rw [Pe.len]; exact hj)] at e2
                cases e2
                rw [if_pos (Nat.lt_succ_self _), take_snoc hr1]
                have z := P6.sub j2 L eL
                rw [if_neg (Nat.lt_irrefl _)] at z
                exact z.append (List.Sublist.refl _)
              · rw [List.getElem?_set_ne (fun z => c2 z.symm)] at e2
                exact sub_step (P6.sub j2 L2 e2)
        · exact ⟨Ls, _, rfl, ke.trans (.of s6), de.same s6, s6 _ _ hle, (Pe.same s6).len, (Pe.same s6).ld, fun j2 L2 e2 => sub_step (Pe.sub j2 L2 e2)⟩
      · rintro σ He ⟨Ls, z5, rfl, ke, de, hle, Pe⟩
        refine ⟨Ls, _, _, _, rfl, ke, de, hle, Pe.len, Pe.ld, fun j L e => ?_⟩
        have z := Pe.sub j L e
        have jl : j < 3 := by
          have := (List.getElem?_eq_some_iff.mp e).1
          rw [Pe.len] at this
          exact this
        rw [if_pos jl] at z
        rw [if_neg (Nat.not_lt_zero _)]
        exact z
    · rintro σ Hc ⟨Ls, z3, z4, z5, rfl, kc, dc, hlc, Pc⟩
      obtain ⟨A1, B1, C1, eL⟩ : ∃ A1 B1 C1, Ls = [A1, B1, C1] := by
        match Ls, Pc.len with
        | [a, b, c], _ => exact ⟨a, b, c, rfl⟩
      subst eL
      have full : ∀ L : List Rw, L.Sublist (R.take (if 0 < 0 then xs.length + 1 else xs.length)) → L.Sublist R := fun L h => h.trans (List.take_sublist _ _)
      refine ⟨_, rfl, q l a1 a2 a3 A1 B1 C1 Hc kc (dc.mono (by omega)) hlc p1 p2 p3 (Pc.ld 0 a1 A1 rfl rfl) (Pc.ld 1 a2 B1 rfl rfl) (Pc.ld 2 a3 C1 rfl rfl) ?_ ?_ ?_⟩
      · exact (Pc.sub 0 A1 rfl).trans (List.take_sublist _ _)
      · exact (Pc.sub 1 B1 rfl).trans (List.take_sublist _ _)
      · exact (Pc.sub 2 C1 rfl).trans (List.take_sublist _ _)
end
end Tg

set_option maxHeartbeats 2000000
namespace Tg
open PySem PySem.Spec PyProof.Rows L2
abbrev sRight : Stmt := topS 13
abbrev NRg : List Str := ["_law_draws_here", "_law_rows_here", "_law_a_one", "_law_a_two", "_law_three", "_law_due", "_law_row", "_law_handed", "_law_told", "_law_kept", "_law_first", "_law_second", "_law_third", "_law_whole", "_law_number", "_law_at"]
theorem scRight : FnScope NRg ["_law_draws_here", "_law_rows_here"] (defScope sRight) := ⟨rfl, rfl, rfl, by decide +kernel, rfl, by decide +kernel, by decide +kernel⟩
theorem Lt.tr (a b c : Rw) (h1 : Lt a b) (h2 : Lt b c) : Lt a c := by
  unfold Lt at h1 h2 ⊢
  omega
theorem Pour.is {rs qs out X : List Rw} (h : Pour rs qs out) (sX : Srt X) (m : ∀ r, r ∈ X ↔ r ∈ rs ∨ r ∈ qs) : out = X :=
  ext_sorted Lt.irr Lt.tr h.srt sX fun a => (h.mem a).trans (m a).symm
theorem any_rd (X : List Rw) (r : Rw) : ((X.map rd).any fun z => PyData.eqv z (rd r)) = decide (r ∈ X) := by
  rw [List.any_map]
  by_cases c : r ∈ X
  · rw [decide_eq_true c, List.any_eq_true]
    exact ⟨r, c, ref_rd r⟩
  · rw [decide_eq_false c, List.any_eq_false]
    intro x hx z
    have z' : PyData.eqv (rd x) (rd r) = true := z
    rw [eq_rd] at z'
    exact c (by rw [← of_decide_eq_true z']; exact hx)
theorem neq_rds (X : List Rw) : (!PyData.eqv (.list (X.map rd)) (.list (X.map rd))) = false := by
  rw [(rds_form X).2]
  rfl
def ll (Ls : List (List Rw)) : List PyData := Ls.map fun X => .list (X.map rd)
theorem ll_all (Ls : List (List Rw)) : PyData.canLayAll0 (ll Ls) = true ∧ PyData.depthAll (ll Ls) ≤ 2 ∧ PyData.eqvAll (ll Ls) (ll Ls) = true := by
  induction Ls with
  | nil => exact ⟨rfl, Nat.zero_le _, rfl⟩
  | cons X r ih =>
    obtain ⟨i1, i2, i3⟩ := ih
    obtain ⟨j1, j2, j3⟩ := form_all lay_rd (fun r => Nat.le_of_eq (dep_rd r)) ref_rd X
    refine ⟨?_, ?_, ?_⟩
    · show (PyData.canLayAll0 (X.map rd) && PyData.canLayAll0 (ll r)) = true
      rw [j1, i1]
      rfl
    · show max (PyData.depthAll (X.map rd) + 1) (PyData.depthAll (ll r)) ≤ 2
      omega
    · show (PyData.eqvAll (X.map rd) (X.map rd) && PyData.eqvAll (ll r) (ll r)) = true
      rw [j3, i3]
      rfl
theorem ll_form (Ls : List (List Rw)) : SeqAt.shaped (.list (ll Ls)) = true ∧ (!PyData.eqv (.list (ll Ls)) (.list (ll Ls))) = false := by
  obtain ⟨a, b, c⟩ := ll_all Ls
  refine ⟨shaped_of a (by show PyData.depthAll (ll Ls) + 1 ≤ 64; omega), ?_⟩
  show (!PyData.eqvAll (ll Ls) (ll Ls)) = false
  rw [c]
  rfl
theorem thin_twice {rs : List Rw} {n : Int} : thin (thin rs n) n = thin rs n := by
  have all : ∀ r, r ∈ thin rs n → fl (thin rs n) n r = true := fun r hr => by
    obtain ⟨h1, h2⟩ := List.mem_filter.mp hr
    refine decide_eq_true ?_
    rcases (of_decide_eq_true h2 : Need rs n r) with h | ⟨⟨h3, h4, h5⟩, h6⟩
    · exact .inl h
    · exact .inr ⟨⟨hr, h4, fun q hq e le => h5 q (List.mem_filter.mp hq).1 e le⟩, h6⟩
  exact List.filter_eq_self.mpr all
theorem Srt.of_sub {A R : List Rw} (h : A.Sublist R) (s : Srt R) : Srt A := List.Pairwise.sublist h s
section
variable {P : Program} {w : World} {K : PySem.W.Frag} {mg : Str → Option Value} {base : Heap}
structure FnsR (P : Program) (w : World) (K : PySem.W.Frag) (mg : Str → Option Value) (base : Heap) (k : Nat) : Prop where
  L_parts : Cal P w K mg base k "_law_parts" ["_law_draws_here", "_law_rows_here"] (spParts K)
  L_next : Cal P w K mg base k "_law_next" ["_law_draws_here"] spNext
  L_known : Cal P w K mg base k "_law_known" ["_law_rows_here", "_law_number"] (spLKnown K)
  C_poured : Cal P w K mg base k "poured" ["one", "two"] (spPoured K)
  C_poured_k : CalK P w K mg base k "poured" ["one", "two"] ["two", "one"] [1, 0] (spPoured K)
  C_known : Cal P w K mg base k "known" ["rows", "number"] (spKnown K)
  C_thinned : Cal P w K mg base k "thinned" ["rows", "number"] (spPick K thin)
  m_list : mg "list" = none
def spRight (K : PySem.W.Frag) : Sp := fun vs H Q _ => ∃ (p l0 : Addr) (n : Nat) (R : List Rw), vs = [.ref p, .ref l0] ∧ Dr H p n ∧ n < 800000 ∧ l0 ≠ p ∧ LD K H l0 (R.map rd) ∧ Srt R ∧ R.length ≤ 36 ∧ ∀ H', Kp p H H' → Q (.bl true) H'
theorem ok_right {f : Addr} {fd : FuncData} {k : Nat} (F : Fun K "_law_right" "_law_right" sRight f fd) (Z : FnsR P w K mg base k) : FnOk P w K mg base CX0 (k + 1) f fd ["_law_draws_here", "_law_rows_here"] (spRight K) := by
  obtain ⟨L_parts, L_next, L_known, C_poured, C_poured_k, C_known, C_thinned, m_list⟩ := Z
  refine F.ok scRight (fun vs H Q E h => ?_) (fun cdv A outer s H vs Q E hr h => ?_)
  · obtain ⟨p, l0, n, R, rfl, _⟩ := h
    rfl
  · obtain ⟨p, l0, n, R, rfl, hp, hn, n0p, ldR, sR, lR, q⟩ := h
    have hu := hr.units
    have hu65 : (A.deeper (envOfC "_law_right" (defScope sRight) s.heap.objs.size f cdv)).units + 65 < cLine := by
      have := hr.un
      omega
    refine ⟨_, pss_cons (ps_asg (pe_cal L_parts (hr.mono (by omega)) (by rfl) (pa_cons (pv 0) (pa_cons (pv 1) pa_nil))) (pg_unl rfl (pgs_cons (pg_name (i := 2) scRight.nd rfl (.inr rfl)) (pgs_cons (pg_name (i := 3) scRight.nd rfl (.inr rfl)) (pgs_cons (pg_name (i := 4) scRight.nd rfl (.inl rfl)) pgs_nil)))))
      (pss_cons (ps_setLc (i := 5) (own := [("_law_row", 6)]) (g := (gName 6)) rfl scRight.nd rfl rfl (sw_true rfl rfl rfl (by decide +kernel)) (pi_list (pv 1)) (blkOk_by (own := [("_law_row", 6)]) (N := NRg) (sc := defScope sRight) (by decide +kernel)) (fun _ _ _ _ _ => (pg_name (i := 6) scRight.nd rfl (.inl rfl))) (fun _ _ _ _ _ => pts_one (PW.pt (pw_or (pt_cmpR (r := rInD K) (op_inD hu65) (pv 6) (pv 2) (by with_unfolding_all rfl)) (pw_or1 (pt_cmpR (r := rInD K) (op_inD hu65) (pv 6) (pv 3) (by with_unfolding_all rfl)))))) (fun _ _ _ _ _ => (pv 6)))
      (pss_cons (ps_set (i := 7) scRight.nd rfl (.inl rfl) (pe_lst (pa_cons (pe_callTy call_list_of (by rfl) m_list (by decide +kernel) (pa_cons (pv 2) pa_nil)) (pa_cons (pe_callTy call_list_of (by rfl) m_list (by decide +kernel) (pa_cons (pv 3) pa_nil)) pa_nil))))
      (pss_cons (ps_set (i := 8) scRight.nd rfl (.inl rfl) (pe_cal C_poured (hr.mono (by omega)) (by rfl) (pa_cons (pe_ix ix_list (pv 7) pe_int (fun _ _ => rfl)) (pa_cons (pe_ix ix_list (pv 7) pe_int (fun _ _ => rfl)) pa_nil))))
      (pss_cons (ps_if (PW.pt (pw_or (pt_cmpR (op_neD hu) (pv 8) (pv 5) (nomark _)) (pw_or (pt_cmpR (op_neD hu) (pe_cal C_poured (hr.mono (by omega)) (by rfl) (pa_cons (pv 3) (pa_cons (pv 2) pa_nil))) (pv 5) (nomark _)) (pw_or (pt_cmpR (op_neD hu) (pv 7) (pe_lst (pa_cons (pv 2) (pa_cons (pv 3) pa_nil))) (nomark _)) (pw_or1 (pt_cmpR (op_neD hu) (pe_calK C_poured_k (hr.mono (by omega)) (by rfl) (pk_cons (pv 2) (pk_cons (pv 3) pk_nil))) (pv 5) (nomark _)))))))
        (pss_one (ps_ret pe_bl))
        pss_nil)
      (pss_cons (ps_set (i := 9) scRight.nd rfl (.inl rfl) (pe_callTy call_list_of (by rfl) m_list (by decide +kernel) (pa_cons (pv 2) pa_nil)))
      (pss_cons (ps_par3 (i := 10) (j := 11) (l := 12) (by rfl) scRight.nd rfl rfl rfl (by decide) (by decide) (by decide) rfl rfl rfl (pa_cons (pe_cal C_poured (hr.mono (by omega)) (by rfl) (pa_cons (pv 2) (pa_cons (pv 2) pa_nil))) (pa_cons (pe_cal C_poured (hr.mono (by omega)) (by rfl) (pa_cons (pv 2) (pa_cons (pe_lst pa_nil) pa_nil))) (pa_cons (pe_cal C_poured (hr.mono (by omega)) (by rfl) (pa_cons (pe_lst pa_nil) (pa_cons (pv 2) pa_nil))) pa_nil))) (by rfl))
      (pss_cons (ps_if (pt_cmpR (op_neD hu) (pe_lst (pa_cons (pv 10) (pa_cons (pv 11) (pa_cons (pv 12) (pa_cons (pe_cal C_poured (hr.mono (by omega)) (by rfl) (pa_cons (pe_lst pa_nil) (pa_cons (pe_lst pa_nil) pa_nil))) pa_nil))))) (pe_lst (pa_cons (pv 9) (pa_cons (pv 9) (pa_cons (pv 9) (pa_cons (pe_lst pa_nil) pa_nil))))) (nomark _))
        (pss_one (ps_ret pe_bl))
        pss_nil)
      (pss_cons (ps_expr (pe_bm PySem.F.plainAttrs_list PySem.F.slot_list_append PySem.F.type_list_append mt_append (pv 10) (pa_cons pe_non pa_nil)))
      (pss_cons (ps_expr (pe_bm PySem.F.plainAttrs_list PySem.F.slot_list_append PySem.F.type_list_append mt_append (pv 11) (pa_cons pe_non pa_nil)))
      (pss_cons (ps_expr (pe_bm PySem.F.plainAttrs_list PySem.F.slot_list_append PySem.F.type_list_append mt_append (pv 12) (pa_cons pe_non pa_nil)))
      (pss_cons (ps_if (pt_cmpR (op_neD hu) (pv 2) (pv 9) (nomark _))
        (pss_one (ps_ret pe_bl))
        pss_nil)
      (pss_cons (ps_set (i := 13) scRight.nd rfl (.inr rfl) (pe_cal C_poured (hr.mono (by omega)) (by rfl) (pa_cons (pe_cal C_poured (hr.mono (by omega)) (by rfl) (pa_cons (pv 2) (pa_cons (pv 3) pa_nil))) (pa_cons (pv 4) pa_nil))))
      (pss_cons (ps_if (PW.pt (pw_or (pt_cmpR (op_neD hu) (pv 13) (pe_cal C_poured (hr.mono (by omega)) (by rfl) (pa_cons (pv 2) (pa_cons (pe_cal C_poured (hr.mono (by omega)) (by rfl) (pa_cons (pv 3) (pa_cons (pv 4) pa_nil))) pa_nil))) (nomark _)) (pw_or1 (pt_cmpR (op_neD hu) (pv 13) (pe_cal C_poured (hr.mono (by omega)) (by rfl) (pa_cons (pe_cal C_poured (hr.mono (by omega)) (by rfl) (pa_cons (pv 4) (pa_cons (pv 2) pa_nil))) (pa_cons (pv 3) pa_nil))) (nomark _)))))
        (pss_one (ps_ret pe_bl))
        pss_nil)
      (pss_cons (ps_set (i := 14) scRight.nd rfl (.inl rfl) (pe_op op_mod (pe_cal L_next (hr.mono (by omega)) (by rfl) (pa_cons (pv 0) pa_nil)) pe_int))
      (pss_cons (ps_for PassesOwn.never rfl (pi_list (pe_lst (pa_cons (pv 14) (pa_cons pe_int (pa_cons pe_int pa_nil))))) (pg_name (i := 15) scRight.nd rfl (.inl rfl))
        (pss_one (ps_if (pt_cmpR (op_neD hu) (pe_cal C_known (hr.mono (by omega)) (by rfl) (pa_cons (pv 13) (pa_cons (pv 15) pa_nil))) (pe_cal L_known (hr.mono (by omega)) (by rfl) (pa_cons (pe_lc (own := [("_law_row", 6)]) (g := (gName 6)) rfl scRight.nd (pi_list (pv 1)) (blkOk_by (own := [("_law_row", 6)]) (N := NRg) (sc := defScope sRight) (by decide +kernel)) (fun _ _ _ _ _ => (pg_name (i := 6) scRight.nd rfl (.inl rfl))) (fun _ _ _ _ _ => pts_one (pt_cmpR (r := rInD K) (op_inD hu65) (pv 6) (pv 13) (by with_unfolding_all rfl))) (fun _ _ _ _ _ => (pv 6))) (pa_cons (pv 15) pa_nil))) (nomark _))
          (pss_one (ps_ret pe_bl))
          pss_nil)))
      (pss_cons (ps_expr (pe_bm PySem.F.plainAttrs_list PySem.F.slot_list_append PySem.F.type_list_append mt_append (pv 8) (pa_cons pe_non pa_nil)))
      (pss_one (ps_ret (pe_and (pe_cmpR (op_eqD hu) (pe_cal C_thinned (hr.mono (by omega)) (by rfl) (pa_cons (pv 13) (pa_cons (pv 14) pa_nil))) (pe_cal C_thinned (hr.mono (by omega)) (by rfl) (pa_cons (pe_cal C_poured (hr.mono (by omega)) (by rfl) (pa_cons (pe_cal C_thinned (hr.mono (by omega)) (by rfl) (pa_cons (pv 13) (pa_cons (pv 14) pa_nil))) (pa_cons (pe_lst pa_nil) pa_nil))) (pa_cons (pv 14) pa_nil))) (nomark _)) (pe_one (pe_cmpR (op_eqD hu) (pe_cal C_poured (hr.mono (by omega)) (by rfl) (pa_cons (pv 2) (pa_cons (pv 3) pa_nil))) (pv 5) (nomark _)))))))))))))))))))))), ?_⟩
    refine ⟨_, rfl, _, rfl, p, l0, n, R, rfl, hp, by omega, n0p, ldR, lR, fun l a1 a2 a3 A1 B1 C1 H1 k1 d1 hl p1 p2 p3 lA lB lC uA uB uC => ?_⟩
    refine ⟨l, _, rfl, SqL.of hl, rfl, _, _, rfl, _, _, rfl, _, _, rfl, rfl, ?_⟩
    have mA : ∀ r, r ∈ A1 → r ∈ R := fun r h => uA.subset h
    have mB : ∀ r, r ∈ B1 → r ∈ R := fun r h => uB.subset h
    have mC : ∀ r, r ∈ C1 → r ∈ R := fun r h => uC.subset h
    have sA := Srt.of_sub uA sR
    have nA := uA.length_le
    have nB := uB.length_le
    have nC := uC.length_le
    have ldR1 := hp.ld k1 n0p (td_rds R) ldR
    obtain ⟨xs, hx, dx⟩ := id ldR1
    have lx := dl_len dx
    -- due
    obtain ⟨due, edue⟩ : ∃ due, R.filter (fun r => decide (r ∈ A1 ∨ r ∈ B1)) = due := ⟨_, rfl⟩
    have sD : Srt due := by
      rw [← edue]
      exact sR.sub _
    have memD : ∀ r, r ∈ due ↔ r ∈ A1 ∨ r ∈ B1 := fun r => by
      rw [← edue, List.mem_filter]
      exact ⟨fun h => of_decide_eq_true h.2, fun h => ⟨h.elim (mA r) (mB r), decide_eq_true h⟩⟩
    have lD : due.length ≤ 36 := by
      rw [← edue]
      exact Nat.le_trans (List.length_filter_le _ _) lR
    refine ⟨_, rfl, l0, rfl, ⟨_, SqL.of hx⟩, fun D nD => lc_list (K := K) (a := l0) (xs := xs) (fun j Hc => Same H1 Hc ∧ LD K Hc D (((R.take j).filter fun r => decide (r ∈ A1 ∨ r ∈ B1)).map rd)) ⟨same_new nD, ⟨[], upd_same, .nil⟩⟩ (fun j Hc _ h => SqL.of (h.1 _ _ hx)) ?_ ?_⟩
    · rintro j v Hc hj ⟨sc, ys, hD, hdy⟩
      obtain ⟨r, hr1, dr⟩ := dl_at dx hj
      have drc := dp_same sc dr
      have lys : ys.length ≤ 36 := by
        have h1 := dl_len hdy
        have h2 := List.length_filter_le (fun r : Rw => decide (r ∈ A1 ∨ r ∈ B1)) (R.take j)
        rw [List.length_take] at h2
        omega
      have yes : (r ∈ A1 ∨ r ∈ B1) → ∃ acc, Hc D = some (.lst acc) ∧ acc.length < sizeLine ∧ Same H1 (upd Hc D (.lst (acc ++ [v]))) ∧ LD K (upd Hc D (.lst (acc ++ [v]))) D (((R.take (j + 1)).filter fun r => decide (r ∈ A1 ∨ r ∈ B1)).map rd) := fun c => by
        refine ⟨ys, hD, small1000 (by omega), same_put nD sc, ?_⟩
        rw [take_snoc hr1, List.filter_append, List.filter_cons, if_pos (decide_eq_true c), List.filter_nil, List.map_append]
        exact LD.snoc (KT.refl _) hD hdy (td_rds _) drc (td_rd _)
      refine ⟨rfl, _, rfl, _, rfl, rd r, A1.map rd, drc, (lA.same sc).dp, sh_rd _, (rds_form _).1, _, rfl, ?_⟩
      rw [any_rd]
      by_cases c : r ∈ A1
      · rw [decide_eq_true c]
        exact if_t (if_t ⟨_, rfl, yes (.inl c)⟩)
      · rw [decide_eq_false c]
        refine if_f ⟨_, rfl, _, rfl, rd r, B1.map rd, drc, (lB.same sc).dp, sh_rd _, (rds_form _).1, _, rfl, ?_⟩
        rw [any_rd]
        by_cases c2 : r ∈ B1
        · rw [decide_eq_true c2]
          exact if_t ⟨_, rfl, yes (.inr c2)⟩
        · rw [decide_eq_false c2]
          refine if_f ⟨sc, ?_⟩
          rw [take_snoc hr1, List.filter_append, List.filter_cons, if_neg (fun z => (of_decide_eq_true z).elim c c2), List.filter_nil, List.append_nil]
          exact ⟨ys, hD, hdy⟩
    rintro H2 ⟨s2, ldD⟩
    rw [lx, List.take_length, edue] at ldD
    have lA2 := lA.same s2
    have lB2 := lB.same s2
    -- handed
    obtain ⟨as, hA, dA⟩ := id lA2
    refine ⟨_, rfl, a1, as, rfl, .inl (SqL.of hA), fun b1 nb1 => ?_⟩
    have s3 := same_new (o := .lst as) nb1
    obtain ⟨bs, hB, dB⟩ := id (lB2.same s3)
    refine ⟨_, rfl, a2, bs, rfl, .inl (SqL.of hB), fun b2 nb2 => ?_⟩
    have s4 := same_new (o := .lst bs) nb2
    refine ⟨by show 2 ≤ sizeLine; decide, fun hh nh => ?_⟩
    have s5 := same_new (o := .lst [V.ref b1, V.ref b2]) nh
    have lb1 : LD K (upd (upd (upd H2 b1 (.lst as)) b2 (.lst bs)) hh (.lst [V.ref b1, V.ref b2])) b1 (A1.map rd) := LD.same (s4.trans s5) ⟨as, upd_same, dpAll_same s3 dA⟩
    have lb2 : LD K (upd (upd (upd H2 b1 (.lst as)) b2 (.lst bs)) hh (.lst [V.ref b1, V.ref b2])) b2 (B1.map rd) := LD.same s5 ⟨bs, upd_same, dpAll_same s4 dB⟩
    have hhh : (upd (upd (upd H2 b1 (.lst as)) b2 (.lst bs)) hh (.lst [V.ref b1, V.ref b2])) hh = some (.lst [V.ref b1, V.ref b2]) := upd_same
    have s25 := (s3.trans s4).trans s5
    obtain ⟨H5, e5⟩ : ∃ H5, upd (upd (upd H2 b1 (.lst as)) b2 (.lst bs)) hh (.lst [V.ref b1, V.ref b2]) = H5 := ⟨_, rfl⟩
    rw [e5] at lb1 lb2 hhh s25
    rw [e5]
    clear s3 s4 s5 dB hB
    have inL : ∀ r, r ∈ A1 ∨ r ∈ B1 → r ∈ R := fun r h => h.elim (mA r) (mB r)
    -- told
    refine ⟨_, rfl, hh, _, 0, .ref b1, rfl, rfl, SqL.of hhh, rfl, _, rfl, hh, _, 1, .ref b2, rfl, rfl, SqL.of hhh, rfl, b1, b2, A1, B1, R, rfl, lb1, lb2, by omega, by omega, sR, inL, fun to o1 H6 s6 nto lto po1 => ?_⟩
    rw [po1.is sD memD] at lto
    have m16 := (s2.trans s25).trans s6
    have lA6 := lA.same m16
    have lB6 := lB.same m16
    have lC6 := lC.same m16
    have lD6 := ldD.same (s25.trans s6)
    refine ⟨_, rfl, _, rfl, _, _, lto.dp, lD6.dp, (rds_form _).1, (rds_form _).1, false, congrArg V.bl (neq_rds _), if_f ?_⟩
    refine ⟨_, rfl, _, rfl, a2, a1, B1, A1, R, rfl, lB6, lA6, by omega, by omega, sR, fun r h => inL r h.symm, fun t2 o2 H7 s7 nt2 lt2 po2 => ?_⟩
    rw [po2.is sD fun r => (memD r).trans Or.comm] at lt2
    refine ⟨_, rfl, _, _, lt2.dp, (lD6.same s7).dp, (rds_form _).1, (rds_form _).1, false, congrArg V.bl (neq_rds _), if_f ?_⟩
    have s67 := s6.trans s7
    refine ⟨_, rfl, _, rfl, _, rfl, by show 2 ≤ sizeLine; decide, fun t3 nt3 => ?_⟩
    have s8 := same_new (o := .lst [V.ref a1, V.ref a2]) nt3
    have l8 : ∀ {x : Addr} {X : List Rw}, LD K H5 x (X.map rd) → LD K (upd H7 t3 (.lst [V.ref a1, V.ref a2])) x (X.map rd) := fun h => h.same (s67.trans s8)
    refine ⟨.list (ll [A1, B1]), .list (ll [A1, B1]), .lst (SqL.of ((s67.trans s8) _ _ hhh)) (.cons (l8 lb1).dp (.cons (l8 lb2).dp .nil)), .lst (SqL.of upd_same) (.cons ((lA6.same s7).same s8).dp (.cons ((lB6.same s7).same s8).dp .nil)), (ll_form _).1, (ll_form _).1, false, congrArg V.bl (ll_form _).2, if_f ?_⟩
    have m18 := (m16.trans s7).trans s8
    have lA8 := lA.same m18
    have lB8 := lB.same m18
    have lC8 := lC.same m18
    have lD8 := (lD6.same s7).same s8
    have lto8 := (lto.same s7).same s8
    obtain ⟨H8, e8⟩ : ∃ H8, upd H7 t3 (.lst [V.ref a1, V.ref a2]) = H8 := ⟨_, rfl⟩
    rw [e8] at m18 lA8 lB8 lC8 lD8 lto8
    rw [e8]
    refine ⟨_, rfl, _, rfl, rfl, a2, a1, B1, A1, R, rfl, lB8, lA8, by omega, by omega, sR, fun r h => inL r h.symm, fun t4 o4 H9 s9 nt4 lt4 po4 => ?_⟩
    rw [po4.is sD fun r => (memD r).trans Or.comm] at lt4
    refine ⟨_, rfl, _, _, lt4.dp, (lD8.same s9).dp, (rds_form _).1, (rds_form _).1, false, congrArg V.bl (neq_rds _), if_f ?_⟩
    have m19 := m18.trans s9
    have lA9 := lA.same m19
    have lB9 := lB.same m19
    have lC9 := lC.same m19
    have lD9 := lD8.same s9
    have lto9 := lto8.same s9
    have nto1 : H1 to = none := (s2.trans s25).free nto
    have nto2 : H2 to = none := s25.free nto
    -- kept
    obtain ⟨as9, hA9, dA9⟩ := id lA9
    refine ⟨_, rfl, a1, as9, rfl, .inl (SqL.of hA9), fun kp nkp => ?_⟩
    have s10 := same_new (o := .lst as9) nkp
    have lkp : LD K (upd H9 kp (.lst as9)) kp (A1.map rd) := ⟨as9, upd_same, dpAll_same s10 dA9⟩
    have m110 := m19.trans s10
    have lA10 := lA.same m110
    have lto10 := lto9.same s10
    obtain ⟨H10, e10⟩ : ∃ H10, upd H9 kp (.lst as9) = H10 := ⟨_, rfl⟩
    rw [e10] at lkp m110 lA10 lto10 s10
    rw [e10]
    -- first, second, third
    refine ⟨_, rfl, _, rfl, a1, a1, A1, A1, R, rfl, lA10, lA10, by omega, by omega, sR, fun r h => h.elim (mA r) (mA r), fun f1 q1 H11 s11 nf1 lf1 pq1 => ?_⟩
    rw [pq1.is sA fun r => (or_self_iff).symm] at lf1
    refine ⟨_, rfl, Nat.zero_le _, fun ev nev => ?_⟩
    have s12 := same_new (o := .lst []) nev
    refine ⟨a1, ev, A1, [], R, rfl, (lA10.same s11).same s12, ⟨[], upd_same, .nil⟩, by omega, Nat.zero_le _, sR, (fun r h => h.elim (mA r) fun z => nomatch z), fun f2 q2 H13 s13 nf2 lf2 pq2 => ?_⟩
    rw [pq2.is sA fun r => ⟨.inl, fun h => h.elim id fun z => nomatch z⟩] at lf2
    have m1113 := s12.trans s13
    refine ⟨Nat.zero_le _, fun ew new => ?_⟩
    have s14 := same_new (o := .lst []) new
    refine ⟨_, rfl, ew, a1, [], A1, R, rfl, ⟨[], upd_same, .nil⟩, ((lA10.same s11).same m1113).same s14, Nat.zero_le _, by omega, sR, (fun r h => h.elim (fun z => nomatch z) (mA r)), fun f3 q3 H15 s15 nf3 lf3 pq3 => ?_⟩
    rw [pq3.is sA fun r => ⟨.inr, fun h => h.elim (fun z => nomatch z) id⟩] at lf3
    have m1315 := s14.trans s15
    have lf1' := (lf1.same m1113).same m1315
    have lf2' := lf2.same m1315
    have m1015 := (s11.trans m1113).trans m1315
    have lkp15 := lkp.same m1015
    have n1f2 : f1 ≠ f2 := fun z => by
      obtain ⟨_, e, _⟩ := (lf1.same s12)
      rw [z, nf2] at e
      cases e
    have n1f3 : f1 ≠ f3 := fun z => by
      obtain ⟨_, e, _⟩ := (lf1.same m1113).same s14
      rw [z, nf3] at e
      cases e
    have n2f3 : f2 ≠ f3 := fun z => by
      obtain ⟨_, e, _⟩ := lf2.same s14
      rw [z, nf3] at e
      cases e
    refine ⟨_, _, _, rfl, ?_⟩
    -- the second test
    refine ⟨_, rfl, _, rfl, _, rfl, Nat.zero_le _, fun e1 ne1 => ⟨Nat.zero_le _, fun e2 ne2 => ?_⟩⟩
    have s17 := (same_new (o := .lst []) ne1).trans (same_new (o := .lst []) ne2)
    refine ⟨e1, e2, [], [], [], rfl, LD.same (same_new ne2) ⟨[], upd_same, .nil⟩, ⟨[], upd_same, .nil⟩, Nat.zero_le _, Nat.zero_le _, .nil, (fun r h => h.elim (fun z => nomatch z) fun z => nomatch z), fun f4 q4 H18 s18 nf4 lf4 pq4 => ?_⟩
    rw [pq4.is (X := []) .nil fun r => ⟨(fun z => nomatch z), fun h => h.elim id id⟩] at lf4
    have m1518 := s17.trans s18
    refine ⟨by show 4 ≤ sizeLine; decide, fun g1 ng1 => ?_⟩
    have s19 := same_new (o := .lst [V.ref f1, V.ref f2, V.ref f3, V.ref f4]) ng1
    refine ⟨_, rfl, _, rfl, _, rfl, Nat.zero_le _, fun e3 ne3 => ?_⟩
    have s20 := same_new (o := .lst []) ne3
    refine ⟨by show 4 ≤ sizeLine; decide, fun g2 ng2 => ?_⟩
    have s21 := same_new (o := .lst [V.ref kp, V.ref kp, V.ref kp, V.ref e3]) ng2
    have z1 := (s19.trans s20).trans s21
    have z2 := m1518.trans z1
    refine ⟨.list (ll [A1, A1, A1, []]), .list (ll [A1, A1, A1, []]), .lst (SqL.of ((s20.trans s21) _ _ upd_same)) (.cons (lf1'.same z2).dp (.cons (lf2'.same z2).dp (.cons (lf3.same z2).dp (.cons (lf4.same z1).dp .nil)))), .lst (SqL.of upd_same) (.cons (lkp15.same z2).dp (.cons (lkp15.same z2).dp (.cons (lkp15.same z2).dp (.cons (LD.dp (LD.same s21 ⟨[], upd_same, .nil⟩)) .nil)))), (ll_form _).1, (ll_form _).1, false, congrArg V.bl (ll_form _).2, if_f ?_⟩
    obtain ⟨H21, e21⟩ : ∃ H21, upd (upd (upd H18 g1 (.lst [V.ref f1, V.ref f2, V.ref f3, V.ref f4])) e3 (.lst [])) g2 (.lst [V.ref kp, V.ref kp, V.ref kp, V.ref e3]) = H21 := ⟨_, rfl⟩
    rw [e21] at z1 z2
    rw [e21]
    clear s19 s20 s21
    have m1021 := m1015.trans z2
    have lf1a := lf1'.same z2
    have lf2a := lf2'.same z2
    have lf3a := lf3.same z2
    -- None behind each
    obtain ⟨u1, hu1, _⟩ := id lf1a
    obtain ⟨u2, hu2, _⟩ := id lf2a
    obtain ⟨u3, hu3, _⟩ := id lf3a
    have len1 : u1.length ≤ 36 := by
      obtain ⟨v, hv, dv⟩ := lf1a
      rw [hv] at hu1
      cases hu1
      have := dl_len dv
      omega
    have len2 : u2.length ≤ 36 := by
      obtain ⟨v, hv, dv⟩ := lf2a
      rw [hv] at hu2
      cases hu2
      have := dl_len dv
      omega
    have len3 : u3.length ≤ 36 := by
      obtain ⟨v, hv, dv⟩ := lf3a
      rw [hv] at hu3
      cases hu3
      have := dl_len dv
      omega
    have hv2 : (upd H21 f1 (.lst (u1 ++ [V.non]))) f2 = some (.lst u2) := by rw [upd_ne n1f2.symm]; exact hu2
    have hv3 : (upd (upd H21 f1 (.lst (u1 ++ [V.non]))) f2 (.lst (u2 ++ [V.non]))) f3 = some (.lst u3) := by rw [upd_ne n2f3.symm, upd_ne n1f3.symm]; exact hu3
    refine ⟨_, rfl, .inl ⟨rfl, _, SqL.of hu1⟩, f1, u1, _, rfl, rfl, hu1, small1000 (by omega), ?_⟩
    refine ⟨_, rfl, .inl ⟨rfl, _, SqL.of hv2⟩, f2, u2, _, rfl, rfl, hv2, small1000 (by omega), ?_⟩
    refine ⟨_, rfl, .inl ⟨rfl, _, SqL.of hv3⟩, f3, u3, _, rfl, rfl, hv3, small1000 (by omega), ?_⟩
    -- what stood ahead of the three stands
    have nf1' : H10 f1 = none := nf1
    have nf2' : H10 f2 = none := (s11.trans s12).free nf2
    have nf3' : H10 f3 = none := ((s11.trans m1113).trans s14).free nf3
    have m1022 : Same H10 (upd (upd (upd H21 f1 (.lst (u1 ++ [V.non]))) f2 (.lst (u2 ++ [V.non]))) f3 (.lst (u3 ++ [V.non]))) := same_put nf3' (same_put nf2' (same_put nf1' m1021))
    obtain ⟨H22, e22⟩ : ∃ H22, upd (upd (upd H21 f1 (.lst (u1 ++ [V.non]))) f2 (.lst (u2 ++ [V.non]))) f3 (.lst (u3 ++ [V.non])) = H22 := ⟨_, rfl⟩
    rw [e22] at m1022
    rw [e22]
    have lA22 := lA10.same m1022
    have lkp22 := lkp.same m1022
    refine ⟨_, rfl, _, rfl, _, _, lA22.dp, lkp22.dp, (rds_form _).1, (rds_form _).1, false, congrArg V.bl (neq_rds _), if_f ?_⟩
    have m122 := m110.trans m1022
    have lB22 := lB.same m122
    have lC22 := lC.same m122
    have lD22 := (lD9.same s10).same m1022
    have lto22 := lto10.same m1022
    have ldR22 := ldR1.same m122
    -- whole
    refine ⟨_, rfl, _, rfl, a1, a2, A1, B1, R, rfl, lA22, lB22, by omega, by omega, sR, inL, fun w1 v1 H23 s23 nw1 lw1 pv1 => ?_⟩
    rw [pv1.is sD memD] at lw1
    obtain ⟨W, eW⟩ : ∃ W, R.filter (fun r => decide (r ∈ A1 ∨ r ∈ B1 ∨ r ∈ C1)) = W := ⟨_, rfl⟩
    have sW : Srt W := by
      rw [← eW]
      exact sR.sub _
    have memW : ∀ r, r ∈ W ↔ r ∈ A1 ∨ r ∈ B1 ∨ r ∈ C1 := fun r => by
      rw [← eW, List.mem_filter]
      exact ⟨fun h => of_decide_eq_true h.2, fun h => ⟨h.elim (mA r) fun h => h.elim (mB r) (mC r), decide_eq_true h⟩⟩
    have inR : ∀ r, r ∈ W → r ∈ R := fun r h => by
      rw [← eW] at h
      exact (List.mem_filter.mp h).1
    have lW : W.length ≤ 36 := by
      rw [← eW]
      exact Nat.le_trans (List.length_filter_le _ _) lR
    have inD : ∀ r, r ∈ due → r ∈ R := fun r h => inL r ((memD r).mp h)
    refine ⟨_, rfl, w1, a3, due, C1, R, rfl, lw1, lC22.same s23, by omega, by omega, sR, fun r h => h.elim (inD r) (mC r), fun wh v2 H24 s24 nwh lwh pv2 => ?_⟩
    rw [pv2.is sW fun r => by rw [memW, memD, or_assoc]] at lwh
    have m2224 := s23.trans s24
    have lA24 := lA22.same m2224
    have lB24 := lB22.same m2224
    have lC24 := lC22.same m2224
    -- the third test
    refine ⟨_, rfl, _, rfl, _, rfl, _, rfl, a2, a3, B1, C1, R, rfl, lB24, lC24, by omega, by omega, sR, fun r h => h.elim (mB r) (mC r), fun w3 v3 H25 s25' nw3 lw3 pv3 => ?_⟩
    have sV3 := pv3.srt
    have lV3 : v3.length ≤ 36 := Nat.le_trans (nodup_len sV3.nodup fun r h => ((pv3.mem r).mp h).elim (mB r) (mC r)) lR
    refine ⟨a1, w3, A1, v3, R, rfl, lA24.same s25', lw3, by omega, by omega, sR, fun r h => h.elim (mA r) fun h => ((pv3.mem r).mp h).elim (mB r) (mC r), fun w4 v4 H26 s26 nw4 lw4 pv4 => ?_⟩
    rw [pv4.is sW fun r => by rw [memW, pv3.mem]] at lw4
    have s2426 := s25'.trans s26
    refine ⟨_, _, (lwh.same s2426).dp, lw4.dp, (rds_form _).1, (rds_form _).1, false, congrArg V.bl (neq_rds _), if_f ?_⟩
    refine ⟨_, rfl, _, rfl, _, rfl, a3, a1, C1, A1, R, rfl, lC24.same s2426, lA24.same s2426, by omega, by omega, sR, fun r h => h.elim (mC r) (mA r), fun w5 v5 H27 s27 nw5 lw5 pv5 => ?_⟩
    have sV5 := pv5.srt
    have lV5 : v5.length ≤ 36 := Nat.le_trans (nodup_len sV5.nodup fun r h => ((pv5.mem r).mp h).elim (mC r) (mA r)) lR
    refine ⟨_, rfl, w5, a2, v5, B1, R, rfl, lw5, (lB24.same s2426).same s27, by omega, by omega, sR, fun r h => h.elim (fun h => ((pv5.mem r).mp h).elim (mC r) (mA r)) (mB r), fun w6 v6 H28 s28 nw6 lw6 pv6 => ?_⟩
    rw [pv6.is sW fun r => by
      rw [memW, pv5.mem]
      constructor
      · rintro (h | h | h)
        · exact .inl (.inr h)
        · exact .inr h
        · exact .inl (.inl h)
      · rintro ((h | h) | h)
        · exact .inr (.inr h)
        · exact .inl h
        · exact .inr (.inl h)] at lw6
    have s2428 := (s2426.trans s27).trans s28
    refine ⟨_, _, (lwh.same s2428).dp, lw6.dp, (rds_form _).1, (rds_form _).1, false, congrArg V.bl (neq_rds _), if_f ?_⟩
    have m2228 := m2224.trans s2428
    have m128 := m122.trans m2228
    have lwh28 := lwh.same s2428
    have d28 := d1.same m128
    -- a number
    have nwh22 : H22 wh = none := s23.free nwh
    have whp : wh ≠ p := (d1.same m122).ne nwh22
    have Dp' : D ≠ p := d1.ne nD
    have top : to ≠ p := d1.ne nto1
    refine ⟨_, rfl, p, _, rfl, d28, by omega, fun vn H29 k29 d29 v0 v1' => ?_⟩
    have kt29 := d28.kt k29
    refine ⟨_, _, rfl, rfl, (by show (0 : Int) < 42; decide), ?_⟩
    have st29 : ∀ {x : Addr} {X : List Rw}, x ≠ p → LD K H28 x (X.map rd) → LD K H29 x (X.map rd) := fun hne h => d28.ld k29 hne (td_rds _) h
    have lwh29 := st29 whp lwh28
    have lA29 := st29 p1 (lA22.same m2228)
    have lB29 := st29 p2 (lB22.same m2228)
    have lD29 := st29 Dp' (lD22.same m2228)
    have lto29 := st29 top (lto22.same m2228)
    have lR29 := st29 n0p (ldR22.same m2228)
    have kH29 : Kp p H H29 := (k1.trans (.of m128)).trans k29
    refine ⟨_, rfl, by show 3 ≤ sizeLine; decide, fun la nla => ?_⟩
    have s30 := same_new (o := .lst ([(vn % 42), 0, 41].map V.int)) nla
    have hla : (upd H29 la (.lst ([(vn % 42), 0, 41].map V.int))) la = some (.lst ([(vn % 42), 0, 41].map V.int)) := upd_same
    refine ⟨la, rfl, ⟨_, SqL.of hla⟩, for_list (K := K) (a := la) (xs := [(vn % 42), 0, 41].map V.int) (fun i σ Hc => ∃ z15 : Option V, σ = [some (.ref p), some (.ref l0), some (.ref a1), some (.ref a2), some (.ref a3), some (.ref D), none, some (.ref hh), some (.ref to), some (.ref kp), some (.ref f1), some (.ref f2), some (.ref f3), some (.ref wh), some (.int (vn % 42)), z15] ∧ Same (upd H29 la (.lst ([(vn % 42), 0, 41].map V.int))) Hc) ⟨none, rfl, Same.refl _⟩ ?_ ?_ ?_⟩
    · rintro i σ Hc _ ⟨_, _, sc⟩
      exact SqL.of (sc _ _ hla)
    · rintro i xv σ Hc hi ⟨z15, rfl, sc⟩
      obtain ⟨c, rfl⟩ : ∃ c : Int, xv = .int c := by
        rw [List.getElem?_map] at hi
        obtain ⟨c, _, e⟩ := Option.map_eq_some_iff.mp hi
        exact ⟨c, e.symm⟩
      have s3c := s30.trans sc
      refine ⟨_, rfl, _, rfl, wh, c, W, rfl, lwh29.same s3c, by omega, fun K1 G1 t1 nK1 lK1 => ?_⟩
      have lRG := (lR29.same s3c).same t1
      obtain ⟨ys, hy, dy⟩ := id lRG
      have ly := dl_len dy
      have lwG := (lwh29.same s3c).same t1
      refine ⟨_, rfl, l0, rfl, ⟨_, SqL.of hy⟩, fun D2 nD2 => lc_list (K := K) (a := l0) (xs := ys) (fun j Hg => Same G1 Hg ∧ LD K Hg D2 (((R.take j).filter fun r => decide (r ∈ W)).map rd)) ⟨same_new nD2, ⟨[], upd_same, .nil⟩⟩ (fun j Hg _ h => SqL.of (h.1 _ _ hy)) ?_ ?_⟩
      · rintro j v Hg hj ⟨sg, us, hD2, hdu⟩
        obtain ⟨r, hr1, dr⟩ := dl_at dy hj
        have drc := dp_same sg dr
        have lus : us.length ≤ 36 := by
          have h1 := dl_len hdu
          have h2 := List.length_filter_le (fun r : Rw => decide (r ∈ W)) (R.take j)
          rw [List.length_take] at h2
          omega
        refine ⟨rfl, _, rfl, _, rfl, rd r, W.map rd, drc, (lwG.same sg).dp, sh_rd _, (rds_form _).1, _, rfl, ?_⟩
        rw [any_rd]
        by_cases c2 : r ∈ W
        · rw [decide_eq_true c2]
          refine if_t ⟨_, rfl, us, hD2, small1000 (by omega), same_put nD2 sg, ?_⟩
          rw [take_snoc hr1, List.filter_append, List.filter_cons, if_pos (decide_eq_true c2), List.filter_nil, List.map_append]
          exact LD.snoc (KT.refl _) hD2 hdu (td_rds _) drc (td_rd _)
        · rw [decide_eq_false c2]
          refine if_f ⟨sg, ?_⟩
          rw [take_snoc hr1, List.filter_append, List.filter_cons, if_neg (fun z => c2 (of_decide_eq_true z)), List.filter_nil, List.append_nil]
          exact ⟨us, hD2, hdu⟩
      · rintro G2 ⟨t2, lD2⟩
        rw [ly, List.take_length] at lD2
        have eF : R.filter (fun r => decide (r ∈ W)) = W := ext_sorted Lt.irr Lt.tr (sR.sub _) sW fun r => by
          rw [List.mem_filter]
          exact ⟨fun h => of_decide_eq_true h.2, fun h => ⟨inR r h, decide_eq_true h⟩⟩
        rw [eF] at lD2
        refine ⟨_, rfl, D2, c, W, rfl, lD2, sW, lW, fun K2 G3 t3' nK2 lK2 => ?_⟩
        refine ⟨_, _, ((lK1.same t2).same t3').dp, lK2.dp, (pds_form _).1, (pds_form _).1, false, ?_, if_f ⟨_, rfl, ((sc.trans t1).trans t2).trans t3'⟩⟩
        rw [(pds_form _).2]
        rfl
    · rintro σ Hc ⟨z15, rfl, sc⟩
      have s3c := s30.trans sc
      obtain ⟨ts, hts, dts⟩ := id (lto29.same s3c)
      have lts := dl_len dts
      refine ⟨_, rfl, .inl ⟨rfl, _, SqL.of hts⟩, to, ts, _, rfl, rfl, hts, small1000 (by omega), ?_⟩
      have ktT : KT Hc (upd Hc to (.lst (ts ++ [V.non]))) := KT.put hts nfix_lst
      have sT : ∀ {x : Addr} {X : List Rw}, x ≠ to → LD K Hc x (X.map rd) → LD K (upd Hc to (.lst (ts ++ [V.non]))) x (X.map rd) := fun hne h => h.kt ktT (fun o e => by rw [upd_ne hne]; exact e) (td_rds _)
      have neT : ∀ {x : Addr} {X : List Rw}, LD K H1 x (X.map rd) → x ≠ to := fun h z => by
        obtain ⟨_, e, _⟩ := h
        rw [z, nto1] at e
        cases e
      have nDt : D ≠ to := fun z => by
        obtain ⟨_, e, _⟩ := ldD
        rw [z, nto2] at e
        cases e
      have nWt : wh ≠ to := fun z => by
        obtain ⟨_, e, _⟩ := lto22
        rw [← z, nwh22] at e
        cases e
      have lwT := sT nWt (lwh29.same s3c)
      have lAT := sT (neT lA) (lA29.same s3c)
      have lBT := sT (neT lB) (lB29.same s3c)
      have lDT := sT nDt (lD29.same s3c)
      have kT : Kp p H (upd Hc to (.lst (ts ++ [V.non]))) := fun b o hb e => by
        have nH : H to = none := by
          cases eo : H to with
          | none => rfl
          | some o2 =>
            have := k1 _ _ top eo
            rw [nto1] at this
            cases this
        rw [upd_ne (ne_of_none e nH)]
        exact s3c _ _ (kH29 _ _ hb e)
      obtain ⟨HT, eHT⟩ : ∃ HT, upd Hc to (.lst (ts ++ [V.non])) = HT := ⟨_, rfl⟩
      rw [eHT] at lwT lAT lBT lDT kT
      rw [eHT]
      refine ⟨_, rfl, _, rfl, wh, (vn % 42), W, rfl, lwT, sW, by omega, fun x1 J1 t1 n1 l1 => ?_⟩
      refine ⟨_, rfl, _, rfl, wh, (vn % 42), W, rfl, lwT.same t1, sW, by omega, fun x2 J2 t2 n2 l2 => ?_⟩
      refine ⟨Nat.zero_le _, fun em nem => ?_⟩
      have t3' := same_new (o := .lst []) nem
      have sTh : Srt (thin W (vn % 42)) := sW.sub _
      have lTh : (thin W (vn % 42)).length ≤ 36 := Nat.le_trans (List.length_filter_le _ _) lW
      refine ⟨x2, em, thin W (vn % 42), [], thin W (vn % 42), rfl, l2.same t3', ⟨[], upd_same, .nil⟩, by omega, Nat.zero_le _, sTh, (fun r h => h.elim id fun z => nomatch z), fun x3 q3' J3 t4' n3 l3 pq => ?_⟩
      rw [pq.is sTh fun r => ⟨.inl, fun h => h.elim id fun z => nomatch z⟩] at l3
      refine ⟨_, rfl, x3, (vn % 42), thin W (vn % 42), rfl, l3, sTh, by omega, fun x4 J4 t5 n4 l4 => ?_⟩
      rw [thin_twice] at l4
      have u14 := ((t2.trans t3').trans t4').trans t5
      refine ⟨_, _, (l1.same u14).dp, l4.dp, (rds_form _).1, (rds_form _).1, _, rfl, ?_⟩
      rw [(rds_form _).2]
      refine if_t ?_
      have u04 := t1.trans u14
      refine ⟨_, rfl, _, rfl, a1, a2, A1, B1, R, rfl, lAT.same u04, lBT.same u04, by omega, by omega, sR, inL, fun x5 q5 J5 t6 n5 l5 pq5 => ?_⟩
      rw [pq5.is sD memD] at l5
      refine ⟨_, rfl, _, _, l5.dp, ((lDT.same u04).same t6).dp, (rds_form _).1, (rds_form _).1, ?_⟩
      rw [(rds_form _).2]
      exact q _ (kT.trans (.of (u04.trans t6)))
end
end Tg

set_option maxHeartbeats 1000000
namespace Tg
open PySem PySem.Spec PyProof.Rows L2
abbrev sLaw : Stmt := topS 14
theorem scLaw : FnScope ["_law_script", "_law_cell", "_law_draws_here"] ["_law_script"] (defScope sLaw) := ⟨rfl, rfl, rfl, by decide +kernel, rfl, by decide +kernel, by decide +kernel⟩
theorem cut_ints (ns : List Int) (lo hi : Option Int) : ∃ ms : List Int, cutV (ns.map V.int) lo hi = ms.map V.int ∧ ms.length ≤ ns.length := by
  unfold cutV
  refine ⟨(ns.drop (HT.sIx (ns.map V.int).length 0 lo)).take (HT.sIx (ns.map V.int).length (ns.map V.int).length hi - HT.sIx (ns.map V.int).length 0 lo), ?_, ?_⟩
  · rw [List.map_take, List.map_drop]
  · rw [List.length_take, List.length_drop]
    omega
section
variable {P : Program} {w : World} {K : PySem.W.Frag} {mg : Str → Option Value} {base : Heap}
def spLaw (K : PySem.W.Frag) : Sp := fun vs H Q _ => ∃ (a : Addr) (ns : List Int), vs = [.ref a] ∧ SqL K H a (ns.map V.int) ∧ ns.length ≤ 63 ∧ ∀ H', Q (.bl true) H'
theorem ok_law {f : Addr} {fd : FuncData} {k : Nat} (F : Fun K "law" "law" sLaw f fd) (L_draws : Cal P w K mg base k "_law_draws" ["_law_cell"] spDraws) (L_rows : Cal P w K mg base k "_law_rows" ["_law_draws_here", "_law_most"] (spRows K)) (L_right : Cal P w K mg base k "_law_right" ["_law_draws_here", "_law_rows_here"] (spRight K)) :
    FnOk P w K mg base CX0 (k + 1) f fd ["_law_script"] (spLaw K) := by
  refine F.ok scLaw (fun vs H Q E h => ?_) (fun cdv A outer s H vs Q E hr h => ?_)
  · obtain ⟨a, ns, rfl, _⟩ := h
    rfl
  · obtain ⟨a, ns, rfl, hS, hlen, q⟩ := h
    refine ⟨_, pss_cons (ps_for PassesOwn.never rfl (pi_list (pe_op op_cat (pe_slice sl_list (pv 0) po_none (po_some pe_int)) (pe_lst (pa_cons pe_int pa_nil)))) (pg_name (i := 1) scLaw.nd rfl (.inl rfl))
        (pss_cons (ps_set (i := 2) scLaw.nd rfl (.inl rfl) (pe_cal L_draws (hr.mono (by omega)) (by rfl) (pa_cons (pv 1) pa_nil)))
        (pss_one (ps_if (pt_not (pt_val (pe_cal L_right (hr.mono (by omega)) (by rfl) (pa_cons (pv 2) (pa_cons (pe_cal L_rows (hr.mono (by omega)) (by rfl) (pa_cons (pv 2) (pa_cons pe_int pa_nil))) pa_nil)))))
          (pss_one (ps_ret pe_bl))
          pss_nil))))
      (pss_one (ps_ret pe_bl)), ?_⟩
    obtain ⟨ms, em, lm⟩ := cut_ints ns none (some 6)
    refine ⟨_, rfl, 6, rfl, a, _, rfl, hS, fun l1 n1 => ?_⟩
    rw [em]
    refine ⟨by show 1 ≤ sizeLine; decide, fun l2 n2 => ?_⟩
    have s2 := same_new (o := .lst [.int 0]) n2
    have m1 : (upd (upd H l1 (.lst (ms.map V.int))) l2 (.lst [.int 0])) l1 = some (.lst (ms.map V.int)) := s2 _ _ upd_same
    refine ⟨l1, l2, _, _, rfl, rfl, m1, upd_same, ?_, fun l3 n3 => ?_⟩
    · rw [List.length_map]
      exact Nat.le_of_lt (small1000 (by show ms.length + 1 ≤ 1000; omega))
    have e3 : (ms.map V.int ++ [V.int 0]) = (ms ++ [0]).map V.int := by
      rw [List.map_append]
      rfl
    rw [e3]
    have m3 : (upd (upd (upd H l1 (.lst (ms.map V.int))) l2 (.lst [.int 0])) l3 (.lst ((ms ++ [0]).map V.int))) l3 = some (.lst ((ms ++ [0]).map V.int)) := upd_same
    revert m3
    generalize upd (upd (upd H l1 (.lst (ms.map V.int))) l2 (.lst [.int 0])) l3 (.lst ((ms ++ [0]).map V.int)) = H3
    intro m3
    refine ⟨l3, rfl, ⟨_, SqL.of m3⟩, for_list (K := K) (a := l3) (xs := (ms ++ [0]).map V.int) (fun i σ Hc => ∃ z1 z2 : Option V, σ = [some (.ref a), z1, z2] ∧ Same H3 Hc) ⟨none, none, rfl, Same.refl _⟩ ?_ ?_ ?_⟩
    · rintro i σ Hc _ ⟨_, _, _, h⟩
      exact SqL.of (h _ _ m3)
    · rintro i xv σ Hc hx ⟨z1, z2, rfl, sc⟩
      obtain ⟨c, rfl⟩ : ∃ c : Int, xv = .int c := by
        rw [List.getElem?_map] at hx
        obtain ⟨c, _, e⟩ := Option.map_eq_some_iff.mp hx
        exact ⟨c, e.symm⟩
      refine ⟨_, rfl, c, rfl, fun p da db np => ?_⟩
      have sp := same_new (o := .lst [.int da, .int 0, .bl db]) np
      have d0 : Dr (upd Hc p (.lst [.int da, .int 0, .bl db])) p 0 := ⟨da, 0, db, upd_same, by decide, by decide⟩
      refine ⟨_, rfl, _, rfl, p, 0, 40, rfl, d0, by decide, fun rl rs H4 k4 d4 nrl ldr hsr hlr => ?_⟩
      have sH4 : Same Hc H4 := Kp.same sp np k4
      have rlp : rl ≠ p := d0.ne nrl
      refine ⟨p, rl, _, rs, rfl, d4, by decide, rlp, ldr, hsr, hlr, fun H5 k5 => ⟨true, rfl, if_f ⟨_, _, rfl, sc.trans (Kp.same sH4 np k5)⟩⟩⟩
    · rintro σ Hc ⟨_, _, rfl, _⟩
      exact q Hc
end
end Tg

namespace Tg
open PySem PySem.Spec PyProof.Rows L2
section
variable {K : PySem.W.Frag}
theorem kbn_poured {f : Addr} {fd : FuncData} (F : Fun K "poured" "poured" sPoured f fd) : KBn K fd ["one", "two"] 0 ["two", "one"] (fun _ ws => prm [1, 0] ws) (fun _ zs => prm [1, 0] zs) := by
  obtain ⟨_, _, kV, doc, pm, an, cdv, ct, _, rfl, _, _⟩ := F.ex
  exact ⟨fun s us ws _ h0 h2 => match us, ws, h0, h2 with | [], [_, _], _, _ => .of_eq rfl, fun _ r => prm_rel r _⟩
end
/-! ### what the top has written; the law's own head -/
theorem all_mk {l : PySem.W.OpenLaw} {w : World} {K : PySem.W.Frag} {h : Heap} {mg : Str → Option Value} {fa  f1 f2 f3 f4 f5 f6 f7 f8 f9 f10 f11 f12 f13 : Addr} (X : K.In h) (G : h.Ns mainGlobals mg) (hfa : mg "law" = some (.ref fa))
    {od1 an1 od2 an2 od3 an3 od4 an4 od5 an5 od6 an6 od7 an7 od8 an8 od9 an9 od10 an10 od11 an11 od12 an12 od13 an13 : Option Addr} {sl1 sl2 sl3 sl4 sl5 sl6 sl7 sl8 sl9 sl10 sl11 sl12 sl13 : Array (Option Value)} {oc1 kV1 dc1 pm1 cd1 ct1 oc2 kV2 dc2 pm2 cd2 ct2 oc3 kV3 dc3 pm3 cd3 ct3 oc4 kV4 dc4 pm4 cd4 ct4 oc5 kV5 dc5 pm5 cd5 ct5 oc6 kV6 dc6 pm6 cd6 ct6 oc7 kV7 dc7 pm7 cd7 ct7 oc8 kV8 dc8 pm8 cd8 ct8 oc9 kV9 dc9 pm9 cd9 ct9 oc10 kV10 dc10 pm10 cd10 ct10 oc11 kV11 dc11 pm11 cd11 ct11 oc12 kV12 dc12 pm12 cd12 ct12 oc13 kV13 dc13 pm13 cd13 ct13 : Value}
    (a1 : PySem.W.nsIn K mainGlobals "last_worths" = some (some (.ref f1)))
    (l1 : K.lookup f1 = some ⟨oc1, od1, .func (PySem.W.fnOf "last_worths" "last_worths" (defArgs sLastW) (defBody sLastW) (defScope sLastW) .none kV1 dc1 pm1 an1 cd1 ct1), sl1⟩)
    (c1 : PySem.W.codeIn K cd1 "last_worths" = true)
    (k1 : PySem.W.keepIn K (.ref f1) = true)
    (a2 : PySem.W.nsIn K mainGlobals "known" = some (some (.ref f2)))
    (l2 : K.lookup f2 = some ⟨oc2, od2, .func (PySem.W.fnOf "known" "known" (defArgs sKnown) (defBody sKnown) (defScope sKnown) .none kV2 dc2 pm2 an2 cd2 ct2), sl2⟩)
    (c2 : PySem.W.codeIn K cd2 "known" = true)
    (k2 : PySem.W.keepIn K (.ref f2) = true)
    (a3 : PySem.W.nsIn K mainGlobals "needed_flags" = some (some (.ref f3)))
    (l3 : K.lookup f3 = some ⟨oc3, od3, .func (PySem.W.fnOf "needed_flags" "needed_flags" (defArgs sFlags) (defBody sFlags) (defScope sFlags) .none kV3 dc3 pm3 an3 cd3 ct3), sl3⟩)
    (c3 : PySem.W.codeIn K cd3 "needed_flags" = true)
    (k3 : PySem.W.keepIn K (.ref f3) = true)
    (a4 : PySem.W.nsIn K mainGlobals "thinned" = some (some (.ref f4)))
    (l4 : K.lookup f4 = some ⟨oc4, od4, .func (PySem.W.fnOf "thinned" "thinned" (defArgs sThinned) (defBody sThinned) (defScope sThinned) .none kV4 dc4 pm4 an4 cd4 ct4), sl4⟩)
    (c4 : PySem.W.codeIn K cd4 "thinned" = true)
    (k4 : PySem.W.keepIn K (.ref f4) = true)
    (a5 : PySem.W.nsIn K mainGlobals "poured" = some (some (.ref f5)))
    (l5 : K.lookup f5 = some ⟨oc5, od5, .func (PySem.W.fnOf "poured" "poured" (defArgs sPoured) (defBody sPoured) (defScope sPoured) .none kV5 dc5 pm5 an5 cd5 ct5), sl5⟩)
    (c5 : PySem.W.codeIn K cd5 "poured" = true)
    (k5 : PySem.W.keepIn K (.ref f5) = true)
    (a6 : PySem.W.nsIn K mainGlobals "_law_draws" = some (some (.ref f6)))
    (l6 : K.lookup f6 = some ⟨oc6, od6, .func (PySem.W.fnOf "_law_draws" "_law_draws" (defArgs sDraws) (defBody sDraws) (defScope sDraws) .none kV6 dc6 pm6 an6 cd6 ct6), sl6⟩)
    (c6 : PySem.W.codeIn K cd6 "_law_draws" = true)
    (k6 : PySem.W.keepIn K (.ref f6) = true)
    (a7 : PySem.W.nsIn K mainGlobals "_law_next" = some (some (.ref f7)))
    (l7 : K.lookup f7 = some ⟨oc7, od7, .func (PySem.W.fnOf "_law_next" "_law_next" (defArgs sNext) (defBody sNext) (defScope sNext) .none kV7 dc7 pm7 an7 cd7 ct7), sl7⟩)
    (c7 : PySem.W.codeIn K cd7 "_law_next" = true)
    (k7 : PySem.W.keepIn K (.ref f7) = true)
    (a8 : PySem.W.nsIn K mainGlobals "_law_rows" = some (some (.ref f8)))
    (l8 : K.lookup f8 = some ⟨oc8, od8, .func (PySem.W.fnOf "_law_rows" "_law_rows" (defArgs sRows) (defBody sRows) (defScope sRows) .none kV8 dc8 pm8 an8 cd8 ct8), sl8⟩)
    (c8 : PySem.W.codeIn K cd8 "_law_rows" = true)
    (k8 : PySem.W.keepIn K (.ref f8) = true)
    (a9 : PySem.W.nsIn K mainGlobals "_law_last" = some (some (.ref f9)))
    (l9 : K.lookup f9 = some ⟨oc9, od9, .func (PySem.W.fnOf "_law_last" "_law_last" (defArgs sLast) (defBody sLast) (defScope sLast) .none kV9 dc9 pm9 an9 cd9 ct9), sl9⟩)
    (c9 : PySem.W.codeIn K cd9 "_law_last" = true)
    (k9 : PySem.W.keepIn K (.ref f9) = true)
    (a10 : PySem.W.nsIn K mainGlobals "_law_known" = some (some (.ref f10)))
    (l10 : K.lookup f10 = some ⟨oc10, od10, .func (PySem.W.fnOf "_law_known" "_law_known" (defArgs sLKnown) (defBody sLKnown) (defScope sLKnown) .none kV10 dc10 pm10 an10 cd10 ct10), sl10⟩)
    (c10 : PySem.W.codeIn K cd10 "_law_known" = true)
    (k10 : PySem.W.keepIn K (.ref f10) = true)
    (a11 : PySem.W.nsIn K mainGlobals "_law_parts" = some (some (.ref f11)))
    (l11 : K.lookup f11 = some ⟨oc11, od11, .func (PySem.W.fnOf "_law_parts" "_law_parts" (defArgs sParts) (defBody sParts) (defScope sParts) .none kV11 dc11 pm11 an11 cd11 ct11), sl11⟩)
    (c11 : PySem.W.codeIn K cd11 "_law_parts" = true)
    (k11 : PySem.W.keepIn K (.ref f11) = true)
    (a12 : PySem.W.nsIn K mainGlobals "_law_right" = some (some (.ref f12)))
    (l12 : K.lookup f12 = some ⟨oc12, od12, .func (PySem.W.fnOf "_law_right" "_law_right" (defArgs sRight) (defBody sRight) (defScope sRight) .none kV12 dc12 pm12 an12 cd12 ct12), sl12⟩)
    (c12 : PySem.W.codeIn K cd12 "_law_right" = true)
    (k12 : PySem.W.keepIn K (.ref f12) = true)
    (a13 : PySem.W.nsIn K mainGlobals "law" = some (some (.ref f13)))
    (l13 : K.lookup f13 = some ⟨oc13, od13, .func (PySem.W.fnOf "law" "law" (defArgs sLaw) (defBody sLaw) (defScope sLaw) .none kV13 dc13 pm13 an13 cd13 ct13), sl13⟩)
    (c13 : PySem.W.codeIn K cd13 "law" = true)
    (k13 : PySem.W.keepIn K (.ref f13) = true)
    (z_range : PySem.W.nsIn K mainGlobals "range" = some none)
    (z_sorted : PySem.W.nsIn K mainGlobals "sorted" = some none)
    (z_set : PySem.W.nsIn K mainGlobals "set" = some none)
    (z_zip : PySem.W.nsIn K mainGlobals "zip" = some none)
    (z_list : PySem.W.nsIn K mainGlobals "list" = some none)
    : ∃ fd : FuncData, (∀ (s : Shared) (v : Value), BindsTo s fd ⟨[v], []⟩ [("_law_script", v)]) ∧ ∀ base : Heap, K.In base → base.Ns mainGlobals mg → FnOk l.prog w K mg base CX0 5 fa fd ["_law_script"] (spLaw K) := by
  have e := hfa.symm.trans (PySem.W.mg_of X G a13)
  cases e
  have F1 := fun_mk (st := sLastW) l1 c1 k1
  have F2 := fun_mk (st := sKnown) l2 c2 k2
  have F3 := fun_mk (st := sFlags) l3 c3 k3
  have F4 := fun_mk (st := sThinned) l4 c4 k4
  have F5 := fun_mk (st := sPoured) l5 c5 k5
  have F6 := fun_mk (st := sDraws) l6 c6 k6
  have F7 := fun_mk (st := sNext) l7 c7 k7
  have F8 := fun_mk (st := sRows) l8 c8 k8
  have F9 := fun_mk (st := sLast) l9 c9 k9
  have F10 := fun_mk (st := sLKnown) l10 c10 k10
  have F11 := fun_mk (st := sParts) l11 c11 k11
  have F12 := fun_mk (st := sRight) l12 c12 k12
  have F13 := fun_mk (st := sLaw) l13 c13 k13
  have b1 := F1.binds (ps := ["rows", "number"]) fun _ _ _ _ _ _ us hl => match us, hl with | [_, _], _ => rfl
  have b2 := F2.binds (ps := ["rows", "number"]) fun _ _ _ _ _ _ us hl => match us, hl with | [_, _], _ => rfl
  have b3 := F3.binds (ps := ["rows", "number"]) fun _ _ _ _ _ _ us hl => match us, hl with | [_, _], _ => rfl
  have b4 := F4.binds (ps := ["rows", "number"]) fun _ _ _ _ _ _ us hl => match us, hl with | [_, _], _ => rfl
  have b5 := F5.binds (ps := ["one", "two"]) fun _ _ _ _ _ _ us hl => match us, hl with | [_, _], _ => rfl
  have b6 := F6.binds (ps := ["_law_cell"]) fun _ _ _ _ _ _ us hl => match us, hl with | [_], _ => rfl
  have b7 := F7.binds (ps := ["_law_draws_here"]) fun _ _ _ _ _ _ us hl => match us, hl with | [_], _ => rfl
  have b8 := F8.binds (ps := ["_law_draws_here", "_law_most"]) fun _ _ _ _ _ _ us hl => match us, hl with | [_, _], _ => rfl
  have b9 := F9.binds (ps := ["_law_rows_here", "_law_number"]) fun _ _ _ _ _ _ us hl => match us, hl with | [_, _], _ => rfl
  have b10 := F10.binds (ps := ["_law_rows_here", "_law_number"]) fun _ _ _ _ _ _ us hl => match us, hl with | [_, _], _ => rfl
  have b11 := F11.binds (ps := ["_law_draws_here", "_law_rows_here"]) fun _ _ _ _ _ _ us hl => match us, hl with | [_, _], _ => rfl
  have b12 := F12.binds (ps := ["_law_draws_here", "_law_rows_here"]) fun _ _ _ _ _ _ us hl => match us, hl with | [_, _], _ => rfl
  have g1 := PySem.W.mg_of X G a1
  have g2 := PySem.W.mg_of X G a2
  have g3 := PySem.W.mg_of X G a3
  have g4 := PySem.W.mg_of X G a4
  have g5 := PySem.W.mg_of X G a5
  have g6 := PySem.W.mg_of X G a6
  have g7 := PySem.W.mg_of X G a7
  have g8 := PySem.W.mg_of X G a8
  have g9 := PySem.W.mg_of X G a9
  have g10 := PySem.W.mg_of X G a10
  have g11 := PySem.W.mg_of X G a11
  have g12 := PySem.W.mg_of X G a12
  have m_range := PySem.W.mg_none_of X G z_range
  have m_sorted := PySem.W.mg_none_of X G z_sorted
  have m_set := PySem.W.mg_none_of X G z_set
  have m_zip := PySem.W.mg_none_of X G z_zip
  have m_list := PySem.W.mg_none_of X G z_list
  refine ⟨PySem.W.fnOf "law" "law" (defArgs sLaw) (defBody sLaw) (defScope sLaw) .none kV13 dc13 pm13 an13 cd13 ct13, fun s v => .of_eq rfl, fun base _ _ => ?_⟩
  have KN : Cal l.prog w K mg base 3 "known" ["rows", "number"] (spKnown K) := ⟨f2, _, ok_known F2 ⟨f1, _, ok_lastW (k := 1) F1, g1, k1, b1⟩, g2, k2, b2⟩
  have FL : Cal l.prog w K mg base 2 "needed_flags" ["rows", "number"] (spFlags K) := ⟨f3, _, ok_flags (k := 1) F3, g3, k3, b3⟩
  have LL : Cal l.prog w K mg base 2 "_law_last" ["_law_rows_here", "_law_number"] (spLast K) := ⟨f9, _, ok_last (k := 1) F9, g9, k9, b9⟩
  have NX : ∀ j, Cal l.prog w K mg base (j + 1) "_law_next" ["_law_draws_here"] spNext := fun j => ⟨f7, _, ok_next F7, g7, k7, b7⟩
  have PO : FnOk l.prog w K mg base CX0 3 f5 _ ["one", "two"] (spPoured K) := ok_poured (k := 2) F5 m_sorted
  have Z : FnsR l.prog w K mg base 3 := ⟨⟨f11, _, ok_parts F11 (NX 1) m_range, g11, k11, b11⟩, NX 2, ⟨f10, _, ok_lknown F10 LL m_sorted, g10, k10, b10⟩, ⟨f5, _, PO, g5, k5, b5⟩, ⟨f5, _, PO, g5, k5, kbn_poured F5⟩, KN, ⟨f4, _, ok_thinned F4 FL m_zip, g4, k4, b4⟩, m_list⟩
  exact ok_law F13 ⟨f6, _, ok_draws F6 m_range, g6, k6, b6⟩ ⟨f8, _, ok_rows F8 (NX 2) m_range m_sorted m_set, g8, k8, b8⟩ ⟨f12, _, ok_right F12 Z, g12, k12, b12⟩
end Tg
open PySem PySem.W PyProof.Rows
set_option maxRecDepth 100000 in
set_option maxHeartbeats 0 in
theorem PySem.Challenge.cw_timegranary_k28_whole_rows_poured_holds : PySem.Challenge.rw_timegranary_k28_whole_rows_poured.Holds := by
  w_on; o_law; k_head; (case hw => w_witness2)
  k_fill
  refine L2.walk_of (l := PySem.Challenge.rw_timegranary_k28_whole_rows_poured) (n := 63) (k := 5) (x := "_law_script") (CX := fun _ => L2.CX0) (sp := fun w => Tg.spLaw _) rfl (by decide) rfl ⟨rfl, by decide, by decide⟩ (fun w h Y => PySem.W.kIn_of Y) ?F (fun _ _ a ns hl _ hS => ⟨a, ns, rfl, hS, hl, fun _ => rfl⟩) (fun _ _ _ _ _ h => h)
  case F =>
    intro w mg fa h KX G hmg
    refine' Tg.all_mk KX G hmg ?a1 ?l1 ?c1 ?k1 ?a2 ?l2 ?c2 ?k2 ?a3 ?l3 ?c3 ?k3 ?a4 ?l4 ?c4 ?k4 ?a5 ?l5 ?c5 ?k5 ?a6 ?l6 ?c6 ?k6 ?a7 ?l7 ?c7 ?k7 ?a8 ?l8 ?c8 ?k8 ?a9 ?l9 ?c9 ?k9 ?a10 ?l10 ?c10 ?k10 ?a11 ?l11 ?c11 ?k11 ?a12 ?l12 ?c12 ?k12 ?a13 ?l13 ?c13 ?k13 ?z_range ?z_sorted ?z_set ?z_zip ?z_list
    (case a1 => k_is); (case l1 => k_is); (case c1 => k_is); (case k1 => k_is); (case a2 => k_is); (case l2 => k_is)
    (case c2 => k_is); (case k2 => k_is); (case a3 => k_is); (case l3 => k_is); (case c3 => k_is); (case k3 => k_is)
    (case a4 => k_is); (case l4 => k_is); (case c4 => k_is); (case k4 => k_is); (case a5 => k_is); (case l5 => k_is)
    (case c5 => k_is); (case k5 => k_is); (case a6 => k_is); (case l6 => k_is); (case c6 => k_is); (case k6 => k_is)
    (case a7 => k_is); (case l7 => k_is); (case c7 => k_is); (case k7 => k_is); (case a8 => k_is); (case l8 => k_is)
    (case c8 => k_is); (case k8 => k_is); (case a9 => k_is); (case l9 => k_is); (case c9 => k_is); (case k9 => k_is)
    (case a10 => k_is); (case l10 => k_is); (case c10 => k_is); (case k10 => k_is); (case a11 => k_is); (case l11 => k_is)
    (case c11 => k_is); (case k11 => k_is); (case a12 => k_is); (case l12 => k_is); (case c12 => k_is); (case k12 => k_is)
    (case a13 => k_is); (case l13 => k_is); (case c13 => k_is); (case k13 => k_is); (case z_range => k_is); (case z_sorted => k_is)
    (case z_set => k_is); (case z_zip => k_is); (case z_list => k_is)

