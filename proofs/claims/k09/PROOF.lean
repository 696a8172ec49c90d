import PyProof.Rows.All
import Wide.All
import OpenK.AllK
import Wide.FinOn
import HandS.ForMost
import HandS.Conv
import HandS.Wide
import HandS.IsInst
import HandS.Defaults
import HandS.Dict
import HandS.Iter
import HandS.Walk
import HandS.Exc
import HandS.ExcInit
import HandS.ExcIs
import HandS.ExcField
import HandS.ExcValue
import KE.KExcIs
import KE.KTryMore
import HandS.WordsExc
import HandS.ExcOwn
import KE.DatumOrd
import PyProof.Rows.CallKwBuiltin
import HandS.OwnEq
import PyProof.InstNe
import OpenK.KOwn
import PyProof.SumAny
import PyProof.WalksMore
import PyProof.FactsAll.subtypes_4
import HandS.Deep
import PySem.Challenge.RW_timegranary_k09_whole_folds_in_any_parts
import HandS.MakeKwOnly
import HandS.CallLocal
import HandS.TupAny
import HandS.SortInts
import HandS.Style
set_option Elab.async false
set_option linter.all false
set_option maxRecDepth 100000
namespace Tg
open PySem PySem.Spec PyProof.Rows L2

/-! ### rules of my own: a call by keywords alone; list(range(a, b, c)) -/
section
variable {X : Cx} {CX : CXT} {k : Nat} {f : Addr} {fd : FuncData} {ps ks : List Str} {sp : Sp} {E : XK} {x : Str} {p pos : Pos} {kws : List Keyword} {tk : TA}
  {g : List Value → List Value → List Value} {gV : List V → List V → List V}
def tKw0 (n : Nat) (sp : Sp) (gV : List V → List V → List V) (E : XK) (tk : TA) : TE :=
  fun σ H Q => tk σ H fun zs H2 => zs.length = n ∧ sp (gV [] zs) H2 Q E
theorem pe_kw0 (F : FnOk X.prog X.w X.K X.mg X.base CX k f fd ps sp) (room : Room k X.A) (gl : Gl X x) (at_x : X.mg x = some (.ref f)) (kept : PySem.W.keepIn X.K (.ref f) = true) (binds : KBn X.K fd ps 0 ks g gV) (lets : Passes CX X E) (vals : PK X kws tk)
    (named : (backToKw pos (keywordEach kws X.env)).all (·.1.isSome) = true := by rfl) (names : (backToKw pos (keywordEach kws X.env)).filterMap (·.1) = ks := by rfl) (nodebug : (x == ("__debug__" : Str)) = false := by decide)
    (nostar : ((backTo pos (starEach [] X.env)).any (·.1) || (backToKw pos (keywordEach kws X.env)).any (·.1.isNone)) = false := by rfl) : PE X (.Call (.Name x p) [] kws pos) (tKw0 ks.length sp gV E tk) := by
  constructor
  intro pins s σ H Q I read
  refine wpAny_Call_Name_kw (ld_glob I gl at_x (PySem.W.callWith_KW0 (h₀ := X.base) I.ok.mod.kin kept named (thn (vals.run pos pins s σ H _ I read) fun ws s2 y => ?_) nostar) nodebug)
  obtain ⟨zs, H2, J, rel, many, h⟩ := y
  rw [names]
  exact ⟨J.kIn, run_fnN (us := []) (vs := []) F room binds lets J .nil rel rfl many h⟩
end

/-- two keywords, the second parameter's first -/
def sw2 {α : Type} : List α → List α
  | [y, x] => [x, y]
  | _ => []
/-- three keywords, the parameters' from the last on -/
def sw3 {α : Type} : List α → List α
  | [z, y, x] => [x, y, z]
  | _ => []
theorem sw2_rel : ∀ {zs : List V} {ws : List Value}, Vals zs ws → Vals (sw2 zs) (sw2 ws)
  | _, _, .nil => .nil
  | _, _, .cons _ .nil => .nil
  | _, _, .cons a (.cons b .nil) => .cons b (.cons a .nil)
  | _, _, .cons _ (.cons _ (.cons _ _)) => .nil
theorem sw3_rel : ∀ {zs : List V} {ws : List Value}, Vals zs ws → Vals (sw3 zs) (sw3 ws)
  | _, _, .nil => .nil
  | _, _, .cons _ .nil => .nil
  | _, _, .cons _ (.cons _ .nil) => .nil
  | _, _, .cons a (.cons b (.cons c .nil)) => .cons c (.cons b (.cons a .nil))
  | _, _, .cons _ (.cons _ (.cons _ (.cons _ _))) => .nil

section
variable {X : Cx} {a b c : Expr} {ta : TA}
def rg3 (a c : Int) (n : Nat) : List V := (List.range n).map fun i => V.int (a + (i : Nat) * c)
theorem rg3_length (a c : Int) (n : Nat) : (rg3 a c n).length = n := by
  simp [rg3]
def R3 (a b c : Int) (n : Nat) : Prop :=
  c ≠ 0 ∧ c.natAbs.log2 < 9000 ∧ Builtin.Range.small a b c = true ∧ Builtin.Range.rangeSize a b c = n ∧ n ≤ 2 ^ 24
def tLst3 (ta : TA) : TE := fun σ H Q => ta σ H fun vs H1 => ∃ (a b c : Int) (n : Nat), vs = [.int a, .int b, .int c] ∧ R3 a b c n ∧
  ∀ q, H1 q = none → Q (.ref q) (upd H1 q (.lst (rg3 a c n)))
theorem pe_lst3 {p p2 pos pos2 : Pos} (calm : X.calm = true) (gl : Gl X "list") (nl : X.mg "list" = none) (gr : Gl X "range") (nr : X.mg "range" = none) (args : PA X [a, b, c] ta)
    (one : starEach [a, b, c] X.env = (false, eval a X.env) :: starEach [b, c] X.env := by rfl) (nostar : (backTo pos2 (starEach [b, c] X.env)).any (·.1) = false := by rfl)
    (whole : starEach [.Call (.Name "range" p2) [a, b, c] [] pos2] X.env = (false, eval (.Call (.Name "range" p2) [a, b, c] [] pos2) X.env) :: starEach [] X.env := by rfl) :
    PE X (.Call (.Name "list" p) [.Call (.Name "range" p2) [a, b, c] [] pos2] [] pos) (tLst3 ta) := by
  constructor
  intro pins s σ H Q I read
  refine Call_ (ld_blt I gl nl boot_list (PyProof.Rows.callWith_type1 (args_cons (Call_ (ld_blt I gr nr boot_range (PyProof.Rows.callWith_type1 (thn (args.run pos2 pins s σ H _ I read) fun us s1 y => ?_) one nostar))) whole) whole))
  obtain ⟨zs, H1, J, rel, i, j, k, n, e, ⟨c0, c1, c2, c3, c4⟩, h⟩ := y
  subst e
  match us, rel with
  | [_, _, _], .cons ⟨t, ei⟩ (.cons ⟨u, ej⟩ (.cons ⟨v, ek⟩ .nil)) =>
    subst ei
    subst ej
    subst ek
    refine call_range_3 c0 (args_nil ?_) (.inl (PyProof.noPylong_of_log2 c1))
    obtain ⟨hx, ehx⟩ : ∃ hx, hx = s1.heap.push { cls := .type "range", data := .fields #[.int i t, .int j u, .int k v] } := ⟨_, rfl⟩
    have J2 : Inv X pins σ H1 { s1 with heap := hx } := by
      rw [ehx]
      exact J.kept (t' := s1.toks) fun _ _ z => Heap.get?_push_of_some _ z
    rw [← ehx]
    refine call_list_range (s := { s1 with heap := hx }) (n := n) (J2.ok.hd calm) (by rw [ehx]; exact IsRange.new ..) c2 c3 c4 fun h' tk acc cc kp made items => ?_
    have len : acc.toList.length = n := Array.length_toList.trans items.1
    have vals : Vals (rg3 i k n) acc.toList := by
      have z := vals_of_get acc.toList (fun m : Nat => V.int (i + m * k)) fun m w hw => by
        obtain ⟨tw, ew⟩ := items.2 m w (by rw [← hw, Array.getElem?_toList])
        exact ⟨tw, ew⟩
      rw [len] at z
      exact z
    refine ⟨.ref hx.objs.size, upd H1 hx.objs.size (.lst (rg3 i k n)), J2.laid kp (Nat.le_refl _) (show ObjOk X.prog X.w _ _ _ (.lst (rg3 i k n)) from ⟨?_, acc.toList, cc, vals, ?_⟩), rfl, h _ (J2.hok.fresh (Nat.le_refl _))⟩
    · rw [rg3_length, sizeLine_eq]
      omega
    · rw [Array.toArray_toList]
      exact made
end

/-! ### lists of ints, compared -/
theorem dp_ints {K : PySem.W.Frag} {H : Hp} : ∀ ns : List Int, DpAll K H (ns.map V.int) (ns.map PyData.int)
  | [] => .nil
  | n :: r => .cons (.int n) (dp_ints r)
theorem lay_ints : ∀ ns : List Int, PyData.canLayAll0 (ns.map PyData.int) = true
  | [] => rfl
  | n :: r => by
    show (true && PyData.canLayAll0 (r.map PyData.int)) = true
    rw [lay_ints r]
    rfl
theorem depth_ints : ∀ ns : List Int, PyData.depthAll (ns.map PyData.int) = 0
  | [] => rfl
  | n :: r => by
    show max 0 (PyData.depthAll (r.map PyData.int)) = 0
    rw [depth_ints r]
    rfl
theorem shaped_ints (ns : List Int) : SeqAt.shaped (.list (ns.map PyData.int)) = true := by
  unfold SeqAt.shaped
  have h1 : PyData.canLay0 (.list (ns.map PyData.int)) = true := lay_ints ns
  have h2 : PyData.depth (.list (ns.map PyData.int)) = 1 := by
    show PyData.depthAll (ns.map PyData.int) + 1 = 1
    rw [depth_ints]
  rw [h1, h2]
  rfl
theorem eqv_ints : ∀ ns : List Int, PyData.eqvAll (ns.map PyData.int) (ns.map PyData.int) = true
  | [] => rfl
  | n :: r => by
    show ((n == n) && PyData.eqvAll (r.map PyData.int) (r.map PyData.int)) = true
    rw [eqv_ints r, beq_self_eq_true]
    rfl
theorem dp_lst {K : PySem.W.Frag} {H : Hp} {a : Addr} {ns : List Int} (h : SqL K H a (ns.map V.int)) : Dp K H (.ref a) (.list (ns.map PyData.int)) := .lst h (dp_ints ns)
end Tg

namespace Tg
open PySem PySem.Spec PyProof.Rows L2
/-! ### defs, methods and classes as a caller needs them -/
section
variable (P : Program) (w : World) (K : PySem.W.Frag) (mg : Str → Option Value) (base : Heap)
/-- the def x is there, and keeps sp by level k -/
def Cal (k : Nat) (x : Str) (ps : List Str) (sp : Sp) : Prop := ∃ f fd, FnOk P w K mg base CX0 k f fd ps sp ∧ mg x = some (.ref f) ∧ PySem.W.keepIn K (.ref f) = true ∧ Binds K fd ps []
/-- the places that is tells, out of a list -/
def prm {α : Type} (is : List Nat) (zs : List α) : List α := is.filterMap fun i => zs[i]?
/-- the same with keywords alone, ks in this order; is: the places of the parameters among them -/
def CalK (k : Nat) (x : Str) (ps ks : List Str) (is : List Nat) (sp : Sp) : Prop := ∃ f fd, FnOk P w K mg base CX0 k f fd ps sp ∧ mg x = some (.ref f) ∧ PySem.W.keepIn K (.ref f) = true ∧ KBn K fd ps 0 ks (fun _ ws => prm is ws) (fun _ zs => prm is zs)
/-- a method of the class C -/
def CalM (k : Nat) (C : Addr) (m : Str) (ps : List Str) (sp : Sp) : Prop := ∃ f fd, FnOk P w K mg base CX0 k f fd ps sp ∧ Meth K C m f ∧ Binds K fd ps []
def CalMK (k : Nat) (C : Addr) (m : Str) (ps ks : List Str) (is : List Nat) (sp : Sp) : Prop := ∃ f fd, FnOk P w K mg base CX0 k f fd ps sp ∧ Meth K C m f ∧ KBn K fd ps 1 ks (fun us ws => us ++ prm is ws) (fun vs zs => vs ++ prm is zs)
/-- a class, by its __init__ -/
def CalC (k : Nat) (x : Str) (C : Addr) (ps : List Str) (sp : Sp) : Prop := ∃ f fd, FnOk P w K mg base CX0 k f fd ps sp ∧ mg x = some (.ref C) ∧ Mk K C f ∧ Binds K fd ps []
end
theorem vals_at : ∀ {zs : List V} {ws : List Value}, Vals zs ws → ∀ i : Nat, (zs[i]? = none ∧ ws[i]? = none) ∨ ∃ z w, zs[i]? = some z ∧ ws[i]? = some w ∧ RelV z w
  | _, _, .nil, i => .inl ⟨by simp, by simp⟩
  | _, _, .cons a b, i => by
    cases i with
    | zero => exact .inr ⟨_, _, rfl, rfl, a⟩
    | succ i => exact vals_at b i
theorem prm_rel {zs : List V} {ws : List Value} (h : Vals zs ws) : ∀ is : List Nat, Vals (prm is zs) (prm is ws)
  | [] => .nil
  | i :: r => by
    have ih := prm_rel h r
    unfold prm at ih ⊢
    rcases vals_at h i with ⟨h1, h2⟩ | ⟨z, w, h1, h2, h3⟩
    · rw [List.filterMap_cons_none h1, List.filterMap_cons_none h2]
      exact ih
    · rw [List.filterMap_cons_some h1, List.filterMap_cons_some h2]
      exact .cons h3 ih
section
variable {X : Cx} {k : Nat} {ps ks : List Str} {is : List Nat} {sp : Sp} {x m : Str} {C : Addr} {o e : Expr} {es : List Expr} {p pos apos : Pos} {kws : List Keyword} {ta t tk : TA} {to : TE}
theorem pe_cal (c : Cal X.prog X.w X.K X.mg X.base k x ps sp) (hr : Room k X.A) (gl : Gl X x) (ha : PA X (e :: es) t) (hdb : (x == ("__debug__" : Str)) = false := by decide)
    (he : starEach (e :: es) X.env = (false, eval e X.env) :: starEach es X.env := by rfl) (hpl : (backTo pos (starEach es X.env)).any (·.1) = false := by rfl) : PE X (.Call (.Name x p) (e :: es) [] pos) (tCall sp [] E0 t) := by
  obtain ⟨f, fd, F, hm, hk, hb⟩ := c
  exact pe_call F hr gl hm hk hb .nil pass0 ha hdb he hpl
theorem pe_calK (c : CalK X.prog X.w X.K X.mg X.base k x ps ks is sp) (hr : Room k X.A) (gl : Gl X x) (vals : PK X kws tk)
    (named : (backToKw pos (keywordEach kws X.env)).all (·.1.isSome) = true := by rfl) (names : (backToKw pos (keywordEach kws X.env)).filterMap (·.1) = ks := by rfl) (nodebug : (x == ("__debug__" : Str)) = false := by decide)
    (nostar : ((backTo pos (starEach [] X.env)).any (·.1) || (backToKw pos (keywordEach kws X.env)).any (·.1.isNone)) = false := by rfl) :
    PE X (.Call (.Name x p) [] kws pos) (tKw0 ks.length sp (fun _ zs => prm is zs) E0 tk) := by
  obtain ⟨f, fd, F, hm, hk, hb⟩ := c
  exact pe_kw0 F hr gl hm hk hb pass0 vals named names nodebug nostar
theorem pe_calM {pl : Sem Bool} (he : PE X o to) (cl : Cls X.K C) (c : CalM X.prog X.w X.K X.mg X.base k C m ps sp) (hr : Room k X.A) (ha : PA X (e :: es) t)
    (hst : starEach (e :: es) X.env = (false, eval e X.env) :: starEach es X.env := by rfl) (hpl : (backTo pos (starEach es X.env)).any (·.1) = false := by rfl) (ht : eval (.Call (.Attribute o m apos) (e :: es) [] pos) X.env = (do let ov ← eval o X.env; standAt apos.atName; let (f, first) ← holding [ov] (getMethod ov m pl); callWith pos f first (backTo pos (starEach (e :: es) X.env)) (backToKw pos (keywordEach [] X.env))) := by rfl) :
    PE X (.Call (.Attribute o m apos) (e :: es) [] pos) (tMeth C m sp [] E0 to t) := by
  obtain ⟨f, fd, F, hm, hb⟩ := c
  exact pe_meth (pl := pl) he cl hm F hr hb .nil pass0 ha hst hpl ht
theorem pe_calM0 {pl : Sem Bool} (he : PE X o to) (cl : Cls X.K C) (c : CalM X.prog X.w X.K X.mg X.base k C m ps sp) (hr : Room k X.A)
    (ht : eval (.Call (.Attribute o m apos) [] [] pos) X.env = (do let ov ← eval o X.env; standAt apos.atName; let (f, first) ← holding [ov] (getMethod ov m pl); callWith pos f first (backTo pos (starEach [] X.env)) (backToKw pos (keywordEach [] X.env))) := by rfl) :
    PE X (.Call (.Attribute o m apos) [] [] pos) (tMeth C m sp [] E0 to tNil) := by
  obtain ⟨f, fd, F, hm, hb⟩ := c
  exact pe_meth0 (pl := pl) he cl hm F hr hb .nil pass0 ht
/-- o.m(k = v, ..) -/
def tMethK (C : Addr) (m : Str) (n : Nat) (sp : Sp) (is : List Nat) (E : XK) (to : TE) (tk : TA) : TE := fun σ H Q => to σ H fun x H1 => ∃ a dx fs, x = .ref a ∧ H1 a = some (.ins C dx fs) ∧ fs.lookup m = none ∧ tk σ H1 fun zs H2 => zs.length = n ∧ sp (x :: prm is zs) H2 Q E
theorem pe_calMK {pl : Sem Bool} (he : PE X o to) (cl : Cls X.K C) (c : CalMK X.prog X.w X.K X.mg X.base k C m ps ks is sp) (hr : Room k X.A) (vals : PK X kws tk)
    (named : (backToKw pos (keywordEach kws X.env)).all (·.1.isSome) = true := by rfl) (names : (backToKw pos (keywordEach kws X.env)).filterMap (·.1) = ks := by rfl)
    (nostar : ((backTo pos (starEach [] X.env)).any (·.1) || (backToKw pos (keywordEach kws X.env)).any (·.1.isNone)) = false := by rfl)
    (ht : eval (.Call (.Attribute o m apos) [] kws pos) X.env = (do let ov ← eval o X.env; standAt apos.atName; let (f, first) ← holding [ov] (getMethod ov m pl); callWith pos f first (backTo pos (starEach [] X.env)) (backToKw pos (keywordEach kws X.env))) := by rfl) :
    PE X (.Call (.Attribute o m apos) [] kws pos) (tMethK C m ks.length sp is E0 to tk) := by
  obtain ⟨f, fd, F, hm, hb⟩ := c
  constructor
  intro pins s σ H Q I read
  refine PySem.W.methodCall_KW (pl := pl) (thn (he.run pins s σ H _ I read) fun u s1 ⟨x, H1, I1, rx, a, dx, fs, ex, ea, l, q⟩ => ?_) ht
  subst ex
  obtain rfl : u = .ref a := rx
  refine getmeth_ok I1 ea cl hm l ?_
  refine PySem.W.callWith_KW0 (first := [.ref a]) (h₀ := X.base) I.ok.mod.kin hm.kp named (thn (vals.run pos pins s1 σ H1 _ I1 q) fun ws s2 y => ?_) nostar
  obtain ⟨zs, H2, J, rel, many, h⟩ := y
  rw [names]
  exact ⟨J.kIn, run_fnN (E := E0) (us := [.ref a]) (vs := [.ref a]) F hr hb pass0 J (.cons rfl .nil) rel rfl many h⟩
theorem pe_calC0 (c : CalC X.prog X.w X.K X.mg X.base k x C ps sp) (hr : Room (k + 1) X.A) (gl : Gl X x) (hdb : (x == ("__debug__" : Str)) = false := by decide) : PE X (.Call (.Name x p) [] [] pos) (tMake C sp [] E0 tNil) := by
  obtain ⟨f, fd, F, hm, M, hb⟩ := c
  exact pe_make0 M F hr gl hm hb .nil pass0 hdb
theorem pe_calC (c : CalC X.prog X.w X.K X.mg X.base k x C ps sp) (hr : Room (k + 1) X.A) (gl : Gl X x) (ha : PA X (e :: es) t) (hdb : (x == ("__debug__" : Str)) = false := by decide)
    (he : starEach (e :: es) X.env = (false, eval e X.env) :: starEach es X.env := by rfl) (hpl : (backTo pos (starEach es X.env)).any (·.1) = false := by rfl) : PE X (.Call (.Name x p) (e :: es) [] pos) (tMake C sp [] E0 t) := by
  obtain ⟨f, fd, F, hm, M, hb⟩ := c
  exact pe_make M F hr gl hm hb .nil pass0 ha hdb he hpl
end
end Tg

namespace Tg
open PySem PySem.Spec PyProof.Rows L2
/-! ### the heap: what stands -/
/-- all but p stands as it stood -/
def Kp (p : Addr) (H H' : Hp) : Prop := ∀ b o, b ≠ p → H b = some o → H' b = some o
theorem Kp.refl (p : Addr) (H : Hp) : Kp p H H := fun _ _ _ h => h
theorem Kp.trans {p : Addr} {H H1 H2 : Hp} (a : Kp p H H1) (b : Kp p H1 H2) : Kp p H H2 := fun c o hc h => b c o hc (a c o hc h)
theorem Kp.of {p : Addr} {H H' : Hp} (s : Same H H') : Kp p H H' := fun c o _ h => s c o h
theorem Kp.put {p : Addr} {H : Hp} {o : HO} : Kp p H (upd H p o) := fun c u hc h => by
  rw [upd_ne hc]
  exact h
/-- what is new stays apart -/
theorem Kp.same {p : Addr} {H H1 H2 : Hp} (s : Same H H1) (n : H p = none) (k : Kp p H1 H2) : Same H H2 := fun b o h => k b o (ne_of_none h n) (s b o h)
theorem same_new {H : Hp} {p : Addr} {o : HO} (h : H p = none) : Same H (upd H p o) := fun b x e => by
  rw [upd_ne (ne_of_none e h)]
  exact e
theorem same_put {H H' : Hp} {D : Addr} {o : HO} (n : H D = none) (s : Same H H') : Same H (upd H' D o) := fun b x e => by
  rw [upd_ne (ne_of_none e n)]
  exact s _ _ e
/-- what can't be changed: tuples, and what is locked -/
def Fix : HO → Prop
  | .tup _ => True
  | .frz _ _ => True
  | _ => False
/-- all that can't be changed stands -/
def KT (H H' : Hp) : Prop := ∀ a o, Fix o → H a = some o → H' a = some o
theorem KT.refl (H : Hp) : KT H H := fun _ _ _ h => h
theorem KT.trans {H H1 H2 : Hp} (a : KT H H1) (b : KT H1 H2) : KT H H2 := fun c o f h => b c o f (a c o f h)
theorem KT.of {H H' : Hp} (s : Same H H') : KT H H' := fun c o _ h => s c o h
theorem KT.kp {p : Addr} {H H' : Hp} {o : HO} (k : Kp p H H') (h : H p = some o) (n : ¬ Fix o) : KT H H' := fun a u f e => k a u (fun z => n (by
  rw [z, h] at e
  cases e
  exact f)) e
theorem KT.put {p : Addr} {H : Hp} {o u : HO} (h : H p = some o) (n : ¬ Fix o) : KT H (upd H p u) := KT.kp Kp.put h n
theorem KT.new {p : Addr} {H : Hp} {u : HO} (h : H p = none) : KT H (upd H p u) := KT.of (same_new h)
theorem nfix_lst {xs : List V} : ¬ Fix (.lst xs) := fun z => z
theorem nfix_dK {xs : List (Key × V)} : ¬ Fix (.dK xs) := fun z => z
theorem nfix_ins {C dx : Addr} {fs : List (Str × V)} : ¬ Fix (.ins C dx fs) := fun z => z
/-! ### data -/
theorem rd_same {H H' : Hp} {a : Addr} {o : HO} (s : Same H H') (h : Rd H a o) : Rd H' a o := by
  rcases h with h | ⟨ob, h⟩
  · exact .inl (s _ _ h)
  · exact .inr ⟨ob, s _ _ h⟩
theorem sqL_same {K : PySem.W.Frag} {H H' : Hp} {a : Addr} {xs : List V} (s : Same H H') (h : SqL K H a xs) : SqL K H' a xs := h.imp (rd_same s) id
theorem sqT_same {K : PySem.W.Frag} {H H' : Hp} {a : Addr} {xs : List V} (s : Same H H') (h : SqT K H a xs) : SqT K H' a xs := h.imp (rd_same s) id
theorem sqT_kt {K : PySem.W.Frag} {H H' : Hp} {a : Addr} {xs : List V} (s : KT H H') (h : SqT K H a xs) : SqT K H' a xs := by
  refine h.imp (fun h => ?_) id
  rcases h with h | ⟨ob, h⟩
  · exact .inl (s _ _ trivial h)
  · exact .inr ⟨ob, s _ _ trivial h⟩
mutual
theorem dp_same {K : PySem.W.Frag} {H H' : Hp} (s : Same H H') : ∀ {x : V} {d : PyData}, Dp K H x d → Dp K H' x d
  | _, _, .non => .non
  | _, _, .bl b => .bl b
  | _, _, .int i => .int i
  | _, _, .str z => .str z
  | _, _, .lst a b => .lst (sqL_same s a) (dpAll_same s b)
  | _, _, .tup a b => .tup (sqT_same s a) (dpAll_same s b)
theorem dpAll_same {K : PySem.W.Frag} {H H' : Hp} (s : Same H H') : ∀ {xs : List V} {ds : List PyData}, DpAll K H xs ds → DpAll K H' xs ds
  | _, _, .nil => .nil
  | _, _, .cons a b => .cons (dp_same s a) (dpAll_same s b)
end
/-- no list and no dict in it -/
inductive TD : PyData → Prop
  | non : TD .none
  | bl (b : Bool) : TD (.bool b)
  | int (i : Int) : TD (.int i)
  | str (z : Str) : TD (.str z)
  | tup {ds : List PyData} : (∀ d, d ∈ ds → TD d) → TD (.tuple ds)
mutual
theorem dp_kt {K : PySem.W.Frag} {H H' : Hp} (s : KT H H') : ∀ {x : V} {d : PyData}, Dp K H x d → TD d → Dp K H' x d
  | _, _, .non, _ => .non
  | _, _, .bl b, _ => .bl b
  | _, _, .int i, _ => .int i
  | _, _, .str z, _ => .str z
  | _, _, .lst _ _, t => nomatch t
  | _, _, .tup a b, .tup t => .tup (sqT_kt s a) (dpAll_kt s b t)
theorem dpAll_kt {K : PySem.W.Frag} {H H' : Hp} (s : KT H H') : ∀ {xs : List V} {ds : List PyData}, DpAll K H xs ds → (∀ d, d ∈ ds → TD d) → DpAll K H' xs ds
  | _, _, .nil, _ => .nil
  | _, _, .cons a b, t => .cons (dp_kt s a (t _ List.mem_cons_self)) (dpAll_kt s b fun d hd => t d (List.mem_cons_of_mem _ hd))
end
theorem dpAll_len {K : PySem.W.Frag} {H : Hp} : ∀ {xs : List V} {ds : List PyData}, DpAll K H xs ds → xs.length = ds.length
  | _, _, .nil => rfl
  | _, _, .cons _ b => congrArg Nat.succ (dpAll_len b)
theorem dpAll_at {K : PySem.W.Frag} {H : Hp} : ∀ {xs : List V} {ds : List PyData}, DpAll K H xs ds → ∀ (i : Nat) (x : V), xs[i]? = some x → ∃ d, ds[i]? = some d ∧ Dp K H x d
  | _, _, .nil => fun i x h => by simp at h
  | _, _, .cons a b => fun i x h => by
    cases i with
    | zero =>
      simp only [Option.some.injEq, List.getElem?_cons_zero] at h
      subst h
      exact ⟨_, rfl, a⟩
    | succ i =>
      rw [List.getElem?_cons_succ] at h ⊢
      exact dpAll_at b i x h
theorem dpAll_tk {K : PySem.W.Frag} {H : Hp} : ∀ {xs : List V} {ds : List PyData}, DpAll K H xs ds → ∀ (i : Nat) (d : PyData), ds[i]? = some d → ∃ x, xs[i]? = some x ∧ Dp K H x d
  | _, _, .nil => fun i x h => by simp at h
  | _, _, .cons a b => fun i x h => by
    cases i with
    | zero =>
      simp only [Option.some.injEq, List.getElem?_cons_zero] at h
      subst h
      exact ⟨_, rfl, a⟩
    | succ i =>
      rw [List.getElem?_cons_succ] at h ⊢
      exact dpAll_tk b i x h
theorem dpAll_app {K : PySem.W.Frag} {H : Hp} : ∀ {xs ys : List V} {ds es : List PyData}, DpAll K H xs ds → DpAll K H ys es → DpAll K H (xs ++ ys) (ds ++ es)
  | _, _, _, _, .nil, h => h
  | _, _, _, _, .cons a b, h => .cons a (dpAll_app b h)
theorem dpAll_snoc {K : PySem.W.Frag} {H : Hp} {xs : List V} {ds : List PyData} {y : V} {e : PyData} (h : DpAll K H xs ds) (a : Dp K H y e) : DpAll K H (xs ++ [y]) (ds ++ [e]) := dpAll_app h (.cons a .nil)
/-- a list of data that can't be changed itself -/
def LD (K : PySem.W.Frag) (H : Hp) (a : Addr) (ds : List PyData) : Prop := ∃ xs, H a = some (.lst xs) ∧ DpAll K H xs ds
theorem LD.dp {K : PySem.W.Frag} {H : Hp} {a : Addr} {ds : List PyData} (h : LD K H a ds) : Dp K H (.ref a) (.list ds) := by
  obtain ⟨xs, h1, h2⟩ := h
  exact .lst (SqL.of h1) h2
theorem LD.same {K : PySem.W.Frag} {H H' : Hp} {a : Addr} {ds : List PyData} (s : Same H H') (h : LD K H a ds) : LD K H' a ds := by
  obtain ⟨xs, h1, h2⟩ := h
  exact ⟨xs, s _ _ h1, dpAll_same s h2⟩
/-- where the list itself stands and all tuples do -/
theorem LD.kt {K : PySem.W.Frag} {H H' : Hp} {a : Addr} {ds : List PyData} (s : KT H H') (e : ∀ o, H a = some o → H' a = some o) (t : ∀ d, d ∈ ds → TD d) (h : LD K H a ds) : LD K H' a ds := by
  obtain ⟨xs, h1, h2⟩ := h
  exact ⟨xs, e _ h1, dpAll_kt s h2 t⟩
theorem LD.kp {K : PySem.W.Frag} {H H' : Hp} {a p : Addr} {o : HO} {ds : List PyData} (k : Kp p H H') (hp : H p = some o) (n : ¬ Fix o) (ne : a ≠ p) (t : ∀ d, d ∈ ds → TD d) (h : LD K H a ds) : LD K H' a ds :=
  h.kt (KT.kp k hp n) (fun u e => k _ _ ne e) t
/-- one more at the end -/
theorem LD.snoc {K : PySem.W.Frag} {H H1 : Hp} {a : Addr} {xs : List V} {ds : List PyData} {y : V} {e : PyData} (k : KT H H1) (h1 : H1 a = some (.lst xs)) (hd : DpAll K H xs ds) (t : ∀ d, d ∈ ds → TD d) (hy : Dp K H1 y e) (te : TD e) :
    LD K (upd H1 a (.lst (xs ++ [y]))) a (ds ++ [e]) :=
  ⟨_, upd_same, dpAll_snoc (dpAll_kt (k.trans (KT.put h1 nfix_lst)) hd t) (dp_kt (KT.put h1 nfix_lst) hy te)⟩
theorem shaped_of {d : PyData} (h1 : d.canLay0 = true) (h2 : d.depth ≤ 64) : SeqAt.shaped d = true := by
  unfold SeqAt.shaped
  rw [h1, decide_eq_true h2]
  rfl
theorem if_f {A B : Prop} (h : B) : if false = true then A else B := by
  rw [if_neg (by decide)]
  exact h
theorem if_t {A B : Prop} (h : A) : if true = true then A else B := by
  rw [if_pos rfl]
  exact h
theorem atI_mem {xs : List Int} {i : Int} (h0 : 0 ≤ i) (h1 : i < xs.length) : ∃ v, v ∈ xs ∧ atI (xs.map V.int) i = some (.int v) := by
  have hn : i.toNat < xs.length := by omega
  obtain ⟨j, rfl⟩ : ∃ j : Nat, i = (j : Int) := ⟨i.toNat, by omega⟩
  have hj : j < xs.length := by omega
  refine ⟨xs[j], List.getElem_mem hj, atI_nat ?_⟩
  rw [List.getElem?_map, List.getElem?_eq_getElem hj]
  rfl
end Tg

namespace Tg
open PySem L2
/-! ### rows: time, number, worth or none -/
abbrev Rw := Int × Int × Option Int
def Lt (x y : Rw) : Prop := x.1 < y.1 ∨ (x.1 = y.1 ∧ x.2.1 < y.2.1)
def Srt (rs : List Rw) : Prop := rs.Pairwise Lt
theorem Lt.irr (x : Rw) : ¬ Lt x x := fun h => by
  rcases h with h | h
  · omega
  · omega
theorem Srt.sub {rs : List Rw} (h : Srt rs) (p : Rw → Bool) : Srt (rs.filter p) := List.Pairwise.filter p h
/-- r is the last row of its time with a number up to n -/
def IsLast (rs : List Rw) (n : Int) (r : Rw) : Prop := r ∈ rs ∧ r.2.1 ≤ n ∧ ∀ q, q ∈ rs → q.1 = r.1 → q.2.1 ≤ n → q.2.1 ≤ r.2.1
theorem srt_tri {rs : List Rw} (h : Srt rs) {a b : Rw} (ha : a ∈ rs) (hb : b ∈ rs) : a = b ∨ Lt a b ∨ Lt b a := by
  induction rs with
  | nil => cases ha
  | cons x r ih =>
    have ⟨h1, h2⟩ := List.pairwise_cons.mp (show (x :: r).Pairwise Lt from h)
    rcases List.mem_cons.mp ha with e1 | a1
    · rcases List.mem_cons.mp hb with e2 | b1
      · exact .inl (e1.trans e2.symm)
      · rw [e1]
        exact .inr (.inl (h1 b b1))
    · rcases List.mem_cons.mp hb with e2 | b1
      · rw [e2]
        exact .inr (.inr (h1 a a1))
      · exact ih h2 a1 b1
theorem srt_same {rs : List Rw} (h : Srt rs) {a b : Rw} (ha : a ∈ rs) (hb : b ∈ rs) (e1 : a.1 = b.1) (e2 : a.2.1 = b.2.1) : a = b := by
  rcases srt_tri h ha hb with e | (e | e) | (e | e)
  · exact e
  · omega
  · omega
  · omega
  · omega
theorem last_uniq {rs : List Rw} (h : Srt rs) {n : Int} {a b : Rw} (ha : IsLast rs n a) (hb : IsLast rs n b) (e : a.1 = b.1) : a = b := by
  have h1 := ha.2.2 b hb.1 e.symm hb.2.1
  have h2 := hb.2.2 a ha.1 e ha.2.1
  exact srt_same h ha.1 hb.1 e (by omega)
theorem Srt.nodup {rs : List Rw} (h : Srt rs) : rs.Nodup := by
  unfold List.Nodup
  refine List.Pairwise.imp (fun {a b} (l : Lt a b) => ?_) h
  intro e
  rw [← e] at l
  exact Lt.irr a l
/-! ### tables by times -/
def putL {α : Type} (m : List (Int × α)) (t : Int) (a : α) : List (Int × α) := if (m.any fun p => decide (p.1 = t)) = true then m.map (fun p => if p.1 = t then (p.1, a) else p) else m ++ [(t, a)]
theorem mem_putL {α : Type} {m : List (Int × α)} {t : Int} {a : α} {p : Int × α} : p ∈ putL m t a ↔ p = (t, a) ∨ (p ∈ m ∧ ¬ p.1 = t) := by
  unfold putL
  by_cases c : (m.any fun p => decide (p.1 = t)) = true
  · rw [if_pos c]
    obtain ⟨q, hq, eq⟩ := List.any_eq_true.mp c
    have eq := of_decide_eq_true eq
    constructor
    · intro h
      obtain ⟨x, hx, e⟩ := List.mem_map.mp h
      by_cases d : x.1 = t
      · rw [if_pos d, d] at e
        exact .inl e.symm
      · rw [if_neg d] at e
        subst e
        exact .inr ⟨hx, d⟩
    · rintro (rfl | ⟨h1, h2⟩)
      · exact List.mem_map.mpr ⟨q, hq, by rw [if_pos eq, eq]⟩
      · exact List.mem_map.mpr ⟨p, h1, by rw [if_neg h2]⟩
  · rw [if_neg c]
    constructor
    · intro there
      rcases List.mem_append.mp there with old | new
      · exact .inr ⟨old, fun z => c (List.any_eq_true.mpr ⟨p, old, decide_eq_true z⟩)⟩
      · exact .inl (List.mem_singleton.mp new)
    · rintro (rfl | ⟨h1, h2⟩)
      · exact List.mem_append_right _ (List.mem_singleton.mpr rfl)
      · exact List.mem_append_left _ h1
theorem putL_keys {α : Type} {m : List (Int × α)} {t : Int} {a : α} (h : m.Pairwise fun x y => x.1 < y.1) (le : ∀ p, p ∈ m → p.1 ≤ t) : (putL m t a).Pairwise fun x y => x.1 < y.1 := by
  unfold putL
  by_cases c : (m.any fun p => decide (p.1 = t)) = true
  · rw [if_pos c, List.pairwise_map]
    refine h.imp fun {x y} l => ?_
    by_cases d : x.1 = t
    · by_cases e : y.1 = t
      · rw [if_pos d, if_pos e]
        exact l
      · rw [if_pos d, if_neg e]
        exact l
    · by_cases e : y.1 = t
      · rw [if_neg d, if_pos e]
        exact l
      · rw [if_neg d, if_neg e]
        exact l
  · rw [if_neg c, List.pairwise_append]
    refine ⟨h, List.pairwise_singleton _ _, fun x hx y hy => ?_⟩
    rw [List.mem_singleton.mp hy]
    have h1 := le x hx
    have h2 : ¬ x.1 = t := fun z => c (List.any_eq_true.mpr ⟨x, hx, decide_eq_true z⟩)
    show x.1 < t
    omega
theorem putL_len {α : Type} {m : List (Int × α)} {t : Int} {a : α} : (putL m t a).length ≤ m.length + 1 := by
  unfold putL
  split
  · rw [List.length_map]
    omega
  · rw [List.length_append]
    exact Nat.le_refl _
/-- of each time the last row up to a number -/
def lwR (rs : List Rw) (n : Int) : List (Int × Rw) := rs.foldl (fun m r => if r.2.1 ≤ n then putL m r.1 r else m) []
theorem lwR_snoc (rs : List Rw) (n : Int) (r : Rw) : lwR (rs ++ [r]) n = if r.2.1 ≤ n then putL (lwR rs n) r.1 r else lwR rs n := by
  unfold lwR
  rw [List.foldl_append]
  rfl
theorem lwR_len (rs : List Rw) (n : Int) : (lwR rs n).length ≤ rs.length := by
  obtain ⟨k, hk⟩ : ∃ k, rs.length = k := ⟨_, rfl⟩
  induction k generalizing rs with
  | zero =>
    rw [List.length_eq_zero_iff.mp hk]
    exact Nat.le_refl _
  | succ k ih =>
    rcases List.eq_nil_or_concat rs with rfl | ⟨q, x, e⟩
    · exact Nat.zero_le _
    · rw [List.concat_eq_append] at e
      subst e
      rw [List.length_append] at hk ⊢
      have i1 := ih q (by simp at hk; exact hk)
      rw [lwR_snoc]
      have := putL_len (m := lwR q n) (t := x.1) (a := x)
      show _ ≤ q.length + 1
      split <;> omega
theorem lwR_is {n : Int} (rs : List Rw) (h : Srt rs) : ((lwR rs n).Pairwise fun x y => x.1 < y.1) ∧ ∀ p : Int × Rw, p ∈ lwR rs n ↔ p.1 = p.2.1 ∧ IsLast rs n p.2 := by
  obtain ⟨k, hk⟩ : ∃ k, rs.length = k := ⟨_, rfl⟩
  induction k generalizing rs with
  | zero =>
    rw [List.length_eq_zero_iff.mp hk]
    exact ⟨.nil, fun p => ⟨(fun z => absurd z List.not_mem_nil), (fun z => absurd z.2.1 List.not_mem_nil)⟩⟩
  | succ k ih =>
    rcases List.eq_nil_or_concat rs with rfl | ⟨q, x, e⟩
    · exact ⟨.nil, fun p => ⟨(fun z => absurd z List.not_mem_nil), (fun z => absurd z.2.1 List.not_mem_nil)⟩⟩
    · rw [List.concat_eq_append] at e
      subst e
      rw [List.length_append] at hk
      obtain ⟨h1, _, h3⟩ := List.pairwise_append.mp h
      have hx : ∀ y, y ∈ q → Lt y x := fun y hy => h3 y hy x (List.mem_singleton.mpr rfl)
      obtain ⟨i1, i2⟩ := ih q h1 (by simp at hk; exact hk)
      rw [lwR_snoc]
      by_cases c : x.2.1 ≤ n
      · rw [if_pos c]
        constructor
        · refine putL_keys i1 fun p hp => ?_
          obtain ⟨e1, e2⟩ := (i2 p).mp hp
          rcases hx p.2 e2.1 with l | l <;> omega
        · intro p
          rw [mem_putL]
          constructor
          · rintro (rfl | ⟨h4, h5⟩)
            · refine ⟨rfl, List.mem_append_right _ (List.mem_singleton.mpr rfl), c, fun y hy e4 _ => ?_⟩
              rcases List.mem_append.mp hy with h | h
              · rcases hx y h with l | l
                · have e4' : y.1 = x.1 := e4
                  omega
                · show y.2.1 ≤ x.2.1
                  omega
              · rw [List.mem_singleton.mp h]
                exact Int.le_refl _
            · obtain ⟨e1, e2, e3, e4⟩ := (i2 p).mp h4
              refine ⟨e1, List.mem_append_left _ e2, e3, fun y hy e5 e6 => ?_⟩
              rcases List.mem_append.mp hy with h | h
              · exact e4 y h e5 e6
              · rw [List.mem_singleton.mp h] at e5
                omega
          · rintro ⟨e1, e2, e3, e4⟩
            rcases List.mem_append.mp e2 with h | h
            · by_cases d : p.1 = x.1
              · exfalso
                have := e4 x (List.mem_append_right _ (List.mem_singleton.mpr rfl)) (by omega) c
                rcases hx p.2 h with l | l <;> omega
              · exact .inr ⟨(i2 p).mpr ⟨e1, h, e3, fun y hy => e4 y (List.mem_append_left _ hy)⟩, d⟩
            · left
              have e := List.mem_singleton.mp h
              obtain ⟨p1, p2⟩ := p
              have e' : p2 = x := e
              rw [e'] at e1 ⊢
              exact congrArg (fun z => (z, x)) e1
      · rw [if_neg c]
        refine ⟨i1, fun p => ?_⟩
        rw [i2 p]
        constructor
        · rintro ⟨e1, e2, e3, e4⟩
          refine ⟨e1, List.mem_append_left _ e2, e3, fun y hy e5 e6 => ?_⟩
          rcases List.mem_append.mp hy with h | h
          · exact e4 y h e5 e6
          · rw [List.mem_singleton.mp h] at e6
            exact absurd e6 c
        · rintro ⟨e1, e2, e3, e4⟩
          rcases List.mem_append.mp e2 with h | h
          · exact ⟨e1, h, e3, fun y hy => e4 y (List.mem_append_left _ hy)⟩
          · rw [List.mem_singleton.mp h] at e3
            exact absurd e3 c
/-- there is a last one -/
theorem last_of {rs : List Rw} (h : Srt rs) {n t : Int} {l : Rw} (e : (rs.filter fun q => decide (q.1 = t ∧ q.2.1 ≤ n)).getLast? = some l) : IsLast rs n l ∧ l.1 = t := by
  have ml := List.mem_of_getLast? e
  obtain ⟨m1, m2⟩ := List.mem_filter.mp ml
  obtain ⟨m3, m4⟩ := of_decide_eq_true m2
  refine ⟨⟨m1, m4, fun q hq e1 e2 => ?_⟩, m3⟩
  have mq : q ∈ rs.filter fun q => decide (q.1 = t ∧ q.2.1 ≤ n) := List.mem_filter.mpr ⟨hq, decide_eq_true ⟨by omega, e2⟩⟩
  have hs := h.sub fun q => decide (q.1 = t ∧ q.2.1 ≤ n)
  revert e mq hs
  generalize rs.filter (fun q => decide (q.1 = t ∧ q.2.1 ≤ n)) = fs
  intro e mq hs
  rcases List.eq_nil_or_concat fs with rfl | ⟨g, x, eg⟩
  · cases mq
  · rw [List.concat_eq_append] at eg
    subst eg
    rw [List.getLast?_concat] at e
    cases e
    rcases List.mem_append.mp mq with hg | hg
    · rcases (List.pairwise_append.mp hs).2.2 q hg l (List.mem_singleton.mpr rfl) with z | z <;> omega
    · rw [List.mem_singleton.mp hg]
      exact Int.le_refl _
theorem last_there {rs : List Rw} (h : Srt rs) {n : Int} {r : Rw} (hr : r ∈ rs) (hn : r.2.1 ≤ n) : ∃ l, IsLast rs n l ∧ l.1 = r.1 := by
  cases e : (rs.filter fun q => decide (q.1 = r.1 ∧ q.2.1 ≤ n)).getLast? with
  | some l => exact ⟨l, last_of h e⟩
  | none =>
    rw [List.getLast?_eq_none_iff] at e
    have : r ∈ rs.filter fun q => decide (q.1 = r.1 ∧ q.2.1 ≤ n) := List.mem_filter.mpr ⟨hr, decide_eq_true ⟨rfl, hn⟩⟩
    rw [e] at this
    cases this
/-! ### rising lists are told by their members -/
theorem ext_sorted {α : Type} {lt : α → α → Prop} (irr : ∀ a, ¬ lt a a) (tr : ∀ a b c, lt a b → lt b c → lt a c) : ∀ {xs ys : List α}, xs.Pairwise lt → ys.Pairwise lt → (∀ a, a ∈ xs ↔ a ∈ ys) → xs = ys
  | [], [], _, _, _ => rfl
  | [], y :: ys, _, _, h => nomatch (h y).mpr List.mem_cons_self
  | x :: xs, [], _, _, h => nomatch (h x).mp List.mem_cons_self
  | x :: xs, y :: ys, h1, h2, h => by
    obtain ⟨a1, a2⟩ := List.pairwise_cons.mp h1
    obtain ⟨b1, b2⟩ := List.pairwise_cons.mp h2
    have e : x = y := by
      rcases List.mem_cons.mp ((h x).mp List.mem_cons_self) with z | z
      · exact z
      · rcases List.mem_cons.mp ((h y).mpr List.mem_cons_self) with u | u
        · exact u.symm
        · exact absurd (tr _ _ _ (a1 y u) (b1 x z)) (irr x)
    subst e
    refine congrArg (x :: ·) (ext_sorted irr tr a2 b2 fun a => ?_)
    constructor
    · intro ha
      rcases List.mem_cons.mp ((h a).mp (List.mem_cons_of_mem _ ha)) with z | z
      · rw [z] at ha
        exact absurd (a1 x ha) (irr x)
      · exact z
    · intro ha
      rcases List.mem_cons.mp ((h a).mpr (List.mem_cons_of_mem _ ha)) with z | z
      · rw [z] at ha
        exact absurd (b1 x ha) (irr x)
      · exact z
/-! ### what is known -/
def kn (rs : List Rw) (n : Int) : List (Int × Int) := (lwR rs n).filterMap fun p => p.2.2.2.map fun w => (p.1, w)
theorem mem_kn {rs : List Rw} (h : Srt rs) {n : Int} {x : Int × Int} : x ∈ kn rs n ↔ ∃ r, IsLast rs n r ∧ r.1 = x.1 ∧ r.2.2 = some x.2 := by
  unfold kn
  rw [List.mem_filterMap]
  constructor
  · rintro ⟨p, hp, e⟩
    obtain ⟨e1, e2⟩ := ((lwR_is rs h).2 p).mp hp
    obtain ⟨w, e3, rfl⟩ := Option.map_eq_some_iff.mp e
    exact ⟨p.2, e2, e1.symm, e3⟩
  · rintro ⟨r, h1, h2, h3⟩
    refine ⟨(r.1, r), ((lwR_is rs h).2 _).mpr ⟨rfl, h1⟩, ?_⟩
    rw [h3, h2]
    rfl
theorem kn_srt {rs : List Rw} (h : Srt rs) (n : Int) : (kn rs n).Pairwise fun x y => x.1 < y.1 := by
  unfold kn
  rw [List.pairwise_filterMap]
  refine (lwR_is rs h).1.imp fun {a b} l x hx y hy => ?_
  obtain ⟨w, _, rfl⟩ := Option.map_eq_some_iff.mp hx
  obtain ⟨u, _, rfl⟩ := Option.map_eq_some_iff.mp hy
  exact l
theorem kn_len (rs : List Rw) (n : Int) : (kn rs n).length ≤ rs.length := Nat.le_trans (List.length_filterMap_le _ _) (lwR_len rs n)
theorem kn_ext {rs qs : List Rw} (h1 : Srt rs) (h2 : Srt qs) {n m : Int} (h : ∀ r, r.2.2 ≠ none → (IsLast rs n r ↔ IsLast qs m r)) : kn rs n = kn qs m := by
  refine ext_sorted (lt := fun x y => x.1 < y.1) (fun a => Int.lt_irrefl _) (fun a b c => Int.lt_trans) (kn_srt h1 n) (kn_srt h2 m) fun x => ?_
  rw [mem_kn h1, mem_kn h2]
  constructor
  · rintro ⟨r, a, b, c⟩
    exact ⟨r, (h r (by rw [c]; simp)).mp a, b, c⟩
  · rintro ⟨r, a, b, c⟩
    exact ⟨r, (h r (by rw [c]; simp)).mpr a, b, c⟩
/-! ### what is needed -/
instance (rs : List Rw) (n : Int) (r : Rw) : Decidable (IsLast rs n r) := by
  unfold IsLast
  exact inferInstance
def Need (rs : List Rw) (n : Int) (r : Rw) : Prop := n < r.2.1 ∨ (IsLast rs n r ∧ ¬ r.2.2 = none)
instance (rs : List Rw) (n : Int) (r : Rw) : Decidable (Need rs n r) := by
  unfold Need
  exact inferInstance
def fl (rs : List Rw) (n : Int) (r : Rw) : Bool := decide (Need rs n r)
def thin (rs : List Rw) (n : Int) : List Rw := rs.filter (fl rs n)
def ndl (rs : List Rw) (n : Int) : List Rw := rs.filter fun r => !fl rs n r
theorem thin_known {rs : List Rw} (h : Srt rs) {n m : Int} (le : n ≤ m) : kn (thin rs n) m = kn rs m := by
  refine kn_ext (h.sub _) h fun r hr => ?_
  constructor
  · rintro ⟨a1, a2, a3⟩
    obtain ⟨b1, b2⟩ := List.mem_filter.mp a1
    have b3 : Need rs n r := of_decide_eq_true b2
    refine ⟨b1, a2, fun q hq e1 e2 => ?_⟩
    by_cases c : n < q.2.1
    · exact a3 q (List.mem_filter.mpr ⟨hq, decide_eq_true (.inl c)⟩) e1 e2
    · rcases b3 with z | z
      · omega
      · exact z.1.2.2 q hq e1 (by omega)
  · rintro ⟨a1, a2, a3⟩
    refine ⟨List.mem_filter.mpr ⟨a1, decide_eq_true ?_⟩, a2, fun q hq e1 e2 => a3 q (List.mem_filter.mp hq).1 e1 e2⟩
    by_cases c : n < r.2.1
    · exact .inl c
    · exact .inr ⟨⟨a1, by omega, fun q hq e1 e2 => a3 q hq e1 (by omega)⟩, hr⟩
/-- a row left out is missed -/
theorem missed {rs : List Rw} (h : Srt rs) {n : Int} {row : Rw} (hm : row ∈ thin rs n) (hw : ¬ row.2.2 = none) {b : Int} (eb : b = max n row.2.1)
    (he : (((thin rs n).filter fun q => !decide (q = row)).filter fun q => decide (q.1 = row.1 ∧ q.2.1 ≤ b)).getLast?.map (·.2.2) ≠ some row.2.2) :
    kn ((thin rs n).filter fun q => !decide (q = row)) b ≠ kn (thin rs n) b := fun z => by
  have hl : Srt (thin rs n) := h.sub _
  have hf : Srt ((thin rs n).filter fun q => !decide (q = row)) := hl.sub _
  obtain ⟨w, ew⟩ : ∃ w, row.2.2 = some w := by
    cases e : row.2.2 with
    | none => exact absurd e hw
    | some w => exact ⟨w, rfl⟩
  have last : IsLast (thin rs n) b row := by
    refine ⟨hm, by omega, fun q hq e1 e2 => ?_⟩
    obtain ⟨m1, m2⟩ := List.mem_filter.mp hm
    have nd : Need rs n row := of_decide_eq_true m2
    rcases nd with c | c
    · omega
    · have := c.1.2.1
      exact c.1.2.2 q (List.mem_filter.mp hq).1 e1 (by omega)
  have m1 : (row.1, w) ∈ kn (thin rs n) b := (mem_kn hl).mpr ⟨row, last, rfl, ew⟩
  rw [← z, mem_kn hf] at m1
  obtain ⟨r, r1, r2, r3⟩ := m1
  cases e : (((thin rs n).filter fun q => !decide (q = row)).filter fun q => decide (q.1 = row.1 ∧ q.2.1 ≤ b)).getLast? with
  | none =>
    rw [List.getLast?_eq_none_iff] at e
    have : r ∈ ((thin rs n).filter fun q => !decide (q = row)).filter fun q => decide (q.1 = row.1 ∧ q.2.1 ≤ b) := List.mem_filter.mpr ⟨r1.1, decide_eq_true ⟨r2, r1.2.1⟩⟩
    rw [e] at this
    cases this
  | some l =>
    obtain ⟨l1, l2⟩ := last_of hf e
    have el := last_uniq hf r1 l1 (by rw [l2]; exact r2)
    refine he ?_
    rw [e, ← el, ew]
    exact congrArg some r3
/-! ### the tables as dicts -/
def lwV (f : Rw → V) (rs : List Rw) (n : Int) : List (Key × V) := rs.foldl (fun m r => if r.2.1 ≤ n then putK m (Sum.inl r.1) (f r) else m) []
theorem lwV_snoc (f : Rw → V) (rs : List Rw) (n : Int) (r : Rw) : lwV f (rs ++ [r]) n = if r.2.1 ≤ n then putK (lwV f rs n) (Sum.inl r.1) (f r) else lwV f rs n := by
  unfold lwV
  rw [List.foldl_append]
  rfl
theorem putK_map (f : Rw → V) (m : List (Int × Rw)) (t : Int) (r : Rw) : putK (m.map fun p => ((Sum.inl p.1 : Key), f p.2)) (Sum.inl t) (f r) = (putL m t r).map fun p => ((Sum.inl p.1 : Key), f p.2) := by
  unfold putK putL
  have e : ((m.map fun p => ((Sum.inl p.1 : Key), f p.2)).any fun kv => decide (kv.1 = Sum.inl t)) = m.any fun p => decide (p.1 = t) := by
    rw [List.any_map]
    refine List.any_congr rfl fun p => ?_
    simp only [Function.comp_apply, Sum.inl.injEq]
  rw [e]
  by_cases c : (m.any fun p => decide (p.1 = t)) = true
  · rw [if_pos c, if_pos c, List.map_map, List.map_map]
    refine List.map_congr_left fun p _ => ?_
    simp only [Function.comp_apply]
    by_cases d : p.1 = t
    · rw [if_pos (congrArg Sum.inl d), if_pos d]
    · rw [if_neg (fun z => d (Sum.inl.inj z)), if_neg d]
  · rw [if_neg c, if_neg c, List.map_append]
    rfl
theorem lwV_eq (f : Rw → V) (rs : List Rw) (n : Int) : lwV f rs n = (lwR rs n).map fun p => ((Sum.inl p.1 : Key), f p.2) := by
  obtain ⟨k, hk⟩ : ∃ k, rs.length = k := ⟨_, rfl⟩
  induction k generalizing rs with
  | zero =>
    rw [List.length_eq_zero_iff.mp hk]
    rfl
  | succ k ih =>
    rcases List.eq_nil_or_concat rs with rfl | ⟨q, x, e⟩
    · rfl
    · rw [List.concat_eq_append] at e
      subst e
      rw [List.length_append] at hk
      have i1 := ih q (by simp at hk; exact hk)
      rw [lwV_snoc, lwR_snoc, i1]
      by_cases c : x.2.1 ≤ n
      · rw [if_pos c, if_pos c, putK_map]
      · rw [if_neg c, if_neg c]
theorem lwV_len (f : Rw → V) (rs : List Rw) (n : Int) : (lwV f rs n).length ≤ rs.length := by
  rw [lwV_eq, List.length_map]
  exact lwR_len rs n
theorem valV_of {f : Rw → V} : ∀ {m : List (Int × Rw)} {p : Int × Rw}, (m.Pairwise fun x y => x.1 < y.1) → p ∈ m → valV (m.map fun p => ((Sum.inl p.1 : Key), f p.2)) (Sum.inl p.1) = some (f p.2)
  | [], p, _, h => nomatch h
  | q :: m, p, .cons h1 h2, there => by
    rcases List.mem_cons.mp there with rfl | h
    · exact valV_pos rfl
    · rw [List.map_cons, valV_neg (fun z => by
        have := h1 p h
        have : q.1 = p.1 := Sum.inl.inj z
        omega)]
      exact valV_of h2 h
theorem lwV_last {f : Rw → V} {rs : List Rw} (h : Srt rs) {n : Int} {r : Rw} (hl : IsLast rs n r) : valV (lwV f rs n) (Sum.inl r.1 : Key) = some (f r) := by
  rw [lwV_eq]
  exact valV_of (p := (r.1, r)) (lwR_is rs h).1 (((lwR_is rs h).2 _).mpr ⟨rfl, hl⟩)
/-- the values of a list of unlike rows, as a function -/
theorem val_fun : ∀ (rs : List Rw) (xs : List V), rs.Nodup → ∃ f : Rw → V, ∀ (i : Nat) (r : Rw) (v : V), rs[i]? = some r → xs[i]? = some v → f r = v
  | [], xs, _ => ⟨fun _ => .non, fun i r v h => by simp at h⟩
  | r0 :: rs, [], _ => ⟨fun _ => .non, fun i r v _ h => by simp at h⟩
  | r0 :: rs, x :: xs, nd => by
    have n1 := (List.nodup_cons.mp nd).1
    obtain ⟨f, hf⟩ := val_fun rs xs (List.nodup_cons.mp nd).2
    refine ⟨fun r => if r = r0 then x else f r, fun i r v h1 h2 => ?_⟩
    cases i with
    | zero =>
      simp only [List.getElem?_cons_zero, Option.some.injEq] at h1 h2
      show (if r = r0 then x else f r) = v
      rw [if_pos h1.symm, h2]
    | succ i =>
      rw [List.getElem?_cons_succ] at h1 h2
      have ne : ¬ r = r0 := fun z => n1 (z ▸ List.mem_of_getElem? h1)
      show (if r = r0 then x else f r) = v
      rw [if_neg ne]
      exact hf i r v h1 h2
end Tg

namespace Tg
open PySem PySem.Spec PyProof.Rows L2
/-! ### rows and points as data -/
def dw : Option Int → PyData
  | none => .none
  | some i => .int i
def vw : Option Int → V
  | none => .non
  | some i => .int i
theorem dp_vw {K : PySem.W.Frag} {H : Hp} : ∀ o : Option Int, Dp K H (vw o) (dw o)
  | none => .non
  | some i => .int i
theorem dp_dw {K : PySem.W.Frag} {H : Hp} {v : V} : ∀ {o : Option Int}, Dp K H v (dw o) → v = vw o
  | none, h => by
    cases h
    rfl
  | some i, h => by
    cases h
    rfl
theorem vw_non (o : Option Int) : decide (vw o = .non) = o.isNone := by
  cases o with
  | none => rfl
  | some i => rfl
theorem td_dw : ∀ o : Option Int, TD (dw o)
  | none => .non
  | some i => .int i
theorem eq_dw (a b : Option Int) : PyData.eqv (dw a) (dw b) = decide (a = b) := by
  cases a with
  | none =>
    cases b with
    | none => rfl
    | some j => rfl
  | some i =>
    cases b with
    | none => rfl
    | some j =>
      show (i == j) = _
      by_cases c : i = j
      · rw [c, beq_self_eq_true, decide_eq_true rfl]
      · rw [beq_eq_false_iff_ne.mpr c, decide_eq_false fun z => c (Option.some.inj z)]
def rd (r : Rw) : PyData := .tuple [.int r.1, .int r.2.1, dw r.2.2]
def pd (x : Int × Int) : PyData := .tuple [.int x.1, .int x.2]
theorem td_rd (r : Rw) : TD (rd r) := .tup fun d hd => by
  simp only [List.mem_cons, List.not_mem_nil, or_false] at hd
  rcases hd with rfl | rfl | rfl
  · exact .int _
  · exact .int _
  · exact td_dw _
theorem td_rds (rs : List Rw) : ∀ d, d ∈ rs.map rd → TD d := fun d hd => by
  obtain ⟨x, _, rfl⟩ := List.mem_map.mp hd
  exact td_rd x
theorem td_pd (x : Int × Int) : TD (pd x) := .tup fun d hd => by
  simp only [List.mem_cons, List.not_mem_nil, or_false] at hd
  rcases hd with rfl | rfl
  · exact .int _
  · exact .int _
theorem td_pds (ps : List (Int × Int)) : ∀ d, d ∈ ps.map pd → TD d := fun d hd => by
  obtain ⟨x, _, rfl⟩ := List.mem_map.mp hd
  exact td_pd x
theorem dp_rd {K : PySem.W.Frag} {H : Hp} {v : V} {r : Rw} (h : Dp K H v (rd r)) : ∃ a, v = .ref a ∧ SqT K H a [.int r.1, .int r.2.1, vw r.2.2] := by
  cases h with
  | tup a b =>
    cases b with
    | cons h1 b =>
      cases b with
      | cons h2 b =>
        cases b with
        | cons h3 b =>
          cases b
          cases h1
          cases h2
          rw [dp_dw h3] at a
          exact ⟨_, rfl, a⟩
theorem rd_new {K : PySem.W.Frag} {H : Hp} {a : Addr} {r : Rw} (h : SqT K H a [.int r.1, .int r.2.1, vw r.2.2]) : Dp K H (.ref a) (rd r) := .tup h (.cons (.int _) (.cons (.int _) (.cons (dp_vw _) .nil)))
theorem pd_new {K : PySem.W.Frag} {H : Hp} {a : Addr} {x : Int × Int} (h : H a = some (.tup [.int x.1, .int x.2])) : Dp K H (.ref a) (pd x) := .tup (SqT.of h) (.cons (.int _) (.cons (.int _) .nil))
theorem lay_dw : ∀ o : Option Int, (dw o).canLay0 = true
  | none => rfl
  | some i => rfl
theorem dep_dw : ∀ o : Option Int, (dw o).depth = 0
  | none => rfl
  | some i => rfl
theorem lay_rd (r : Rw) : (rd r).canLay0 = true := by
  show (true && (true && ((dw r.2.2).canLay0 && true))) = true
  rw [lay_dw]
  rfl
theorem dep_rd (r : Rw) : (rd r).depth = 1 := by
  show max 0 (max 0 (max (dw r.2.2).depth 0)) + 1 = 1
  rw [dep_dw]
  rfl
theorem eq_rd (a b : Rw) : PyData.eqv (rd a) (rd b) = decide (a = b) := by
  show ((a.1 == b.1) && ((a.2.1 == b.2.1) && (PyData.eqv (dw a.2.2) (dw b.2.2) && true))) = _
  rw [eq_dw]
  by_cases c : a = b
  · subst c
    rw [beq_self_eq_true, beq_self_eq_true, decide_eq_true rfl, decide_eq_true rfl]
    rfl
  · rw [decide_eq_false c]
    by_cases c1 : a.1 = b.1
    · by_cases c2 : a.2.1 = b.2.1
      · by_cases c3 : a.2.2 = b.2.2
        · exact absurd (Prod.ext c1 (Prod.ext c2 c3)) c
        · rw [decide_eq_false c3]
          simp
      · rw [beq_eq_false_iff_ne.mpr c2]
        simp
    · rw [beq_eq_false_iff_ne.mpr c1]
      rfl
/-- lists of things of such a form -/
theorem form_all {α : Type} {f : α → PyData} (h1 : ∀ x, (f x).canLay0 = true) (h2 : ∀ x, (f x).depth ≤ 1) (h3 : ∀ x, PyData.eqv (f x) (f x) = true) (xs : List α) :
    PyData.canLayAll0 (xs.map f) = true ∧ PyData.depthAll (xs.map f) ≤ 1 ∧ PyData.eqvAll (xs.map f) (xs.map f) = true := by
  induction xs with
  | nil => exact ⟨rfl, Nat.zero_le _, rfl⟩
  | cons x r ih =>
    obtain ⟨i1, i2, i3⟩ := ih
    refine ⟨?_, ?_, ?_⟩
    · show ((f x).canLay0 && PyData.canLayAll0 (r.map f)) = true
      rw [h1, i1]
      rfl
    · show max (f x).depth (PyData.depthAll (r.map f)) ≤ 1
      have := h2 x
      omega
    · show (PyData.eqv (f x) (f x) && PyData.eqvAll (r.map f) (r.map f)) = true
      rw [h3, i3]
      rfl
theorem form_list {α : Type} {f : α → PyData} (h1 : ∀ x, (f x).canLay0 = true) (h2 : ∀ x, (f x).depth ≤ 1) (h3 : ∀ x, PyData.eqv (f x) (f x) = true) (xs : List α) : SeqAt.shaped (.list (xs.map f)) = true ∧ PyData.eqv (.list (xs.map f)) (.list (xs.map f)) = true := by
  obtain ⟨a, b, c⟩ := form_all h1 h2 h3 xs
  refine ⟨shaped_of a ?_, c⟩
  show PyData.depthAll (xs.map f) + 1 ≤ 64
  omega
theorem ref_rd (r : Rw) : PyData.eqv (rd r) (rd r) = true := by
  rw [eq_rd]
  exact decide_eq_true rfl
theorem rds_form (rs : List Rw) : SeqAt.shaped (.list (rs.map rd)) = true ∧ PyData.eqv (.list (rs.map rd)) (.list (rs.map rd)) = true := form_list lay_rd (fun r => Nat.le_of_eq (dep_rd r)) ref_rd rs
theorem ref_pd (x : Int × Int) : PyData.eqv (pd x) (pd x) = true := by
  show ((x.1 == x.1) && ((x.2 == x.2) && true)) = true
  rw [beq_self_eq_true, beq_self_eq_true]
  rfl
theorem pds_form (ps : List (Int × Int)) : SeqAt.shaped (.list (ps.map pd)) = true ∧ PyData.eqv (.list (ps.map pd)) (.list (ps.map pd)) = true := form_list (f := pd) (fun _ => rfl) (fun _ => Nat.le_refl 1) ref_pd ps
theorem sh_rd (r : Rw) : SeqAt.shaped (rd r) = true := shaped_of (lay_rd r) (by rw [dep_rd]; decide)
theorem dl_at {α : Type} {f : α → PyData} {K : PySem.W.Frag} {H : Hp} {xs : List V} {ps : List α} (h : DpAll K H xs (ps.map f)) {i : Nat} {v : V} (e : xs[i]? = some v) : ∃ x, ps[i]? = some x ∧ Dp K H v (f x) := by
  obtain ⟨d, h1, h2⟩ := dpAll_at h i v e
  rw [List.getElem?_map] at h1
  obtain ⟨x, h3, rfl⟩ := Option.map_eq_some_iff.mp h1
  exact ⟨x, h3, h2⟩
theorem dl_get {α : Type} {f : α → PyData} {K : PySem.W.Frag} {H : Hp} {xs : List V} {ps : List α} (h : DpAll K H xs (ps.map f)) {i : Nat} {x : α} (e : ps[i]? = some x) : ∃ v, xs[i]? = some v ∧ Dp K H v (f x) := dpAll_tk h i (f x) (by rw [List.getElem?_map, e]; rfl)
theorem dl_len {α : Type} {f : α → PyData} {K : PySem.W.Frag} {H : Hp} {xs : List V} {ps : List α} (h : DpAll K H xs (ps.map f)) : xs.length = ps.length := by
  have := dpAll_len h
  rw [List.length_map] at this
  exact this
theorem nodup_len {α : Type} [DecidableEq α] : ∀ {rs L : List α}, rs.Nodup → (∀ r, r ∈ rs → r ∈ L) → rs.length ≤ L.length
  | [], L, _, _ => Nat.zero_le _
  | r :: rs, L, nd, h => by
    have n1 := (List.nodup_cons.mp nd).1
    have n2 := (List.nodup_cons.mp nd).2
    have hr : r ∈ L := h r List.mem_cons_self
    have i := nodup_len (rs := rs) (L := L.erase r) n2 fun q hq => (List.mem_erase_of_ne (fun z : q = r => n1 (by rw [← z]; exact hq))).mpr (h q (List.mem_cons_of_mem _ hq))
    rw [List.length_erase_of_mem hr] at i
    have := List.length_pos_of_mem hr
    show rs.length + 1 ≤ L.length
    omega
theorem take_snoc {α : Type} {L : List α} {i : Nat} {x : α} (h : L[i]? = some x) : L.take (i + 1) = L.take i ++ [x] := by
  rw [List.take_add_one, h]
  rfl
end Tg

namespace Tg
open PySem PySem.Spec PyProof.Rows L2
/-! ### a new thing that is only read from now on -/
section
variable {X : Cx} {e : Expr} {t : TE}
def tFrz (t : TE) : TE := fun σ H Q => t σ H fun x H1 => ∃ d u, x = .ref d ∧ H1 d = some u ∧ Mut (some u) ∧ ∀ od, Q x (upd H1 d (.frz od u))
theorem pe_frz (h : PE X e t) : PE X e (tFrz t) := by
  constructor
  intro pins s σ H Q I read
  refine thn (h.run pins s σ H _ I read) fun v s1 y => ?_
  obtain ⟨x, H1, J, r, d, u, ex, hd, mu, q⟩ := y
  obtain ⟨od, J2⟩ := J.lock hd mu
  exact ⟨x, _, J2, r, q od⟩
/-- a statement that is never reached -/
theorem ps_dead {st : Stmt} : PS X st (fun _ _ _ => False) := ⟨fun _ _ _ _ _ _ h => h.elim⟩
end
end Tg

set_option maxHeartbeats 2000000
namespace Tg
open PySem PySem.Spec PyProof.Rows L2
/-! ### a caught exception that is kept in a name: try: .. except T as e: kept = e -/
/-- the exception of the class cls, its dict at d, at a -/
def ExV (cls : Value) (d : Option Addr) (a : Addr) : HO := .ext fun h => ∃ (oe : Obj) (vs : Array Value), h.get? a = some oe ∧ Zc cls d oe ∧ oe.data = .fields vs
theorem exV_ok {P : Program} {w : World} {H : Hp} {h : Heap} {a : Addr} {cls : Value} {d : Option Addr} {oe : Obj} {vs : Array Value} (e : h.get? a = some oe) (z : Zc cls d oe) (q : oe.data = .fields vs) : ObjOk P w H h a (ExV cls d a) := by
  refine ⟨⟨oe, vs, e, z, q⟩, ⟨oe, e⟩, fun h1 h2 y st => ?_⟩
  obtain ⟨o1, v1, e1, z1, q1⟩ := y
  exact ⟨o1, v1, st _ e1, z1, q1⟩
section
variable {X : Cx} {s : Shared} {H : Hp} {σ : L2.St} {pins : List (Addr × Obj)}
theorem track {a : Addr} {oe : Obj} {vs : Array Value} {o : HO} (I : Inv X pins σ H s) (h0 : X.s_0.heap.get? a = none) (he : s.heap.get? a = some oe) (hd : oe.data = .fields vs) (na : H a = none)
    (nL : a ≠ X.env.locals) (np : ∀ p, p ∈ X.pn ++ pins → p.1 ≠ a) (new : ObjOk X.prog X.w (upd H a o) s.heap a o) : Inv X pins σ (upd H a o) s where
  ok := I.ok
  os := I.os
  bare := I.bare
  base := {
    keep := I.base.keep
    slot := I.base.slot
    free := fun b u q n x => by
      rw [upd_ne (fun z => by rw [z, h0] at q; cases q)]
      exact I.base.free b u q n x
    there := I.base.there
    tups := fun b xs q => by
      have y := I.base.tups b xs q
      rw [upd_ne (ne_of_none y na)]
      exact y
    frzs := fun b u xs q => by
      have y := I.base.frzs b u xs q
      rw [upd_ne (ne_of_none y na)]
      exact y
    tbls := fun b ps q => by
      obtain ⟨m, y⟩ := I.base.tbls b ps q
      refine ⟨m, ?_⟩
      rw [upd_ne (ne_of_none y na)]
      exact y }
  loc := I.loc
  cell := I.cell
  free := by
    rw [upd_ne nL.symm]
    exact I.free
  freeC := fun x c e => by
    have nc : c ≠ a := fun z => by
      obtain ⟨v, y⟩ := I.cell x c e
      obtain ⟨oc, y1, y2⟩ := y
      rw [z, he] at y1
      cases y1
      rw [hd] at y2
      cases y2
    rw [upd_ne nc]
    exact I.freeC x c e
  pin := fun p hp => by
    obtain ⟨y1, y2, y3⟩ := I.pin p hp
    refine ⟨y1, ?_, y3⟩
    rw [upd_ne (np p hp)]
    exact y2
  hok := I.hok.laidN (fun _ _ z => z) na new
  len := I.len
/-- what is wanted of an exception of the body: its class is one that the clause takes; it is kept in slot j -/
def wKeep (Mt : Value → Prop) (i j : Nat) (D : Ends) : WX := fun cls d σ H => Mt cls ∧ ∀ a, H a = none → D.nx (((σ.set i (some (.ref a))).set j (some (.ref a))).set i none) (upd H a (ExV cls d a))
/-- the clause's test: its value takes each exception of such a class -/
def Tests (X : Cx) (test : Expr) (Mt : Value → Prop) : Prop := ∀ (a : Addr) (oe : Obj) (pn : List (Addr × Obj)) (s : Shared) (σ : L2.St) (H : Hp) (Q : Value → Shared → Prop) (E : Value → Shared → Prop),
  Inv (X.suite a ((a, oe) :: pn)) [] σ H s → s.heap.get? a = some oe → Mt oe.cls →
  (∀ (c : Value) (s' : Shared), (∀ b o, s.heap.get? b = some o → s'.heap.get? b = some o) → s'.os = s.os → s'.gens = s.gens → PySem.W.Looks (model X.prog X.w) s'.heap (excMatches (.ref a) c) true → Q c s') →
    wpAny (model X.prog X.w) (X.A.mark (some (.ref a))) (eval test X.env) Q E s
theorem flying_keeps {B : Heap} {l : List Env} {a : Addr} {Z : Obj → Prop} {h h' : Heap} (k : ∀ b o, h.get? b = some o → h'.get? b = some o) (f : HandSPX.FlyingZ B l a Z h) : HandSPX.FlyingZ B l a Z h' := by
  obtain ⟨f1, f2, f3, oe, vs, T, oT, ts, y1, y2, y3, y4, y5, y6, y7, y8, y9⟩ := f
  exact ⟨fun b o e => k _ _ (f1 b o e), f2, Heap.FunFrames.of_keeps (fun b o e _ => ⟨o, k _ _ e, rfl⟩) f3, oe, vs, T, oT, ts, k _ _ y1, y2, y3, y4, y5, y6, k _ _ y7, y8, y9⟩
variable {n y : Str} {i j : Nat} {body : List Stmt} {test : Expr} {py pn' ps' pos pos' : Pos} {tb : WX → TS} {Mt : Value → Prop}
/-- a try's body, whatever is wished of the exceptions that leave it -/
def Bodies (X : Cx) (body : List Stmt) (tb : WX → TS) : Prop := ∀ W pn xe, Takes (X.tr pn xe) W → PassesOwn (model X.prog X.w) X.A X.env xe → PSs (X.tr pn xe) body (tb W)
/-- the same state, one thing more (or less) pinned -/
theorem repin {Y Z : Cx} {p q : List (Addr × Obj)} (I : Inv Y p σ H s) (ok : Z.Ok) (e : Z = { Y with A := Z.A, calm := Z.calm, pn := Z.pn, xe := Z.xe }) (sub : ∀ r, r ∈ Z.pn ++ q → r ∈ Y.pn ++ p) : Inv Z q σ H s := by
  obtain ⟨_, f2, f3, f4, f5, f6, f7, f8, f9, f10, f11⟩ := I
  rw [e] at ok sub ⊢
  exact ⟨ok, f2, f3, f4, f5, f6, f7, f8, fun r hr => f9 r (sub r hr), f10, f11⟩
theorem ps_try_keep (top : X.stack = X.env :: X.outer) (own : X.env.frame = some X.env.locals) (noex : X.ex = []) (nd : X.N.Nodup) (at_i : X.N[i]? = some n) (at_j : X.N[j]? = some y) (loc_n : X.env.scope.names.lookup n = some .local)
    (loc_y : X.env.scope.names.lookup y = some .local) (takes : Tests X test Mt) (bodies : Bodies X body tb) (nodebug : (n == ("__debug__" : Str)) = false := by decide) (noclass : (n == ("__classdict__" : Str)) = false := by decide) :
    PS X (.Try body [.ExceptHandler (some test) (some n) [.Assign [.Name y py] (.Name n pn') ps'] pos'] [] [] pos) (fun D σ H => tb (wKeep Mt i j D) D σ H) := by
  constructor
  intro pins s σ H D I read
  have frames := I.ok.frames.trans (congrArg some top)
  refine wpAny_Try_except (wpAny_mono ((bodies (wKeep Mt i j D) (X.pn ++ pins) _ (fun u s' air => ?_) PassesOwn.looking).run [] s σ H D (I.toTry _) read) (fun f s1 z => ?_) (fun _ _ z => z))
  · obtain ⟨a, B, s0, _, σ0, H0, cls, d, rfl, J0, ground, up, sky, na, os, gens, takes_it, wish⟩ := air
    have J : Inv X pins σ0 H0 s0 := J0.ofTry I.ok
    rw [show (X.tr (X.pn ++ pins) _).stack = X.env :: X.outer from top] at sky ground
    refine Sky.land Zc.steady frames own sky fun h3 fly3 up3 => ?_
    have J3 := J.landed (s' := { s' with heap := h3 }) (B := B) (by rw [top]; exact ground) fly3.1 (up.trans up3) os gens
    obtain ⟨o3, v3, get3, kind3, data3⟩ := fly3.there
    -- it is none of the frames, and it wasn't there ahead of the try
    have noframe : a ∉ frs (X.env :: X.outer) := fun m => by
      obtain ⟨_, _, e, nofields⟩ := fly3.2.2.1.mem m
      cases get3.symm.trans e
      exact nofields _ data3
    have noloc : a ≠ X.env.locals := fun z => noframe (by
      rw [z]
      exact List.mem_filterMap.mpr ⟨X.env, List.mem_cons_self, own⟩)
    have noouter : a ∉ X.fs := fun m => noframe (by
      obtain ⟨env, h1, h2⟩ := List.mem_filterMap.mp m
      exact List.mem_filterMap.mpr ⟨env, .tail _ h1, h2⟩)
    have new0 : s0.heap.get? a = none := by
      rcases q : s0.heap.get? a with _ | o
      · rfl
      · exact nomatch (ground a o q noframe).symm.trans fly3.2.1
    have new : X.s_0.heap.get? a = none := by
      rcases q : X.s_0.heap.get? a with _ | o
      · rfl
      · exact (J.base.there a o q (by rw [noex]; exact List.not_mem_nil)).elim fun _ z => nomatch z.symm.trans new0
    have nopin : ∀ p, p ∈ X.pn ++ pins → p.1 ≠ a := fun p m z => by
      have there := (J.pin p m).1
      rw [z, new0] at there
      cases there
    refine wpAny_handleBy_cons (codeAny_handlers_test (takes a o3 _ _ σ0 H0 _ _ (J3.suite get3 data3 na noloc noouter) get3 (by rw [kind3.1]; exact takes_it) fun c s4 kp4 os4 gens4 match4 => match4.here ?_)) (fun z => nomatch z)
    refine codeAny_handlers_suite_as (HandSPX.lands_againZ (flying_keeps kp4 fly3) fun h5 fly5 up5 => ?_)
    have up4 : h3.UpToSlots s4.heap := fun b o z _ => ⟨o.slots, kp4 _ _ z⟩
    have J5 := J.landed (s' := { s4 with heap := h5 }) (B := B) (by rw [top]; exact ground) fly5.1 (((up.trans up3).trans up4).trans up5) (os4.trans os) (by rw [show ({ s4 with heap := h5 } : Shared).gens = s4.gens from rfl, gens4]; exact gens)
    obtain ⟨o5, v5, get5, kind5, data5⟩ := fly5.there
    refine store_ok (X := X.suite a ((a, o5) :: (X.pn ++ pins))) (v := .ref a) (J5.suite get5 data5 na noloc noouter) nd at_i (.inl loc_n) rfl (fun s6 J6 => ?_) (.inr loc_n)
    -- kept = e
    have keep : PSs (X.suite a ((a, o5) :: (X.pn ++ pins))) [.Assign [.Name y py] (.Name n pn') ps'] (tAsg (tVar i) (gName j)) := pss_one (ps_set nd at_j (.inl loc_y) (pe_var at_i (.inl loc_n) nodebug noclass) (by rfl) (.inr loc_y))
    have short : i < σ0.length := by
      rw [J.len]
      exact (List.getElem?_eq_some_iff.mp at_i).1
    refine wpAny_mono (keep.run [] s6 _ H0 { nx := fun σ7 H7 => σ7 = (σ0.set i (some (.ref a))).set j (some (.ref a)) ∧ H0 = H7, rt := fun _ _ => False, bk := fun _ _ => False, ct := fun _ _ => False } J6 ⟨.ref a, by rw [List.getElem?_set_self short], rfl, rfl⟩) (fun f s7 z => ?_) (fun _ _ z => z.elim)
    match f, z with
    | .next, ⟨_, _, J7, e7, eH⟩ =>
      subst e7
      subst eH
      refine gone_ok (repin (q := (a, o5) :: pins) J7 I.ok rfl fun r m => ?_) nd at_i loc_n fun s8 J8 => ?_
      · refine List.mem_append_left _ ?_
        rcases List.mem_append.mp m with m | m
        · exact .tail _ (List.mem_append_left _ m)
        · cases m with
          | head => exact .head _
          | tail _ m => exact .tail _ (List.mem_append_right _ m)
      · have get8 := (J8.pin (a, o5) (List.mem_append_right _ (.head _))).1
        have J9 : Inv X pins (((σ0.set i (some (.ref a))).set j (some (.ref a))).set i none) H0 s8 := repin J8 I.ok rfl fun r m => by
          rcases List.mem_append.mp m with m | m
          · exact List.mem_append_left _ m
          · exact List.mem_append_right _ (.tail _ m)
        exact ⟨_, _, track J9 new get8 data5 na noloc nopin (exV_ok get8 kind5 data5), wish a na⟩
    | .brk, ⟨_, _, _, z⟩ => exact z.elim
    | .cont, ⟨_, _, _, z⟩ => exact z.elim
    | .ret _, ⟨_, _, _, _, _, z⟩ => exact z.elim
  · match f, z with
    | .next, ⟨σ1, H1, J1, z⟩ => exact wpAny_execs_nil ⟨σ1, H1, J1.ofTry I.ok, z⟩
    | .brk, ⟨σ1, H1, J1, z⟩ => exact ⟨σ1, H1, J1.ofTry I.ok, z⟩
    | .cont, ⟨σ1, H1, J1, z⟩ => exact ⟨σ1, H1, J1.ofTry I.ok, z⟩
    | .ret _, ⟨v, σ1, H1, J1, rel, z⟩ => exact ⟨v, σ1, H1, J1.ofTry I.ok, rel, z⟩
end
end Tg

set_option maxHeartbeats 2000000
namespace Tg
open PySem PySem.Spec PyProof.Rows L2
section
variable {X : Cx} {x1 x2 x3 x4 : Str} {c1 c2 c3 c4 : Value} {p1 p2 p3 p4 pos : Pos}
theorem tests_one (hc : Names X x1 c1) : Tests X (.Name x1 p1) (fun cls => PySem.W.exmOne X.K cls c1 = some true) := by
  intro a oe pn s σ H Q E I he mt h
  have LT : PySem.W.Looks (model X.prog X.w) s.heap (typeOf (.ref a)) oe.cls := fun A Q E s k q => wpAny_typeOf_ref (k _ _ he) q
  have LM := PySem.W.exm_one (M := model X.prog X.w) I.kIn LT mt
  have told := h c1 s (fun _ _ z => z) rfl rfl LM
  rcases hc with ⟨gl, nodebug, own | ⟨none_, boot, noname⟩⟩
  · exact ld_glob (X := X.suite a ((a, oe) :: pn)) I gl own told nodebug
  · exact ld_blt (X := X.suite a ((a, oe) :: pn)) I gl none_ boot told noname nodebug
/-- own classes named one after the other -/
structure Glb (X : Cx) (x : Str) (c : Value) : Prop where
  gl : Gl X x
  mg : X.mg x = some c
  db : (x == ("__debug__" : Str)) = false := by decide
theorem glb_args {a : Addr} {oe : Obj} {pn : List (Addr × Obj)} {s : Shared} {σ : L2.St} {H : Hp} {E : Value → Shared → Prop} {pos : Pos} (I : Inv (X.suite a ((a, oe) :: pn)) [] σ H s) :
    ∀ {xs : List (Str × Pos)} {cs : List Value} {Q : List Value → Shared → Prop}, Paired (fun x c => Glb X x.1 c) xs cs → Q cs s →
      wpAny (model X.prog X.w) (X.A.mark (some (.ref a))) (spliced (backTo pos (starEach (xs.map fun x => .Name x.1 x.2) X.env))) Q E s
  | _, _, Q, .nil, q => args_nil q
  | (x, p) :: xs, c :: cs, Q, .cons g r, q => by
    refine args_cons (ld_glob (X := X.suite a ((a, oe) :: pn)) I g.gl g.mg (glb_args I r q) g.db) rfl
theorem tests_tup {xs : List (Str × Pos)} {cs : List Value} {kt : Nat} (hp : Paired (fun x c => Glb X x.1 c) xs cs) (hl : cs.length ≤ sizeLine)
    (hm : ∀ {h : Heap} {a tp : Addr} {cls : Value}, X.K.In h → PySem.W.Looks (model X.prog X.w) h (typeOf (.ref a)) cls → h.get? tp = some { cls := .type "tuple", data := .seq cs.toArray } → PySem.W.exmAny X.K cls cs = some true → PySem.W.Looks (model X.prog X.w) h (excMatches (.ref a) (.ref tp)) true) :
    Tests X (.Tuple (xs.map fun x => .Name x.1 x.2) kt pos) (fun cls => PySem.W.exmAny X.K cls cs = some true) := by
  intro a oe pn s σ H Q E I he mt h
  refine wpAny_Tuple_spliced (glb_args I hp ⟨hl, ?_⟩)
  have kk : ∀ b o, s.heap.get? b = some o → (s.heap.push { cls := .type "tuple", data := .seq cs.toArray }).get? b = some o := fun b o e => Heap.get?_push_of_some _ e
  have LT : PySem.W.Looks (model X.prog X.w) (s.heap.push { cls := .type "tuple", data := .seq cs.toArray }) (typeOf (.ref a)) oe.cls := fun A Q E s k q => wpAny_typeOf_ref (k _ _ (kk _ _ he)) q
  exact h _ _ kk rfl rfl (hm (I.kIn.keeps kk) LT (Heap.get?_push_size _ rfl) mt)
theorem tests_2 {kt : Nat} (h1 : Glb X x1 c1) (h2 : Glb X x2 c2) : Tests X (.Tuple [.Name x1 p1, .Name x2 p2] kt pos) (fun cls => PySem.W.exmAny X.K cls [c1, c2] = some true) :=
  tests_tup (xs := [(x1, p1), (x2, p2)]) (.cons h1 (.cons h2 .nil)) (by show 2 ≤ sizeLine; decide) fun X LT hp mt => PySem.W.exm_tup2 X LT hp mt
theorem tests_3 {kt : Nat} (h1 : Glb X x1 c1) (h2 : Glb X x2 c2) (h3 : Glb X x3 c3) : Tests X (.Tuple [.Name x1 p1, .Name x2 p2, .Name x3 p3] kt pos) (fun cls => PySem.W.exmAny X.K cls [c1, c2, c3] = some true) :=
  tests_tup (xs := [(x1, p1), (x2, p2), (x3, p3)]) (.cons h1 (.cons h2 (.cons h3 .nil))) (by show 3 ≤ sizeLine; decide) fun X LT hp mt => PySem.W.exm_tup3 X LT hp mt
theorem tests_4 {kt : Nat} (h1 : Glb X x1 c1) (h2 : Glb X x2 c2) (h3 : Glb X x3 c3) (h4 : Glb X x4 c4) : Tests X (.Tuple [.Name x1 p1, .Name x2 p2, .Name x3 p3, .Name x4 p4] kt pos) (fun cls => PySem.W.exmAny X.K cls [c1, c2, c3, c4] = some true) :=
  tests_tup (xs := [(x1, p1), (x2, p2), (x3, p3), (x4, p4)]) (.cons h1 (.cons h2 (.cons h3 (.cons h4 .nil)))) (by show 4 ≤ sizeLine; decide) fun X LT hp mt => PySem.W.exm_tup4 X LT hp mt
end
/-! ### what is asked of it later: a field, isinstance -/
section
variable {X : Cx} {e : Expr} {te : TE} {pos : Pos} {n : Str}
/-- kept.f -/
def tExf (K : PySem.W.Frag) (f : Str) (te : TE) : TE := fun σ H Q => te σ H fun x H1 => ∃ (a C dd : Addr) (fs : List (Str × V)) (v : V), x = .ref a ∧ H1 a = some (ExV (.ref C) (some dd) a) ∧ XfC K C ∧ PySem.W.findIn K (.ref C) f = some none ∧ H1 dd = some (.xd fs) ∧ fs.lookup f = some v ∧ Q v H1
theorem exV_inst {a C dd : Addr} {fs : List (Str × V)} {pins : List (Addr × Obj)} {σ : L2.St} {H : Hp} {s : Shared} (I : Inv X pins σ H s) (ea : H a = some (ExV (.ref C) (some dd) a)) (ed : H dd = some (.xd fs)) :
    ∃ (oe od : Obj) (m : Str → Option Value), PySem.W.InstAt s.heap a oe C (some od) ∧ (∀ f, RelO (fs.lookup f) (m f)) ∧ ∀ x, PySem.W.lookIn x od = some (m x) := by
  obtain ⟨⟨oe, vs, he, hz, hd⟩, _, _⟩ := (show ObjOk X.prog X.w H s.heap a (ExV (.ref C) (some dd) a) from I.hok a _ ea)
  obtain ⟨m, ns, rel⟩ := (show ObjOk X.prog X.w H s.heap dd (.xd fs) from I.hok dd _ ed)
  obtain ⟨od, get, look⟩ := lookIn_ns ns
  exact ⟨oe, od, m, ⟨he, hz.1, by unfold PySem.W.notCls; rw [hd] <;> rfl, by rw [hz.2]; exact get⟩, rel, look⟩
theorem pe_exf (he : PE X e te) (base : attributeBase e n X.env (eval e X.env) = eval e X.env := by rfl) : PE X (.Attribute e n pos) (tExf X.K n te) := by
  constructor
  intro pins s σ H Q I read
  refine attr_of base (thn (he.run pins s σ H _ I read) fun u s1 z => ?_)
  obtain ⟨_, H1, J, ru, a, C, dd, fs, v, rfl, ea, T, none_, ed, is_v, told⟩ := z
  obtain rfl : u = .ref a := ru
  obtain ⟨oe, od, m, inst, rel, look⟩ := exV_inst J ea ed
  have there := rel n
  rw [is_v] at there
  obtain ⟨w, mw, rw_⟩ := RelO.some_of there
  exact HandSPX.exc_get J.kIn inst T.ga T.gg T.exC (PySem.W.findObj_own T.hdC none_ rfl ((look n).trans (congrArg some mw))) (handed_of rw_) ⟨v, H1, J.tok _, rw_, told⟩
theorem cls_some {K : PySem.W.Frag} {D : Addr} (h : PySem.W.hasDictIn K D = true) : (PySem.W.clsIn K D).isSome = true := by
  obtain ⟨cd, hc, _⟩ := PySem.W.any_some h
  rw [hc]
  rfl
/-- isinstance(kept, c) -/
def rIsV (K : PySem.W.Frag) : List V → Hp → VK → Prop := fun xs H Q => ∃ (a D dd : Addr) (fs : List (Str × V)) (c : V) (cv : Value) (b : Bool), xs = [.ref a, c] ∧ H a = some (ExV (.ref D) (some dd) a) ∧ H dd = some (.xd fs) ∧ ExcC K D ∧ ClsV c cv ∧ PySem.W.kitOne K (.ref D) cv = some b ∧ Q (.bl b) H
theorem call_isV : CallR X (.builtin "isinstance") (rIsV X.K) := by
  rintro pins s σ H _ us Q I rel ⟨a, D, dd, fs, c, cv, b, rfl, ea, ed, C, cls, kit, told⟩
  match us, rel with
  | [_, _], .cons ra (.cons rc .nil) =>
    cases ra
    cases cls.eq rc
    obtain ⟨_, _, _, inst, _⟩ := exV_inst I ea ed
    exact PySem.W.kia_one (PySem.W.kitx_exc (cls_some C.hd) C.hg C.hk C.hs C.ha C.hn C.ht C.hm) I.kIn inst kit (fun z => nomatch z) fun tk => ⟨.bl b, H, I.tok tk, rfl, told⟩
/-- isinstance(kept, (c1, c2, ..)) -/
def rIsVT (K : PySem.W.Frag) : List V → Hp → VK → Prop := fun xs H Q => ∃ (a D dd tp : Addr) (fs : List (Str × V)) (cs : List V) (us : List Value) (b : Bool), xs = [.ref a, .ref tp] ∧ H a = some (ExV (.ref D) (some dd) a) ∧ H dd = some (.xd fs) ∧ ExcC K D ∧
  H tp = some (.tup cs) ∧ Paired ClsV cs us ∧ PySem.W.kitAny K (.ref D) us = some b ∧ Q (.bl b) H
theorem call_isVT : CallR X (.builtin "isinstance") (rIsVT X.K) := by
  rintro pins s σ H _ us Q I rel ⟨a, D, dd, tp, fs, cs, ws, b, rfl, ea, ed, C, tup, cls, kit, told⟩
  match us, rel with
  | [_, _], .cons ra (.cons rt .nil) =>
    cases ra
    cases rt
    obtain ⟨_, _, _, inst, _⟩ := exV_inst I ea ed
    obtain ⟨_, items, ri, ⟨oc, od, dt, sl⟩, get, is_tup, m, is_seq⟩ := (show ObjOk X.prog X.w H s.heap tp (.tup cs) from I.hok tp _ tup)
    cases ClsV.all cls ri
    cases is_tup
    cases is_seq
    exact PySem.W.kia_tup (PySem.W.kitx_exc (cls_some C.hd) C.hg C.hk C.hs C.ha C.hn C.ht C.hm) I.kIn inst get kit (fun z => nomatch z) fun tk => ⟨.bl b, H, I.tok tk, rfl, told⟩
end
end Tg

set_option maxHeartbeats 2000000
namespace Tg
open PySem PySem.Spec PyProof.Rows L2
/-! ### class X(ValueError): def __init__(self, at): ValueError.__init__(self, "..") ; self.at = at -/
def inCls (s : Stmt) (i : Nat) : Stmt := match s with
  | .ClassDef _ _ _ body _ _ _ _ _ _ _ => body.getD i (.Pass ⟨0, 0, 0, 0⟩)
  | _ => .Pass ⟨0, 0, 0, 0⟩
/-- what __init__ leaves: the field in a new dict -/
def spErr (C : Addr) (f : Str) : Sp := fun vs H Q _ => ∃ (a : Addr) (v : V), vs = [.ref a, v] ∧ H a = some (exo a C none) ∧ ∀ dx, H dx = none → dx ≠ a → Q .non (upd (upd H dx (exd dx [(f, v)])) a (exo a C (some dx)))
/-- what raise X(v) then leads to -/
theorem err_read {C : Addr} {f : Str} {ta : TE} {σ : L2.St} {H : Hp} {Q : XK} (h : ta σ H fun v H1 => ∀ (d : Addr) (H' : Hp), Same H1 H' → H1 d = none → H' d = some (.xd [(f, v)]) → Q (.ref C) (some d) H')
    (mono : ∀ {Q Q' : VK}, (∀ v H1, Q v H1 → Q' v H1) → ta σ H Q → ta σ H Q') : tMkO C (spErr C f) [] (tCons ta tNil) σ H Q := by
  refine mono (fun v H1 q => ⟨by show 1 ≤ 1000; decide, fun a na => ?_⟩) h
  refine ⟨a, v, rfl, upd_same, fun dx nd da => ⟨rfl, dx, [(f, v)], upd_same, ?_, ?_, ?_⟩⟩
  · rw [upd_ne da, upd_same]
  · rw [upd_ne da] at nd
    exact nd
  · have nd' : H1 dx = none := by
      rw [upd_ne da] at nd
      exact nd
    refine q dx _ (fun b o e => ?_) nd' upd_same
    have nb : b ≠ dx := ne_of_none e nd'
    have nba : b ≠ a := ne_of_none e na
    rw [upd_ne nb, del_ne nba, upd_ne nba, upd_ne nb, upd_ne nba]
    exact e
end Tg

set_option maxHeartbeats 2000000
namespace Tg
open PySem PySem.Spec PyProof.Rows L2
/-! ### a call by keywords that may raise, in a try -/
section
variable {X : Cx} {CX : CXT} {k : Nat} {f : Addr} {fd : FuncData} {ps ks : List Str} {sp : Sp} {E : L2.St → XK} {x : Str} {p pos : Pos} {kws : List Keyword} {tk : TA} {g : List Value → List Value → List Value} {gV : List V → List V → List V}
theorem pe_kwS (F : FnOk X.prog X.w X.K X.mg X.base CX k f fd ps sp) (room : Room k X.A) (gl : Gl X x) (at_x : X.mg x = some (.ref f)) (kept : PySem.W.keepIn X.K (.ref f) = true) (binds : KBn X.K fd ps 0 ks g gV) (lets : ∀ σ, PassesAt CX X σ (E σ)) (vals : PK X kws tk)
    (named : (backToKw pos (keywordEach kws X.env)).all (·.1.isSome) = true := by rfl) (names : (backToKw pos (keywordEach kws X.env)).filterMap (·.1) = ks := by rfl) (nodebug : (x == ("__debug__" : Str)) = false := by decide)
    (nostar : ((backTo pos (starEach [] X.env)).any (·.1) || (backToKw pos (keywordEach kws X.env)).any (·.1.isNone)) = false := by rfl) : PE X (.Call (.Name x p) [] kws pos) (fun σ H Q => tk σ H fun zs H2 => zs.length = ks.length ∧ sp (gV [] zs) H2 Q (E σ)) := by
  constructor
  intro pins s σ H Q I read
  refine wpAny_Call_Name_kw (ld_glob I gl at_x (PySem.W.callWith_KW0 (h₀ := X.base) I.ok.mod.kin kept named (thn (vals.run pos pins s σ H _ I read) fun ws s2 y => ?_) nostar) nodebug)
  obtain ⟨zs, H2, J, rel, many, told⟩ := y
  rw [names]
  refine ⟨J.kIn, wpAny_call (codeAny_mono (F.run X.A X.stack s2 H2 ⟨[], ks.zip ws⟩ (g [] ws) (gV [] zs) Q (E σ) room J.env0 (binds.to s2 [] ws J.kIn rfl (rel.length.symm.trans many)) (binds.rel (vs := []) (us := []) .nil rel) told) fun a s' z => ?_)⟩
  match a, z with
  | .error e, z => exact lets σ pins H2 s2 e s' J z
  | .ok (.ret u), z => exact J.after z
end
end Tg

set_option maxHeartbeats 2000000
namespace Tg
open PySem PySem.Spec PyProof.Rows L2
/-! ### own errors, and classes whose __init__ may raise, as a caller needs them -/
section
variable (P : Program) (w : World) (K : PySem.W.Frag) (mg : Str → Option Value) (base : Heap)
/-- the error x, of the class C over ValueError, made of one thing that is its field fld -/
def CalE (k : Nat) (x : Str) (C : Addr) (fld : Str) : Prop := ∃ fI fdI, OexC K C ∧ PySem.W.findIn K (.ref C) "__init__" = some (some (.ref fI)) ∧ PySem.W.typeIn K (.ref fI) = some (.type "function") ∧
  FnOk P w K mg base CX0 k fI fdI ["self", fld] (spErr C fld) ∧ Binds K fdI ["self", fld] [] ∧ mg x = some (.ref C)
/-- a def that may raise -/
def CalR (k : Nat) (x : Str) (ps : List Str) (sp : Sp) : Prop := ∃ f fd, FnOk P w K mg base (L2.CX P w) k f fd ps sp ∧ mg x = some (.ref f) ∧ PySem.W.keepIn K (.ref f) = true ∧ Binds K fd ps []
def CalRK (k : Nat) (x : Str) (ps ks : List Str) (is : List Nat) (sp : Sp) : Prop := ∃ f fd, FnOk P w K mg base (L2.CX P w) k f fd ps sp ∧ mg x = some (.ref f) ∧ PySem.W.keepIn K (.ref f) = true ∧ KBn K fd ps 0 ks (fun _ ws => prm is ws) (fun _ zs => prm is zs)
/-- a class whose __init__ may raise -/
def CalRC (k : Nat) (x : Str) (C : Addr) (ps : List Str) (sp : Sp) : Prop := ∃ f fd, FnOk P w K mg base (L2.CX P w) k f fd ps sp ∧ mg x = some (.ref C) ∧ Mk K C f ∧ Binds K fd ps []
def CalRCK (k : Nat) (x : Str) (C : Addr) (ps ks : List Str) (is : List Nat) (sp : Sp) : Prop := ∃ f fd, FnOk P w K mg base (L2.CX P w) k f fd ps sp ∧ mg x = some (.ref C) ∧ Mk K C f ∧ KBn K fd ps 1 ks (fun us ws => us ++ prm is ws) (fun vs zs => vs ++ prm is zs)
end
section
variable {X : Cx} {k : Nat} {ps ks : List Str} {is : List Nat} {sp : Sp} {x fld : Str} {C : Addr} {e : Expr} {es : List Expr} {p pos : Pos} {kws : List Keyword} {ta : TE} {t tk : TA} {W : WX}
theorem pm_err (c : CalE X.prog X.w X.K X.mg X.base k x C fld) (room : Room (k + 1) X.A) (gl : Gl X x) (he : PE X e ta) (nodebug : (x == ("__debug__" : Str)) = false := by decide)
    (star : starEach [e] X.env = (false, eval e X.env) :: starEach [] X.env := by rfl) : PMk X (.Call (.Name x p) [e] [] pos) (tMkO C (spErr C fld) [] (tCons ta tNil)) := by
  obtain ⟨fI, fdI, T, iC, tI, F, b, m⟩ := c
  exact pmk_oex T iC tI F room b .nil (fun _ _ _ _ _ _ _ z => z.elim) gl m (pa_cons he pa_nil star) nodebug star
/-- raise x(e), out of the def -/
def tErr (C : Addr) (fld : Str) (ta : TE) (E : XK) : TS := fun _ σ H => ta σ H fun v H1 => ∀ (d : Addr) (H' : Hp), Same H1 H' → H1 d = none → H' d = some (.xd [(fld, v)]) → E (.ref C) (some d) H'
/-- a call that may raise, in a def that lets it out -/
def tCalR (sp : Sp) (E : XK) (t : TA) : TE := fun σ H Q => t σ H fun vs H1 => sp vs H1 Q E
theorem pe_calR {E : XK} (c : CalR X.prog X.w X.K X.mg X.base k x ps sp) (hr : Room k X.A) (gl : Gl X x) (lets : Passes (L2.CX X.prog X.w) X E) (ha : PA X (e :: es) t) (nodebug : (x == ("__debug__" : Str)) = false := by decide)
    (star : starEach (e :: es) X.env = (false, eval e X.env) :: starEach es X.env := by rfl) (plain : (backTo pos (starEach es X.env)).any (·.1) = false := by rfl) : PE X (.Call (.Name x p) (e :: es) [] pos) (tCall sp [] E t) := by
  obtain ⟨f, fd, F, m, kp, b⟩ := c
  exact pe_call F hr gl m kp b .nil lets ha nodebug star plain
/-- the same in a try -/
theorem pe_calT (c : CalR X.prog X.w X.K X.mg X.base k x ps sp) (hr : Room k X.A) (gl : Gl X x) (tks : Takes X W) (ha : PA X (e :: es) t) (nodebug : (x == ("__debug__" : Str)) = false := by decide)
    (star : starEach (e :: es) X.env = (false, eval e X.env) :: starEach es X.env := by rfl) (plain : (backTo pos (starEach es X.env)).any (·.1) = false := by rfl) : PE X (.Call (.Name x p) (e :: es) [] pos) (tCallS sp (WE W) t) := by
  obtain ⟨f, fd, F, m, kp, b⟩ := c
  exact pe_callS F hr gl m kp b (fun σ => passAt tks σ) ha nodebug star plain
def tKwT (n : Nat) (sp : Sp) (is : List Nat) (W : WX) (tk : TA) : TE := fun σ H Q => tk σ H fun zs H2 => zs.length = n ∧ sp (prm is zs) H2 Q (WE W σ)
theorem pe_calKT (c : CalRK X.prog X.w X.K X.mg X.base k x ps ks is sp) (hr : Room k X.A) (gl : Gl X x) (tks : Takes X W) (vals : PK X kws tk)
    (named : (backToKw pos (keywordEach kws X.env)).all (·.1.isSome) = true := by rfl) (names : (backToKw pos (keywordEach kws X.env)).filterMap (·.1) = ks := by rfl) (nodebug : (x == ("__debug__" : Str)) = false := by decide)
    (nostar : ((backTo pos (starEach [] X.env)).any (·.1) || (backToKw pos (keywordEach kws X.env)).any (·.1.isNone)) = false := by rfl) : PE X (.Call (.Name x p) [] kws pos) (tKwT ks.length sp is W tk) := by
  obtain ⟨f, fd, F, m, kp, b⟩ := c
  exact pe_kwS (E := WE W) F hr gl m kp b (fun σ => passAt tks σ) vals named names nodebug nostar
/-! ### C(..), whose __init__ may raise, in a try -/
theorem made_or_raised {CX : CXT} {f : Addr} {fd : FuncData} {pins : List (Addr × Obj)} {σ : L2.St} {H : Hp} {s : Shared} {Q : VK} {E : L2.St → XK} {us zs : List Value} {kwv : List (Str × Value)} {vs : List V} (M : Mk X.K C f) (F : FnOk X.prog X.w X.K X.mg X.base CX k f fd ps sp)
    (room : Room (k + 1) X.A) (lets : PassesAt CX X σ (E σ)) (I : Inv X pins σ H s) (bound : ∀ s2 : Shared, X.K.In s2.heap → BindsTo s2 fd ⟨.ref (s.heap.objs.size + 1) :: us, kwv⟩ (ps.zip zs)) (rel : Vals (.ref (s.heap.objs.size + 1) :: vs) zs)
    (told : ∀ a d, H a = none → H d = none → d ≠ a → sp (.ref a :: vs) (upd (upd H d (.own a)) a (.ins C d [])) (fun v H2 => v = .non ∧ Q (.ref a) H2) (E σ)) : wpAny (model X.prog X.w) X.A (call (.ref C) us kwv) (EP X pins σ Q) X.xe s := by
  have new := I.made (C := C)
  have now := told _ _ (I.hok.fresh (Nat.le_succ s.heap.objs.size)) (I.hok.fresh (Nat.le_refl s.heap.objs.size)) (Nat.ne_of_lt (Nat.lt_succ_self _))
  have ran := F.run _ X.stack _ _ _ zs _ _ (E σ) (room.make C us kwv) (new.env0.make C us kwv) (bound _ new.kIn) rel now
  refine wpAny_call (make_map (f := f) I.kIn M.makes M.init (beq_iff_eq.mp M.fn) (codeAny_mono ran fun out s' z => ?_))
  match out, z with
  | .error err, z => exact lets pins _ _ err s' new z
  | .ok (.ret u), z =>
    obtain ⟨_, H3, J, r, rfl, q⟩ := new.after z
    exact ⟨r, .ref (s.heap.objs.size + 1), H3, J, rfl, q⟩
def tMkT (C : Addr) (sp : Sp) (W : WX) (t : TA) : TE := fun σ H Q => t σ H fun vs H1 => ∀ a d, H1 a = none → H1 d = none → d ≠ a → sp (.ref a :: vs) (upd (upd H1 d (.own a)) a (.ins C d [])) (fun v H2 => v = .non ∧ Q (.ref a) H2) (WE W σ)
theorem pe_mkT (c : CalRC X.prog X.w X.K X.mg X.base k x C ps sp) (room : Room (k + 1) X.A) (gl : Gl X x) (tks : Takes X W) (ha : PA X (e :: es) t) (nodebug : (x == ("__debug__" : Str)) = false := by decide)
    (star : starEach (e :: es) X.env = (false, eval e X.env) :: starEach es X.env := by rfl) (plain : (backTo pos (starEach es X.env)).any (·.1) = false := by rfl) : PE X (.Call (.Name x p) (e :: es) [] pos) (tMkT C sp W t) := by
  obtain ⟨f, fd, F, m, M, b⟩ := c
  constructor
  intro pins s σ H Q I read
  refine wpAny_Call_Name_kw (ld_glob I gl m (PySem.W.callWith_K (h₀ := X.base) I.ok.mod.kin M.kp (thn (ha.run pos pins s σ H _ I read) fun us s1 y => ?_) star plain) nodebug)
  obtain ⟨vs, H1, J, rel, told⟩ := y
  refine ⟨J.kIn, made_or_raised (E := WE W) (zs := .ref (s1.heap.objs.size + 1) :: us) M F room (passAt tks σ) J (fun s2 kin => ?_) (.cons rfl rel) told⟩
  have many : (V.ref (s1.heap.objs.size + 1) :: vs).length = ps.length := F.len _ _ _ _ (told _ _ (J.hok.fresh (Nat.le_succ s1.heap.objs.size)) (J.hok.fresh (Nat.le_refl s1.heap.objs.size)) (Nat.ne_of_lt (Nat.lt_succ_self _)))
  have z := b s2 (.ref (s1.heap.objs.size + 1) :: us) kin (by rw [List.append_nil, List.length_cons, ← rel.length]; exact many)
  rw [List.append_nil] at z
  exact z
def tMkKT (C : Addr) (n : Nat) (sp : Sp) (is : List Nat) (W : WX) (tk : TA) : TE := fun σ H Q => tk σ H fun zs H1 => zs.length = n ∧ ∀ a d, H1 a = none → H1 d = none → d ≠ a → sp (.ref a :: prm is zs) (upd (upd H1 d (.own a)) a (.ins C d [])) (fun v H2 => v = .non ∧ Q (.ref a) H2) (WE W σ)
theorem pe_mkKT (c : CalRCK X.prog X.w X.K X.mg X.base k x C ps ks is sp) (room : Room (k + 1) X.A) (gl : Gl X x) (tks : Takes X W) (vals : PK X kws tk)
    (named : (backToKw pos (keywordEach kws X.env)).all (·.1.isSome) = true := by rfl) (names : (backToKw pos (keywordEach kws X.env)).filterMap (·.1) = ks := by rfl) (nodebug : (x == ("__debug__" : Str)) = false := by decide)
    (nostar : ((backTo pos (starEach [] X.env)).any (·.1) || (backToKw pos (keywordEach kws X.env)).any (·.1.isNone)) = false := by rfl) : PE X (.Call (.Name x p) [] kws pos) (tMkKT C ks.length sp is W tk) := by
  obtain ⟨f, fd, F, m, M, b⟩ := c
  constructor
  intro pins s σ H Q I read
  refine wpAny_Call_Name_kw (ld_glob I gl m (PySem.W.callWith_KW0 (h₀ := X.base) I.ok.mod.kin M.kp named (thn (vals.run pos pins s σ H _ I read) fun ws s1 y => ?_) nostar) nodebug)
  obtain ⟨zs, H1, J, rel, many, told⟩ := y
  rw [names]
  exact ⟨J.kIn, made_or_raised (E := WE W) (us := []) (zs := .ref (s1.heap.objs.size + 1) :: prm is ws) M F room (passAt tks σ) J (fun s2 kin => b.to s2 [.ref (s1.heap.objs.size + 1)] ws kin rfl (rel.length.symm.trans many)) (.cons rfl (prm_rel rel is)) told⟩
end
end Tg

set_option maxHeartbeats 1000000
namespace Tg
open PySem PySem.Spec PyProof.Rows L2
/-! ### min(xs, default=None), max(xs, default=None), xs a list of areI -/
theorem minOf_is : ∀ (ys : List Int) (y : Int), PySem.W.minOf y ys ∈ y :: ys ∧ ∀ z, z ∈ y :: ys → PySem.W.minOf y ys ≤ z
  | [], y => ⟨List.mem_cons_self, fun z hz => by
    rw [List.mem_singleton.mp hz]
    exact Int.le_refl _⟩
  | x :: ys, y => by
    have e : PySem.W.minOf y (x :: ys) = PySem.W.minOf (if decide (x < y) = true then x else y) ys := rfl
    obtain ⟨i1, i2⟩ := minOf_is ys (if decide (x < y) = true then x else y)
    rw [e]
    have a0 := i2 _ List.mem_cons_self
    by_cases c : x < y
    · rw [if_pos (decide_eq_true c)] at i1 i2 a0 ⊢
      refine ⟨List.mem_cons_of_mem _ i1, fun z inside => ?_⟩
      rcases List.mem_cons.mp inside with rfl | inside
      · omega
      · exact i2 z inside
    · rw [if_neg (fun z => c (of_decide_eq_true z))] at i1 i2 a0 ⊢
      refine ⟨?_, fun z inside => ?_⟩
      · rcases List.mem_cons.mp i1 with h | h
        · rw [h]
          exact List.mem_cons_self
        · exact List.mem_cons_of_mem _ (List.mem_cons_of_mem _ h)
      · rcases List.mem_cons.mp inside with rfl | inside
        · exact a0
        · rcases List.mem_cons.mp inside with rfl | inside
          · omega
          · exact i2 z (List.mem_cons_of_mem _ inside)
theorem maxOf_is : ∀ (ys : List Int) (y : Int), PySem.W.maxOf y ys ∈ y :: ys ∧ ∀ z, z ∈ y :: ys → z ≤ PySem.W.maxOf y ys
  | [], y => ⟨List.mem_cons_self, fun z hz => by
    rw [List.mem_singleton.mp hz]
    exact Int.le_refl _⟩
  | x :: ys, y => by
    have e : PySem.W.maxOf y (x :: ys) = PySem.W.maxOf (if decide (y < x) = true then x else y) ys := rfl
    obtain ⟨i1, i2⟩ := maxOf_is ys (if decide (y < x) = true then x else y)
    rw [e]
    have a0 := i2 _ List.mem_cons_self
    by_cases c : y < x
    · rw [if_pos (decide_eq_true c)] at i1 i2 a0 ⊢
      refine ⟨List.mem_cons_of_mem _ i1, fun z inside => ?_⟩
      rcases List.mem_cons.mp inside with rfl | inside
      · omega
      · exact i2 z inside
    · rw [if_neg (fun z => c (of_decide_eq_true z))] at i1 i2 a0 ⊢
      refine ⟨?_, fun z inside => ?_⟩
      · rcases List.mem_cons.mp i1 with h | h
        · rw [h]
          exact List.mem_cons_self
        · exact List.mem_cons_of_mem _ (List.mem_cons_of_mem _ h)
      · rcases List.mem_cons.mp inside with rfl | inside
        · exact a0
        · rcases List.mem_cons.mp inside with rfl | inside
          · omega
          · exact i2 z (List.mem_cons_of_mem _ inside)
section
variable {X : Cx} {e : Expr} {te : TE} {p pos cpos kpos : Pos} {j : Nat}
/-- a number or None -/
def vO : Option Int → V
  | none => .non
  | some m => .int m
def tMinDef (K : PySem.W.Frag) (te : TE) : TE := fun σ H Q => te σ H fun x H1 => ∃ (l : Addr) (ns : List Int), x = .ref l ∧ SqL K H1 l (ns.map V.int) ∧ Q (vO ns.min?) H1
def tMaxDef (K : PySem.W.Frag) (te : TE) : TE := fun σ H Q => te σ H fun x H1 => ∃ (l : Addr) (ns : List Int), x = .ref l ∧ SqL K H1 l (ns.map V.int) ∧ Q (vO ns.max?) H1
theorem pe_minDef (calm : X.calm = true) (room : X.A.units + 1 < cLine) (glob : Gl X "min") (unset : X.mg "min" = none) (he : PE X e te) (nostar : starEach [e] X.env = (false, eval e X.env) :: starEach [] X.env := by rfl) :
    PE X (.Call (.Name "min" p) [e] [⟨some "default", .Constant .none j cpos, kpos⟩] pos) (tMinDef X.K te) := by
  constructor
  intro pins s σ H Q I read
  refine wpAny_Call_Name_kw (ld_blt I glob unset boot_min (callWith_kw (thn ((pa_cons he pa_nil nostar).run pos pins s σ H (fun vs H1 => ∃ (l : Addr) (ns : List Int), vs = [.ref l] ∧ SqL X.K H1 l (ns.map V.int) ∧ Q (vO ns.min?) H1) I ?_) fun us s1 come => ?_) (by rw [nostar]; rfl) (by rw [nostar]; rfl) rfl rfl))
  · have mono : ∀ x H1, (∃ (l : Addr) (ns : List Int), x = .ref l ∧ SqL X.K H1 l (ns.map V.int) ∧ Q (vO ns.min?) H1) → tNil σ H1 (fun xs H2 => ∃ (l : Addr) (ns : List Int), x :: xs = [.ref l] ∧ SqL X.K H2 l (ns.map V.int) ∧ Q (vO ns.min?) H2) := fun x H1 h => by
      obtain ⟨l, ns, ex, r⟩ := h
      exact ⟨l, ns, by rw [ex], r⟩
    have ext : (fun x H1 => ∃ (l : Addr) (ns : List Int), x = V.ref l ∧ SqL X.K H1 l (ns.map V.int) ∧ Q (vO ns.min?) H1) = fun x H1 => tNil σ H1 (fun xs H2 => ∃ (l : Addr) (ns : List Int), x :: xs = [.ref l] ∧ SqL X.K H2 l (ns.map V.int) ∧ Q (vO ns.min?) H2) := by
      funext x H1
      refine propext ⟨mono x H1, fun h => ?_⟩
      obtain ⟨l, ns, ex, r⟩ := h
      exact ⟨l, ns, (List.cons.inj ex).1, r⟩
    show te σ H (fun x H1 => tNil σ H1 _)
    rw [← ext]
    exact read
  · obtain ⟨_, H1, J, rel, l, ns, rfl, hl, fin⟩ := come
    rw [Vals.ref1 rel]
    obtain ⟨its, rv, isl, _⟩ := J.list hl
    have areI : IntsAre its ns := intsAre_of rv
    refine evalAll_cons (wpAny_bind (wpAny_Constant_none (wpAny_bind (wpAny_standAt (wpAny_pure (evalAll_nil ?_))))))
    refine PySem.W.min_list_datum_default (α := Int) (xs := ns) (J.ok.hd calm) isl.isList ⟨[], areI.reads s1.heap⟩ room (fun en h' tk kp => ?_) fun y ys i v h' tk en at_i holds kp => ?_
    · refine ⟨.non, H1, J.kept kp, rfl, ?_⟩
      rw [en] at fin
      exact fin
    · obtain ⟨as, rd⟩ := holds
      obtain ⟨h1, h2⟩ := minOf_is ys y
      have rd' : Reads h' v (.int (PySem.W.minOf y ys)) as := rd
      cases rd'
      refine ⟨.int _, H1, J.kept kp, ⟨_, rfl⟩, ?_⟩
      rw [en, List.min?_eq_some_iff.mpr ⟨h1, h2⟩] at fin
      exact fin
theorem pe_maxDef (calm : X.calm = true) (room : X.A.units + 1 < cLine) (glob : Gl X "max") (unset : X.mg "max" = none) (he : PE X e te) (nostar : starEach [e] X.env = (false, eval e X.env) :: starEach [] X.env := by rfl) :
    PE X (.Call (.Name "max" p) [e] [⟨some "default", .Constant .none j cpos, kpos⟩] pos) (tMaxDef X.K te) := by
  constructor
  intro pins s σ H Q I read
  refine wpAny_Call_Name_kw (ld_blt I glob unset boot_max (callWith_kw (thn ((pa_cons he pa_nil nostar).run pos pins s σ H (fun vs H1 => ∃ (l : Addr) (ns : List Int), vs = [.ref l] ∧ SqL X.K H1 l (ns.map V.int) ∧ Q (vO ns.max?) H1) I ?_) fun us s1 come => ?_) (by rw [nostar]; rfl) (by rw [nostar]; rfl) rfl rfl))
  · have ext : (fun x H1 => ∃ (l : Addr) (ns : List Int), x = V.ref l ∧ SqL X.K H1 l (ns.map V.int) ∧ Q (vO ns.max?) H1) = fun x H1 => tNil σ H1 (fun xs H2 => ∃ (l : Addr) (ns : List Int), x :: xs = [.ref l] ∧ SqL X.K H2 l (ns.map V.int) ∧ Q (vO ns.max?) H2) := by
      funext x H1
      refine propext ⟨fun h => ?_, fun h => ?_⟩
      · obtain ⟨l, ns, ex, r⟩ := h
        exact ⟨l, ns, by rw [ex], r⟩
      · obtain ⟨l, ns, ex, r⟩ := h
        exact ⟨l, ns, (List.cons.inj ex).1, r⟩
    show te σ H (fun x H1 => tNil σ H1 _)
    rw [← ext]
    exact read
  · obtain ⟨_, H1, J, rel, l, ns, rfl, hl, fin⟩ := come
    rw [Vals.ref1 rel]
    obtain ⟨its, rv, isl, _⟩ := J.list hl
    have areI : IntsAre its ns := intsAre_of rv
    refine evalAll_cons (wpAny_bind (wpAny_Constant_none (wpAny_bind (wpAny_standAt (wpAny_pure (evalAll_nil ?_))))))
    refine PySem.W.max_list_datum_default (α := Int) (xs := ns) (J.ok.hd calm) isl.isList ⟨[], areI.reads s1.heap⟩ room (fun en h' tk kp => ?_) fun y ys i v h' tk en at_i holds kp => ?_
    · refine ⟨.non, H1, J.kept kp, rfl, ?_⟩
      rw [en] at fin
      exact fin
    · obtain ⟨as, rd⟩ := holds
      obtain ⟨h1, h2⟩ := maxOf_is ys y
      have rd' : Reads h' v (.int (PySem.W.maxOf y ys)) as := rd
      cases rd'
      refine ⟨.int _, H1, J.kept kp, ⟨_, rfl⟩, ?_⟩
      rw [en, List.max?_eq_some_iff.mpr ⟨h1, h2⟩] at fin
      exact fin
end
end Tg

/-! a != b of an own class with an own __eq__ and no __ne__, where the own == says True -/
namespace Tg
open PySem PySem.Spec PyProof.Rows L2
/-- what stands of such a class -/
structure NeC (K : PySem.W.Frag) (C f : Addr) : Prop where
  cls : ∃ (nm q : Str) (N : Addr) (bs : List Value) (hd : Bool) (sn : List Str) (sub : List Value) (ab : Bool) (col : Option Bool) (dd : Option Addr) (k0 k1 k2 k3 k5 : Option Value) (id : String),
    K.lookup C = some (excClassObj nm q C N bs [.type "object"] hd sn sub ab col dd k0 k1 k2 k3 k5 id) ∧ PySem.W.nsOkIn K N = true ∧ PySem.W.nsIn K N "__eq__" = some (some (.ref f)) ∧ PySem.W.nsIn K N "__ne__" = some none
  fn : ∃ o, K.lookup f = some o ∧ o.cls = .type "function"
/-- a name that stands in a written namespace -/
theorem ns_has {K : PySem.W.Frag} {h : Heap} {N : Addr} {x : Str} {v : Value} (inK : K.In h) (okN : PySem.W.nsOkIn K N = true) (e : PySem.W.nsIn K N x = some (some v)) : h.nsMap N x = some v := by
  obtain ⟨ob, es, ep, stands, isD, _, tells⟩ : h.Ns N (h.nsMap N) := .of_isNs (PySem.W.isNs_of_in inK okN)
  rw [← tells]
  unfold PySem.W.nsIn at e
  cases lk : K.lookup N with
  | none =>
    rw [lk] at e
    cases e
  | some ob2 =>
    have same := (inK N ob2 lk).symm.trans stands
    cases same
    obtain ⟨c, d, dt, sl⟩ := ob
    obtain rfl : dt = .dict es ep := isD
    rw [lk] at e
    dsimp only at e
    unfold nsFind findBy
    rw [← Array.find?_toList]
    cases fnd : es.toList.find? (·.key.isStr x) with
    | none =>
      rw [fnd] at e
      dsimp only at e
      split at e <;> cases e
    | some en =>
      rw [fnd] at e
      cases e
      rfl
section
variable {X : Cx} {n : Nat}
def rNeG (C : Addr) (R : Addr → Addr → Hp → Prop) : R2 := fun x y H Q => DIns C R x y H ∧ ∀ H', Ext H H' → Q (.bl false) H'
theorem op_neG {CX : CXT} {C f : Addr} {fd : FuncData} {ps : List Str} {R : Addr → Addr → Hp → Prop} {E : XK} (F : FnOk X.prog X.w X.K X.mg X.base CX n f fd ps (spEq R)) (N : NeC X.K C f) (hb : Binds X.K fd ps []) (hx : Passes CX X E) (hr : Room (n + 1) X.A) :
    OpR X (compareOp .NotEq) (rNeG C R) := by
  rintro pins s σ H x y v u Q I rx ry ⟨⟨a, b, dx, dy, fs, gs, rfl, rfl, ha, hb', holds⟩, q⟩
  cases rx
  cases ry
  obtain ⟨atA, J, _⟩ := ins_get I.hok ha
  obtain ⟨atB, J', _⟩ := ins_get I.hok hb'
  obtain ⟨od, J, _⟩ := J.look
  obtain ⟨odB, J', _⟩ := J'.look
  have there : ∀ p o, X.K.lookup p = some o → s.heap.get? p = some o := fun p o h => I.kIn p o h
  obtain ⟨nm, qn, Ns, bs, hd, sn, sub, ab, col, dd, k0, k1, k2, k3, k5, id_, eC, okN, eE, eN⟩ := N.cls
  obtain ⟨of, eF, cF⟩ := N.fn
  have own : s.heap.OwnEqNoNe a C f "object" [.type "object"] := by
    refine ⟨_, of, nm, qn, Ns, bs, hd, sn, sub, ab, col, dd, k0, k1, k2, k3, k5, id_, s.heap.nsMap Ns, _, J.at_, J.cls, there _ _ eC, .of_isNs (PySem.W.isNs_of_in I.kIn okN), ?_, there _ _ eF, cF, PySem.F.cmp_object.mro, PySem.F.cmp_object.eq.lookup, PySem.W.nsMap_none_of_in I.kIn okN eN⟩
    exact ns_has I.kIn okN eE
  have sb : Sub X n X.A.in1 := Sub.in1 ⟨hr, rfl⟩
  refine compareOp_ne_ownEq PySem.F.cmp_object own J'.at_ J'.cls (by have := hr.units; omega) ?_
  have hsp : spEq R [.ref a, .ref b] H (fun v H' => v = .bl true ∧ Ext H H') E := ⟨a, b, rfl, holds, fun H' e => ⟨rfl, e⟩⟩
  have e0 : Env0 X.prog X.w X.K X.mg X.base X.A.in1 X.stack s H := by
    have env := I.env0
    exact ⟨sb.fr.symm ▸ env.frames, env.mod, env.bs, env.bsz, env.funs, env.frf, env.hok, env.bare⟩
  have len2 := F.len _ _ _ _ hsp
  refine wpAny_call (codeAny_mono (F.run X.A.in1 X.stack s H ⟨[.ref a, .ref b], []⟩ [.ref a, .ref b] [.ref a, .ref b] _ E sb.room e0 (by
    have z := hb s [.ref a, .ref b] I.kIn (by simpa using len2)
    simpa using z) (.cons rfl (.cons rfl .nil)) hsp) fun r s' told => ?_)
  cases r with
  | error e => exact hx pins σ H s e s' I told
  | ok fl =>
    cases fl with
    | ret w =>
      obtain ⟨z, H', I', rz, ez, ex⟩ := I.after told
      subst ez
      cases rz
      exact ⟨true, rfl, .bl false, H', I', rfl, q H' ex⟩
    | next => exact False.elim told
    | brk => exact False.elim told
    | cont => exact False.elim told
end
end Tg

/-! a derivation with a told precondition in the place of the one that is read off -/
namespace Tg
open PySem PySem.Spec PyProof.Rows L2
theorem pss_by {X : Cx} {rest : List Stmt} {u R : TS} (h : PSs X rest u) (hr : ∀ D σ H, R D σ H → u D σ H) : PSs X rest R := ⟨fun pins s σ H D I hw => h.run pins s σ H D I (hr D σ H hw)⟩
theorem pe_by {X : Cx} {e : Expr} {u R : TE} (h : PE X e u) (hr : ∀ σ H Q, R σ H Q → u σ H Q) : PE X e R := ⟨fun pins s σ H Q I hw => h.run pins s σ H Q I (hr σ H Q hw)⟩
theorem pt_by {X : Cx} {e : Expr} {u R : TT} (h : PT X e u) (hr : ∀ σ H Q, R σ H Q → u σ H Q) : PT X e R := ⟨fun pins s σ H Q I hw => h.run pins s σ H Q I (hr σ H Q hw)⟩
end Tg

/-! sum(rows, start): lists put together -/
namespace Tg
open PySem PySem.Spec PyProof.Rows L2
def preL (rows : Nat → List Value) (st : List Value) : Nat → List Value
  | 0 => st
  | i + 1 => preL rows st i ++ rows i
/-- a plain list -/
def Pl (h : Heap) (a : Addr) (its : List Value) : Prop := ∃ n, h.get? a = some { cls := .type "list", data := .seq its.toArray n }
section
variable {prog : Program} {w : World} {A : Around} {R : Result → Shared → Prop} {it S T : Addr} {s : Shared} {c : Nat}
/-- what the state holds: the list so far, at T -/
def Hold (h : Heap) (S T : Addr) : Prop := ∃ c, h.get? S = some { cls := .type "list", dict := none, data := .seq #[.ref T] c, slots := #[] }
/-- one turn: what is drawn next is put behind, or there is none -/
theorem sum_turn (holds : Hold s.heap S T) (next : wpAny (model prog w) A.in1 (pyNext (.ref it)) (fun got s1 => match got with
      | none => R (.ok (.ret (.ref T))) s1
      | some v => ∃ a items more m k, v = .ref a ∧ s1.heap.get? T = some { cls := .type "list", data := .seq items m } ∧ s1.heap.get? a = some { cls := .type "list", data := .seq more k } ∧ items.size + more.size ≤ sizeLine ∧ Hold s1.heap S T ∧
          ∀ h2 : Heap, (∀ b o, b ≠ S → s1.heap.get? b = some o → h2.get? b = some o) → h2.get? s1.heap.objs.size = some { cls := .type "list", data := .seq (items ++ more) } → Hold h2 S s1.heap.objs.size →
            codeAny (model prog w) A (.builtin "sum.loop" ⟨[.ref it, .ref S, rawInt 2, rawInt 0], []⟩) R { s1 with heap := h2 }) (fun _ _ => False) s) :
    codeAny (model prog w) A (.builtin "sum.loop" ⟨[.ref it, .ref S, rawInt 2, rawInt 0], []⟩) R s := by
  obtain ⟨c, atS⟩ := holds
  have plainly := fun args => Around.under_plainId (A := A) F.plain_sum_loop args
  refine codeAny_builtin F.entry_sum_loop (by
    rw [plainly]
    refine wpAny_bind (m := seqItems? (.ref S)) (wpAny_seqItems atS rfl ?_)
    refine wpAny_bind (m := tryCatch (pyNext (.ref it)) _) (wpAny_tryCatch (wpAny_mono next (fun got s1 told => ?_) fun _ _ z => z.elim))
    cases got with
    | none => exact wpAny_pure told
    | some v =>
      obtain ⟨a, items, more, m, k, rfl, atT, atA, fits, ⟨c1, atS1⟩, go⟩ := told
      have other : S ≠ s1.heap.objs.size := Nat.ne_of_lt (Heap.lt_size atS1)
      obtain ⟨new, en⟩ : ∃ new : Obj, new = { cls := .type "list", data := .seq (items ++ more) } := ⟨_, rfl⟩
      have put := Heap.get?_push_of_some (h := s1.heap) new atS1
      have once := Heap.get?_update_self (Obj.mapSeq fun _ => #[Value.ref s1.heap.objs.size]) put rfl
      refine wpAny_bind (m := (holding [Value.ref a] (binaryOp .Add (.ref T) (.ref a))).attempt) (wpAny_attempt (wpAny_holding (PySem.P.add_list atT atA ?_ fits)))
      rw [← en]
      refine wpAny_bind (m := updateSeq S (fun _ => #[.ref s1.heap.objs.size])) (wpAny_updateSeq put rfl (wpAny_bind (m := letGo _ _) (wpAny_letGo (wpAny_bind (m := updateSeq S (fun _ => #[.ref s1.heap.objs.size])) (wpAny_updateSeq once rfl (wpAny_pure ⟨plainId_quiet F.plain_sum_loop _, go _ (fun b o ne e => ?_) ?_ ⟨_, Heap.get?_update_self _ once rfl⟩⟩))))))
      · exact (Heap.get?_update_other _ _ ne.symm).trans ((Heap.get?_update_other _ _ ne.symm).trans (Heap.get?_push_of_some _ e))
      · rw [← en]
        exact (Heap.get?_update_other _ _ other).trans ((Heap.get?_update_other _ _ other).trans (Heap.get?_push_size _ (by rw [en]; rfl))))
theorem sum_loopL {fp wr : List Addr} {G : Array GenState → Array GenState → Prop} {n : Nat} {P : Nat → Value → Prop} {St : Nat → Shared → Prop} (W : WalksS prog w A.in1 it fp wr G n P St) (ad : Nat → Addr) (rows : Nat → List Value) (st : List Value) (hval : ∀ i v, i < n → P i v → v = .ref (ad i)) (out : S ∉ fp)
    (hw : ∀ i s, St i s → ∀ b ∈ wr, b < s.heap.objs.size) (hsz : ∀ i, i < n → (preL rows st i).length + (rows i).length ≤ sizeLine) (had : ∀ j, j < n → ad j ∉ S :: wr) :
    ∀ (k i : Nat) (s : Shared) (T : Addr), n - i = k → i ≤ n → St i s → Hold s.heap S T → T ∉ S :: wr → Pl s.heap T (preL rows st i) → (∀ j, j < n → Pl s.heap (ad j) (rows j)) →
    (∀ s' T', Moved (S :: wr) G s s' → Pl s'.heap T' (preL rows st n) → (i = n → T' = T) → (i < n → ∀ b o, b ∉ S :: wr → s.heap.get? b = some o → b ≠ T') → R (.ok (.ret (.ref T'))) s') →
    codeAny (model prog w) A (.builtin "sum.loop" ⟨[.ref it, .ref S, rawInt 2, rawInt 0], []⟩) R s := by
  have apart : S ∉ wr := fun z => out (W.sub _ z)
  have up : ∀ b ∈ wr, b ∈ S :: wr := fun b z => List.mem_cons_of_mem _ z
  intro k
  induction k with
  | zero =>
    intro i s T left most at_i holds nT pT rowsAt told
    obtain rfl : i = n := by omega
    refine sum_turn holds (W.done s _ _ at_i fun s1 mv => ?_)
    obtain ⟨m, eT⟩ := pT
    exact told s1 T (mv.mono up) ⟨m, mv.heap T _ (fun z => nT (up _ z)) eT⟩ (fun _ => rfl) fun z => absurd z (Nat.lt_irrefl _)
  | succ k ih =>
    intro i s T left most at_i holds nT pT rowsAt told
    have lt : i < n := by omega
    refine sum_turn holds (W.item i s _ _ lt at_i fun v s1 drawn at_j mv => ?_)
    obtain rfl := hval i v lt drawn
    obtain ⟨m, eT⟩ := pT
    obtain ⟨mA, eA⟩ := rowsAt i lt
    obtain ⟨c, eS⟩ := holds
    have both : (preL rows st i).toArray ++ (rows i).toArray = (preL rows st (i + 1)).toArray := by
      show _ = (preL rows st i ++ rows i).toArray
      simp
    refine ⟨ad i, _, _, m, mA, rfl, mv.heap T _ (fun z => nT (up _ z)) eT, mv.heap _ _ (fun z => had i lt (up _ z)) eA, (by rw [List.size_toArray, List.size_toArray]; exact hsz i lt), ⟨c, mv.heap S _ apart eS⟩, fun h2 keep new holds2 => ?_⟩
    have nS : s1.heap.objs.size ≠ S := Nat.ne_of_gt (Heap.lt_size (mv.heap S _ apart eS))
    have far : s1.heap.objs.size ∉ S :: wr := fun z => (List.mem_cons.mp z).elim nS fun y => Nat.lt_irrefl _ (hw _ _ at_j _ y)
    refine ih (i + 1) _ s1.heap.objs.size (by omega) lt (W.frame _ s1 _ _ at_j (Nat.le_refl _) fun b hb o e => keep b o (fun z => out (z ▸ hb)) e) holds2 far ⟨0, new.trans (by rw [both])⟩ (fun j hj => ?_) fun s2 T2 mv2 pT2 q1 q2 => ?_
    · obtain ⟨m2, e⟩ := rowsAt j hj
      exact ⟨m2, keep _ _ (fun z => had j hj (z ▸ List.mem_cons_self)) (mv.heap _ _ (fun z => had j hj (up _ z)) e)⟩
    · refine told s2 T2 (Moved.trans W.gtrans ((mv.mono up).then_heap (Nat.le_refl _) fun b o hb e => keep b o (fun z => hb (z ▸ List.mem_cons_self)) e) mv2) pT2 (fun z => absurd z (Nat.ne_of_lt lt)) fun _ b o hb e => ?_
      have e1 := mv.heap b o (fun z => hb (up _ z)) e
      by_cases last : i + 1 = n
      · rw [q1 last]
        exact Nat.ne_of_lt (Heap.lt_size e1)
      · exact q2 (by omega) b o hb (keep b o (fun z => hb (z ▸ List.mem_cons_self)) e1)
end
section
variable {prog : Program} {w : World} {A : Around} {E : Value → Shared → Prop} {s : Shared}
theorem args_sum2 (a b : Value) : argsOk "sum" ⟨[a, b], []⟩ := by unfold argsOk; kernel_rfl
theorem call_sumL {l T : Addr} {as : List Addr} {st : List Value} {rows : Nat → List Value} {Q : Value → Shared → Prop} (hh : A.handled = none) (hl : s.heap.IsList l (as.map Value.ref).toArray) (pT : Pl s.heap T st) (hr : ∀ j a, as[j]? = some a → Pl s.heap a (rows j))
    (hsz : ∀ i, i < as.length → (preL rows st i).length + (rows i).length ≤ sizeLine) (h0 : 0 < as.length)
    (h : ∀ h' tk T', (∀ b o, s.heap.get? b = some o → h'.get? b = some o) → Pl h' T' (preL rows st as.length) → (∀ b o, s.heap.get? b = some o → b ≠ T') → Q (.ref T') { s with heap := h', toks := tk }) :
    wpAny (model prog w) A (call (.builtin "sum") [.ref l, .ref T]) Q E s := by
  obtain ⟨o, ho, hc, n0, hd⟩ := id hl
  obtain ⟨nT, eT⟩ := id pT
  have ls := Heap.lt_size ho
  have Ts := Heap.lt_size eT
  have hne : l ≠ s.heap.objs.size := Nat.ne_of_lt ls
  have W := (Walks.list (prog := prog) (w := w) (A := A.in1) hh s.heap.objs.size l hne (as.map Value.ref).toArray).toS
  have zs : (as.map Value.ref).toArray.size = as.length := by rw [List.size_toArray, List.length_map]
  rw [zs] at W
  refine call_function_tree F.kind_sum F.plain_sum F.entry_sum (args_sum2 _ _) ?_
  unfold Builtin.«sum»
  simp only [List.length_nil, List.length_cons]
  rw [if_neg (show ¬ _ > 2 by decide)]
  refine wpAny_bind (wpAny_of_eq (show Builtin.Builtins.bindParams "sum" ["start"] 0 ⟨[.ref T], []⟩ = pure [some (.ref T)] from rfl) ?_)
  refine wpAny_bind (m := pyIter (.ref l)) (wpAny_pyIter_list hl ?_)
  obtain ⟨h2, e2⟩ : ∃ h2, s.heap.push { cls := .type "list_iterator", data := .fields #[.ref l, .int 0 0] } = h2 := ⟨_, rfl⟩
  have sz2 : h2.objs.size = s.heap.objs.size + 1 := by
    rw [← e2]
    exact Heap.size_push ..
  have k2 : ∀ b o, s.heap.get? b = some o → h2.get? b = some o := fun b o e => by
    rw [← e2, Heap.get?_push_of_some _ e]
  have i2 : h2.IsListIter s.heap.objs.size l 0 := by
    exact ⟨_, e2 ▸ Heap.get?_push_size _ rfl, rfl, rfl⟩
  rw [e2]
  have ty : ({ s with heap := h2 } : Shared).TypeIs (.ref T) "list" := ⟨_, k2 _ _ eT, rfl⟩
  refine wpAny_bind (m := pure (Value.ref T, (2 : Int))) (wpAny_pure ?_)
  simp only [List.forIn_nil, List.forIn_cons]
  refine wpAny_bind (wpAny_bind (wpAny_bind (m := isInstance (.ref T) (.type "str")) (wpAny_isInstance (T := "list") (b := false) ty PySem.F.sub_list_str ?_)))
  simp only [if_false, Bool.false_eq_true]
  refine wpAny_pure (wpAny_bind (wpAny_bind (m := isInstance (.ref T) (.type "bytes")) (wpAny_isInstance (T := "list") (b := false) ty PySem.F.sub_list_bytes ?_)))
  simp only [if_false, Bool.false_eq_true]
  refine wpAny_pure (wpAny_bind (wpAny_bind (m := isInstance (.ref T) (.type "bytearray")) (wpAny_isInstance (T := "list") (b := false) ty PySem.F.sub_list_bytearray ?_)))
  simp only [if_false, Bool.false_eq_true]
  refine wpAny_pure (wpAny_pure (wpAny_bind (wpAny_newObj_type ?_)))
  have small : ∀ {b : Addr} {o : Obj}, s.heap.get? b = some o → b ∉ [h2.objs.size, s.heap.objs.size] := fun {b o} e z => by
    have lt := Heap.lt_size e
    refine (List.mem_cons.mp z).elim (fun y => ?_) fun y => ?_
    · rw [y, sz2] at lt
      exact absurd lt (Nat.not_lt.mpr (Nat.le_succ _))
    · rw [List.mem_singleton.mp y] at lt
      exact Nat.lt_irrefl _ lt
  have at_ : ∀ j, j < as.length → ∃ a, as[j]? = some a := fun j hj => ⟨_, List.getElem?_eq_getElem hj⟩
  refine wpAny_pure ⟨plainId_quiet F.plain_sum_loop _, sum_loopL (S := h2.objs.size) W (fun j => (as[j]?).getD 0) rows st ?_ ?_ ?_ hsz ?_ as.length 0 _ T rfl (Nat.zero_le _) ?_ ⟨_, Heap.get?_push_size _ rfl⟩ (small eT) ⟨nT, Heap.get?_push_of_some _ (k2 _ _ eT)⟩ ?_ ?_⟩
  · intro i v hi hP
    obtain ⟨a, ha⟩ := at_ i hi
    have hP2 : (as.map Value.ref).toArray[i]? = some v := hP
    rw [List.getElem?_toArray, List.getElem?_map, ha] at hP2
    cases hP2
    rw [ha]
    rfl
  · intro z
    refine (List.mem_cons.mp z).elim (fun y => ?_) fun y => ?_
    · rw [sz2] at y
      exact Nat.succ_ne_self _ y
    · have z2 := List.mem_singleton.mp y
      rw [← z2, sz2] at ls
      exact absurd ls (Nat.not_lt.mpr (Nat.le_succ _))
  · rintro i s' ⟨⟨o', e', _⟩, _⟩ b hb
    obtain rfl := List.mem_singleton.mp hb
    exact Heap.lt_size e'
  · intro j hj
    obtain ⟨a, ha⟩ := at_ j hj
    obtain ⟨m, e⟩ := hr j a ha
    rw [ha]
    exact small e
  · exact ⟨i2.at fun o e => Heap.get?_push_of_some _ e, hl.at fun o e => Heap.get?_push_of_some _ (k2 _ _ e)⟩
  · intro j hj
    obtain ⟨a, ha⟩ := at_ j hj
    obtain ⟨m, e⟩ := hr j a ha
    rw [ha]
    exact ⟨m, Heap.get?_push_of_some _ (k2 _ _ e)⟩
  · intro s' T' hm pT' _ q2
    have keep : ∀ b o, s.heap.get? b = some o → s'.heap.get? b = some o := fun b o e => hm.heap b o (small e) (Heap.get?_push_of_some _ (k2 _ _ e))
    have fr : ∀ b o, s.heap.get? b = some o → b ≠ T' := fun b o e => q2 h0 b o (small e) (Heap.get?_push_of_some _ (k2 _ _ e))
    obtain ⟨hx, gx, dw, tk, ox⟩ := s'
    obtain rfl : gx = s.gens := hm.gens
    obtain rfl : dw = s.drawn := hm.drawn
    obtain rfl : ox = s.os := hm.os
    exact h hx tk T' keep pT' fr
end
theorem objok_some {P : Program} {w : World} {H : Hp} {h : Heap} {a : Addr} : ∀ {o : HO}, ObjOk P w H h a o → ∃ u, h.get? a = some u
  | .lst _, ⟨_, _, _, _, e⟩ => ⟨_, e⟩
  | .tup _, ⟨_, _, _, u, e, _⟩ => ⟨u, e⟩
  | .dK _, ⟨_, _, _, _, o, _, _, e, _⟩ => ⟨o, e⟩
  | .dT _, ⟨_, _, _, _, o, _, _, e, _⟩ => ⟨o, e⟩
  | .set _ _, ⟨o, _, _, _, e, _⟩ => ⟨o, e⟩
  | .ins _ _ _, ⟨_, _, _, e, _⟩ => ⟨_, e⟩
  | .own _, e => e
  | .xd _, ⟨_, ⟨o, _, _, e, _⟩, _⟩ => ⟨o, e⟩
  | .rng _ _, ⟨_, _, _, e⟩ => ⟨_, e⟩
  | .frz _ _, ⟨e, _⟩ => ⟨_, e⟩
  | .tbl _, e => ⟨_, e⟩
  | .met _ _, e => ⟨_, e⟩
  | .ext _, ⟨_, e, _⟩ => e
def rSumL (K : PySem.W.Frag) : List V → Hp → VK → Prop := fun vs H Q => ∃ (l T : Addr) (as : List Addr) (rs : List (List V)), vs = [.ref l, .ref T] ∧ SqL K H l (as.map V.ref) ∧ H T = some (.lst []) ∧ as.length = rs.length ∧ (∀ (i : Nat) (a : Addr) (r : List V), as[i]? = some a → rs[i]? = some r → H a = some (.lst r)) ∧ 0 < as.length ∧ rs.flatten.length ≤ sizeLine ∧
  ∀ p, H p = none → Q (.ref p) (upd H p (.lst rs.flatten))
theorem vals_refs : ∀ {as : List Addr} {us : List Value}, Vals (as.map V.ref) us → us = as.map Value.ref
  | [], _, .nil => rfl
  | a :: r, _, .cons h t => by
    cases h
    rw [vals_refs t]
    rfl
theorem cr_sumL {X : Cx} (hc : X.calm = true) : CallR X (.builtin "sum") (rSumL X.K) := by
  rintro pins s σ H _ us Q I r ⟨l, T, as, rs, rfl, hl, hT, le, hr, h0, hz, q⟩
  obtain ⟨_, rv, pl, _⟩ := I.list hl
  obtain rfl := vals_refs rv
  obtain rfl : us = [.ref l, .ref T] := by
    cases r with
    | cons a t => cases t with
      | cons b t2 => cases t2; cases a; cases b; rfl
  have pT : Pl s.heap T [] := by
    obtain ⟨_, i0, n0, r0, e0⟩ := I.hok T _ hT
    cases r0
    exact ⟨n0, e0⟩
  have ex : ∀ j : Nat, ∃ its : List Value, (∀ a, as[j]? = some a → Pl s.heap a its) ∧ ∀ r, rs[j]? = some r → Vals r its := fun j => by
    cases e : as[j]? with
    | none =>
      have : rs[j]? = none := by
        rw [List.getElem?_eq_none_iff] at e ⊢
        omega
      rw [this]
      exact ⟨[], (fun _ z => nomatch z), (fun _ z => nomatch z)⟩
    | some a =>
      have hj := (List.getElem?_eq_some_iff.mp e).1
      obtain ⟨r, er⟩ : ∃ r, rs[j]? = some r := ⟨_, List.getElem?_eq_getElem (by omega)⟩
      obtain ⟨_, i0, n0, r0, e0⟩ := I.hok a _ (hr j a r e er)
      rw [er]
      exact ⟨i0, (fun b z => by cases z; exact ⟨n0, e0⟩), (fun b z => by cases z; exact r0)⟩
  obtain ⟨rows, hrows⟩ := Classical.skolem.mp ex
  have vs : ∀ i, i ≤ rs.length → Vals (rs.take i).flatten (preL rows [] i) := fun i => by
    induction i with
    | zero => exact fun _ => .nil
    | succ i ih =>
      intro hi
      obtain ⟨r, er⟩ : ∃ r, rs[i]? = some r := ⟨_, List.getElem?_eq_getElem (by omega)⟩
      have e : rs.take (i + 1) = rs.take i ++ [r] := by rw [List.take_add_one, er]; rfl
      rw [e, List.flatten_append, List.flatten_singleton]
      exact (ih (by omega)).append ((hrows i).2 r er)
  have len : ∀ i, i ≤ rs.length → (preL rows [] i).length ≤ sizeLine := fun i hi => by
    rw [← (vs i hi).length]
    refine Nat.le_trans ?_ hz
    conv => rhs; rw [← List.take_append_drop i rs, List.flatten_append, List.length_append]
    exact Nat.le_add_right _ _
  refine call_sumL (I.ok.hd hc) pl.isList pT (fun j a e => (hrows j).1 a e) (fun i hi => ?_) h0 fun h' tk T' hk pT' fr => ?_
  · have := len (i + 1) (by omega)
    rw [show preL rows [] (i + 1) = preL rows [] i ++ rows i from rfl, List.length_append] at this
    exact this
  · have v9 := vs rs.length (Nat.le_refl _)
    rw [List.take_length] at v9
    rw [le] at pT'
    obtain ⟨n9, e9⟩ := pT'
    have g0 : s.heap.get? T' = none := by
      cases e : s.heap.get? T' with
      | none => rfl
      | some o => exact absurd rfl (fr T' o e)
    have H0 : H T' = none := by
      cases e : H T' with
      | none => rfl
      | some o =>
        obtain ⟨u, eu⟩ := objok_some (I.hok T' o e)
        rw [g0] at eu
        cases eu
    exact ⟨.ref T', upd H T' (.lst rs.flatten), I.laidN hk g0 H0 ⟨hz, _, n9, v9, e9⟩, rfl, q T' H0⟩
end Tg

namespace Tg
open PySem PySem.Spec PyProof.Rows L2
/-! ### the text -/
def topS (i : Nat) : Stmt := PySem.Challenge.pw_timegranary_k09_whole_folds_in_any_parts.main.body.getD i (.Pass ⟨0, 0, 0, 0⟩)
abbrev sDraws : Stmt := topS 19
abbrev sNext : Stmt := topS 20
theorem scDraws : FnScope ["_law_cell", "_law_cut", "_law_k"] ["_law_cell"] (defScope sDraws) := ⟨rfl, rfl, rfl, by decide +kernel, rfl, by decide +kernel, by decide +kernel⟩
theorem scNext : FnScope ["_law_draws_here", "_law_k", "_law_number"] ["_law_draws_here"] (defScope sNext) := ⟨rfl, rfl, rfl, by decide +kernel, rfl, by decide +kernel, by decide +kernel⟩
section
variable {P : Program} {w : World} {K : PySem.W.Frag} {mg : Str → Option Value} {base : Heap}
/-! ### _law_draws -/
/-- the draws at p, of which at most n were taken -/
def Dr (H : Hp) (p : Addr) (n : Nat) : Prop := ∃ (a k : Int) (b : Bool), H p = some (.lst [.int a, .int k, .bl b]) ∧ 0 ≤ k ∧ k ≤ n
theorem Dr.same {H H' : Hp} {p : Addr} {n : Nat} (s : Same H H') (d : Dr H p n) : Dr H' p n := by
  obtain ⟨a, k, b, h, r⟩ := d
  exact ⟨a, k, b, s _ _ h, r⟩
theorem Dr.ne {H : Hp} {p l : Addr} {n : Nat} (d : Dr H p n) (h : H l = none) : l ≠ p := fun z => by
  obtain ⟨_, _, _, z2, _⟩ := d
  rw [z, z2] at h
  cases h
def spDraws : Sp := fun vs H Q _ => ∃ c : Int, vs = [.int c] ∧ ∀ (p : Addr) (a : Int) (b : Bool), H p = none → Q (.ref p) (upd H p (.lst [.int a, .int 0, .bl b]))
theorem ok_draws {f : Addr} {fd : FuncData} {k : Nat} (F : Fun K "_law_draws" "_law_draws" sDraws f fd) (mr : mg "range" = none) : FnOk P w K mg base CX0 (k + 1) f fd ["_law_cell"] spDraws := by
  refine F.ok scDraws (fun vs H Q E h => ?_) (fun cdv A outer s H vs Q E hr h => ?_)
  · obtain ⟨c, rfl, _⟩ := h
    rfl
  · obtain ⟨c, rfl, q⟩ := h
    refine ⟨_, pss_cons (ps_set (i := 1) scDraws.nd rfl (.inl rfl) (pe_op op_pow pe_int pe_int))
      (pss_cons (ps_for PassesOwn.never rfl (pi_range1 (by rfl) mr (pa_cons pe_int pa_nil)) (pg_name (i := 2) scDraws.nd rfl (.inl rfl))
        (pss_one (ps_set (i := 1) scDraws.nd rfl (.inl rfl) (pe_op op_mulW (pv 1) (pv 1)))))
      (pss_one (ps_ret (pe_lst (pa_cons (pe_op op_mod (pv 0) (pv 1)) (pa_cons pe_int (pa_cons (pe_cmpR op_ge (pv 0) (pe_op op_pow pe_int pe_int) (nomark _)) pa_nil))))))), ?_⟩
    refine ⟨10, 60, rfl, rfl, ⟨by decide, by decide, by decide⟩, ?_⟩
    refine ⟨7, rfl, by decide, by decide, for_range (n := 7) (fun i σ H2 => ∃ (x : Int) (y : Option V), σ = [some (.int c), some (.int x), y] ∧ H2 = H ∧ 0 < x ∧ x.natAbs < 2 ^ (200 * 2 ^ i)) ?_ ?_ ?_⟩
    · exact ⟨_, none, rfl, rfl, by decide, by decide⟩
    · rintro i σ H2 hi ⟨x, y, rfl, rfl, hx, hb⟩
      refine ⟨_, rfl, _, rfl, x, x, rfl, rfl, ?_, x * x, _, rfl, rfl, Int.mul_pos hx hx, ?_⟩
      · have h7 : 2 ^ i ≤ 2 ^ 6 := Nat.pow_le_pow_right (by decide) (by omega)
        have h0 : 0 < 2 ^ i := Nat.pow_pos (by decide)
        exact wide_mul hb hb (by omega) (by omega) (by omega)
      · have e := wide_lt hb hb
        rw [show 200 * 2 ^ (i + 1) = 200 * 2 ^ i + 200 * 2 ^ i by rw [Nat.pow_succ]; omega]
        exact e
    · rintro σ H2 ⟨x, y, rfl, rfl, hx, _⟩
      refine ⟨_, rfl, _, rfl, c, x, rfl, rfl, hx, _, rfl, 10, 18, rfl, rfl, ⟨by decide, by decide, by decide⟩, c, _, rfl, rfl, ?_, fun p hp => ?_⟩
      · show 3 ≤ sizeLine
        decide
      · exact q p _ _ hp
/-! ### _law_next -/
def spNext : Sp := fun vs H Q _ => ∃ (p : Addr) (n : Nat), vs = [.ref p] ∧ Dr H p n ∧ n < 1000000 ∧
  ∀ (v : Int) (H' : Hp), Kp p H H' → Dr H' p (n + 1) → 0 ≤ v → v < 1000000000 → Q (.int v) H'
theorem ok_next {f : Addr} {fd : FuncData} {k : Nat} (F : Fun K "_law_next" "_law_next" sNext f fd) : FnOk P w K mg base CX0 (k + 1) f fd ["_law_draws_here"] spNext := by
  refine F.ok scNext (fun vs H Q E h => ?_) (fun cdv A outer s H vs Q E hr h => ?_)
  · obtain ⟨p, n, rfl, _⟩ := h
    rfl
  · obtain ⟨p, n, rfl, ⟨a, k, b, hp, k0, kn⟩, hn, q⟩ := h
    refine ⟨_, pss_cons (ps_asg (pe_op op_add (pe_ix ix_list (pv 0) pe_int (fun _ _ => rfl)) pe_int) (pg_sub (pv 0) pe_int set_list))
      (pss_cons (ps_set (i := 1) scNext.nd rfl (.inl rfl) (pe_ix ix_list (pv 0) pe_int (fun _ _ => rfl)))
      (pss_cons (ps_if (pt_val (pe_ix ix_list (pv 0) pe_int (fun _ _ => rfl)))
        (pss_cons (ps_set (i := 2) scNext.nd rfl (.inl rfl) (pe_op op_mod (pe_ix ix_list (pv 0) pe_int (fun _ _ => rfl)) (pe_op op_pow pe_int pe_int)))
        (pss_cons (ps_asg (pe_op op_fdiv (pe_ix ix_list (pv 0) pe_int (fun _ _ => rfl)) (pe_op op_pow pe_int pe_int)) (pg_sub (pv 0) pe_int set_list))
        (pss_one (ps_ret (pv 2))))) pss_nil)
      (pss_cons (ps_set (i := 2) scNext.nd rfl (.inl rfl) (pe_op op_mod (pe_op op_mul (pe_op op_add (pe_op op_add (pe_op op_mod (pe_ix ix_list (pv 0) pe_int (fun _ _ => rfl)) pe_int) (pe_op op_mul (pe_op op_mul (pv 1) (pv 1)) pe_int)) (pv 1)) pe_int) pe_int))
      (pss_cons (ps_set (i := 2) scNext.nd rfl (.inl rfl) (pe_op op_mod (pe_op op_mul (pv 2) (pv 2)) pe_int))
      (pss_one (ps_ret (pe_op op_fdiv (pe_op op_mod (pe_op op_mul (pv 2) (pe_op op_add (pv 2) pe_int)) pe_int) pe_int))))))), ?_⟩
    have h1 : (upd H p (.lst [.int a, .int (k + 1), .bl b])) p = some (.lst [.int a, .int (k + 1), .bl b]) := upd_same
    refine ⟨_, rfl, p, _, 1, .int k, rfl, rfl, SqL.of hp, rfl, k, 1, rfl, rfl, _, rfl, p, _, 1, 1, rfl, rfl, hp, rfl, ?_⟩
    refine ⟨_, rfl, p, _, 1, .int (k + 1), rfl, rfl, SqL.of h1, rfl, ?_⟩
    refine ⟨_, rfl, p, _, 2, .bl b, rfl, rfl, SqL.of h1, rfl, b, rfl, ?_⟩
    cases b with
    | true =>
      refine ⟨_, rfl, p, _, 0, .int a, rfl, rfl, SqL.of h1, rfl, 10, 6, rfl, rfl, ⟨by decide, by decide, by decide⟩, a, 1000000, rfl, rfl, (by show (0 : Int) < 1000000; decide), ?_⟩
      refine ⟨_, rfl, p, _, 0, .int a, rfl, rfl, SqL.of h1, rfl, 10, 6, rfl, rfl, ⟨by decide, by decide, by decide⟩, a, 1000000, rfl, rfl, ⟨by decide, by decide⟩, _, rfl, p, _, 0, 0, rfl, rfl, h1, rfl, ?_⟩
      refine ⟨_, rfl, ?_⟩
      rw [upd_upd]
      exact q _ _ Kp.put ⟨_, _, _, upd_same, by omega, by omega⟩ (Int.emod_nonneg _ (by decide)) (Int.lt_of_lt_of_le (Int.emod_lt_of_pos _ (by decide)) (by decide))
    | false =>
      refine ⟨_, rfl, p, _, 0, .int a, rfl, rfl, SqL.of h1, rfl, a, 1000003, rfl, rfl, (by show (0 : Int) < 1000003; decide), _, rfl, _, rfl, k + 1, k + 1, rfl, rfl, .inl ⟨by omega, by omega⟩, _, 7919, rfl, rfl, .inr ⟨by decide, by decide⟩,
        _, _, rfl, rfl, _, rfl, _, k + 1, rfl, rfl, _, 48271, rfl, rfl, .inr ⟨by decide, by decide⟩, _, 2147483629, rfl, rfl, (by show (0 : Int) < 2147483629; decide), ?_⟩
      obtain ⟨x, ex⟩ : ∃ x : Int, (a % 1000003 + (k + 1) * (k + 1) * 7919 + (k + 1)) * 48271 % 2147483629 = x := ⟨_, rfl⟩
      have x0 : 0 ≤ x := by
        rw [← ex]
        exact Int.emod_nonneg _ (by decide)
      have x1 : x < 2147483629 := by
        rw [← ex]
        exact Int.emod_lt_of_pos _ (by decide)
      refine ⟨_, rfl, _, rfl, x, x, congrArg V.int ex, congrArg V.int ex, .inl ⟨by omega, by omega⟩, _, 2147483587, rfl, rfl, (by show (0 : Int) < 2147483587; decide), ?_⟩
      obtain ⟨y, ey⟩ : ∃ y : Int, x * x % 2147483587 = y := ⟨_, rfl⟩
      have y0 : 0 ≤ y := by
        rw [← ey]
        exact Int.emod_nonneg _ (by decide)
      have y1 : y < 2147483587 := by
        rw [← ey]
        exact Int.emod_lt_of_pos _ (by decide)
      refine ⟨_, rfl, _, rfl, y, 2, congrArg V.int ey, rfl, y, _, congrArg V.int ey, rfl, .inl ⟨by omega, by omega⟩, _, 2147483579, rfl, rfl, (by show (0 : Int) < 2147483579; decide), _, 7, rfl, rfl, ⟨by decide, by decide⟩, ?_⟩
      have z0 : 0 ≤ y * (y + 2) % 2147483579 := Int.emod_nonneg _ (by decide)
      have z1 : y * (y + 2) % 2147483579 < 2147483579 := Int.emod_lt_of_pos _ (by decide)
      exact q _ _ Kp.put ⟨_, _, _, upd_same, by omega, by omega⟩ (by omega) (by omega)
end
end Tg

namespace Tg
open PySem PySem.Spec PyProof.Rows L2
abbrev sGc : Stmt := topS 4
abbrev sFI : Stmt := inCls (topS 7) 0
abbrev sRisen : Stmt := topS 9
abbrev sHB : Stmt := topS 10
abbrev sCkR : Stmt := topS 11
abbrev sLo : Stmt := topS 15
abbrev NFI : List Str := ["self", "count", "total", "squares", "least", "greatest", "first", "last", "rise", "held"]
theorem scGc : FnScope ["one", "two"] ["one", "two"] (defScope sGc) := ⟨rfl, rfl, rfl, by decide +kernel, rfl, by decide +kernel, by decide +kernel⟩
theorem scFI : FnScope NFI NFI (defScope sFI) := ⟨rfl, rfl, rfl, by decide +kernel, rfl, by decide +kernel, by decide +kernel⟩
theorem scRisen : FnScope ["ahead", "behind"] ["ahead", "behind"] (defScope sRisen) := ⟨rfl, rfl, rfl, by decide +kernel, rfl, by decide +kernel, by decide +kernel⟩
theorem scHB : FnScope ["ahead", "behind"] ["ahead", "behind"] (defScope sHB) := ⟨rfl, rfl, rfl, by decide +kernel, rfl, by decide +kernel, by decide +kernel⟩
theorem scCkR : FnScope ["points", "at"] ["points"] (defScope sCkR) := ⟨rfl, rfl, rfl, by decide +kernel, rfl, by decide +kernel, by decide +kernel⟩
theorem scLo : FnScope ["top", "bottom", "common"] ["top", "bottom"] (defScope sLo) := ⟨rfl, rfl, rfl, by decide +kernel, rfl, by decide +kernel, by decide +kernel⟩
theorem if_n {c : Bool} {A B : Prop} (h : c = false) (b : B) : if c = true then A else B := by
  subst h
  exact if_f b
theorem if_y {c : Bool} {A B : Prop} (h : c = true) (a : A) : if c = true then A else B := by
  subst h
  exact if_t a
/-! ### points and their folds -/
abbrev Pt := Int × Int
def stp (a b : Int) : Int := if b ≥ a then b - a else if 0 > b then 0 else b
def hld (p q : Pt) : Int := p.2 * (q.1 - p.1)
def wts (ps : List Pt) : List Int := ps.map (·.2)
structure FD where
  cnt : Int
  tot : Int
  sq : Int
  lo : Option Int
  hi : Option Int
  fst : Option Pt
  lst : Option Pt
  ris : Int
  hel : Int
def fOf (ps : List Pt) : FD := ⟨ps.length, (wts ps).sum, ((wts ps).map fun w => w * w).sum, (wts ps).min?, (wts ps).max?, ps.head?, ps.getLast?, (List.zipWith stp (wts ps) ((wts ps).drop 1)).sum, (List.zipWith hld ps (ps.drop 1)).sum⟩
theorem min_is {ns : List Int} {m : Int} (h : m ∈ ns) (le : ∀ y, y ∈ ns → m ≤ y) : ns.min? = some m := List.min?_eq_some_iff.mpr ⟨h, le⟩
theorem max_is {ns : List Int} {m : Int} (h : m ∈ ns) (le : ∀ y, y ∈ ns → y ≤ m) : ns.max? = some m := List.max?_eq_some_iff.mpr ⟨h, le⟩
/-- points whose times rise, of some size -/
structure POk (ps : List Pt) : Prop where
  len : ps.length < 40
  up : ∀ (i : Nat) (p q : Pt), ps[i]? = some p → ps[i + 1]? = some q → p.1 < q.1
  sz : ∀ p, p ∈ ps → p.2.natAbs < 2 ^ 60
section
variable {K : PySem.W.Frag} {H H' : Hp}
/-- a point or None -/
def PO (K : PySem.W.Frag) (H : Hp) (v : V) : Option Pt → Prop
  | none => v = .non
  | some p => ∃ t, v = .ref t ∧ SqT K H t [.int p.1, .int p.2]
theorem PO.same {v : V} (s : Same H H') : ∀ {o : Option Pt}, PO K H v o → PO K H' v o
  | none, h => h
  | some p, ⟨t, e, h⟩ => ⟨t, e, sqT_same s h⟩
theorem dp_pd {v : V} {x : Pt} (h : Dp K H v (pd x)) : ∃ a, v = .ref a ∧ SqT K H a [.int x.1, .int x.2] := by
  cases h with
  | tup a b =>
    cases b with
    | cons h1 b =>
      cases b with
      | cons h2 b =>
        cases b
        cases h1
        cases h2
        exact ⟨_, rfl, a⟩
def flds (F : FD) (vf vl : V) : List (Str × V) := [("count", .int F.cnt), ("total", .int F.tot), ("squares", .int F.sq), ("least", vw F.lo), ("greatest", vw F.hi), ("first", vf), ("last", vl), ("rise", .int F.ris), ("held", .int F.hel)]
/-- a Fold in the heap -/
def FdO (K : PySem.W.Frag) (C : Addr) (H : Hp) (a : Addr) (F : FD) : Prop := ∃ dx vf vl, H a = some (.ins C dx (flds F vf vl)) ∧ PO K H vf F.fst ∧ PO K H vl F.lst
theorem FdO.same {C a : Addr} {F : FD} (s : Same H H') (h : FdO K C H a F) : FdO K C H' a F := by
  obtain ⟨dx, vf, vl, e, h1, h2⟩ := h
  exact ⟨dx, vf, vl, s _ _ e, h1.same s, h2.same s⟩
/-- points in a list -/
def PtL (K : PySem.W.Frag) (H : Hp) (l : Addr) (ps : List Pt) : Prop := ∃ xs, SqL K H l xs ∧ DpAll K H xs (ps.map pd)
theorem PtL.same {l : Addr} {ps : List Pt} (s : Same H H') (h : PtL K H l ps) : PtL K H' l ps := by
  obtain ⟨xs, h1, h2⟩ := h
  exact ⟨xs, sqL_same s h1, dpAll_same s h2⟩
structure TFold (K : PySem.W.Frag) (C : Addr) : Prop where
  cl : Cls K C
  no : ∀ n, n ∈ ["count", "total", "squares", "least", "greatest", "first", "last", "rise", "held"] → PySem.W.findIn K (.ref C) n = some none
end
section
variable {P : Program} {w : World} {K : PySem.W.Frag} {mg : Str → Option Value} {base : Heap} {C : Addr}
/-- C(k = v, ..), keywords alone -/
def CalCK (P : Program) (w : World) (K : PySem.W.Frag) (mg : Str → Option Value) (base : Heap) (k : Nat) (x : Str) (C : Addr) (ps ks : List Str) (gV : List V → List V → List V) (sp : Sp) : Prop := ∃ f fd g, FnOk P w K mg base CX0 k f fd ps sp ∧ mg x = some (.ref C) ∧ Mk K C f ∧ KBn K fd ps 1 ks g gV
theorem pe_calCK {X : Cx} {k : Nat} {x : Str} {ps ks : List Str} {gV : List V → List V → List V} {sp : Sp} {kws : List Keyword} {tk : TA} {p pos : Pos} (c : CalCK X.prog X.w X.K X.mg X.base k x C ps ks gV sp) (hr : Room (k + 1) X.A) (gl : Gl X x) (vals : PK X kws tk)
    (named : (backToKw pos (keywordEach kws X.env)).all (·.1.isSome) = true := by rfl) (names : (backToKw pos (keywordEach kws X.env)).filterMap (·.1) = ks := by rfl) (nodebug : (x == ("__debug__" : Str)) = false := by decide)
    (nostar : ((backTo pos (starEach [] X.env)).any (·.1) || (backToKw pos (keywordEach kws X.env)).any (·.1.isNone)) = false := by rfl) :
    PE X (.Call (.Name x p) [] kws pos) (tMakeK C 0 ks.length sp gV E0 tNil tk) := by
  obtain ⟨f, fd, g, F, hm, M, hb⟩ := c
  exact pe_makeK0 M F hr gl hm hb pass0 vals named names nodebug nostar
/-! ### Fold.__init__ -/
def spFI (C : Addr) : Sp := fun vs H Q _ => ∃ (p dx : Addr) (a b c d e f g h i : V), vs = [.ref p, a, b, c, d, e, f, g, h, i] ∧ H p = some (.ins C dx []) ∧
  Q .non (upd H p (.ins C dx [("count", a), ("total", b), ("squares", c), ("least", d), ("greatest", e), ("first", f), ("last", g), ("rise", h), ("held", i)]))
theorem ok_fi {f : Addr} {fd : FuncData} {kws : List (Str × V)} {k : Nat} (F : FunD K "__init__" "Fold.__init__" (defArgs sFI) (defBody sFI) (defScope sFI) [] kws f fd) (T : TFold K C) : FnOk P w K mg base CX0 (k + 1) f fd NFI (spFI C) := by
  refine F.ok scFI (fun vs H Q E h => ?_) (fun cdv A outer s H vs Q E hr h => ?_)
  · obtain ⟨p, dx, a, b, c, d, e, f, g, h, i, rfl, _⟩ := h
    rfl
  · obtain ⟨p, dx, a, b, c, d, e, f, g, h, i, rfl, hp, q⟩ := h
    refine ⟨_, pss_cons (ps_fld (pv 0) (pv 1) rfl) (pss_cons (ps_fld (pv 0) (pv 2) rfl) (pss_cons (ps_fld (pv 0) (pv 3) rfl) (pss_cons (ps_fld (pv 0) (pv 4) rfl) (pss_cons (ps_fld (pv 0) (pv 5) rfl)
      (pss_cons (ps_fld (pv 0) (pv 6) rfl) (pss_cons (ps_fld (pv 0) (pv 7) rfl) (pss_cons (ps_fld (pv 0) (pv 8) rfl) (pss_one (ps_fld (pv 0) (pv 9) rfl))))))))), ?_⟩
    refine ⟨_, rfl, _, rfl, p, C, dx, _, rfl, hp, T.cl, T.no _ (by decide), (by show 0 < 1000; decide), ?_⟩
    refine ⟨_, rfl, _, rfl, p, C, dx, _, rfl, upd_same, T.cl, T.no _ (by decide), (by show 1 < 1000; decide), ?_⟩
    rw [upd_upd]
    refine ⟨_, rfl, _, rfl, p, C, dx, _, rfl, upd_same, T.cl, T.no _ (by decide), (by show 2 < 1000; decide), ?_⟩
    rw [upd_upd]
    refine ⟨_, rfl, _, rfl, p, C, dx, _, rfl, upd_same, T.cl, T.no _ (by decide), (by show 3 < 1000; decide), ?_⟩
    rw [upd_upd]
    refine ⟨_, rfl, _, rfl, p, C, dx, _, rfl, upd_same, T.cl, T.no _ (by decide), (by show 4 < 1000; decide), ?_⟩
    rw [upd_upd]
    refine ⟨_, rfl, _, rfl, p, C, dx, _, rfl, upd_same, T.cl, T.no _ (by decide), (by show 5 < 1000; decide), ?_⟩
    rw [upd_upd]
    refine ⟨_, rfl, _, rfl, p, C, dx, _, rfl, upd_same, T.cl, T.no _ (by decide), (by show 6 < 1000; decide), ?_⟩
    rw [upd_upd]
    refine ⟨_, rfl, _, rfl, p, C, dx, _, rfl, upd_same, T.cl, T.no _ (by decide), (by show 7 < 1000; decide), ?_⟩
    rw [upd_upd]
    refine ⟨_, rfl, _, rfl, p, C, dx, _, rfl, upd_same, T.cl, T.no _ (by decide), (by show 8 < 1000; decide), ?_⟩
    rw [upd_upd]
    exact q
/-! ### risen, held_between, check_rising -/
def spRisen : Sp := fun vs H Q _ => ∃ a b : Int, vs = [.int a, .int b] ∧ Q (.int (stp a b)) H
theorem ok_risen {f : Addr} {fd : FuncData} {k : Nat} (F : Fun K "risen" "risen" sRisen f fd) (m_max : mg "max" = none) : FnOk P w K mg base CX0 (k + 1) f fd ["ahead", "behind"] spRisen := by
  refine F.ok scRisen (fun vs H Q E h => ?_) (fun cdv A outer s H vs Q E hr h => ?_)
  · obtain ⟨a, b, rfl, _⟩ := h
    rfl
  · obtain ⟨a, b, rfl, q⟩ := h
    refine ⟨_, pss_cons (ps_if (pt_cmpR op_ge (pv 1) (pv 0) (nomark _))
        (pss_one (ps_ret (pe_op op_sub (pv 1) (pv 0))))
        pss_nil)
      (pss_one (ps_ret (pe_callB (call_max2 rfl) (by rfl) m_max (by decide +kernel) (pa_cons (pv 1) (pa_cons pe_int pa_nil))))), ?_⟩
    unfold stp at q
    refine ⟨_, rfl, _, rfl, _, _, rfl, rfl, _, rfl, ite2 (fun g => ?_) (fun g => ?_)⟩
    · rw [if_pos (of_decide_eq_true g)] at q
      exact ⟨_, rfl, _, rfl, _, _, rfl, rfl, q⟩
    · rw [if_neg (fun z => g (decide_eq_true z))] at q
      exact ⟨_, rfl, _, _, rfl, q⟩
def spHB (K : PySem.W.Frag) : Sp := fun vs H Q _ => ∃ (a b : Addr) (p q : Pt), vs = [.ref a, .ref b] ∧ SqT K H a [.int p.1, .int p.2] ∧ SqT K H b [.int q.1, .int q.2] ∧ p.2.natAbs < 2 ^ 60 ∧ Q (.int (hld p q)) H
theorem small_mul {i j : Int} (h : i.natAbs < 2 ^ 60) : CMul i j := .inl ⟨by omega, by omega⟩
theorem ok_hb {f : Addr} {fd : FuncData} {k : Nat} (F : Fun K "held_between" "held_between" sHB f fd) : FnOk P w K mg base CX0 (k + 1) f fd ["ahead", "behind"] (spHB K) := by
  refine F.ok scHB (fun vs H Q E h => ?_) (fun cdv A outer s H vs Q E hr h => ?_)
  · obtain ⟨a, b, p, q, rfl, _⟩ := h
    rfl
  · obtain ⟨a, b, p, q, rfl, ha, hb, hs, fin⟩ := h
    refine ⟨_, pss_one (ps_ret (pe_op op_mul (pe_ix ix_tup (pv 0) pe_int (fun _ _ => rfl)) (pe_op op_sub (pe_ix ix_tup (pv 1) pe_int (fun _ _ => rfl)) (pe_ix ix_tup (pv 0) pe_int (fun _ _ => rfl))))), ?_⟩
    exact ⟨_, rfl, a, _, _, _, rfl, rfl, ha, rfl, _, rfl, b, _, _, _, rfl, rfl, hb, rfl, _, rfl, a, _, _, _, rfl, rfl, ha, rfl, _, _, rfl, rfl, _, _, rfl, rfl, small_mul hs, fin⟩
def spCkR (K : PySem.W.Frag) : Sp := fun vs H Q _ => ∃ (l : Addr) (ps : List Pt), vs = [.ref l] ∧ PtL K H l ps ∧ POk ps ∧ Q .non H
theorem ok_ckR {f : Addr} {fd : FuncData} {k : Nat} (F : Fun K "check_rising" "check_rising" sCkR f fd) (m_range : mg "range" = none) (m_len : mg "len" = none) : FnOk P w K mg base CX0 (k + 1) f fd ["points"] (spCkR K) := by
  refine F.ok scCkR (fun vs H Q E h => ?_) (fun cdv A outer s H vs Q E hr h => ?_)
  · obtain ⟨l, ps, rfl, _⟩ := h
    rfl
  · obtain ⟨l, ps, rfl, ⟨xs, hl, hd⟩, ok, q⟩ := h
    refine ⟨_, pss_one (ps_for PassesOwn.never rfl (pi_range2 (by rfl) m_range (pa_cons pe_int (pa_cons (pe_callB call_len_seq (by rfl) m_len (by decide +kernel) (pa_cons (pv 0) pa_nil)) pa_nil))) (pg_name (i := 1) scCkR.nd rfl (.inl rfl))
        (pss_one (ps_if (pt_cmpR op_le (pe_ix ix_tup (pe_ix ix_list (pv 0) (pv 1) (fun _ _ => rfl)) pe_int (fun _ _ => rfl)) (pe_ix ix_tup (pe_ix ix_list (pv 0) (pe_op op_sub (pv 1) pe_int) (fun _ _ => rfl)) pe_int (fun _ _ => rfl)) (nomark _))
          (pss_one ps_dead)
          pss_nil))), ?_⟩
    have ll := dl_len hd
    have l40 := ok.len
    refine ⟨_, rfl, l, xs, rfl, .inl hl, 1, _, rfl, ⟨by decide, by decide, by omega, by omega⟩, ?_⟩
    rw [show (((xs.length : Nat) : Int) - 1).toNat = xs.length - 1 by omega]
    refine for_range (n := xs.length - 1) (fun i σ H2 => ∃ z : Option V, σ = [some (.ref l), z] ∧ H2 = H) ⟨none, rfl, rfl⟩ ?_ ?_
    · rintro i σ H2 hi ⟨z, rfl, rfl⟩
      obtain ⟨p, hp⟩ : ∃ p, ps[i]? = some p := ⟨_, List.getElem?_eq_getElem (by omega)⟩
      obtain ⟨r, hr2⟩ : ∃ r, ps[i + 1]? = some r := ⟨_, List.getElem?_eq_getElem (by omega)⟩
      obtain ⟨v1, e1, d1⟩ := dl_get hd hp
      obtain ⟨v2, e2, d2⟩ := dl_get hd hr2
      obtain ⟨t1, rfl, h1⟩ := dp_pd d1
      obtain ⟨t2, rfl, h2⟩ := dp_pd d2
      have lt := ok.up i p r hp hr2
      refine ⟨_, rfl, _, rfl, l, xs, _, .ref t2, rfl, rfl, hl, ?_, t2, _, _, _, rfl, rfl, h2, rfl, _, rfl, _, rfl, _, _, rfl, rfl, l, xs, _, .ref t1, rfl, rfl, hl, ?_, t1, _, _, _, rfl, rfl, h1, rfl, _, _, rfl, rfl, _, rfl, if_n ?_ ⟨_, rfl, rfl⟩⟩
      · rw [show (1 + ((i : Nat) : Int)) = ((i + 1 : Nat) : Int) by omega]
        exact atI_nat e2
      · rw [show (1 + ((i : Nat) : Int)) - 1 = ((i : Nat) : Int) by omega]
        exact atI_nat e1
      · exact decide_eq_false (by omega)
    · rintro σ H2 ⟨z, rfl, rfl⟩
      exact q
end
end Tg

namespace Tg
open PySem PySem.Spec PyProof.Rows L2
def gc (t b : Int) : Int := ((Nat.gcd t.natAbs b.natAbs : Nat) : Int)
/-- a number of halves, in its lowest terms -/
def lw (t b : Int) : Pt := (t / gc t b, b / gc t b)
theorem gc_pos {t b : Int} (h : 0 < b) : 0 < gc t b := Int.natCast_pos.mpr (Nat.gcd_pos_of_pos_right _ (by omega))
theorem gc_le {t b : Int} (h : 0 < b) : (gc t b).natAbs ≤ b.natAbs := Nat.le_of_dvd (by omega) (Nat.gcd_dvd_right _ _)
theorem abs_is (i : Int) : (if i < 0 then -i else i) = ((i.natAbs : Nat) : Int) := by
  split <;> omega
def mu2 (i : Nat) (σ : L2.St) : Nat := match σ[i]? with
  | some (some (.int b)) => b.toNat
  | _ => 0
section
variable {P : Program} {w : World} {K : PySem.W.Frag} {mg : Str → Option Value} {base : Heap} {C : Addr}
def spGc : Sp := fun vs H Q _ => ∃ x y : Nat, vs = [.int (x : Nat), .int (y : Nat)] ∧ Q (.int ((Nat.gcd x y : Nat) : Int)) H
theorem ok_gc {f : Addr} {fd : FuncData} {k : Nat} (F : Fun K "greatest_common" "greatest_common" sGc f fd) : FnOk P w K mg base CX0 (k + 1) f fd ["one", "two"] spGc := by
  refine F.ok scGc (fun vs H Q E h => ?_) (fun cdv A outer s H vs Q E hr h => ?_)
  · obtain ⟨a, b, rfl, _⟩ := h
    rfl
  · obtain ⟨x, y, rfl, q⟩ := h
    refine ⟨_, pss_cons (ps_while PassesOwn.never (pt_cmpR op_gt (pv 1) pe_int (nomark _))
        (pss_one (ps_par (i := 0) (j := 1) rfl scGc.nd rfl rfl (by decide) rfl rfl (pa_cons (pv 1) (pa_cons (pe_op op_mod (pv 0) (pv 1)) pa_nil)) rfl)))
      (pss_one (ps_ret (pv 0))), ?_⟩
    refine while_by (fun σ H2 => ∃ a b : Nat, σ = [some (.int (a : Nat)), some (.int (b : Nat))] ∧ H2 = H ∧ Nat.gcd a b = Nat.gcd x y) (fun σ _ => mu2 1 σ) ⟨x, y, rfl, rfl, rfl⟩ ?_ ?_
    · rintro σ H2 ⟨a, b, rfl, rfl, e⟩
      refine ⟨_, rfl, _, _, rfl, rfl, _, rfl, ite2 (fun g => ?_) (fun g => ?_)⟩
      · have g1 : 0 < b := by
          have := of_decide_eq_true g
          omega
        refine ⟨_, rfl, _, rfl, _, rfl, _, _, rfl, rfl, (by omega), _, _, rfl, ⟨b, a % b, ?_, rfl, ?_⟩, ?_⟩
        · rfl
        · rw [← e, Nat.gcd_comm a b, Nat.gcd_rec b a, Nat.gcd_comm]
        · show (((a : Nat) : Int) % ((b : Nat) : Int)).toNat < ((b : Nat) : Int).toNat
          have := Nat.mod_lt a g1
          have e2 : (((a : Nat) : Int) % ((b : Nat) : Int)) = ((a % b : Nat) : Int) := rfl
          rw [e2]
          omega
      · have g1 : b = 0 := by
          have : ¬ ((b : Nat) : Int) > 0 := fun z => g (decide_eq_true z)
          omega
        subst g1
        rw [Nat.gcd_zero_right] at e
        refine ⟨_, rfl, ?_⟩
        rw [e]
        exact q
    · rintro σ H2 Q1 Q2 hq ⟨v, e, a, b, e1, e2, c, e3, h⟩
      exact ⟨v, e, a, b, e1, e2, c, e3, hq _ _ h⟩
def spLo (K : PySem.W.Frag) : Sp := fun vs H Q _ => ∃ t b : Int, vs = [.int t, .int b] ∧ 0 < b ∧ b.natAbs < 2 ^ 8000 ∧ ∀ p H', Same H H' → SqT K H' p [.int (lw t b).1, .int (lw t b).2] → Q (.ref p) H'
theorem ok_lo {f : Addr} {fd : FuncData} {k : Nat} (F : Fun K "lowest" "lowest" sLo f fd) (C_greatest_common : Cal P w K mg base k "greatest_common" ["one", "two"] spGc) (m_abs : mg "abs" = none) : FnOk P w K mg base CX0 (k + 1) f fd ["top", "bottom"] (spLo K) := by
  refine F.ok scLo (fun vs H Q E h => ?_) (fun cdv A outer s H vs Q E hr h => ?_)
  · obtain ⟨a, b, rfl, _⟩ := h
    rfl
  · obtain ⟨t, b, rfl, b0, b1, q⟩ := h
    refine ⟨_, pss_cons (ps_set (i := 2) scLo.nd rfl (.inl rfl) (pe_cal C_greatest_common (hr.mono (by omega)) (by rfl) (pa_cons (pe_callB call_abs (by rfl) m_abs (by decide +kernel) (pa_cons (pv 0) pa_nil)) (pa_cons (pv 1) pa_nil))))
      (pss_one (ps_ret (pe_tup (pa_cons (pe_op op_fdivW (pv 0) (pv 2)) (pa_cons (pe_op op_fdivW (pv 1) (pv 2)) pa_nil))))), ?_⟩
    have wd : CDivW t (gc t b) ∧ CDivW b (gc t b) := ⟨wide_div (gc_pos b0) (Nat.lt_of_le_of_lt (gc_le b0) b1) (by decide) (by decide), wide_div (gc_pos b0) (Nat.lt_of_le_of_lt (gc_le b0) b1) (by decide) (by decide)⟩
    refine ⟨_, rfl, _, rfl, _, rfl, t.natAbs, b.natAbs, ?_, ?_⟩
    · rw [abs_is, show ((b.natAbs : Nat) : Int) = b by omega]
      rfl
    · exact ⟨_, rfl, _, rfl, _, _, rfl, rfl, wd.1, _, rfl, _, rfl, _, _, rfl, rfl, wd.2, (by show 2 ≤ sizeLine; decide), fun p np => q p _ (same_new np) (SqT.of upd_same)⟩
end
end Tg

namespace Tg
open PySem PySem.Spec PyProof.Rows L2
abbrev sFO : Stmt := topS 12
abbrev NFO : List Str := ["points", "told", "worths", "time", "worth", "ahead", "behind"]
theorem scFO : FnScope NFO ["points"] (defScope sFO) := ⟨rfl, rfl, rfl, by decide +kernel, rfl, by decide +kernel, by decide +kernel⟩
theorem cut_from (xs : List V) (a : Nat) : cutV xs (some (a : Int)) none = xs.drop a := by
  unfold cutV
  rw [HT.sIx_none, HT.sIx_nat]
  rcases Nat.le_total a xs.length with h | h
  · rw [Nat.min_eq_left h]
    exact List.take_of_length_le (by rw [List.length_drop]; exact Nat.le_refl _)
  · rw [Nat.min_eq_right h, List.drop_length, List.drop_of_length_le h, List.take_nil]
theorem cut_1 (xs : List V) : cutV xs (some 1) none = xs.drop 1 := cut_from xs 1
theorem fd_made {K : PySem.W.Frag} {C x dx : Addr} {H : Hp} (nx : H x = none) (nd : H dx = none) (ne : dx ≠ x) {F : FD} {vf vl : V} (h1 : PO K H vf F.fst) (h2 : PO K H vl F.lst) :
    Same H (upd (upd (upd H dx (.own x)) x (.ins C dx [])) x (.ins C dx (flds F vf vl))) ∧ FdO K C (upd (upd (upd H dx (.own x)) x (.ins C dx [])) x (.ins C dx (flds F vf vl))) x F := by
  have sm : Same H (upd (upd (upd H dx (.own x)) x (.ins C dx [])) x (.ins C dx (flds F vf vl))) := same_put nx (same_put nx (same_new nd))
  exact ⟨sm, dx, vf, vl, upd_same, h1.same sm, h2.same sm⟩
theorem fOf_nil : fOf [] = ⟨0, 0, 0, none, none, none, none, 0, 0⟩ := rfl
theorem wts_at {ps : List Pt} {i : Nat} {p : Pt} (h : ps[i]? = some p) : (wts ps)[i]? = some p.2 := by
  unfold wts
  rw [List.getElem?_map, h]
  rfl
theorem wts_len (ps : List Pt) : (wts ps).length = ps.length := List.length_map ..
theorem zw_at {α β γ : Type} {f : α → β → γ} {xs : List α} {ys : List β} {i : Nat} {a : α} {b : β} (h1 : xs[i]? = some a) (h2 : ys[i]? = some b) : (List.zipWith f xs ys)[i]? = some (f a b) := by
  rw [List.getElem?_zipWith, h1, h2]
theorem mapi_at {ns : List Int} {i : Nat} {v : V} (h : (ns.map V.int)[i]? = some v) : ∃ a, ns[i]? = some a ∧ v = .int a := by
  rw [List.getElem?_map] at h
  obtain ⟨a, h1, rfl⟩ := Option.map_eq_some_iff.mp h
  exact ⟨a, h1, rfl⟩
theorem atI_end {xs : List V} {v : V} (h : xs.getLast? = some v) : atI xs (-1) = some v := by
  obtain ⟨ys, rfl⟩ := List.getLast?_eq_some_iff.mp h
  exact atI_last ys v
theorem pt_ends {K : PySem.W.Frag} {H : Hp} {xs : List V} {ps : List Pt} (hd : DpAll K H xs (ps.map pd)) (ne : ps ≠ []) :
    (∃ t p, atI xs 0 = some (.ref t) ∧ ps.head? = some p ∧ SqT K H t [.int p.1, .int p.2]) ∧ ∃ t p, atI xs (-1) = some (.ref t) ∧ ps.getLast? = some p ∧ SqT K H t [.int p.1, .int p.2] := by
  have l0 : 0 < ps.length := List.length_pos_iff.mpr ne
  have ll := dl_len hd
  constructor
  · obtain ⟨p, hp⟩ : ∃ p, ps[0]? = some p := ⟨_, List.getElem?_eq_getElem l0⟩
    obtain ⟨v, e, d⟩ := dl_get hd hp
    obtain ⟨t, rfl, h⟩ := dp_pd d
    exact ⟨t, p, atI_nat e, by rw [List.head?_eq_getElem?]; exact hp, h⟩
  · obtain ⟨p, hp⟩ : ∃ p, ps[ps.length - 1]? = some p := ⟨_, List.getElem?_eq_getElem (by omega)⟩
    obtain ⟨v, e, d⟩ := dl_get hd hp
    obtain ⟨t, rfl, h⟩ := dp_pd d
    exact ⟨t, p, atI_end (by rw [List.getLast?_eq_getElem?, ll]; exact e), by rw [List.getLast?_eq_getElem?]; exact hp, h⟩
abbrev kFold : List Str := ["count", "total", "squares", "least", "greatest", "first", "last", "rise", "held"]
section
variable {P : Program} {w : World} {K : PySem.W.Frag} {mg : Str → Option Value} {base : Heap} {C : Addr}
abbrev KF9 (P : Program) (w : World) (K : PySem.W.Frag) (mg : Str → Option Value) (base : Heap) (C : Addr) (k : Nat) : Prop := CalCK P w K mg base k "Fold" C NFI kFold (fun vs zs => vs ++ zs) (spFI C)
abbrev KF0 (P : Program) (w : World) (K : PySem.W.Frag) (mg : Str → Option Value) (base : Heap) (C : Addr) (k : Nat) : Prop := CalCK P w K mg base k "Fold" C NFI [] (fun vs _ => vs ++ [.int 0, .int 0, .int 0, .non, .non, .non, .non, .int 0, .int 0]) (spFI C)
def spFO (K : PySem.W.Frag) (C : Addr) : Sp := fun vs H Q _ => ∃ (l : Addr) (ps : List Pt), vs = [.ref l] ∧ PtL K H l ps ∧ POk ps ∧ ∀ a H', Same H H' → FdO K C H' a (fOf ps) → Q (.ref a) H'
theorem ok_fo {f : Addr} {fd : FuncData} {k : Nat} (F : Fun K "fold_of" "fold_of" sFO f fd) (C_check_rising : Cal P w K mg base k "check_rising" ["points"] (spCkR K)) (K_Fold0 : KF0 P w K mg base C k) (K_Fold9 : KF9 P w K mg base C k) (C_risen : Cal P w K mg base k "risen" ["ahead", "behind"] spRisen) (C_held_between : Cal P w K mg base k "held_between" ["ahead", "behind"] (spHB K))
    (m_list : mg "list" = none) (m_len : mg "len" = none) (m_sum : mg "sum" = none) (m_min : mg "min" = none) (m_max : mg "max" = none) (m_zip : mg "zip" = none) : FnOk P w K mg base CX0 (k + 2) f fd ["points"] (spFO K C) := by
  refine F.ok scFO (fun vs H Q E h => ?_) (fun cdv A outer s H vs Q E hr h => ?_)
  · obtain ⟨l, ps, rfl, _⟩ := h
    rfl
  · obtain ⟨l, ps, rfl, ⟨xs, hl, hd⟩, ok, q⟩ := h
    refine ⟨_, pss_cons (ps_set (i := 1) scFO.nd rfl (.inl rfl) (pe_callTy call_list_of (by rfl) m_list (by decide +kernel) (pa_cons (pv 0) pa_nil)))
      (pss_cons (ps_expr (pe_cal C_check_rising (hr.mono (by omega)) (by rfl) (pa_cons (pv 1) pa_nil)))
      (pss_cons (ps_if (pt_not (pt_truth (pv 1) (fun _ => rfl)))
        (pss_one (ps_ret (pe_calCK K_Fold0 (hr.mono (by omega)) (by rfl) pk_nil)))
        pss_nil)
      (pss_cons (ps_setLc (i := 2) (own := [("time", 3), ("worth", 4)]) (g := gTup K 2 _) (tt := tYes) rfl scFO.nd rfl rfl (sw_true rfl rfl rfl (by decide +kernel)) (pi_list (pv 1)) (blkOk_by (own := [("time", 3), ("worth", 4)]) (N := NFO) (sc := defScope sFO) (by decide +kernel)) (fun _ _ _ _ _ => (pg_tup rfl (pgs_cons (pg_name (i := 3) scFO.nd rfl (.inl rfl)) (pgs_cons (pg_name (i := 4) scFO.nd rfl (.inl rfl)) pgs_nil)))) (fun _ _ _ _ _ => pts_nil) (fun _ _ _ _ _ => (pv 4)))
      (pss_one (ps_ret (pe_calCK K_Fold9 (hr.mono (by omega)) (by rfl) (pk_cons (pe_callB call_len_seq (by rfl) m_len (by decide +kernel) (pa_cons (pv 1) pa_nil)) (pk_cons (pe_callB (cr_sum rfl) (by rfl) m_sum (by decide +kernel) (pa_cons (pv 2) pa_nil)) (pk_cons (pe_callB (cr_sum rfl) (by rfl) m_sum (by decide +kernel) (pa_cons (pe_lc (own := [("worth", 4)]) (g := (gName 4)) (tt := tYes) rfl scFO.nd (pi_list (pv 2)) (blkOk_by (own := [("worth", 4)]) (N := NFO) (sc := defScope sFO) (by decide +kernel)) (fun _ _ _ _ _ => (pg_name (i := 4) scFO.nd rfl (.inl rfl))) (fun _ _ _ _ _ => pts_nil) (fun _ _ _ _ _ => (pe_op op_mul (pv 4) (pv 4)))) pa_nil)) (pk_cons (pe_callB (cr_min rfl) (by rfl) m_min (by decide +kernel) (pa_cons (pv 2) pa_nil)) (pk_cons (pe_callB (cr_max rfl) (by rfl) m_max (by decide +kernel) (pa_cons (pv 2) pa_nil)) (pk_cons (pe_ix ix_list (pv 1) pe_int (fun _ _ => rfl)) (pk_cons (pe_ix ix_list (pv 1) (pe_un un_neg pe_int) (fun _ _ => rfl)) (pk_cons (pe_callB (cr_sum rfl) (by rfl) m_sum (by decide +kernel) (pa_cons (pe_lc (own := [("ahead", 5), ("behind", 6)]) (g := gTup K 2 _) (tt := tYes) rfl scFO.nd (pi_zip (by rfl) m_zip (pa_cons (pv 2) (pa_cons (pe_slice sl_list (pv 2) (po_some pe_int) po_none) pa_nil))) (blkOk_by (own := [("ahead", 5), ("behind", 6)]) (N := NFO) (sc := defScope sFO) (by decide +kernel)) (fun _ _ _ _ _ => (pg_tup rfl (pgs_cons (pg_name (i := 5) scFO.nd rfl (.inl rfl)) (pgs_cons (pg_name (i := 6) scFO.nd rfl (.inl rfl)) pgs_nil)))) (fun _ _ _ _ _ => pts_nil) (fun _ _ _ _ _ => (pe_cal C_risen (hr.mono (by omega)) (by rfl) (pa_cons (pv 5) (pa_cons (pv 6) pa_nil))))) pa_nil)) (pk_cons (pe_callB (cr_sum rfl) (by rfl) m_sum (by decide +kernel) (pa_cons (pe_lc (own := [("ahead", 5), ("behind", 6)]) (g := gTup K 2 _) (tt := tYes) rfl scFO.nd (pi_zip (by rfl) m_zip (pa_cons (pv 1) (pa_cons (pe_slice sl_list (pv 1) (po_some pe_int) po_none) pa_nil))) (blkOk_by (own := [("ahead", 5), ("behind", 6)]) (N := NFO) (sc := defScope sFO) (by decide +kernel)) (fun _ _ _ _ _ => (pg_tup rfl (pgs_cons (pg_name (i := 5) scFO.nd rfl (.inl rfl)) (pgs_cons (pg_name (i := 6) scFO.nd rfl (.inl rfl)) pgs_nil)))) (fun _ _ _ _ _ => pts_nil) (fun _ _ _ _ _ => (pe_cal C_held_between (hr.mono (by omega)) (by rfl) (pa_cons (pv 5) (pa_cons (pv 6) pa_nil))))) pa_nil)) pk_nil))))))))))))))), ?_⟩
    have ll := dl_len hd
    have l40 := ok.len
    refine ⟨_, rfl, l, xs, rfl, .inl hl, fun t nt => ?_⟩
    have s1 : Same H (upd H t (.lst xs)) := same_new nt
    obtain ⟨H1, e1⟩ : ∃ H1, upd H t (.lst xs) = H1 := ⟨_, rfl⟩
    have ht1 : H1 t = some (.lst xs) := by
      rw [← e1]
      exact upd_same
    rw [e1] at s1
    rw [e1]
    have hd1 := dpAll_same s1 hd
    refine ⟨_, rfl, t, ps, rfl, ⟨xs, SqL.of ht1, hd1⟩, ok, ?_⟩
    refine ⟨_, rfl, !xs.isEmpty, .inl ⟨xs, SqL.of ht1, rfl⟩, ?_⟩
    cases ps with
    | nil =>
      obtain rfl : xs = [] := List.length_eq_zero_iff.mp ll
      refine if_t ⟨rfl, rfl, fun x dx nx nd ne => ⟨x, dx, _, _, _, _, _, _, _, _, _, rfl, upd_same, rfl, ?_⟩⟩
      have z := fd_made (K := K) (C := C) nx nd ne (F := fOf []) (vf := .non) (vl := .non) rfl rfl
      exact q x _ (s1.trans z.1) z.2
    | cons p0 pr =>
      obtain ⟨ps, eps⟩ : ∃ ps, p0 :: pr = ps := ⟨_, rfl⟩
      have h0 : ps[0]? = some p0 := by
        rw [← eps]
        rfl
      have hne : ps ≠ [] := by
        rw [← eps]
        exact List.cons_ne_nil _ _
      rw [eps] at hd hd1 ok ll l40 q
      have l0 : 0 < ps.length := List.length_pos_iff.mpr hne
      have xe : xs.isEmpty = false := by
        cases xs with
        | nil => rw [← ll] at l0; cases l0
        | cons a b => rfl
      rw [xe]
      refine if_f ⟨_, rfl, t, rfl, ⟨_, SqL.of ht1⟩, fun D1 nD1 => lc_list (K := K) (a := t) (xs := xs) (fun j Hc => Same H1 Hc ∧ Hc D1 = some (.lst (((wts ps).take j).map V.int))) ⟨same_new nD1, upd_same⟩ (fun j Hc _ h => SqL.of (h.1 _ _ ht1)) ?_ ?_⟩
      · rintro j v Hc hj ⟨sc, hD⟩
        obtain ⟨r, hr1, dr⟩ := dl_at hd1 hj
        obtain ⟨a, rfl, ha⟩ := dp_pd (dp_same sc dr)
        refine ⟨a, _, rfl, ha, rfl, _, _, rfl, _, [], rfl, rfl, rfl, ?_⟩
        unfold tYes
        dsimp only
        rw [if_pos rfl]
        refine ⟨_, rfl, _, hD, ?_, same_put nD1 sc, ?_⟩
        · rw [List.length_map, List.length_take, wts_len]
          exact small1000 (by omega)
        · rw [upd_same, take_snoc (wts_at hr1), List.map_append]
          rfl
      · rintro H2 ⟨s2, hD1⟩
        rw [ll, ← wts_len, List.take_length] at hD1
        have hd2 := dpAll_same s2 hd1
        have ht2 := s2 _ _ ht1
        have lw0 : 0 < (wts ps).length := by
          rw [wts_len]
          exact l0
        -- the squares
        refine ⟨_, rfl, t, xs, rfl, .inl (SqL.of ht2), _, rfl, D1, wts ps, rfl, SqL.of hD1, _, rfl, D1, rfl, ⟨_, SqL.of hD1⟩, fun D3 nD3 => lc_list (K := K) (a := D1) (xs := (wts ps).map V.int) (fun j Hc => Same H2 Hc ∧ Hc D3 = some (.lst ((((wts ps).map fun w => w * w).take j).map V.int))) ⟨same_new nD3, upd_same⟩ (fun j Hc _ h => SqL.of (h.1 _ _ hD1)) ?_ ?_⟩
        · rintro j v Hc hj ⟨sc, hD⟩
          obtain ⟨a, ha, rfl⟩ := mapi_at hj
          refine ⟨rfl, ?_⟩
          unfold tYes
          dsimp only
          rw [if_pos rfl]
          have sz : a.natAbs < 2 ^ 60 := by
            obtain ⟨p, hp, rfl⟩ := List.mem_map.mp (List.mem_of_getElem? ha)
            exact ok.sz p hp
          have e2 : ((wts ps).map fun w => w * w)[j]? = some (a * a) := by rw [List.getElem?_map, ha]; rfl
          refine ⟨_, rfl, _, rfl, _, _, rfl, rfl, small_mul sz, _, hD, ?_, same_put nD3 sc, ?_⟩
          · rw [List.length_map, List.length_take, List.length_map, wts_len]
            exact small1000 (by omega)
          · rw [upd_same, take_snoc e2, List.map_append]
            rfl
        · rintro H3 ⟨s3, hD3⟩
          rw [List.length_map, ← List.length_map (as := wts ps) (f := fun w => w * w), List.take_length] at hD3
          have hD1' := s3 _ _ hD1
          have ht3 := s3 _ _ ht2
          have hd3 := dpAll_same s3 hd2
          obtain ⟨⟨ta, pa, ea, eA, hA⟩, ⟨tz, pz, ez, eZ, hZ⟩⟩ := pt_ends hd3 hne
          refine ⟨D3, _, rfl, SqL.of hD3, _, rfl, D1, wts ps, rfl, SqL.of hD1', lw0, fun mn mn1 mn2 => ⟨_, rfl, D1, wts ps, rfl, SqL.of hD1', lw0, fun mx mx1 mx2 => ?_⟩⟩
          refine ⟨_, rfl, t, xs, _, _, rfl, rfl, SqL.of ht3, ea, _, rfl, 1, rfl, t, xs, _, _, rfl, rfl, SqL.of ht3, ez, ?_⟩
          -- the rises
          refine ⟨_, rfl, _, rfl, 1, rfl, D1, _, rfl, SqL.of hD1', fun S4 nS4 => ?_⟩
          rw [cut_1, ← List.map_drop]
          have s4 : Same H3 (upd H3 S4 (.lst (((wts ps).drop 1).map V.int))) := same_new nS4
          obtain ⟨H4, e4⟩ : ∃ H4, upd H3 S4 (.lst (((wts ps).drop 1).map V.int)) = H4 := ⟨_, rfl⟩
          have hS4 : H4 S4 = some (.lst (((wts ps).drop 1).map V.int)) := by
            rw [← e4]
            exact upd_same
          rw [e4] at s4
          rw [e4]
          have hD4 := s4 _ _ hD1'
          have ln : (List.zipWith stp (wts ps) ((wts ps).drop 1)).length = min ((wts ps).map V.int).length (((wts ps).drop 1).map V.int).length := by rw [List.length_zipWith, List.length_map, List.length_map]
          have lz : (List.zipWith stp (wts ps) ((wts ps).drop 1)).length ≤ ps.length := by
            rw [List.length_zipWith, wts_len]
            omega
          refine ⟨D1, S4, _, _, rfl, SqL.of hD4, SqL.of hS4, fun D5 nD5 => lc_it (walk_zip ln) (fun j Hc => Same H4 Hc ∧ Hc D5 = some (.lst (((List.zipWith stp (wts ps) ((wts ps).drop 1)).take j).map V.int))) ⟨same_new nD5, upd_same⟩ (fun j Hc _ h => ⟨SqL.of (h.1 _ _ hD4), SqL.of (h.1 _ _ hS4)⟩) ?_ ?_⟩
          · rintro j v Hc Hc' hj ⟨sc, hD⟩ ⟨T, x, y, rfl, nT, rfl, ex, ey⟩
            dsimp only at ex ey
            obtain ⟨a, ha, rfl⟩ := mapi_at ex
            obtain ⟨b, hb, rfl⟩ := mapi_at ey
            have sT : Same Hc (upd Hc T (.tup [.int a, .int b])) := same_new nT
            refine ⟨T, _, rfl, SqT.of upd_same, rfl, _, _, rfl, _, [], rfl, rfl, rfl, ?_⟩
            unfold tYes
            dsimp only
            rw [if_pos rfl]
            refine ⟨_, rfl, _, rfl, a, b, rfl, _, sT _ _ hD, ?_, same_put nD5 (sc.trans sT), ?_⟩
            · rw [List.length_map, List.length_take]
              exact small1000 (by omega)
            · rw [upd_same, take_snoc (zw_at ha hb), List.map_append]
              rfl
          · rintro H5 ⟨s5, hD5⟩
            rw [List.take_length] at hD5
            have s35 := s4.trans s5
            have ht5 := s35 _ _ ht3
            have hd5 := dpAll_same s35 hd3
            refine ⟨D5, _, rfl, SqL.of hD5, ?_⟩
            -- what was held
            refine ⟨_, rfl, _, rfl, 1, rfl, t, _, rfl, SqL.of ht5, fun S6 nS6 => ?_⟩
            rw [cut_1]
            have s6 : Same H5 (upd H5 S6 (.lst (xs.drop 1))) := same_new nS6
            obtain ⟨H6, e6⟩ : ∃ H6, upd H5 S6 (.lst (xs.drop 1)) = H6 := ⟨_, rfl⟩
            have hS6 : H6 S6 = some (.lst (xs.drop 1)) := by
              rw [← e6]
              exact upd_same
            rw [e6] at s6
            rw [e6]
            have ht6 := s6 _ _ ht5
            have hd6 := dpAll_same s6 hd5
            have ln6 : (List.zipWith hld ps (ps.drop 1)).length = min xs.length (xs.drop 1).length := by rw [List.length_zipWith, List.length_drop, List.length_drop, ll]
            have lz6 : (List.zipWith hld ps (ps.drop 1)).length ≤ ps.length := by
              rw [List.length_zipWith]
              omega
            refine ⟨t, S6, _, _, rfl, SqL.of ht6, SqL.of hS6, fun D7 nD7 => lc_it (walk_zip ln6) (fun j Hc => Same H6 Hc ∧ Hc D7 = some (.lst (((List.zipWith hld ps (ps.drop 1)).take j).map V.int))) ⟨same_new nD7, upd_same⟩ (fun j Hc _ h => ⟨SqL.of (h.1 _ _ ht6), SqL.of (h.1 _ _ hS6)⟩) ?_ ?_⟩
            · rintro j v Hc Hc' hj ⟨sc, hD⟩ ⟨T, x, y, rfl, nT, rfl, ex, ey⟩
              dsimp only at ex ey
              rw [List.getElem?_drop] at ey
              obtain ⟨pa1, ha, da⟩ := dl_at hd6 ex
              obtain ⟨pb1, hb, db⟩ := dl_at hd6 ey
              have sT : Same Hc (upd Hc T (.tup [x, y])) := same_new nT
              obtain ⟨ra, rfl, sa⟩ := dp_pd (dp_same (sc.trans sT) da)
              obtain ⟨rb, rfl, sb⟩ := dp_pd (dp_same (sc.trans sT) db)
              refine ⟨T, _, rfl, SqT.of upd_same, rfl, _, _, rfl, _, [], rfl, rfl, rfl, ?_⟩
              unfold tYes
              dsimp only
              rw [if_pos rfl]
              have hb2 : (ps.drop 1)[j]? = some pb1 := by
                rw [List.getElem?_drop]
                exact hb
              refine ⟨_, rfl, _, rfl, ra, rb, pa1, pb1, rfl, sa, sb, ok.sz _ (List.mem_of_getElem? ha), _, sT _ _ hD, ?_, same_put nD7 (sc.trans sT), ?_⟩
              · rw [List.length_map, List.length_take]
                exact small1000 (by omega)
              · rw [upd_same, take_snoc (zw_at ha hb2), List.map_append]
                rfl
            · rintro H7 ⟨s7, hD7⟩
              rw [List.take_length] at hD7
              have s37 := (s35.trans s6).trans s7
              refine ⟨D7, _, rfl, SqL.of hD7, rfl, rfl, fun x dx nx nd ne => ⟨x, dx, _, _, _, _, _, _, _, _, _, rfl, upd_same, rfl, ?_⟩⟩
              have z := fd_made (K := K) (C := C) nx nd ne (F := fOf ps) (vf := .ref ta) (vl := .ref tz) (by show PO K H7 _ ps.head?; rw [eA]; exact ⟨ta, rfl, sqT_same s37 hA⟩) (by show PO K H7 _ ps.getLast?; rw [eZ]; exact ⟨tz, rfl, sqT_same s37 hZ⟩)
              have efl : flds (fOf ps) (.ref ta) (.ref tz) = ([("count", .int ((xs.length : Nat) : Int)), ("total", .int (wts ps).sum), ("squares", .int ((wts ps).map fun w => w * w).sum), ("least", .int mn), ("greatest", .int mx), ("first", .ref ta), ("last", .ref tz), ("rise", .int (List.zipWith stp (wts ps) ((wts ps).drop 1)).sum), ("held", .int (List.zipWith hld ps (ps.drop 1)).sum)] : List (Str × V)) := by
                unfold flds fOf
                rw [min_is mn1 mn2, max_is mx1 mx2, ll]
                rfl
              rw [efl] at z
              exact q x _ ((((s1.trans s2).trans s3).trans s37).trans z.1) z.2
end
end Tg

namespace Tg
open PySem PySem.Spec PyProof.Rows L2
abbrev sBe : Stmt := topS 14
abbrev NBe : List Str := ["one", "two", "some", "fold"]
theorem scBe : FnScope NBe ["one", "two"] (defScope sBe) := ⟨rfl, rfl, rfl, by decide +kernel, rfl, by decide +kernel, by decide +kernel⟩
/-- a fold with its least and greatest, or an empty one -/
def WF (F : FD) : Prop := (0 < F.cnt ∧ (∃ m, F.lo = some m) ∧ ∃ m, F.hi = some m) ∨ (F.cnt = 0 ∧ F.lo = none ∧ F.hi = none)
theorem wf_fOf (ps : List Pt) : WF (fOf ps) := by
  cases ps with
  | nil => exact .inr ⟨rfl, rfl, rfl⟩
  | cons p r =>
    refine .inl ⟨?_, ⟨_, rfl⟩, ⟨_, rfl⟩⟩
    show (0 : Int) < (((p :: r).length : Nat) : Int)
    rw [List.length_cons]
    omega
/-- two folds side by side -/
def bs (F G : FD) : FD := ⟨F.cnt + G.cnt, F.tot + G.tot, F.sq + G.sq, (F.lo.toList ++ G.lo.toList).min?, (F.hi.toList ++ G.hi.toList).max?, none, none, F.ris + G.ris, F.hel + G.hel⟩
/-- those that hold a point -/
def some2 (a b : Addr) (F G : FD) : List (Addr × FD) := [(a, F), (b, G)].filter fun x => decide (0 < x.2.cnt)
theorem some2_lo {a b : Addr} {F G : FD} (hF : WF F) (hG : WF G) : (some2 a b F G).map (fun x => x.2.lo.getD 0) = F.lo.toList ++ G.lo.toList := by
  rcases hF with ⟨f1, ⟨m, f2⟩, _⟩ | ⟨f1, f2, _⟩ <;> rcases hG with ⟨g1, ⟨n, g2⟩, _⟩ | ⟨g1, g2, _⟩ <;> simp [some2, f1, f2, g1, g2]
theorem some2_hi {a b : Addr} {F G : FD} (hF : WF F) (hG : WF G) : (some2 a b F G).map (fun x => x.2.hi.getD 0) = F.hi.toList ++ G.hi.toList := by
  rcases hF with ⟨f1, _, ⟨m, f2⟩⟩ | ⟨f1, _, f2⟩ <;> rcases hG with ⟨g1, _, ⟨n, g2⟩⟩ | ⟨g1, _, g2⟩ <;> simp [some2, f1, f2, g1, g2]
theorem pe_fldK {X : Cx} {e : Expr} {f : Str} {pos : Pos} {ta : TE} (K : PySem.W.Frag) (he : PE X e ta) (hb : attributeBase e f X.env (eval e X.env) = eval e X.env) (hK : X.K = K := by rfl) : PE X (.Attribute e f pos) (tFld K ta f) := by
  subst hK
  exact pe_fld he hb
theorem vO_vw (o : Option Int) : vO o = vw o := by
  cases o <;> rfl
theorem some2_at {K : PySem.W.Frag} {C a b : Addr} {H : Hp} {F G : FD} (hA : FdO K C H a F) (hB : FdO K C H b G) (wF : WF F) (wG : WF G) {j : Nat} {x : Addr × FD} (h : (some2 a b F G)[j]? = some x) : FdO K C H x.1 x.2 ∧ (∃ m, x.2.lo = some m) ∧ ∃ m, x.2.hi = some m := by
  obtain ⟨h1, h2⟩ := List.mem_filter.mp (List.mem_of_getElem? h)
  have h3 : 0 < x.2.cnt := of_decide_eq_true h2
  rcases List.mem_cons.mp h1 with rfl | h1
  · rcases wF with ⟨_, w1, w2⟩ | ⟨w0, _⟩
    · exact ⟨hA, w1, w2⟩
    · rw [w0] at h3
      cases h3
  · obtain rfl := List.mem_singleton.mp h1
    rcases wG with ⟨_, w1, w2⟩ | ⟨w0, _⟩
    · exact ⟨hB, w1, w2⟩
    · rw [w0] at h3
      cases h3
theorem some2_le (a b : Addr) (F G : FD) : (some2 a b F G).length ≤ 2 := List.length_filter_le _ _
abbrev kFold7 : List Str := ["count", "total", "squares", "least", "greatest", "rise", "held"]
section
variable {P : Program} {w : World} {K : PySem.W.Frag} {mg : Str → Option Value} {base : Heap} {C : Addr}
abbrev KF7 (P : Program) (w : World) (K : PySem.W.Frag) (mg : Str → Option Value) (base : Heap) (C : Addr) (k : Nat) : Prop := CalCK P w K mg base k "Fold" C NFI kFold7 (fun vs zs => vs ++ zs.take 5 ++ [.non, .non] ++ zs.drop 5) (spFI C)
def spBe (K : PySem.W.Frag) (C : Addr) : Sp := fun vs H Q _ => ∃ (a b : Addr) (F G : FD), vs = [.ref a, .ref b] ∧ FdO K C H a F ∧ FdO K C H b G ∧ WF F ∧ WF G ∧ ∀ x H', Same H H' → FdO K C H' x (bs F G) → Q (.ref x) H'
theorem ok_be {f : Addr} {fd : FuncData} {k : Nat} (F : Fun K "beside" "beside" sBe f fd) (T : TFold K C) (K_Fold7 : KF7 P w K mg base C k) (m_min : mg "min" = none) (m_max : mg "max" = none) : FnOk P w K mg base CX0 (k + 2) f fd ["one", "two"] (spBe K C) := by
  refine F.ok scBe (fun vs H Q E h => ?_) (fun cdv A outer s H vs Q E hr h => ?_)
  · obtain ⟨a, b, F, G, rfl, _⟩ := h
    rfl
  · obtain ⟨a, b, F, G, rfl, hA, hB, wF, wG, q⟩ := h
    have hu1 := hu_of hr
    refine ⟨_, pss_cons (ps_setLc (i := 2) (own := [("fold", 3)]) (g := (gName 3)) rfl scBe.nd rfl rfl (sw_true rfl rfl rfl (by decide +kernel)) (pi_tup (pe_tup (pa_cons (pv 0) (pa_cons (pv 1) pa_nil)))) (blkOk_by (own := [("fold", 3)]) (N := NBe) (sc := defScope sBe) (by decide +kernel)) (fun _ _ _ _ _ => (pg_name (i := 3) scBe.nd rfl (.inl rfl))) (fun _ _ _ _ _ => pts_one (pt_cmpR op_gt (pe_fldK K (pv 3) rfl) pe_int (nomark _))) (fun _ _ _ _ _ => (pv 3)))
      (pss_one (ps_ret (pe_calCK K_Fold7 (hr.mono (by omega)) (by rfl) (pk_cons (pe_op op_add (pe_fld (pv 0) rfl) (pe_fld (pv 1) rfl)) (pk_cons (pe_op op_add (pe_fld (pv 0) rfl) (pe_fld (pv 1) rfl)) (pk_cons (pe_op op_add (pe_fld (pv 0) rfl) (pe_fld (pv 1) rfl)) (pk_cons (pe_minDef rfl (by exact hu1) (by rfl) m_min (pe_lc (own := [("fold", 3)]) (g := (gName 3)) (tt := tYes) rfl scBe.nd (pi_list (pv 2)) (blkOk_by (own := [("fold", 3)]) (N := NBe) (sc := defScope sBe) (by decide +kernel)) (fun _ _ _ _ _ => (pg_name (i := 3) scBe.nd rfl (.inl rfl))) (fun _ _ _ _ _ => pts_nil) (fun _ _ _ _ _ => (pe_fldK K (pv 3) rfl)))) (pk_cons (pe_maxDef rfl (by exact hu1) (by rfl) m_max (pe_lc (own := [("fold", 3)]) (g := (gName 3)) (tt := tYes) rfl scBe.nd (pi_list (pv 2)) (blkOk_by (own := [("fold", 3)]) (N := NBe) (sc := defScope sBe) (by decide +kernel)) (fun _ _ _ _ _ => (pg_name (i := 3) scBe.nd rfl (.inl rfl))) (fun _ _ _ _ _ => pts_nil) (fun _ _ _ _ _ => (pe_fldK K (pv 3) rfl)))) (pk_cons (pe_op op_add (pe_fld (pv 0) rfl) (pe_fld (pv 1) rfl)) (pk_cons (pe_op op_add (pe_fld (pv 0) rfl) (pe_fld (pv 1) rfl)) pk_nil)))))))))), ?_⟩
    have hA0 := hA
    have hB0 := hB
    obtain ⟨dA, fA, lA, eA, pA, zA⟩ := hA
    obtain ⟨dB, fB, lB, eB, pB, zB⟩ := hB
    refine ⟨_, rfl, _, rfl, (by show 2 ≤ sizeLine; decide), fun t nt => ?_⟩
    have s1 : Same H (upd H t (.tup [.ref a, .ref b])) := same_new nt
    obtain ⟨H1, e1⟩ : ∃ H1, upd H t (.tup [.ref a, .ref b]) = H1 := ⟨_, rfl⟩
    have ht1 : H1 t = some (.tup [.ref a, .ref b]) := by
      rw [← e1]
      exact upd_same
    rw [e1] at s1
    rw [e1]
    refine ⟨t, rfl, ⟨_, SqT.of ht1⟩, fun D1 nD1 => lc_tup (K := K) (a := t) (xs := [.ref a, .ref b]) (fun j Hc => Same H1 Hc ∧ Hc D1 = some (.lst ((([(a, F), (b, G)].take j).filter fun x => decide (0 < x.2.cnt)).map fun x => .ref x.1))) ⟨same_new nD1, upd_same⟩ (fun j Hc _ h => SqT.of (h.1 _ _ ht1)) ?_ ?_⟩
    · rintro j v Hc hj ⟨sc, hD⟩
      obtain ⟨x, hx, rfl, hO⟩ : ∃ x : Addr × FD, ([(a, F), (b, G)] : List (Addr × FD))[j]? = some x ∧ v = .ref x.1 ∧ FdO K C Hc x.1 x.2 := by
        match j, hj with
        | 0, h => cases h; exact ⟨(a, F), rfl, rfl, hA0.same (s1.trans sc)⟩
        | 1, h => cases h; exact ⟨(b, G), rfl, rfl, hB0.same (s1.trans sc)⟩
        | j + 2, h => cases h
      obtain ⟨dx, vf, vl, ex, _, _⟩ := hO
      refine ⟨rfl, _, rfl, x.1, C, dx, _, _, rfl, ex, T.cl, T.no _ (by decide), rfl, _, _, rfl, rfl, ?_⟩
      have lt : (([(a, F), (b, G)] : List (Addr × FD)).take j).length ≤ 2 := by
        rw [List.length_take]
        exact Nat.min_le_right _ _
      have lf : (((([(a, F), (b, G)] : List (Addr × FD)).take j).filter fun x => decide (0 < x.2.cnt)).map fun x => V.ref x.1).length ≤ 2 := by
        rw [List.length_map]
        exact Nat.le_trans (List.length_filter_le _ _) lt
      refine ⟨_, rfl, ite2 (fun g => ?_) (fun g => ?_)⟩
      · refine ⟨_, rfl, _, hD, small1000 (by omega), same_put nD1 sc, ?_⟩
        rw [upd_same, take_snoc hx, List.filter_append, List.map_append, List.filter_cons_of_pos (p := fun x : Addr × FD => decide (0 < x.2.cnt)) (a := x) g]
        rfl
      · refine ⟨sc, ?_⟩
        rw [take_snoc hx, List.filter_append, List.filter_cons_of_neg (p := fun x : Addr × FD => decide (0 < x.2.cnt)) (a := x) g, List.filter_nil, List.append_nil]
        exact hD
    · rintro H2 ⟨s2, hD1⟩
      replace hD1 : H2 D1 = some (.lst ((some2 a b F G).map fun x => .ref x.1)) := hD1
      have s12 := s1.trans s2
      have eA2 := s12 _ _ eA
      have eB2 := s12 _ _ eB
      have hA2 := hA0.same s12
      have hB2 := hB0.same s12
      have l2 := some2_le a b F G
      refine ⟨_, rfl, a, C, dA, _, _, rfl, eA2, T.cl, T.no _ (by decide), rfl, _, rfl, b, C, dB, _, _, rfl, eB2, T.cl, T.no _ (by decide), rfl, _, _, rfl, rfl, ?_⟩
      refine ⟨_, rfl, a, C, dA, _, _, rfl, eA2, T.cl, T.no _ (by decide), rfl, _, rfl, b, C, dB, _, _, rfl, eB2, T.cl, T.no _ (by decide), rfl, _, _, rfl, rfl, ?_⟩
      refine ⟨_, rfl, a, C, dA, _, _, rfl, eA2, T.cl, T.no _ (by decide), rfl, _, rfl, b, C, dB, _, _, rfl, eB2, T.cl, T.no _ (by decide), rfl, _, _, rfl, rfl, ?_⟩
      refine ⟨_, rfl, D1, rfl, ⟨_, SqL.of hD1⟩, fun D3 nD3 => lc_list (K := K) (a := D1) (xs := (some2 a b F G).map fun x => .ref x.1) (fun j Hc => Same H2 Hc ∧ Hc D3 = some (.lst ((((some2 a b F G).map fun x => x.2.lo.getD 0).take j).map V.int))) ⟨same_new nD3, upd_same⟩ (fun j Hc _ h => SqL.of (h.1 _ _ hD1)) ?_ ?_⟩
      · rintro j v Hc hj ⟨sc, hD⟩
        rw [List.getElem?_map] at hj
        obtain ⟨x, hx, rfl⟩ := Option.map_eq_some_iff.mp hj
        obtain ⟨⟨dx, vf, vl, ex, _, _⟩, ⟨m, em⟩, _⟩ := some2_at hA2 hB2 wF wG hx
        refine ⟨rfl, ?_⟩
        unfold tYes
        dsimp only
        rw [if_pos rfl]
        have e2 : ((some2 a b F G).map fun x => x.2.lo.getD 0)[j]? = some (x.2.lo.getD 0) := by rw [List.getElem?_map, hx]; rfl
        refine ⟨_, rfl, x.1, C, dx, _, vw x.2.lo, rfl, sc _ _ ex, T.cl, T.no _ (by decide), rfl, _, hD, ?_, same_put nD3 sc, ?_⟩
        · rw [List.length_map, List.length_take, List.length_map]
          exact small1000 (by omega)
        · rw [upd_same, take_snoc e2, List.map_append, em]
          rfl
      · rintro H3 ⟨s3, hD3⟩
        rw [List.length_map, ← List.length_map (as := some2 a b F G) (f := fun x => x.2.lo.getD 0), List.take_length, some2_lo wF wG] at hD3
        have hD1' := s3 _ _ hD1
        have hA3 := hA2.same s3
        have hB3 := hB2.same s3
        refine ⟨D3, _, rfl, SqL.of hD3, ?_⟩
        refine ⟨_, rfl, D1, rfl, ⟨_, SqL.of hD1'⟩, fun D4 nD4 => lc_list (K := K) (a := D1) (xs := (some2 a b F G).map fun x => .ref x.1) (fun j Hc => Same H3 Hc ∧ Hc D4 = some (.lst ((((some2 a b F G).map fun x => x.2.hi.getD 0).take j).map V.int))) ⟨same_new nD4, upd_same⟩ (fun j Hc _ h => SqL.of (h.1 _ _ hD1')) ?_ ?_⟩
        · rintro j v Hc hj ⟨sc, hD⟩
          rw [List.getElem?_map] at hj
          obtain ⟨x, hx, rfl⟩ := Option.map_eq_some_iff.mp hj
          obtain ⟨⟨dx, vf, vl, ex, _, _⟩, _, ⟨m, em⟩⟩ := some2_at hA3 hB3 wF wG hx
          refine ⟨rfl, ?_⟩
          unfold tYes
          dsimp only
          rw [if_pos rfl]
          have e2 : ((some2 a b F G).map fun x => x.2.hi.getD 0)[j]? = some (x.2.hi.getD 0) := by rw [List.getElem?_map, hx]; rfl
          refine ⟨_, rfl, x.1, C, dx, _, vw x.2.hi, rfl, sc _ _ ex, T.cl, T.no _ (by decide), rfl, _, hD, ?_, same_put nD4 sc, ?_⟩
          · rw [List.length_map, List.length_take, List.length_map]
            exact small1000 (by omega)
          · rw [upd_same, take_snoc e2, List.map_append, em]
            rfl
        · rintro H4 ⟨s4, hD4⟩
          rw [List.length_map, ← List.length_map (as := some2 a b F G) (f := fun x => x.2.hi.getD 0), List.take_length, some2_hi wF wG] at hD4
          have s34 := s3.trans s4
          have eA4 := s34 _ _ eA2
          have eB4 := s34 _ _ eB2
          refine ⟨D4, _, rfl, SqL.of hD4, ?_⟩
          refine ⟨_, rfl, a, C, dA, _, _, rfl, eA4, T.cl, T.no _ (by decide), rfl, _, rfl, b, C, dB, _, _, rfl, eB4, T.cl, T.no _ (by decide), rfl, _, _, rfl, rfl, ?_⟩
          refine ⟨_, rfl, a, C, dA, _, _, rfl, eA4, T.cl, T.no _ (by decide), rfl, _, rfl, b, C, dB, _, _, rfl, eB4, T.cl, T.no _ (by decide), rfl, _, _, rfl, rfl, ?_⟩
          refine ⟨rfl, rfl, fun x dx nx nd ne => ⟨x, dx, _, _, _, _, _, _, _, _, _, rfl, upd_same, rfl, ?_⟩⟩
          have z := fd_made (K := K) (C := C) nx nd ne (F := bs F G) (vf := .non) (vl := .non) rfl rfl
          rw [vO_vw, vO_vw]
          exact q x _ ((s12.trans s34).trans z.1) z.2
end
end Tg

namespace Tg
open PySem PySem.Spec PyProof.Rows L2
abbrev sWA : Stmt := topS 16
abbrev sAs : Stmt := topS 17
abbrev sErW : Stmt := inCls (topS 2) 0
theorem scWA : FnScope ["fold", "what", "point"] ["fold", "what"] (defScope sWA) := ⟨rfl, rfl, rfl, by decide +kernel, rfl, by decide +kernel, by decide +kernel⟩
theorem scAs : FnScope ["fold", "what", "sums", "worth"] ["fold", "what"] (defScope sAs) := ⟨rfl, rfl, rfl, by decide +kernel, rfl, by decide +kernel, by decide +kernel⟩
theorem scErW : FnScope ["self", "at"] ["self", "at"] (defScope sErW) := ⟨rfl, rfl, rfl, by decide +kernel, rfl, by decide +kernel, by decide +kernel⟩
/-- the words that may be asked -/
def whs : List Str := ["count", "sum", "least", "greatest", "first", "last", "mean", "spread", "rise", "held"]
def wOf (F : FD) : Nat → Option Int
  | 2 => F.lo
  | 3 => F.hi
  | 4 => F.fst.map (·.2)
  | _ => F.lst.map (·.2)
def ow : Option Int → PyData
  | none => .none
  | some i => pd (i, 1)
def one (i : Int) : Pt := (i, 1)
/-- what is told of a fold -/
def askD (F : FD) : Nat → PyData
  | 0 => pd (one F.cnt)
  | 1 => pd (one F.tot)
  | 8 => pd (one F.ris)
  | 9 => pd (one F.hel)
  | 6 => if F.cnt = 0 then .none else pd (lw F.tot F.cnt)
  | 7 => if F.cnt = 0 then .none else pd (lw (F.sq * F.cnt - F.tot * F.tot) (F.cnt * F.cnt))
  | i => if F.cnt = 0 then .none else ow (wOf F i)
structure Big (F : FD) : Prop where
  c0 : 0 ≤ F.cnt
  c1 : F.cnt.natAbs < 2 ^ 20
  t1 : F.tot.natAbs < 2 ^ 200
  s1 : F.sq.natAbs < 2 ^ 200
/-- the four that are only told -/
def sums4 (F : FD) : List (Key × V) := [(.inr "count", .int F.cnt), (.inr "sum", .int F.tot), (.inr "rise", .int F.ris), (.inr "held", .int F.hel)]
def sumOf (F : FD) : Nat → Option Int
  | 0 => some F.cnt
  | 1 => some F.tot
  | 8 => some F.ris
  | 9 => some F.hel
  | _ => none
theorem whs_lt {i : Nat} {s : Str} (h : whs[i]? = some s) : i < 10 := (List.getElem?_eq_some_iff.mp h).1
theorem sums_merge (F : FD) : mergeK [] (sums4 F) = sums4 F := rfl
theorem sums_at (F : FD) {i : Nat} {s : Str} (h : whs[i]? = some s) : valV (mergeK [] (sums4 F)) (Sum.inr s : Key) = (sumOf F i).map V.int := by
  rw [sums_merge]
  have := whs_lt h
  match i, this, h with
  | 0, _, h | 1, _, h | 2, _, h | 3, _, h | 4, _, h | 5, _, h | 6, _, h | 7, _, h | 8, _, h | 9, _, h => cases h; rfl
theorem whs_in {i : Nat} {s : Str} (h : whs[i]? = some s) : inV (.str s) (whs.map V.str) = true := by
  have := whs_lt h
  match i, this, h with
  | 0, _, h | 1, _, h | 2, _, h | 3, _, h | 4, _, h | 5, _, h | 6, _, h | 7, _, h | 8, _, h | 9, _, h => cases h; rfl
section
variable {P : Program} {w : World} {K : PySem.W.Frag} {mg : Str → Option Value} {base : Heap} {C CW : Addr}
def spWA (K : PySem.W.Frag) (C : Addr) : Sp := fun vs H Q _ => ∃ (a : Addr) (F : FD) (i : Nat) (s : Str), vs = [.ref a, .str s] ∧ whs[i]? = some s ∧ 2 ≤ i ∧ i ≤ 5 ∧ FdO K C H a F ∧ Q (vw (wOf F i)) H
theorem ok_wa {f : Addr} {fd : FuncData} {k : Nat} (F : Fun K "worth_asked" "worth_asked" sWA f fd) (T : TFold K C) : FnOk P w K mg base CX0 (k + 1) f fd ["fold", "what"] (spWA K C) := by
  refine F.ok scWA (fun vs H Q E h => ?_) (fun cdv A outer s H vs Q E hr h => ?_)
  · obtain ⟨a, F, i, s, rfl, _⟩ := h
    rfl
  · obtain ⟨a, F, i, st, rfl, hs, i2, i5, ⟨dx, vf, vl, ha, pf, pl⟩, q⟩ := h
    refine ⟨_, pss_cons (ps_if (pt_cmpR op_eq (pv 1) pe_str (nomark _))
        (pss_one (ps_ret (pe_fld (pv 0) rfl)))
        pss_nil)
      (pss_cons (ps_if (pt_cmpR op_eq (pv 1) pe_str (nomark _))
        (pss_one (ps_ret (pe_fld (pv 0) rfl)))
        pss_nil)
      (pss_cons (ps_set (i := 2) scWA.nd rfl (.inl rfl) (pe_ifExp (pt_cmpR op_eq (pv 1) pe_str (nomark _)) (pe_fld (pv 0) rfl) (pe_fld (pv 0) rfl)))
      (pss_one (ps_ret (pe_ifExp (pt_cmpR op_isN (pv 2) pe_non (nomark _)) pe_non (pe_ix ix_tup (pv 2) pe_int (fun _ _ => rfl))))))), ?_⟩
    match i, i2, i5, hs with
    | 2, _, _, hs =>
      cases hs
      exact ⟨_, rfl, rfl, _, rfl, if_y (by decide +kernel) ⟨_, rfl, a, C, dx, _, _, rfl, ha, T.cl, T.no _ (by decide), rfl, q⟩⟩
    | 3, _, _, hs =>
      cases hs
      exact ⟨_, rfl, rfl, _, rfl, if_n (by decide +kernel) ⟨_, rfl, rfl, _, rfl, if_y (by decide +kernel) ⟨_, rfl, a, C, dx, _, _, rfl, ha, T.cl, T.no _ (by decide), rfl, q⟩⟩⟩
    | 4, _, _, hs =>
      cases hs
      refine ⟨_, rfl, rfl, _, rfl, if_n (by decide +kernel) ⟨_, rfl, rfl, _, rfl, if_n (by decide +kernel) ⟨_, rfl, rfl, _, rfl, if_y (by decide +kernel) ⟨_, rfl, a, C, dx, _, _, rfl, ha, T.cl, T.no _ (by decide), rfl, ?_⟩⟩⟩⟩
      replace q : Q (vw (F.fst.map (·.2))) H := q
      cases e : F.fst with
      | none =>
        rw [e] at pf q
        obtain rfl : vf = .non := pf
        exact ⟨_, rfl, rfl, _, rfl, if_y rfl q⟩
      | some p =>
        rw [e] at pf q
        obtain ⟨t, rfl, ht⟩ := pf
        exact ⟨_, rfl, rfl, _, rfl, if_n rfl ⟨_, rfl, t, _, _, _, rfl, rfl, ht, rfl, q⟩⟩
    | 5, _, _, hs =>
      cases hs
      refine ⟨_, rfl, rfl, _, rfl, if_n (by decide +kernel) ⟨_, rfl, rfl, _, rfl, if_n (by decide +kernel) ⟨_, rfl, rfl, _, rfl, if_n (by decide +kernel) ⟨_, rfl, a, C, dx, _, _, rfl, ha, T.cl, T.no _ (by decide), rfl, ?_⟩⟩⟩⟩
      replace q : Q (vw (F.lst.map (·.2))) H := q
      cases e : F.lst with
      | none =>
        rw [e] at pl q
        obtain rfl : vl = .non := pl
        exact ⟨_, rfl, rfl, _, rfl, if_y rfl q⟩
      | some p =>
        rw [e] at pl q
        obtain ⟨t, rfl, ht⟩ := pl
        exact ⟨_, rfl, rfl, _, rfl, if_n rfl ⟨_, rfl, t, _, _, _, rfl, rfl, ht, rfl, q⟩⟩
end
end Tg

namespace Tg
open PySem PySem.Spec PyProof.Rows L2
theorem ask_sum {F : FD} {i : Nat} {n : Int} (h : sumOf F i = some n) : askD F i = pd (one n) := by
  unfold sumOf at h
  split at h
  all_goals (cases h; try rfl)
theorem ask_zero {F : FD} {i : Nat} (h : sumOf F i = none) (z : F.cnt = 0) : askD F i = .none := by
  unfold askD
  split <;> first | (rw [if_pos z]) | cases h
theorem vi_z (n : Int) : decide (V.int n = V.int 0) = decide (n = 0) := by
  rw [dec_int]
  rfl
theorem flat_whs : (whs.map V.str).all flatV = true := rfl
theorem pss_dead {X : Cx} {b : List Stmt} : PSs X b (fun _ _ _ => False) := ⟨fun _ _ _ _ _ _ h => h.elim⟩
section
variable {P : Program} {w : World} {K : PySem.W.Frag} {mg : Str → Option Value} {base : Heap} {C CW TW : Addr}
/-- the written words -/
def HasW (K : PySem.W.Frag) (TW : Addr) : Prop := ∀ H : Hp, SqT K H TW (whs.map V.str)
theorem ok_errW {f : Addr} {fd : FuncData} {k : Nat} (F : Fun K "__init__" "NoWhat.__init__" sErW f fd) (T : OexC K CW) (hno : PySem.W.findIn K (.ref CW) "at" = some none) (mV : mg "ValueError" = none)
    (vV : PySem.W.findCls K (.type "ValueError") (.type "type") "__init__" = some (.val (.builtin "ValueError.__init__"))) : FnOk P w K mg base CX0 (k + 1) f fd ["self", "at"] (spErr CW "at") := by
  refine F.ok scErW (fun vs H Q E h => ?_) (fun cdv A outer s H vs Q E hr h => ?_)
  · obtain ⟨a, v, rfl, _⟩ := h
    rfl
  · obtain ⟨a, v, rfl, ha, q⟩ := h
    refine ⟨_, pss_cons (ps_expr (pe_veinit (by rfl) mV vV (pa_cons (pv 0) (pa_cons pe_str pa_nil)))) (pss_one (ps_ost (pv 0) (pv 1))), ?_⟩
    exact ⟨_, rfl, a, CW, _, rfl, by show 1 ≤ 1000; decide, T, ha, _, rfl, _, rfl, a, CW, rfl, T, hno, .inl ⟨ha, fun dx nd da => q dx nd da⟩⟩
def spAs (K : PySem.W.Frag) (C : Addr) : Sp := fun vs H Q _ => ∃ (a : Addr) (F : FD) (i : Nat) (s : Str), vs = [.ref a, .str s] ∧ whs[i]? = some s ∧ FdO K C H a F ∧ Big F ∧ ∀ v H', Same H H' → Dp K H' v (askD F i) → Q v H'
theorem ok_as {f : Addr} {fd : FuncData} {k : Nat} (F : Fun K "asked" "asked" sAs f fd) (T : TFold K C) (tw : HasW K TW) (g_WHATS : mg "WHATS" = some (.ref TW)) (C_lowest : Cal P w K mg base k "lowest" ["top", "bottom"] (spLo K)) (C_worth_asked : Cal P w K mg base k "worth_asked" ["fold", "what"] (spWA K C)) :
    FnOk P w K mg base CX0 (k + 1) f fd ["fold", "what"] (spAs K C) := by
  refine F.ok scAs (fun vs H Q E h => ?_) (fun cdv A outer s H vs Q E hr h => ?_)
  · obtain ⟨a, F, i, s, rfl, _⟩ := h
    rfl
  · obtain ⟨a, F, i, st, rfl, hs, hA0, big, q⟩ := h
    have hA := hA0
    obtain ⟨dx, vf, vl, ha, pf, pl⟩ := hA
    have hu := hu_of hr
    refine ⟨_, pss_cons (ps_if (pt_cmpR op_notIn_seq (pv 1) (pe_glob (v := .ref TW) rfl g_WHATS rfl) (by with_unfolding_all rfl))
        (pss_one ps_dead)
        pss_nil)
      (pss_cons (ps_set (i := 2) scAs.nd rfl (.inl rfl) (pe_disp (pps_cons pe_str (pe_fld (pv 0) rfl) (pps_cons pe_str (pe_fld (pv 0) rfl) (pps_cons pe_str (pe_fld (pv 0) rfl) (pps_cons pe_str (pe_fld (pv 0) rfl) pps_nil)))) rfl rfl (by decide) (by decide)))
      (pss_cons (ps_if (pt_cmp (pc_din hu (pv 1) (pv 2)))
        (pss_one (ps_ret (pe_tup (pa_cons (pe_dget hu (pv 2) (pv 1) (fun _ _ => rfl)) (pa_cons pe_int pa_nil)))))
        pss_nil)
      (pss_cons (ps_if (pt_cmpR op_eq (pe_fld (pv 0) rfl) pe_int (nomark _))
        (pss_one (ps_ret pe_non))
        pss_nil)
      (pss_cons (ps_if (pt_cmpR op_eq (pv 1) pe_str (nomark _))
        (pss_one (ps_ret (pe_cal C_lowest (hr.mono (by omega)) (by rfl) (pa_cons (pe_fld (pv 0) rfl) (pa_cons (pe_fld (pv 0) rfl) pa_nil)))))
        pss_nil)
      (pss_cons (ps_if (pt_cmpR op_eq (pv 1) pe_str (nomark _))
        (pss_one (ps_ret (pe_cal C_lowest (hr.mono (by omega)) (by rfl) (pa_cons (pe_op op_sub (pe_op op_mulW (pe_fld (pv 0) rfl) (pe_fld (pv 0) rfl)) (pe_op op_mulW (pe_fld (pv 0) rfl) (pe_fld (pv 0) rfl))) (pa_cons (pe_op op_mulW (pe_fld (pv 0) rfl) (pe_fld (pv 0) rfl)) pa_nil)))))
        pss_nil)
      (pss_cons (ps_set (i := 3) scAs.nd rfl (.inl rfl) (pe_cal C_worth_asked (hr.mono (by omega)) (by rfl) (pa_cons (pv 0) (pa_cons (pv 1) pa_nil))))
      (pss_one (ps_ret (pe_ifExp (pt_cmpR op_isN (pv 3) pe_non (nomark _)) pe_non (pe_tup (pa_cons (pv 3) (pa_cons pe_int pa_nil)))))))))))), ?_⟩
    refine ⟨_, rfl, TW, whs.map V.str, rfl, .inr (tw H), rfl, flat_whs, _, rfl, if_n (by show (!inV _ _) = false; rw [whs_in hs]; rfl) ?_⟩
    refine fun p np => ?_
    have s1 : Same H (upd H p (.dK [])) := same_new np
    have ha1 := s1 _ _ ha
    refine ⟨_, rfl, a, C, dx, _, _, rfl, ha1, T.cl, T.no _ (by decide), rfl, _, rfl, a, C, dx, _, _, rfl, ha1, T.cl, T.no _ (by decide), rfl, _, rfl, a, C, dx, _, _, rfl, ha1, T.cl, T.no _ (by decide), rfl, _, rfl, a, C, dx, _, _, rfl, ha1, T.cl, T.no _ (by decide), rfl, upd_same, sums4 F, rfl, (by show 4 ≤ 15; decide), ?_⟩
    rw [upd_upd]
    obtain ⟨H2, e2⟩ : ∃ H2, upd H p (.dK (mergeK [] (sums4 F))) = H2 := ⟨_, rfl⟩
    have s2 : Same H H2 := by
      rw [← e2]
      exact same_new np
    have hp2 : H2 p = some (.dK (mergeK [] (sums4 F))) := by
      rw [← e2]
      exact upd_same
    rw [e2]
    have ha2 := s2 _ _ ha
    have hA2 := hA0.same s2
    refine ⟨_, rfl, _, rfl, p, _, rfl, .inl ⟨_, .inr st, .inl hp2, rfl, (sums_at F hs).symm⟩, _, rfl, ?_⟩
    cases es : sumOf F i with
    | some n =>
      have ea := ask_sum es
      rw [ea] at q
      refine if_t ⟨_, rfl, _, rfl, p, .int n, rfl, .inl ⟨_, .inr st, .inl hp2, rfl, ?_⟩, (by show 2 ≤ sizeLine; decide), fun t nt => q _ _ (s2.trans (same_new nt)) (pd_new (x := one n) upd_same)⟩
      rw [sums_at F hs, es]
      rfl
    | none =>
      refine if_f ⟨_, rfl, a, C, dx, _, _, rfl, ha2, T.cl, T.no _ (by decide), rfl, rfl, _, rfl, ite2 (fun g => ?_) (fun g => ?_)⟩
      · rw [vi_z] at g
        rw [ask_zero es (of_decide_eq_true g)] at q
        exact q _ _ s2 .non
      · rw [vi_z] at g
        have c0 : ¬ F.cnt = 0 := fun z => g (decide_eq_true z)
        have cp : 0 < F.cnt := by
          have := big.c0
          omega
        have c1 := big.c1
        rcases Nat.lt_or_ge i 6 with lt | ge
        · have i2 : 2 ≤ i := by
            match i, es with
            | 0, es => cases es
            | 1, es => cases es
            | j + 2, _ => omega
          have eA : askD F i = ow (wOf F i) := by
            match i, i2, lt with
            | 2, _, _ | 3, _, _ | 4, _, _ | 5, _, _ => exact if_neg c0
          have n1 : decide (V.str st = V.str "mean") = false := by
            match i, i2, lt, hs with
            | 2, _, _, hs | 3, _, _, hs | 4, _, _, hs | 5, _, _, hs => cases hs; decide +kernel
          have n2 : decide (V.str st = V.str "spread") = false := by
            match i, i2, lt, hs with
            | 2, _, _, hs | 3, _, _, hs | 4, _, _, hs | 5, _, _, hs => cases hs; decide +kernel
          rw [eA] at q
          refine ⟨_, rfl, rfl, _, rfl, if_n n1 ⟨_, rfl, rfl, _, rfl, if_n n2 ⟨_, rfl, _, rfl, a, F, i, st, rfl, hs, i2, by omega, hA2, ?_⟩⟩⟩
          cases ew : wOf F i with
          | none =>
            rw [ew] at q
            exact ⟨_, rfl, rfl, _, rfl, if_y rfl (q _ _ s2 .non)⟩
          | some m =>
            rw [ew] at q
            exact ⟨_, rfl, rfl, _, rfl, if_n rfl ⟨_, rfl, (by show 2 ≤ sizeLine; decide), fun t nt => q _ _ (s2.trans (same_new nt)) (pd_new (x := (m, 1)) upd_same)⟩⟩
        · have i10 := whs_lt hs
          have i67 : i = 6 ∨ i = 7 := by
            match i, es, ge, i10 with
            | 6, _, _, _ => exact .inl rfl
            | 7, _, _, _ => exact .inr rfl
            | 8, es, _, _ => cases es
            | 9, es, _, _ => cases es
          have big8 : F.cnt.natAbs < 2 ^ 8000 := Nat.lt_trans c1 (Nat.pow_lt_pow_right (by decide) (by decide))
          rcases i67 with rfl | rfl
          · cases hs
            rw [show askD F 6 = pd (lw F.tot F.cnt) from if_neg c0] at q
            exact ⟨_, rfl, rfl, _, rfl, if_y (by decide +kernel) ⟨_, rfl, a, C, dx, _, _, rfl, ha2, T.cl, T.no _ (by decide), rfl, _, rfl, a, C, dx, _, _, rfl, ha2, T.cl, T.no _ (by decide), rfl, _, _, rfl, cp, big8, fun t H' s' ht => q _ _ (s2.trans s') (.tup ht (.cons (.int _) (.cons (.int _) .nil)))⟩⟩
          · cases hs
            rw [show askD F 7 = pd (lw (F.sq * F.cnt - F.tot * F.tot) (F.cnt * F.cnt)) from if_neg c0] at q
            have big9 : (F.cnt * F.cnt).natAbs < 2 ^ 8000 := Nat.lt_trans (wide_lt c1 c1) (Nat.pow_lt_pow_right (by decide) (by decide))
            refine ⟨_, rfl, rfl, _, rfl, if_n (by decide +kernel) ⟨_, rfl, rfl, _, rfl, if_y (by decide +kernel) ?_⟩⟩
            exact ⟨_, rfl, a, C, dx, _, _, rfl, ha2, T.cl, T.no _ (by decide), rfl, _, rfl, a, C, dx, _, _, rfl, ha2, T.cl, T.no _ (by decide), rfl, _, _, rfl, rfl, wide_mul big.s1 c1 (by decide) (by decide) (by decide), _, rfl, a, C, dx, _, _, rfl, ha2, T.cl, T.no _ (by decide), rfl, _, rfl, a, C, dx, _, _, rfl, ha2, T.cl, T.no _ (by decide), rfl, _, _, rfl, rfl, wide_mul big.t1 big.t1 (by decide) (by decide) (by decide), _, _, rfl, rfl, _, rfl, a, C, dx, _, _, rfl, ha2, T.cl, T.no _ (by decide), rfl, _, rfl, a, C, dx, _, _, rfl, ha2, T.cl, T.no _ (by decide), rfl, _, _, rfl, rfl, wide_mul c1 c1 (by decide) (by decide) (by decide),
              _, _, rfl, Int.mul_pos cp cp, big9, fun t H' s' ht => q _ _ (s2.trans s') (.tup ht (.cons (.int _) (.cons (.int _) .nil)))⟩
/-- a word that isn't one of the ten -/
def spAsN (K : PySem.W.Frag) (CW : Addr) : Sp := fun vs H Q E => ∃ (x : V) (s : Str), vs = [x, .str s] ∧ inV (.str s) (whs.map V.str) = false ∧ ∀ (d : Addr) (H' : Hp), Same H H' → H d = none → H' d = some (.xd [("at", .str s)]) → E (.ref CW) (some d) H'
theorem ok_asN {f : Addr} {fd : FuncData} {k : Nat} (F : Fun K "asked" "asked" sAs f fd) (tw : HasW K TW) (g_WHATS : mg "WHATS" = some (.ref TW)) (C_err : CalE P w K mg base k "NoWhat" CW "at") : FnOk P w K mg base (L2.CX P w) (k + 2) f fd ["fold", "what"] (spAsN K CW) := by
  refine F.okX scAs (fun vs H Q E h => ?_) (fun cdv A outer s H vs Q E hr h => ?_)
  · obtain ⟨x, st, rfl, _⟩ := h
    rfl
  · obtain ⟨x, st, rfl, no, q⟩ := h
    refine ⟨_, pss_cons (ps_if (pt_cmpR op_notIn_seq (pv 1) (pe_glob (v := .ref TW) rfl g_WHATS rfl) (by with_unfolding_all rfl))
        (pss_one (ps_raise rfl (takes_of rfl rfl rfl rfl) (pm_err C_err hr (by rfl) (pv 1))))
        pss_nil) pss_dead, ?_⟩
    exact ⟨_, rfl, TW, whs.map V.str, rfl, .inr (tw H), rfl, flat_whs, _, rfl, if_y (by show (!inV _ _) = true; rw [no]; rfl) (err_read ⟨_, rfl, fun d H' s' nd hd => q d H' s' nd hd⟩ fun {Q Q'} hq ⟨v, e, q⟩ => ⟨v, e, hq _ _ q⟩)⟩
end
end Tg

namespace Tg
open PySem PySem.Spec PyProof.Rows L2
abbrev sEq : Stmt := inCls (topS 7) 1
abbrev sTg : Stmt := topS 13
theorem scEq : FnScope ["self", "other"] ["self", "other"] (defScope sEq) := ⟨rfl, rfl, rfl, by decide +kernel, rfl, by decide +kernel, by decide +kernel⟩
theorem scTg : FnScope ["one", "two"] ["one", "two"] (defScope sTg) := ⟨rfl, rfl, rfl, by decide +kernel, rfl, by decide +kernel, by decide +kernel⟩
/-- what isinstance asks of the class -/
structure TIns (K : PySem.W.Frag) (C : Addr) : Prop where
  cc : PySem.W.findIn K (.ref C) "__class__" = some (some (.builtin "object.__class__"))
  get : PySem.W.specialIn K (.builtin "object.__class__") "__get__" = some (some (.builtin "getset_descriptor.__get__"))
  takes : PySem.W.takesIn K (.builtin "object.__class__") = some true
  obj : PySem.W.mroIn K C (.type "object") = some true
  kit : PySem.W.kitOne K (.ref C) (.ref C) = some true
def od : Option Pt → PyData
  | none => .none
  | some p => pd p
theorem PO.dp {K : PySem.W.Frag} {H : Hp} {v : V} : ∀ {o : Option Pt}, PO K H v o → Dp K H v (od o)
  | none, h => by
    obtain rfl : v = .non := h
    exact .non
  | some p, ⟨t, e, h⟩ => by
    subst e
    exact .tup h (.cons (.int _) (.cons (.int _) .nil))
theorem od_form : ∀ o : Option Pt, SeqAt.shaped (od o) = true ∧ PyData.eqv (od o) (od o) = true
  | none => ⟨by decide +kernel, rfl⟩
  | some p => ⟨shaped_of rfl (by show 1 ≤ 64; decide), ref_pd p⟩
theorem dw_form : ∀ o : Option Int, SeqAt.shaped (dw o) = true ∧ PyData.eqv (dw o) (dw o) = true := fun o => ⟨shaped_of (lay_dw o) (by rw [dep_dw]; decide), by rw [eq_dw]; exact decide_eq_true rfl⟩
section
variable {P : Program} {w : World} {K : PySem.W.Frag} {mg : Str → Option Value} {base : Heap} {C : Addr}
/-- two folds that tell the same -/
def SameF (K : PySem.W.Frag) (C : Addr) (a b : Addr) (H : Hp) : Prop := ∃ F, FdO K C H a F ∧ FdO K C H b F
theorem ok_eq {f : Addr} {fd : FuncData} {k : Nat} (F : Fun K "__eq__" "Fold.__eq__" sEq f fd) (T : TFold K C) (TI : TIns K C) (g_Fold : mg "Fold" = some (.ref C)) (m_isinstance : mg "isinstance" = none) : FnOk P w K mg base CX0 (k + 1) f fd ["self", "other"] (spEq (SameF K C)) := by
  refine F.ok scEq (fun vs H Q E h => ?_) (fun cdv A outer s H vs Q E hr h => ?_)
  · obtain ⟨a, b, rfl, _⟩ := h
    rfl
  · obtain ⟨a, b, rfl, ⟨F, ⟨dA, fA, lA, eA, pA, zA⟩, ⟨dB, fB, lB, eB, pB, zB⟩⟩, q⟩ := h
    have hu := hr.units
    refine ⟨_, pss_one (ps_ret (pe_and (pe_callB call_isi (by rfl) m_isinstance (by decide +kernel) (pa_cons (pv 1) (pa_cons (pe_glob (v := .ref C) rfl g_Fold rfl) pa_nil))) (pe_and (pe_cmpR op_eq (pe_fld (pv 0) rfl) (pe_fld (pv 1) rfl) (nomark _)) (pe_and (pe_cmpR op_eq (pe_fld (pv 0) rfl) (pe_fld (pv 1) rfl) (nomark _)) (pe_and (pe_cmpR op_eq (pe_fld (pv 0) rfl) (pe_fld (pv 1) rfl) (nomark _)) (pe_and (pe_cmpR (op_eqD hu) (pe_fld (pv 0) rfl) (pe_fld (pv 1) rfl) (nomark _)) (pe_and (pe_cmpR (op_eqD hu) (pe_fld (pv 0) rfl) (pe_fld (pv 1) rfl) (nomark _)) (pe_and (pe_cmpR (op_eqD hu) (pe_fld (pv 0) rfl) (pe_fld (pv 1) rfl) (nomark _)) (pe_and (pe_cmpR (op_eqD hu) (pe_fld (pv 0) rfl) (pe_fld (pv 1) rfl) (nomark _)) (pe_and (pe_cmpR op_eq (pe_fld (pv 0) rfl) (pe_fld (pv 1) rfl) (nomark _)) (pe_one (pe_cmpR op_eq (pe_fld (pv 0) rfl) (pe_fld (pv 1) rfl) (nomark _))))))))))))), ?_⟩
    refine ⟨_, rfl, .ref b, .ref C, .ref C, .ref C, true, rfl, .own _, .base (.ins eB T.cl TI.cc TI.get TI.takes TI.obj), TI.kit, true, rfl, if_t ?_⟩
    refine ⟨_, rfl, a, C, dA, _, _, rfl, eA, T.cl, T.no _ (by decide), rfl, _, rfl, b, C, dB, _, _, rfl, eB, T.cl, T.no _ (by decide), rfl, rfl, true, congrArg V.bl (decide_eq_true rfl), if_t ?_⟩
    refine ⟨_, rfl, a, C, dA, _, _, rfl, eA, T.cl, T.no _ (by decide), rfl, _, rfl, b, C, dB, _, _, rfl, eB, T.cl, T.no _ (by decide), rfl, rfl, true, congrArg V.bl (decide_eq_true rfl), if_t ?_⟩
    refine ⟨_, rfl, a, C, dA, _, _, rfl, eA, T.cl, T.no _ (by decide), rfl, _, rfl, b, C, dB, _, _, rfl, eB, T.cl, T.no _ (by decide), rfl, rfl, true, congrArg V.bl (decide_eq_true rfl), if_t ?_⟩
    refine ⟨_, rfl, a, C, dA, _, _, rfl, eA, T.cl, T.no _ (by decide), rfl, _, rfl, b, C, dB, _, _, rfl, eB, T.cl, T.no _ (by decide), rfl, _, _, dp_vw F.lo, dp_vw F.lo, (dw_form _).1, (dw_form _).1, true, congrArg V.bl (dw_form _).2, if_t ?_⟩
    refine ⟨_, rfl, a, C, dA, _, _, rfl, eA, T.cl, T.no _ (by decide), rfl, _, rfl, b, C, dB, _, _, rfl, eB, T.cl, T.no _ (by decide), rfl, _, _, dp_vw F.hi, dp_vw F.hi, (dw_form _).1, (dw_form _).1, true, congrArg V.bl (dw_form _).2, if_t ?_⟩
    refine ⟨_, rfl, a, C, dA, _, _, rfl, eA, T.cl, T.no _ (by decide), rfl, _, rfl, b, C, dB, _, _, rfl, eB, T.cl, T.no _ (by decide), rfl, _, _, pA.dp, pB.dp, (od_form _).1, (od_form _).1, true, congrArg V.bl (od_form _).2, if_t ?_⟩
    refine ⟨_, rfl, a, C, dA, _, _, rfl, eA, T.cl, T.no _ (by decide), rfl, _, rfl, b, C, dB, _, _, rfl, eB, T.cl, T.no _ (by decide), rfl, _, _, zA.dp, zB.dp, (od_form _).1, (od_form _).1, true, congrArg V.bl (od_form _).2, if_t ?_⟩
    refine ⟨_, rfl, a, C, dA, _, _, rfl, eA, T.cl, T.no _ (by decide), rfl, _, rfl, b, C, dB, _, _, rfl, eB, T.cl, T.no _ (by decide), rfl, rfl, true, congrArg V.bl (decide_eq_true rfl), if_t ?_⟩
    refine ⟨_, rfl, a, C, dA, _, _, rfl, eA, T.cl, T.no _ (by decide), rfl, _, rfl, b, C, dB, _, _, rfl, eB, T.cl, T.no _ (by decide), rfl, rfl, ?_⟩
    rw [decide_eq_true rfl]
    exact q H Ext.rfl'
end
end Tg

namespace Tg
open PySem PySem.Spec PyProof.Rows L2
/-! ### folds of points behind points -/
def chain {α : Type} (f : α → α → Int) (xs : List α) : Int := (List.zipWith f xs (xs.drop 1)).sum
theorem chain_cons {α : Type} (f : α → α → Int) (a b : α) (r : List α) : chain f (a :: b :: r) = f a b + chain f (b :: r) := by
  unfold chain
  show (f a b :: List.zipWith f (b :: r) r).sum = _
  rw [List.sum_cons]
  rfl
theorem chain_app {α : Type} (f : α → α → Int) {y : α} {ys : List α} {z : α} : ∀ {xs : List α}, xs.getLast? = some z → chain f (xs ++ y :: ys) = chain f xs + f z y + chain f (y :: ys)
  | [], h => nomatch h
  | [a], h => by
    cases h
    show chain f (a :: y :: ys) = chain f [a] + f a y + chain f (y :: ys)
    rw [chain_cons]
    show f a y + _ = 0 + f a y + _
    omega
  | a :: b :: r, h => by
    have e := chain_app f (y := y) (ys := ys) (z := z) (xs := b :: r) (by rw [← h]; rfl)
    show chain f (a :: b :: (r ++ y :: ys)) = _
    rw [chain_cons, chain_cons]
    have e2 : chain f (b :: (r ++ y :: ys)) = chain f (b :: r) + f z y + chain f (y :: ys) := e
    rw [e2]
    omega
theorem min_app {xs ys : List Int} {a b : Int} (h1 : xs.min? = some a) (h2 : ys.min? = some b) : (xs ++ ys).min? = some (if b < a then b else a) := by
  obtain ⟨i1, l1⟩ := List.min?_eq_some_iff.mp h1
  obtain ⟨i2, l2⟩ := List.min?_eq_some_iff.mp h2
  refine min_is ?_ fun y hy => ?_
  · split
    · exact List.mem_append_right _ i2
    · exact List.mem_append_left _ i1
  · rcases List.mem_append.mp hy with h | h
    · have := l1 y h
      split <;> omega
    · have := l2 y h
      split <;> omega
theorem max_app {xs ys : List Int} {a b : Int} (h1 : xs.max? = some a) (h2 : ys.max? = some b) : (xs ++ ys).max? = some (if b > a then b else a) := by
  obtain ⟨i1, l1⟩ := List.max?_eq_some_iff.mp h1
  obtain ⟨i2, l2⟩ := List.max?_eq_some_iff.mp h2
  refine max_is ?_ fun y hy => ?_
  · split
    · exact List.mem_append_right _ i2
    · exact List.mem_append_left _ i1
  · rcases List.mem_append.mp hy with h | h
    · have := l1 y h
      split <;> omega
    · have := l2 y h
      split <;> omega
theorem wts_app (ps qs : List Pt) : wts (ps ++ qs) = wts ps ++ wts qs := List.map_append
theorem fOf_app {ps qs : List Pt} {z y : Pt} {a b c d : Int} (hz : ps.getLast? = some z) (hy : qs.head? = some y) (h1 : (fOf ps).lo = some a) (h2 : (fOf qs).lo = some b) (h3 : (fOf ps).hi = some c) (h4 : (fOf qs).hi = some d) :
    fOf (ps ++ qs) = ⟨(fOf ps).cnt + (fOf qs).cnt, (fOf ps).tot + (fOf qs).tot, (fOf ps).sq + (fOf qs).sq, some (if b < a then b else a), some (if d > c then d else c), (fOf ps).fst, (fOf qs).lst, (fOf ps).ris + stp z.2 y.2 + (fOf qs).ris, (fOf ps).hel + hld z y + (fOf qs).hel⟩ := by
  obtain ⟨qr, rfl⟩ : ∃ qr, qs = y :: qr := by
    cases qs with
    | nil => cases hy
    | cons q r => cases hy; exact ⟨r, rfl⟩
  have e1 : wts (ps ++ y :: qr) = wts ps ++ y.2 :: wts qr := wts_app ps (y :: qr)
  have lz : (wts ps).getLast? = some z.2 := by
    unfold wts
    rw [List.getLast?_map, hz]
    rfl
  have c1 : chain stp (wts (ps ++ y :: qr)) = chain stp (wts ps) + stp z.2 y.2 + chain stp (wts (y :: qr)) := by
    rw [e1]
    exact chain_app stp lz
  have c2 : chain hld (ps ++ y :: qr) = chain hld ps + hld z y + chain hld (y :: qr) := chain_app hld hz
  have t1 : (wts (ps ++ y :: qr)).sum = (wts ps).sum + (wts (y :: qr)).sum := by rw [wts_app, List.sum_append]
  have t2 : ((wts (ps ++ y :: qr)).map fun w => w * w).sum = ((wts ps).map fun w => w * w).sum + ((wts (y :: qr)).map fun w => w * w).sum := by rw [wts_app, List.map_append, List.sum_append]
  have m1 : (wts (ps ++ y :: qr)).min? = some (if b < a then b else a) := by
    rw [wts_app]
    exact min_app h1 h2
  have m2 : (wts (ps ++ y :: qr)).max? = some (if d > c then d else c) := by
    rw [wts_app]
    exact max_app h3 h4
  have n1 : (((ps ++ y :: qr).length : Nat) : Int) = ((ps.length : Nat) : Int) + (((y :: qr).length : Nat) : Int) := by
    rw [List.length_append]
    omega
  have f1 : (ps ++ y :: qr).head? = ps.head? := by
    cases ps with
    | nil => cases hz
    | cons p r => rfl
  have f2 : (ps ++ y :: qr).getLast? = (y :: qr).getLast? := by
    rw [List.getLast?_append, List.getLast?_eq_some_getLast (List.cons_ne_nil y qr)]
    rfl
  show FD.mk _ _ _ _ _ _ _ (chain stp (wts (ps ++ y :: qr))) (chain hld (ps ++ y :: qr)) = _
  rw [c1, c2, t1, t2, m1, m2, n1, f1, f2]
  rfl
end Tg

namespace Tg
open PySem PySem.Spec PyProof.Rows L2
theorem POk.edge {ps qs : List Pt} {z y : Pt} (ok : POk (ps ++ qs)) (hz : ps.getLast? = some z) (hy : qs.head? = some y) : z.1 < y.1 ∧ z.2.natAbs < 2 ^ 60 := by
  have l0 : 0 < ps.length := by
    cases ps with
    | nil => cases hz
    | cons p r => exact Nat.succ_pos _
  rw [List.getLast?_eq_getElem?] at hz
  rw [List.head?_eq_getElem?] at hy
  have e1 : (ps ++ qs)[ps.length - 1]? = some z := by rw [List.getElem?_append_left (by omega)]; exact hz
  have e2 : (ps ++ qs)[ps.length - 1 + 1]? = some y := by
    rw [List.getElem?_append_right (by omega), show ps.length - 1 + 1 - ps.length = 0 by omega]
    exact hy
  exact ⟨ok.up _ z y e1 e2, ok.sz z (List.mem_of_getElem? e1)⟩
theorem cnt_nil {ps : List Pt} (h : (fOf ps).cnt = 0) : ps = [] := by
  have none_ : ((ps.length : Nat) : Int) = 0 := h
  exact List.length_eq_zero_iff.mp (Int.ofNat_eq_zero.mp none_)
theorem full {ps : List Pt} (h : ¬ (fOf ps).cnt = 0) : (∃ m, (fOf ps).lo = some m) ∧ (∃ m, (fOf ps).hi = some m) ∧ (∃ p, (fOf ps).fst = some p) ∧ ∃ p, (fOf ps).lst = some p := by
  cases ps with
  | nil => exact absurd rfl h
  | cons p r => exact ⟨⟨_, rfl⟩, ⟨_, rfl⟩, ⟨_, rfl⟩, ⟨_, List.getLast?_eq_some_getLast (List.cons_ne_nil p r)⟩⟩
section
variable {P : Program} {w : World} {K : PySem.W.Frag} {mg : Str → Option Value} {base : Heap} {C : Addr}
def spTg (K : PySem.W.Frag) (C : Addr) : Sp := fun vs H Q _ => ∃ (a b : Addr) (ps qs : List Pt), vs = [.ref a, .ref b] ∧ FdO K C H a (fOf ps) ∧ FdO K C H b (fOf qs) ∧ POk (ps ++ qs) ∧ ∀ c H', Same H H' → FdO K C H' c (fOf (ps ++ qs)) → Q (.ref c) H'
theorem ok_tg {f : Addr} {fd : FuncData} {k : Nat} (F : Fun K "together" "together" sTg f fd) (T : TFold K C) (K_Fold9 : KF9 P w K mg base C k) (C_risen : Cal P w K mg base k "risen" ["ahead", "behind"] spRisen) (C_held_between : Cal P w K mg base k "held_between" ["ahead", "behind"] (spHB K)) (m_min : mg "min" = none) (m_max : mg "max" = none) : FnOk P w K mg base CX0 (k + 2) f fd ["one", "two"] (spTg K C) := by
  refine F.ok scTg (fun vs H Q E h => ?_) (fun cdv A outer s H vs Q E hr h => ?_)
  · obtain ⟨a, b, ps, qs, rfl, _⟩ := h
    rfl
  · obtain ⟨a, b, ps, qs, rfl, hA0, hB0, ok, q⟩ := h
    refine ⟨_, pss_cons (ps_if (pt_cmpR op_eq (pe_fld (pv 0) rfl) pe_int (nomark _))
        (pss_one (ps_ret (pv 1)))
        pss_nil)
      (pss_cons (ps_if (pt_cmpR op_eq (pe_fld (pv 1) rfl) pe_int (nomark _))
        (pss_one (ps_ret (pv 0)))
        pss_nil)
      (pss_cons (ps_if (pt_cmpR op_le (pe_ix ix_tup (pe_fld (pv 1) rfl) pe_int (fun _ _ => rfl)) (pe_ix ix_tup (pe_fld (pv 0) rfl) pe_int (fun _ _ => rfl)) (nomark _))
        (pss_one ps_dead)
        pss_nil)
      (pss_one (ps_ret (pe_calCK K_Fold9 (hr.mono (by omega)) (by rfl) (pk_cons (pe_op op_add (pe_fld (pv 0) rfl) (pe_fld (pv 1) rfl)) (pk_cons (pe_op op_add (pe_fld (pv 0) rfl) (pe_fld (pv 1) rfl)) (pk_cons (pe_op op_add (pe_fld (pv 0) rfl) (pe_fld (pv 1) rfl)) (pk_cons (pe_callB (call_min2 rfl) (by rfl) m_min (by decide +kernel) (pa_cons (pe_fld (pv 0) rfl) (pa_cons (pe_fld (pv 1) rfl) pa_nil))) (pk_cons (pe_callB (call_max2 rfl) (by rfl) m_max (by decide +kernel) (pa_cons (pe_fld (pv 0) rfl) (pa_cons (pe_fld (pv 1) rfl) pa_nil))) (pk_cons (pe_fld (pv 0) rfl) (pk_cons (pe_fld (pv 1) rfl) (pk_cons (pe_op op_add (pe_op op_add (pe_fld (pv 0) rfl) (pe_cal C_risen (hr.mono (by omega)) (by rfl) (pa_cons (pe_ix ix_tup (pe_fld (pv 0) rfl) pe_int (fun _ _ => rfl)) (pa_cons (pe_ix ix_tup (pe_fld (pv 1) rfl) pe_int (fun _ _ => rfl)) pa_nil)))) (pe_fld (pv 1) rfl)) (pk_cons (pe_op op_add (pe_op op_add (pe_fld (pv 0) rfl) (pe_cal C_held_between (hr.mono (by omega)) (by rfl) (pa_cons (pe_fld (pv 0) rfl) (pa_cons (pe_fld (pv 1) rfl) pa_nil)))) (pe_fld (pv 1) rfl)) pk_nil)))))))))))))), ?_⟩
    have hA := hA0
    have hB := hB0
    obtain ⟨dA, fA, lA, eA, pA, zA⟩ := hA
    obtain ⟨dB, fB, lB, eB, pB, zB⟩ := hB
    refine ⟨_, rfl, a, C, dA, _, _, rfl, eA, T.cl, T.no _ (by decide), rfl, rfl, _, rfl, ite2 (fun g => ?_) (fun g => ?_)⟩
    · rw [vi_z] at g
      obtain rfl := cnt_nil (of_decide_eq_true g)
      exact ⟨_, rfl, q b H (Same.refl _) hB0⟩
    · rw [vi_z] at g
      have c1 : ¬ (fOf ps).cnt = 0 := fun z => g (decide_eq_true z)
      refine ⟨_, rfl, b, C, dB, _, _, rfl, eB, T.cl, T.no _ (by decide), rfl, rfl, _, rfl, ite2 (fun g2 => ?_) (fun g2 => ?_)⟩
      · rw [vi_z] at g2
        obtain rfl := cnt_nil (of_decide_eq_true g2)
        rw [List.append_nil] at q
        exact ⟨_, rfl, q a H (Same.refl _) hA0⟩
      · rw [vi_z] at g2
        have c2 : ¬ (fOf qs).cnt = 0 := fun z => g2 (decide_eq_true z)
        obtain ⟨⟨m1, w1⟩, ⟨m2, w2⟩, _, ⟨z, w4⟩⟩ := full c1
        obtain ⟨⟨n1, v1⟩, ⟨n2, v2⟩, ⟨y, v3⟩, _⟩ := full c2
        obtain ⟨lt, sz⟩ := ok.edge w4 v3
        rw [w4] at zA
        rw [v3] at pB
        obtain ⟨tz, rfl, hz⟩ := zA
        obtain ⟨ty, rfl, hy⟩ := pB
        refine ⟨_, rfl, b, C, dB, _, _, rfl, eB, T.cl, T.no _ (by decide), rfl, ty, _, _, _, rfl, rfl, hy, rfl, _, rfl, a, C, dA, _, _, rfl, eA, T.cl, T.no _ (by decide), rfl, tz, _, _, _, rfl, rfl, hz, rfl, _, _, rfl, rfl, _, rfl, if_n (decide_eq_false (by omega)) ?_⟩
        refine ⟨_, rfl, a, C, dA, _, _, rfl, eA, T.cl, T.no _ (by decide), rfl, _, rfl, b, C, dB, _, _, rfl, eB, T.cl, T.no _ (by decide), rfl, _, _, rfl, rfl, _, rfl, a, C, dA, _, _, rfl, eA, T.cl, T.no _ (by decide), rfl, _, rfl, b, C, dB, _, _, rfl, eB, T.cl, T.no _ (by decide), rfl, _, _, rfl, rfl, _, rfl, a, C, dA, _, _, rfl, eA, T.cl, T.no _ (by decide), rfl, _, rfl, b, C, dB, _, _, rfl, eB, T.cl, T.no _ (by decide), rfl, _, _, rfl, rfl, _, rfl, a, C, dA, _, _, rfl, eA, T.cl, T.no _ (by decide), rfl, _, rfl, b, C, dB, _, _, rfl, eB, T.cl, T.no _ (by decide), rfl, m1, n1, (by rw [w1, v1]; rfl), _, rfl, a, C, dA, _, _, rfl, eA, T.cl, T.no _ (by decide), rfl, _, rfl, b, C, dB, _, _, rfl, eB, T.cl, T.no _ (by decide), rfl, m2, n2, (by rw [w2, v2]; rfl), _, rfl, a, C, dA, _, _, rfl, eA, T.cl, T.no _ (by decide), rfl, _, rfl, b, C, dB, _, _, rfl, eB, T.cl, T.no _ (by decide), rfl, ?_⟩
        refine ⟨_, rfl, a, C, dA, _, _, rfl, eA, T.cl, T.no _ (by decide), rfl, _, rfl, a, C, dA, _, _, rfl, eA, T.cl, T.no _ (by decide), rfl, tz, _, _, _, rfl, rfl, hz, rfl, _, rfl, b, C, dB, _, _, rfl, eB, T.cl, T.no _ (by decide), rfl, ty, _, _, _, rfl, rfl, hy, rfl, z.2, y.2, rfl, _, _, rfl, rfl, _, rfl, b, C, dB, _, _, rfl, eB, T.cl, T.no _ (by decide), rfl, _, _, rfl, rfl, ?_⟩
        refine ⟨_, rfl, a, C, dA, _, _, rfl, eA, T.cl, T.no _ (by decide), rfl, _, rfl, a, C, dA, _, _, rfl, eA, T.cl, T.no _ (by decide), rfl, _, rfl, b, C, dB, _, _, rfl, eB, T.cl, T.no _ (by decide), rfl, tz, ty, z, y, rfl, hz, hy, sz, _, _, rfl, rfl, _, rfl, b, C, dB, _, _, rfl, eB, T.cl, T.no _ (by decide), rfl, _, _, rfl, rfl, ?_⟩
        refine ⟨rfl, rfl, fun x dx nx nd ne => ⟨x, dx, _, _, _, _, _, _, _, _, _, rfl, upd_same, rfl, ?_⟩⟩
        have e := fOf_app w4 v3 w1 v1 w2 v2
        rw [e] at q
        have zz := fd_made (K := K) (C := C) nx nd ne (F := ⟨(fOf ps).cnt + (fOf qs).cnt, (fOf ps).tot + (fOf qs).tot, (fOf ps).sq + (fOf qs).sq, some (if n1 < m1 then n1 else m1), some (if n2 > m2 then n2 else m2), (fOf ps).fst, (fOf qs).lst, (fOf ps).ris + stp z.2 y.2 + (fOf qs).ris, (fOf ps).hel + hld z y + (fOf qs).hel⟩) pA zB
        exact q x _ zz.1 zz.2
end
end Tg

namespace Tg
open PySem PySem.Spec PyProof.Rows L2
abbrev sSome : Stmt := topS 22
theorem scSome : FnScope ["_law_draws_here", "_law_pick", "_law_many", "_law_time", "_law_told", "_law_k", "_law_one", "_law_worth", "_law_far"] ["_law_draws_here"] (defScope sSome) := ⟨rfl, rfl, rfl, by decide +kernel, rfl, by decide +kernel, by decide +kernel⟩
section
variable {P : Program} {w : World} {K : PySem.W.Frag} {mg : Str → Option Value} {base : Heap} {C : Addr}
def spSome (K : PySem.W.Frag) : Sp := fun vs H Q _ => ∃ (p : Addr) (n : Nat), vs = [.ref p] ∧ Dr H p n ∧ n < 900000 ∧ ∀ (l : Addr) (ps : List Pt) (H' : Hp), Kp p H H' → Dr H' p (n + 43) → H l = none → LD K H' l (ps.map pd) → POk ps → Q (.ref l) H'
theorem ok_some {f : Addr} {fd : FuncData} {k : Nat} (F : Fun K "_law_some_points" "_law_some_points" sSome f fd) (L_next : Cal P w K mg base k "_law_next" ["_law_draws_here"] spNext) (m_range : mg "range" = none) : FnOk P w K mg base CX0 (k + 1) f fd ["_law_draws_here"] (spSome K) := by
  refine F.ok scSome (fun vs H Q E h => ?_) (fun cdv A outer s H vs Q E hr h => ?_)
  · obtain ⟨p, n, rfl, _⟩ := h
    rfl
  · obtain ⟨p, n, rfl, dr, n9, q⟩ := h
    refine ⟨_, pss_cons (ps_set (i := 1) scSome.nd rfl (.inl rfl) (pe_cal L_next (hr.mono (by omega)) (by rfl) (pa_cons (pv 0) pa_nil)))
      (pss_cons (ps_set (i := 2) scSome.nd rfl (.inl rfl) (pe_ix ix_list (pe_lst (pa_cons (pe_op op_mod (pe_op op_fdiv (pv 1) pe_int) pe_int) (pa_cons (pe_op op_mod (pe_op op_fdiv (pv 1) pe_int) pe_int) (pa_cons (pe_op op_mod (pe_op op_fdiv (pv 1) pe_int) pe_int) (pa_cons (pe_op op_mod (pe_op op_fdiv (pv 1) pe_int) pe_int) pa_nil))))) (pe_op op_mod (pv 1) pe_int) (fun _ _ => rfl)))
      (pss_cons (ps_set (i := 3) scSome.nd rfl (.inl rfl) (pe_ix ix_list (pe_lst (pa_cons pe_int (pa_cons (pe_op op_sub pe_int (pe_op op_pow pe_int pe_int)) (pa_cons (pe_op op_sub (pe_op op_mod (pe_cal L_next (hr.mono (by omega)) (by rfl) (pa_cons (pv 0) pa_nil)) pe_int) pe_int) (pa_cons (pe_op op_pow pe_int pe_int) pa_nil))))) (pe_op op_mod (pe_cal L_next (hr.mono (by omega)) (by rfl) (pa_cons (pv 0) pa_nil)) pe_int) (fun _ _ => rfl)))
      (pss_cons (ps_set (i := 4) scSome.nd rfl (.inl rfl) (pe_lst pa_nil))
      (pss_cons (ps_for PassesOwn.never rfl (pi_range1 (by rfl) m_range (pa_cons (pv 2) pa_nil)) (pg_name (i := 5) scSome.nd rfl (.inl rfl))
        (pss_cons (ps_set (i := 6) scSome.nd rfl (.inl rfl) (pe_cal L_next (hr.mono (by omega)) (by rfl) (pa_cons (pv 0) pa_nil)))
        (pss_cons (ps_set (i := 3) scSome.nd rfl (.inl rfl) (pe_op op_add (pe_op op_add (pv 3) pe_int) (pe_ix ix_list (pe_lst (pa_cons pe_int (pa_cons (pe_op op_mod (pe_op op_fdiv (pv 6) pe_int) pe_int) (pa_cons (pe_op op_mod (pe_op op_fdiv (pv 6) pe_int) pe_int) (pa_cons (pe_op op_mul (pv 6) pe_int) pa_nil))))) (pe_op op_mod (pv 6) pe_int) (fun _ _ => rfl))))
        (pss_cons (ps_set (i := 7) scSome.nd rfl (.inl rfl) (pe_op op_fdiv (pv 6) pe_int))
        (pss_cons (ps_set (i := 8) scSome.nd rfl (.inl rfl) (pe_ix ix_list (pe_lst (pa_cons (pe_op op_mod (pv 7) pe_int) (pa_cons (pe_op op_sub pe_int (pe_op op_mod (pv 7) pe_int)) (pa_cons (pe_op op_mul (pv 7) (pe_op op_pow pe_int pe_int)) (pa_cons (pe_op op_sub pe_int (pe_op op_mul (pv 7) (pe_op op_pow pe_int pe_int))) (pa_cons pe_int pa_nil)))))) (pe_op op_mod (pe_op op_fdiv (pv 6) pe_int) pe_int) (fun _ _ => rfl)))
        (pss_one (ps_expr (pe_bm PySem.F.plainAttrs_list PySem.F.slot_list_append PySem.F.type_list_append mt_append (pv 4) (pa_cons (pe_tup (pa_cons (pv 3) (pa_cons (pv 8) pa_nil))) pa_nil)))))))))
      (pss_one (ps_ret (pv 4))))))), ?_⟩
    refine ⟨_, rfl, p, n, rfl, dr, by omega, fun pick H1 k1 d1 p0 p1 => ?_⟩
    -- how many
    obtain ⟨mv, mm, me⟩ := atI_mem (xs := [pick / 6 % 4, pick / 6 % 12, pick / 6 % 12, pick / 6 % 40]) (i := pick % 4) (by omega) (by show pick % 4 < ((4 : Nat) : Int); omega)
    have mb : 0 ≤ mv ∧ mv < 40 := by
      simp only [List.mem_cons, List.not_mem_nil, or_false] at mm
      omega
    refine ⟨_, rfl, _, _, rfl, rfl, ⟨by decide, by decide⟩, _, _, rfl, rfl, (by show (0 : Int) < 4; decide), _, rfl, _, _, rfl, rfl, ⟨by decide, by decide⟩, _, _, rfl, rfl, (by show (0 : Int) < 12; decide), _, rfl, _, _, rfl, rfl, ⟨by decide, by decide⟩, _, _, rfl, rfl, (by show (0 : Int) < 12; decide), _, rfl, _, _, rfl, rfl, ⟨by decide, by decide⟩, _, _, rfl, rfl, (by show (0 : Int) < 40; decide), (by show 4 ≤ sizeLine; decide), fun u nu => ?_⟩
    refine ⟨_, rfl, _, _, rfl, rfl, (by show (0 : Int) < 4; decide), u, _, _, _, rfl, rfl, SqL.of upd_same, me, ?_⟩
    -- where the times begin
    have d1u := d1.same (same_new (o := .lst [.int (pick / 6 % 4), .int (pick / 6 % 12), .int (pick / 6 % 12), .int (pick / 6 % 40)]) nu)
    refine ⟨_, _, rfl, rfl, ⟨by decide, by decide, by decide⟩, _, _, rfl, rfl, _, rfl, p, n + 1, rfl, d1u, by omega, fun v2 H2 k2 d2 _ _ => ?_⟩
    refine ⟨_, _, rfl, rfl, (by show (0 : Int) < 1000; decide), _, _, rfl, rfl, _, _, rfl, rfl, ⟨by decide, by decide, by decide⟩, (by show 4 ≤ sizeLine; decide), fun u2 nu2 => ?_⟩
    have s2u : Same H2 (upd H2 u2 (.lst [.int 0, .int (0 - 10 ^ 14), .int (v2 % 1000 - 500), .int (10 ^ 14)])) := same_new nu2
    refine ⟨_, rfl, p, n + 2, rfl, d2.same s2u, by omega, fun v3 H3 k3 d3 v30 _ => ?_⟩
    obtain ⟨tm, tmm, tme⟩ := atI_mem (xs := [0, 0 - 10 ^ 14, v2 % 1000 - 500, 10 ^ 14]) (i := v3 % 4) (by omega) (by show v3 % 4 < ((4 : Nat) : Int); omega)
    have u2p : u2 ≠ p := d2.ne nu2
    refine ⟨_, _, rfl, rfl, (by show (0 : Int) < 4; decide), u2, _, _, _, rfl, rfl, SqL.of (k3 _ _ u2p upd_same), tme, ?_⟩
    refine ⟨(by show 0 ≤ sizeLine; decide), fun l nl3 => ?_⟩
    have k03 : Kp p H H3 := ((k1.trans (Kp.of (same_new nu))).trans k2).trans ((Kp.of s2u).trans k3)
    have lp : l ≠ p := d3.ne nl3
    have nl : H l = none := by
      cases e : H l with
      | none => rfl
      | some o =>
        rw [k03 l o lp e] at nl3
        cases nl3
    refine ⟨_, rfl, mv, rfl, by omega, by omega, for_range (n := mv.toNat) (fun i σ Hc => ∃ (t : Int) (ps : List Pt) (z5 z6 z7 z8 : Option V), σ = [some (.ref p), some (.int pick), some (.int mv), some (.int t), some (.ref l), z5, z6, z7, z8] ∧ Kp p H Hc ∧ Dr Hc p (n + 3 + i) ∧ LD K Hc l (ps.map pd) ∧ ps.length = i ∧ (∀ r, r ∈ ps → r.1 ≤ t) ∧ ps.Pairwise (fun a b => a.1 < b.1) ∧ ∀ r, r ∈ ps → r.2.natAbs < 2 ^ 60) ?_ ?_ ?_⟩
    · exact ⟨tm, [], none, none, none, none, rfl, k03.trans (Kp.of (same_new nl3)), d3.same (same_new nl3), ⟨[], upd_same, .nil⟩, rfl, (fun _ z => nomatch z), .nil, (fun _ z => nomatch z)⟩
    · rintro i σ Hc hi ⟨t, ps, z5, z6, z7, z8, rfl, kc, dc, ld, len, tle, up, sz⟩
      refine ⟨_, rfl, p, n + 3 + i, rfl, dc, by omega, fun o Ho ko do_ o0 o1 => ?_⟩
      have ldo : LD K Ho l (ps.map pd) := by
        obtain ⟨_, _, _, hp, _⟩ := id dc
        exact LD.kp ko hp nfix_lst lp (td_pds ps) ld
      obtain ⟨v, vm, ve⟩ := atI_mem (xs := [0, o / 16 % 5, o / 16 % 5000, o * 100]) (i := o % 4) (by omega) (by show o % 4 < ((4 : Nat) : Int); omega)
      have v0 : 0 ≤ v := by
        simp only [List.mem_cons, List.not_mem_nil, or_false] at vm
        omega
      refine ⟨_, rfl, _, _, rfl, rfl, _, rfl, _, _, rfl, rfl, ⟨by decide, by decide⟩, _, _, rfl, rfl, (by show (0 : Int) < 5; decide), _, rfl, _, _, rfl, rfl, ⟨by decide, by decide⟩, _, _, rfl, rfl, (by show (0 : Int) < 5000; decide), _, rfl, _, _, rfl, rfl, .inr ⟨by decide, by decide⟩, (by show 4 ≤ sizeLine; decide), fun u nu => ?_⟩
      have su : Same Ho (upd Ho u (.lst [.int 0, .int (o / 16 % 5), .int (o / 16 % 5000), .int (o * 100)])) := same_new nu
      refine ⟨_, rfl, _, _, rfl, rfl, (by show (0 : Int) < 4; decide), u, _, _, _, rfl, rfl, SqL.of upd_same, ve, _, _, rfl, rfl, ?_⟩
      refine ⟨_, rfl, _, _, rfl, rfl, ⟨by decide, by decide⟩, ?_⟩
      obtain ⟨g, gm, ge⟩ := atI_mem (xs := [o / 64 % 10, 0 - o / 64 % 10, o / 64 * 10 ^ 8, 0 - o / 64 * 10 ^ 8, 0]) (i := o / 4 % 5) (by omega) (by show o / 4 % 5 < ((5 : Nat) : Int); omega)
      have g0 : g.natAbs < 2 ^ 60 := by
        simp only [List.mem_cons, List.not_mem_nil, or_false] at gm
        omega
      refine ⟨_, rfl, _, _, rfl, rfl, (by show (0 : Int) < 10; decide), _, rfl, _, _, rfl, rfl, (by show (0 : Int) < 10; decide), _, _, rfl, rfl, _, rfl, _, _, rfl, rfl, ⟨by decide, by decide, by decide⟩, _, _, rfl, rfl, .inr ⟨by decide, by decide⟩, _, rfl, _, _, rfl, rfl, ⟨by decide, by decide, by decide⟩, _, _, rfl, rfl, .inr ⟨by decide, by decide⟩, _, _, rfl, rfl, (by show 5 ≤ sizeLine; decide), fun u5 nu5 => ?_⟩
      have su5 : Same (upd Ho u (.lst [.int 0, .int (o / 16 % 5), .int (o / 16 % 5000), .int (o * 100)])) (upd (upd Ho u (.lst [.int 0, .int (o / 16 % 5), .int (o / 16 % 5000), .int (o * 100)])) u5 (.lst [.int (o / 64 % 10), .int (0 - o / 64 % 10), .int (o / 64 * 10 ^ 8), .int (0 - o / 64 * 10 ^ 8), .int 0])) := same_new nu5
      refine ⟨_, rfl, _, _, rfl, rfl, ⟨by decide, by decide⟩, _, _, rfl, rfl, (by show (0 : Int) < 5; decide), u5, _, _, _, rfl, rfl, SqL.of upd_same, ge, ?_⟩
      obtain ⟨Hw, ew⟩ : ∃ Hw, upd (upd Ho u (.lst [.int 0, .int (o / 16 % 5), .int (o / 16 % 5000), .int (o * 100)])) u5 (.lst [.int (o / 64 % 10), .int (0 - o / 64 % 10), .int (o / 64 * 10 ^ 8), .int (0 - o / 64 * 10 ^ 8), .int 0]) = Hw := ⟨_, rfl⟩
      rw [ew] at su5
      have sw := su.trans su5
      obtain ⟨xs, hx, hdx⟩ := ldo.same sw
      have lx := dl_len hdx
      have fin : ∀ T, Hw T = none → (upd Hw T (.tup [.int (t + 1 + v), .int g])) l = some (.lst xs) ∧ Kp p H (upd (upd Hw T (.tup [.int (t + 1 + v), .int g])) l (.lst (xs ++ [.ref T]))) ∧
          Dr (upd (upd Hw T (.tup [.int (t + 1 + v), .int g])) l (.lst (xs ++ [.ref T]))) p (n + 3 + (i + 1)) ∧ LD K (upd (upd Hw T (.tup [.int (t + 1 + v), .int g])) l (.lst (xs ++ [.ref T]))) l ((ps ++ [(t + 1 + v, g)]).map pd) := fun T nT => by
        have sT : Same Hw (upd Hw T (.tup [.int (t + 1 + v), .int g])) := same_new nT
        refine ⟨sT _ _ hx, fun b u hb e => ?_, ?_, ?_⟩
        · rw [upd_ne (ne_of_none e nl)]
          exact (sw.trans sT) _ _ (ko _ _ hb (kc _ _ hb e))
        · obtain ⟨a, k, b, h, r⟩ := do_
          exact ⟨a, k, b, by rw [upd_ne lp.symm]; exact (sw.trans sT) _ _ h, r⟩
        · rw [List.map_append]
          exact LD.snoc (KT.of sT) (sT _ _ hx) hdx (td_pds ps) (pd_new (x := (t + 1 + v, g)) upd_same) (td_pd _)
      subst ew
      refine ⟨_, rfl, .inl ⟨rfl, _, SqL.of hx⟩, _, rfl, _, rfl, (by show 2 ≤ sizeLine; decide), fun T nT => ?_⟩
      obtain ⟨f1, f2, f3, f4⟩ := fin T nT
      refine ⟨l, xs, _, rfl, rfl, f1, small1000 (by omega), t + 1 + v, ps ++ [(t + 1 + v, g)], _, _, _, _, rfl, f2, f3, f4, ?_, ?_, ?_, ?_⟩
      · rw [List.length_append, len]
        rfl
      · intro r hr
        rcases List.mem_append.mp hr with h | h
        · have := tle r h
          omega
        · obtain rfl := List.mem_singleton.mp h
          exact Int.le_refl _
      · refine List.pairwise_append.mpr ⟨up, List.pairwise_singleton _ _, fun a ha b hb => ?_⟩
        obtain rfl := List.mem_singleton.mp hb
        have := tle a ha
        show a.1 < t + 1 + v
        omega
      · intro r hr
        rcases List.mem_append.mp hr with h | h
        · exact sz r h
        · obtain rfl := List.mem_singleton.mp h
          exact g0
    · rintro σ Hc ⟨t, ps, z5, z6, z7, z8, rfl, kc, dc, ld, len, tle, up, sz⟩
      refine ⟨_, rfl, q l ps Hc kc ?_ nl ld ⟨by omega, fun i a b ha hb => ?_, sz⟩⟩
      · obtain ⟨a, k, b, h, r0, r1⟩ := dc
        exact ⟨a, k, b, h, r0, by omega⟩
      · obtain ⟨i1, rfl⟩ := List.getElem?_eq_some_iff.mp ha
        obtain ⟨i2, rfl⟩ := List.getElem?_eq_some_iff.mp hb
        exact List.pairwise_iff_getElem.mp up i (i + 1) i1 i2 (Nat.lt_succ_self i)
end
end Tg

namespace Tg
open PySem PySem.Spec PyProof.Rows L2
abbrev sJoin : Stmt := topS 24
theorem scJoin : FnScope ["_law_draws_here", "_law_folds", "_law_both", "_law_at"] ["_law_draws_here", "_law_folds", "_law_both"] (defScope sJoin) := ⟨rfl, rfl, rfl, by decide +kernel, rfl, by decide +kernel, by decide +kernel⟩
theorem cut_to (xs : List V) (a : Nat) : cutV xs none (some (a : Int)) = xs.take a := by
  unfold cutV
  rw [HT.sIx_none, HT.sIx_nat, List.drop_zero, Nat.sub_zero]
  rcases Nat.le_total a xs.length with h | h
  · rw [Nat.min_eq_left h]
  · rw [Nat.min_eq_right h, List.take_length, List.take_of_length_le h]
theorem Dr.kt {H H' : Hp} {p : Addr} {n : Nat} (d : Dr H p n) (k : Kp p H H') : KT H H' := by
  obtain ⟨_, _, _, hp, _⟩ := d
  exact KT.kp k hp nfix_lst
theorem PO.kt {K : PySem.W.Frag} {H H' : Hp} {v : V} (s : KT H H') : ∀ {o : Option Pt}, PO K H v o → PO K H' v o
  | none, h => h
  | some p, ⟨t, e, h⟩ => ⟨t, e, sqT_kt s h⟩
theorem FdO.kp {K : PySem.W.Frag} {C a p : Addr} {H H' : Hp} {F : FD} {n : Nat} (h : FdO K C H a F) (d : Dr H p n) (k : Kp p H H') : FdO K C H' a F := by
  obtain ⟨dx, vf, vl, e, h1, h2⟩ := h
  refine ⟨dx, vf, vl, k _ _ (fun z => ?_) e, h1.kt (d.kt k), h2.kt (d.kt k)⟩
  obtain ⟨_, _, _, hp, _⟩ := d
  rw [z, hp] at e
  cases e
/-- folds one after the other -/
def Fs {α : Type} (K : PySem.W.Frag) (C : Addr) (g : α → FD) (H : Hp) (as : List Addr) (xs : List α) : Prop := as.length = xs.length ∧ ∀ (i : Nat) (a : Addr) (x : α), as[i]? = some a → xs[i]? = some x → FdO K C H a (g x)
theorem Fs.same {α : Type} {K : PySem.W.Frag} {C : Addr} {g : α → FD} {H H' : Hp} {as : List Addr} {xs : List α} (h : Fs K C g H as xs) (s : Same H H') : Fs K C g H' as xs := ⟨h.1, fun i a x e1 e2 => (h.2 i a x e1 e2).same s⟩
theorem Fs.kp {α : Type} {K : PySem.W.Frag} {C p : Addr} {g : α → FD} {H H' : Hp} {as : List Addr} {xs : List α} {n : Nat} (h : Fs K C g H as xs) (d : Dr H p n) (k : Kp p H H') : Fs K C g H' as xs := ⟨h.1, fun i a x e1 e2 => (h.2 i a x e1 e2).kp d k⟩
/-- two neighbours made one -/
theorem Fs.join {α : Type} {K : PySem.W.Frag} {C c : Addr} {g : α → FD} {H : Hp} {as : List Addr} {xs : List α} {j : Nat} {z : α} (h : Fs K C g H as xs) (hj : j + 1 < xs.length) (hc : FdO K C H c (g z)) :
    Fs K C g H (as.take j ++ c :: as.drop (j + 2)) (xs.take j ++ z :: xs.drop (j + 2)) := by
  have l := h.1
  refine ⟨?_, fun i a x e1 e2 => ?_⟩
  · rw [List.length_append, List.length_append, List.length_cons, List.length_cons, List.length_take, List.length_take, List.length_drop, List.length_drop, l]
  · have la : (as.take j).length = j := by rw [List.length_take]; omega
    have lx : (xs.take j).length = j := by rw [List.length_take]; omega
    rcases Nat.lt_trichotomy i j with lt | rfl | gt
    · rw [List.getElem?_append_left (by omega), List.getElem?_take, if_pos lt] at e1 e2
      exact h.2 i a x e1 e2
    · rw [List.getElem?_append_right (by omega), la, Nat.sub_self] at e1
      rw [List.getElem?_append_right (by omega), lx, Nat.sub_self] at e2
      cases e1
      cases e2
      exact hc
    · obtain ⟨m, rfl⟩ : ∃ m, i = j + (m + 1) := ⟨i - j - 1, by omega⟩
      rw [List.getElem?_append_right (by omega), la, Nat.add_sub_cancel_left, List.getElem?_cons_succ, List.getElem?_drop] at e1
      rw [List.getElem?_append_right (by omega), lx, Nat.add_sub_cancel_left, List.getElem?_cons_succ, List.getElem?_drop] at e2
      exact h.2 _ a x e1 e2
theorem split2 {α : Type} {xs : List α} {j : Nat} {x y : α} (h1 : xs[j]? = some x) (h2 : xs[j + 1]? = some y) : xs = xs.take j ++ x :: y :: xs.drop (j + 2) := by
  obtain ⟨i1, e1⟩ := List.getElem?_eq_some_iff.mp h1
  obtain ⟨i2, e2⟩ := List.getElem?_eq_some_iff.mp h2
  have d1 : xs.drop j = x :: xs.drop (j + 1) := by rw [List.drop_eq_getElem_cons i1, e1]
  have d2 : xs.drop (j + 1) = y :: xs.drop (j + 2) := by rw [List.drop_eq_getElem_cons i2, e2]
  rw [← d2, ← d1, List.take_append_drop]
def lenL (H : Hp) : V → Nat
  | .ref l => (match H l with | some (.lst ys) => ys.length | _ => 0)
  | _ => 0
def muL (σ : L2.St) (H : Hp) : Nat := match σ with
  | _ :: some v :: _ => lenL H v
  | _ => 0
section
variable {P : Program} {w : World} {K : PySem.W.Frag} {mg : Str → Option Value} {base : Heap} {C : Addr} {α : Type}
def spBoth (K : PySem.W.Frag) (C : Addr) (g : α → FD) (op : α → α → α) (okp : α → α → Prop) : Sp := fun vs H Q _ => ∃ (a b : Addr) (x y : α), vs = [.ref a, .ref b] ∧ FdO K C H a (g x) ∧ FdO K C H b (g y) ∧ okp x y ∧ ∀ c H', Same H H' → FdO K C H' c (g (op x y)) → Q (.ref c) H'
def spJoin (K : PySem.W.Frag) (C f0 : Addr) (g : α → FD) (J : List α → Prop) : Sp := fun vs H Q _ => ∃ (p l : Addr) (n : Nat) (as : List Addr) (xs : List α), vs = [.ref p, .ref l, .ref f0] ∧ Dr H p n ∧ n < 900000 ∧ SqL K H l (as.map V.ref) ∧ Fs K C g H as xs ∧ xs ≠ [] ∧ xs.length ≤ 20 ∧ J xs ∧
  ∀ (c : Addr) (x : α) (H' : Hp), Kp p H H' → Dr H' p (n + 20) → FdO K C H' c (g x) → J [x] → Q (.ref c) H'
theorem ok_join {f f0 : Addr} {fd fd0 : FuncData} {k : Nat} {g : α → FD} {op : α → α → α} {okp : α → α → Prop} {J : List α → Prop} (hJ : ∀ l x y r, J (l ++ x :: y :: r) → okp x y ∧ J (l ++ op x y :: r))
    (F : Fun K "_law_joined" "_law_joined" sJoin f fd) (L_next : Cal P w K mg base k "_law_next" ["_law_draws_here"] spNext) (F0 : FnOk P w K mg base CX0 k f0 fd0 ["one", "two"] (spBoth K C g op okp)) (k0 : PySem.W.keepIn K (.ref f0) = true) (b0 : Binds K fd0 ["one", "two"] []) (m_list : mg "list" = none) (m_len : mg "len" = none) :
    FnOk P w K mg base CX0 (k + 1) f fd ["_law_draws_here", "_law_folds", "_law_both"] (spJoin K C f0 g J) := by
  refine F.ok scJoin (fun vs H Q E h => ?_) (fun cdv A outer s H vs Q E hr h => ?_)
  · obtain ⟨p, l, n, as, xs, rfl, _⟩ := h
    rfl
  · obtain ⟨p, l, n, as, xs, rfl, dr, n9, hl, fs, ne, len, j0, q⟩ := h
    refine ⟨_, pss_cons (ps_set (i := 1) scJoin.nd rfl (.inl rfl) (pe_callTy call_list_of (by rfl) m_list (by decide +kernel) (pa_cons (pv 1) pa_nil)))
      (pss_cons (ps_while PassesOwn.never (pt_cmpR op_gt (pe_callB call_len_seq (by rfl) m_len (by decide +kernel) (pa_cons (pv 1) pa_nil)) pe_int (nomark _))
        (pss_cons (ps_set (i := 3) scJoin.nd rfl (.inl rfl) (pe_op op_mod (pe_cal L_next (hr.mono (by omega)) (by rfl) (pa_cons (pv 0) pa_nil)) (pe_op op_sub (pe_callB call_len_seq (by rfl) m_len (by decide +kernel) (pa_cons (pv 1) pa_nil)) pe_int)))
        (pss_one (ps_set (i := 1) scJoin.nd rfl (.inl rfl) (pe_op op_cat (pe_op op_cat (pe_slice sl_list (pv 1) po_none (po_some (pv 3))) (pe_lst (pa_cons (pe_callL (i := 2) F0 (hr.mono (by omega)) rfl (.inl rfl) k0 b0 .nil pass0 (pa_cons (pe_ix ix_list (pv 1) (pv 3) (fun _ _ => rfl)) (pa_cons (pe_ix ix_list (pv 1) (pe_op op_add (pv 3) pe_int) (fun _ _ => rfl)) pa_nil))) pa_nil))) (pe_slice sl_list (pv 1) (po_some (pe_op op_add (pv 3) pe_int)) po_none))))))
      (pss_one (ps_ret (pe_ix ix_list (pv 1) pe_int (fun _ _ => rfl))))), ?_⟩
    refine ⟨_, rfl, l, _, rfl, .inl hl, fun l1 n1 => ?_⟩
    have s1 : Same H (upd H l1 (.lst (as.map V.ref))) := same_new n1
    refine while_by (fun σ Hc => ∃ (l2 : Addr) (bs : List Addr) (ys : List α) (z : Option V), σ = [some (.ref p), some (.ref l2), some (.ref f0), z] ∧ Kp p H Hc ∧ Dr Hc p (n + (xs.length - ys.length)) ∧ Hc l2 = some (.lst (bs.map V.ref)) ∧ Fs K C g Hc bs ys ∧ ys ≠ [] ∧ ys.length ≤ xs.length ∧ J ys) muL ?_ ?_ ?_
    · exact ⟨l1, as, xs, none, rfl, Kp.of s1, by rw [Nat.sub_self]; exact dr.same s1, upd_same, fs.same s1, ne, Nat.le_refl _, j0⟩
    · rintro σ Hc ⟨l2, bs, ys, z, rfl, kc, dc, hl2, fc, nec, lec, jc⟩
      have lb : (bs.map V.ref).length = ys.length := by rw [List.length_map]; exact fc.1
      have lp : 0 < ys.length := List.length_pos_iff.mpr nec
      refine ⟨_, rfl, l2, _, rfl, .inl (SqL.of hl2), _, _, rfl, rfl, _, rfl, ite2 (fun gt => ?_) (fun gt => ?_)⟩
      · have g2 : 2 ≤ ys.length := by
          have := of_decide_eq_true gt
          omega
        refine ⟨_, rfl, p, _, rfl, dc, by omega, fun v H1 k1 d1 v0 _ => ?_⟩
        have l2p : l2 ≠ p := fun z => by
          obtain ⟨_, _, _, hp, _⟩ := dc
          rw [z, hp] at hl2
          cases bs with
          | nil => cases hl2
          | cons b r => cases hl2
        have hl21 := k1 _ _ l2p hl2
        have fc1 := fc.kp dc k1
        refine ⟨_, rfl, l2, _, rfl, .inl (SqL.of hl21), _, _, rfl, rfl, _, _, rfl, rfl, (by omega), ?_⟩
        have m0 : 0 ≤ v % ((((bs.map V.ref).length : Nat) : Int) - 1) := Int.emod_nonneg _ (by omega)
        have m1 : v % ((((bs.map V.ref).length : Nat) : Int) - 1) < (((bs.map V.ref).length : Nat) : Int) - 1 := Int.emod_lt_of_pos _ (by omega)
        obtain ⟨j, ej⟩ : ∃ j : Nat, v % ((((bs.map V.ref).length : Nat) : Int) - 1) = (j : Nat) := ⟨(v % ((((bs.map V.ref).length : Nat) : Int) - 1)).toNat, by omega⟩
        dsimp only
        rw [ej]
        have hj : j + 1 < ys.length := by omega
        obtain ⟨x, hx⟩ : ∃ x, ys[j]? = some x := ⟨_, List.getElem?_eq_getElem (by omega)⟩
        obtain ⟨y, hy⟩ : ∃ y, ys[j + 1]? = some y := ⟨_, List.getElem?_eq_getElem hj⟩
        have lbs := fc.1
        obtain ⟨a, ha⟩ : ∃ a, bs[j]? = some a := ⟨_, List.getElem?_eq_getElem (by omega)⟩
        obtain ⟨b, hb⟩ : ∃ b, bs[j + 1]? = some b := ⟨_, List.getElem?_eq_getElem (by omega)⟩
        have va : (bs.map V.ref)[j]? = some (.ref a) := by rw [List.getElem?_map, ha]; rfl
        have vb : (bs.map V.ref)[j + 1]? = some (.ref b) := by rw [List.getElem?_map, hb]; rfl
        have sp := split2 hx hy
        rw [sp] at jc
        obtain ⟨okxy, jn⟩ := hJ _ _ _ _ jc
        refine ⟨_, rfl, _, rfl, _, rfl, l2, _, rfl, SqL.of hl21, fun S1 nS1 => ?_⟩
        have sS1 : Same H1 (upd H1 S1 (.lst (cutV (bs.map V.ref) none (some (j : Int))))) := same_new nS1
        have hl2S := sS1 _ _ hl21
        refine ⟨rfl, _, rfl, _, rfl, l2, _, _, .ref a, rfl, rfl, SqL.of hl2S, atI_nat va, _, rfl, _, rfl, _, _, rfl, rfl, l2, _, _, .ref b, rfl, rfl, SqL.of hl2S, atI_nat vb, ?_⟩
        refine ⟨a, b, x, y, rfl, (fc1.2 j a x ha hx).same sS1, (fc1.2 (j + 1) b y hb hy).same sS1, okxy, fun c H2 s2 fcn => ⟨(by show 1 ≤ sizeLine; decide), fun L1 nL1 => ?_⟩⟩
        have sL1 : Same H2 (upd H2 L1 (.lst [.ref c])) := same_new nL1
        have lc1 : (cutV (bs.map V.ref) none (some (j : Int))).length ≤ 20 := by
          rw [cut_to, List.length_take]
          omega
        refine ⟨S1, L1, _, _, rfl, rfl, sL1 _ _ (s2 _ _ upd_same), upd_same, Nat.le_of_lt (small1000 (by show _ + 1 ≤ 1000; omega)), fun M nM => ?_⟩
        have sM : Same (upd H2 L1 (.lst [.ref c])) (upd (upd H2 L1 (.lst [.ref c])) M (.lst (cutV (bs.map V.ref) none (some (j : Int)) ++ [.ref c]))) := same_new nM
        have s1M := ((sS1.trans s2).trans sL1).trans sM
        refine ⟨_, rfl, _, rfl, _, _, rfl, rfl, _, rfl, l2, _, rfl, SqL.of (s1M _ _ hl21), fun S2 nS2 => ?_⟩
        have sS2 : Same (upd (upd H2 L1 (.lst [.ref c])) M (.lst (cutV (bs.map V.ref) none (some (j : Int)) ++ [.ref c]))) (upd (upd (upd H2 L1 (.lst [.ref c])) M (.lst (cutV (bs.map V.ref) none (some (j : Int)) ++ [.ref c]))) S2 (.lst (cutV (bs.map V.ref) (some ((j : Int) + 2)) none))) := same_new nS2
        have e2 : cutV (bs.map V.ref) (some ((j : Int) + 2)) none = (bs.map V.ref).drop (j + 2) := by
          rw [show ((j : Int) + 2) = ((j + 2 : Nat) : Int) by omega]
          exact cut_from _ _
        have lc2 : (cutV (bs.map V.ref) (some ((j : Int) + 2)) none).length ≤ 20 := by
          rw [e2, List.length_drop]
          omega
        refine ⟨M, S2, _, _, rfl, rfl, sS2 _ _ upd_same, upd_same, Nat.le_of_lt (small1000 (by rw [List.length_append]; show _ + 1 + _ ≤ 1000; omega)), fun L3 nL3 => ?_⟩
        have sL3 := same_new (o := .lst ((cutV (bs.map V.ref) none (some (j : Int)) ++ [.ref c]) ++ cutV (bs.map V.ref) (some ((j : Int) + 2)) none)) nL3
        have s13 := (s1M.trans sS2).trans sL3
        have eL : (cutV (bs.map V.ref) none (some (j : Int)) ++ [.ref c]) ++ cutV (bs.map V.ref) (some ((j : Int) + 2)) none = (bs.take j ++ c :: bs.drop (j + 2)).map V.ref := by
          rw [cut_to, e2, List.map_append, List.map_take, List.map_cons, List.map_drop, List.append_assoc]
          rfl
        have lnew : (ys.take j ++ op x y :: ys.drop (j + 2)).length + 1 = ys.length := by
          rw [List.length_append, List.length_take, List.length_cons, List.length_drop]
          omega
        refine ⟨⟨L3, bs.take j ++ c :: bs.drop (j + 2), ys.take j ++ op x y :: ys.drop (j + 2), _, rfl, (kc.trans k1).trans (Kp.of s13), ?_, ?_, ?_, ?_, ?_, jn⟩, ?_⟩
        · have d3 := d1.same s13
          obtain ⟨q1, q2, q3, q4, q5, q6⟩ := d3
          exact ⟨q1, q2, q3, q4, q5, by omega⟩
        · rw [← eL]
          exact upd_same
        · exact (fc1.same s13).join hj (fcn.same ((sL1.trans sM).trans (sS2.trans sL3)))
        · intro z
          rw [z, List.length_nil] at lnew
          omega
        · omega
        · have a1 : lenL Hc (.ref l2) = ys.length := by
            unfold lenL
            dsimp only
            rw [hl2]
            exact lb
          have a2 : ∀ Hn : Hp, Hn L3 = some (.lst ((bs.take j ++ c :: bs.drop (j + 2)).map V.ref)) → lenL Hn (.ref L3) = (bs.take j ++ c :: bs.drop (j + 2)).length := fun Hn h => by
            unfold lenL
            dsimp only
            rw [h]
            exact List.length_map ..
          have l3 : (bs.take j ++ c :: bs.drop (j + 2)).length + 1 = ys.length := by
            rw [List.length_append, List.length_take, List.length_cons, List.length_drop]
            omega
          show lenL _ (.ref L3) < lenL Hc (.ref l2)
          rw [a1, a2 _ (by rw [← eL]; exact upd_same)]
          omega
      · have y1 : ys.length = 1 := by
          have : ¬ (((bs.map V.ref).length : Nat) : Int) > 1 := fun z => gt (decide_eq_true z)
          omega
        obtain ⟨x, rfl⟩ := List.length_eq_one_iff.mp y1
        obtain ⟨c, rfl⟩ := List.length_eq_one_iff.mp fc.1
        refine ⟨_, rfl, l2, _, _, .ref c, rfl, rfl, SqL.of hl2, rfl, q c x Hc kc ?_ (fc.2 0 c x rfl rfl) jc⟩
        obtain ⟨q1, q2, q3, q4, q5, q6⟩ := dc
        exact ⟨q1, q2, q3, q4, q5, by omega⟩
    · rintro σ Hc Q1 Q2 hq ⟨v, e, l2, ys, e2, e3, a, b, e4, e5, c, e6, h⟩
      exact ⟨v, e, l2, ys, e2, e3, a, b, e4, e5, c, e6, hq _ _ h⟩
end
end Tg

namespace Tg
open PySem PySem.Spec PyProof.Rows L2
abbrev sParts : Stmt := topS 23
abbrev NPt : List Str := ["_law_draws_here", "_law_points", "_law_cuts", "_law_k", "_law_edges", "_law_one", "_law_two"]
theorem scParts : FnScope NPt ["_law_draws_here", "_law_points"] (defScope sParts) := ⟨rfl, rfl, rfl, by decide +kernel, rfl, by decide +kernel, by decide +kernel⟩
/-! ### a list cut at places -/
def sgs {α : Type} (ps : List α) (es : List Nat) : List (List α) := List.zipWith (fun a b => (ps.drop a).take (b - a)) es (es.drop 1)
theorem head_last {m : Nat} : ∀ {e : Nat} {r : List Nat}, (e :: r).Pairwise (· ≤ ·) → (e :: r).getLast? = some m → e ≤ m
  | e, [], _, h => by
    cases h
    exact Nat.le_refl _
  | e, b :: r, up, h => by
    have h2 : (b :: r).getLast? = some m := by rw [← h]; rfl
    exact Nat.le_trans ((List.pairwise_cons.mp up).1 b (.head _)) (head_last (List.pairwise_cons.mp up).2 h2)
theorem sgs_flat {α : Type} {ps : List α} {m : Nat} : ∀ {e : Nat} {r : List Nat}, (e :: r).Pairwise (· ≤ ·) → (e :: r).getLast? = some m → (sgs ps (e :: r)).flatten = (ps.drop e).take (m - e)
  | e, [], _, h => by
    obtain rfl : e = m := Option.some.inj h
    rw [Nat.sub_self, List.take_zero]
    rfl
  | e, b :: r, up, h => by
    have h2 : (b :: r).getLast? = some m := by rw [← h]; rfl
    obtain ⟨u1, u2⟩ := List.pairwise_cons.mp up
    have eb := u1 b (.head _)
    have bm := head_last u2 h2
    have ih := sgs_flat (ps := ps) u2 h2
    show (((ps.drop e).take (b - e)) :: sgs ps (b :: r)).flatten = _
    rw [List.flatten_cons, ih, show m - e = (b - e) + (m - b) by omega, List.take_add, List.drop_drop, show e + (b - e) = b by omega]
theorem cut_mid (xs : List V) {a b : Nat} (ab : a ≤ b) (bl : b ≤ xs.length) : cutV xs (some (a : Int)) (some (b : Int)) = (xs.drop a).take (b - a) := by
  unfold cutV
  rw [HT.sIx_nat, HT.sIx_nat, Nat.min_eq_left bl, Nat.min_eq_left (Nat.le_trans ab bl)]
theorem dpAll_drop {K : PySem.W.Frag} {H : Hp} : ∀ (n : Nat) {xs : List V} {ds : List PyData}, DpAll K H xs ds → DpAll K H (xs.drop n) (ds.drop n)
  | 0, _, _, h => h
  | n + 1, _, _, .nil => .nil
  | n + 1, _, _, .cons _ t => dpAll_drop n t
theorem dpAll_take {K : PySem.W.Frag} {H : Hp} : ∀ (n : Nat) {xs : List V} {ds : List PyData}, DpAll K H xs ds → DpAll K H (xs.take n) (ds.take n)
  | 0, _, _, _ => .nil
  | n + 1, _, _, .nil => .nil
  | n + 1, _, _, .cons a t => .cons a (dpAll_take n t)
def rLenQ (K : PySem.W.Frag) : List V → Hp → VK → Prop := fun xs H Q => ∃ p ys, xs = [.ref p] ∧ (SqL K H p ys ∨ SqT K H p ys) ∧ Q (.int ys.length) H
/-- lists of points, one after the other -/
def Ls (K : PySem.W.Frag) (H : Hp) (as : List Addr) (segs : List (List Pt)) : Prop := as.length = segs.length ∧ ∀ (i : Nat) (a : Addr) (s : List Pt), as[i]? = some a → segs[i]? = some s → LD K H a (s.map pd)
section
variable {P : Program} {w : World} {K : PySem.W.Frag} {mg : Str → Option Value} {base : Heap} {C : Addr}
def spParts (K : PySem.W.Frag) : Sp := fun vs H Q _ => ∃ (p l : Addr) (n : Nat) (ps : List Pt), vs = [.ref p, .ref l] ∧ Dr H p n ∧ n < 900000 ∧ l ≠ p ∧ LD K H l (ps.map pd) ∧ POk ps ∧
  ∀ (r : Addr) (as : List Addr) (segs : List (List Pt)) (H' : Hp), Kp p H H' → Dr H' p (n + 13) → H' r = some (.lst (as.map V.ref)) → Ls K H' as segs → segs.flatten = ps → segs ≠ [] → segs.length ≤ 13 → Q (.ref r) H'
theorem ok_parts {f : Addr} {fd : FuncData} {k : Nat} (F : Fun K "_law_parts" "_law_parts" sParts f fd) (L_next : Cal P w K mg base k "_law_next" ["_law_draws_here"] spNext) (m_range : mg "range" = none) (m_len : mg "len" = none) (m_sorted : mg "sorted" = none) (m_zip : mg "zip" = none) : FnOk P w K mg base CX0 (k + 1) f fd ["_law_draws_here", "_law_points"] (spParts K) := by
  refine F.ok scParts (fun vs H Q E h => ?_) (fun cdv A outer s H vs Q E hr h => ?_)
  · obtain ⟨p, l, n, ps, rfl, _⟩ := h
    rfl
  · obtain ⟨p, l, n, ps, rfl, dr, n9, lp, ld, ok, q⟩ := h
    refine ⟨_, pss_cons (ps_set (i := 2) scParts.nd rfl (.inl rfl) (pe_callB cr_sortedI (by rfl) m_sorted (by decide +kernel) (pa_cons (pe_lc (own := [("_law_k", 3)]) (g := (gName 3)) (tt := tYes) rfl scParts.nd (pi_range1 (by rfl) m_range (pa_cons (pe_op op_mod (pe_cal L_next (hr.mono (by omega)) (by rfl) (pa_cons (pv 0) pa_nil)) pe_int) pa_nil)) (blkOk_by (own := [("_law_k", 3)]) (N := NPt) (sc := defScope sParts) (by decide +kernel)) (fun _ _ _ _ _ => (pg_name (i := 3) scParts.nd rfl (.inl rfl))) (fun _ _ _ _ _ => pts_nil) (fun _ _ _ _ _ => (pe_op op_mod (pe_cal L_next (hr.mono (by omega)) (by rfl) (pa_cons (pv 0) pa_nil)) (pe_op op_add (pe_callB (r := rLenQ K) call_len_seq (by rfl) m_len PySem.boot_len (pa_cons (pv 1) pa_nil)) pe_int)))) pa_nil)))
      (pss_cons (ps_set (i := 4) scParts.nd rfl (.inl rfl) (pe_op op_cat (pe_op op_cat (pe_lst (pa_cons pe_int pa_nil)) (pv 2)) (pe_lst (pa_cons (pe_callB (r := rLenQ K) call_len_seq (by rfl) m_len PySem.boot_len (pa_cons (pv 1) pa_nil)) pa_nil))))
      (pss_one (ps_ret (pe_lc (own := [("_law_one", 5), ("_law_two", 6)]) (g := gTup K 2 _) (tt := tYes) rfl scParts.nd (pi_zip (by rfl) m_zip (pa_cons (pv 4) (pa_cons (pe_slice sl_list (pv 4) (po_some pe_int) po_none) pa_nil))) (blkOk_by (own := [("_law_one", 5), ("_law_two", 6)]) (N := NPt) (sc := defScope sParts) (by decide +kernel)) (fun _ _ _ _ _ => (pg_tup rfl (pgs_cons (pg_name (i := 5) scParts.nd rfl (.inl rfl)) (pgs_cons (pg_name (i := 6) scParts.nd rfl (.inl rfl)) pgs_nil)))) (fun _ _ _ _ _ => pts_nil) (fun _ _ _ _ _ => (pe_slice (r := rSlL K) sl_list (pv 1) (po_some (pv 5)) (po_some (pv 6)))))))), ?_⟩
    have l40 := ok.len
    refine ⟨_, rfl, p, n, rfl, dr, by omega, fun v0 H1 k1 d1 a0 a1 => ⟨_, _, rfl, rfl, (by show (0 : Int) < 12; decide), _, rfl, by omega, by omega, fun D1 nD1 => ?_⟩⟩
    have ld1 : LD K H1 l (ps.map pd) := by
      obtain ⟨_, _, _, hp, _⟩ := id dr
      exact LD.kp k1 hp nfix_lst lp (td_pds ps) ld
    have D1p : D1 ≠ p := d1.ne nD1
    obtain ⟨cn, ecn⟩ : ∃ cn : Nat, (v0 % 12).toNat = cn := ⟨_, rfl⟩
    have cn12 : cn < 12 := by omega
    rw [ecn]
    have ldk : ∀ Hv : Hp, Kp p H1 Hv → LD K Hv l (ps.map pd) := fun Hv kv => by
      obtain ⟨_, _, _, hp, _⟩ := id d1
      exact LD.kp kv hp nfix_lst lp (td_pds ps) ld1
    refine lc_range (n := cn) (fun j Hc => Kp p H1 Hc ∧ Dr Hc p (n + 1 + j) ∧ ∃ ns : List Int, Hc D1 = some (.lst (ns.map V.int)) ∧ ns.length = j ∧ ∀ x, x ∈ ns → 0 ≤ x ∧ x ≤ (ps.length : Nat)) ⟨Kp.of (same_new nD1), d1.same (same_new nD1), [], upd_same, rfl, fun _ z => nomatch z⟩ ?_ ?_
    · rintro j Hc hj ⟨kc, dc, ns, hD, ln, bn⟩
      refine ⟨rfl, ?_⟩
      unfold tYes
      dsimp only
      rw [if_pos rfl]
      refine ⟨_, rfl, p, _, rfl, dc, by omega, fun v Hv kv dv vp _ => ?_⟩
      obtain ⟨xs, hx, hdx⟩ := ldk Hv (kc.trans kv)
      have lx := dl_len hdx
      refine ⟨_, rfl, l, xs, rfl, .inl (SqL.of hx), _, _, rfl, rfl, _, _, rfl, rfl, (by omega), _, kv _ _ D1p hD, ?_, fun b u hb e => ?_, ?_, ns ++ [v % (((xs.length : Nat) : Int) + 1)], ?_, ?_, fun x hx2 => ?_⟩
      · rw [List.length_map]
        exact small1000 (by omega)
      · rw [upd_ne (ne_of_none e nD1)]
        exact (kc.trans kv) b u hb e
      · obtain ⟨a, k, b, h, r⟩ := dv
        exact ⟨a, k, b, by rw [upd_ne D1p.symm]; exact h, r⟩
      · rw [upd_same, List.map_append]
        rfl
      · rw [List.length_append, ln]
        rfl
      · rcases List.mem_append.mp hx2 with h | h
        · exact bn x h
        · obtain rfl := List.mem_singleton.mp h
          have b1 : 0 ≤ v % (((xs.length : Nat) : Int) + 1) := Int.emod_nonneg _ (by omega)
          have b2 : v % (((xs.length : Nat) : Int) + 1) < ((xs.length : Nat) : Int) + 1 := Int.emod_lt_of_pos _ (by omega)
          omega
    · rintro H2 ⟨k2, d2, ns, hD, ln, bn⟩
      refine ⟨D1, ns, rfl, SqL.of hD, fun cs S perm up nS => ?_⟩
      have kS : Same H2 (upd H2 S (.lst (cs.map V.int))) := same_new nS
      have bc : ∀ x, x ∈ cs → 0 ≤ x ∧ x ≤ (ps.length : Nat) := fun x hx => bn x (perm.mem_iff.mp hx)
      have lcs : cs.length = cn := by rw [perm.length_eq, ln]
      refine ⟨(by show 1 ≤ sizeLine; decide), fun A nA => ?_⟩
      have sA : Same (upd H2 S (.lst (cs.map V.int))) (upd (upd H2 S (.lst (cs.map V.int))) A (.lst [.int 0])) := same_new nA
      refine ⟨_, rfl, A, S, _, _, rfl, rfl, upd_same, sA _ _ upd_same, Nat.le_of_lt (small1000 (by show 1 + _ ≤ 1000; rw [List.length_map]; omega)), fun B nB => ?_⟩
      have sB := same_new (o := .lst ([.int 0] ++ cs.map V.int)) nB
      have s2B := (kS.trans sA).trans sB
      obtain ⟨xs, hx, hdx⟩ := (ldk H2 k2).same s2B
      have lx := dl_len hdx
      refine ⟨_, rfl, l, xs, rfl, .inl (SqL.of hx), (by show 1 ≤ sizeLine; decide), fun Cc nC => ?_⟩
      have sC := same_new (o := .lst [.int ((xs.length : Nat) : Int)]) nC
      refine ⟨B, Cc, _, _, rfl, rfl, sC _ _ upd_same, upd_same, Nat.le_of_lt (small1000 (by rw [List.length_append, List.length_map]; show 1 + cs.length + 1 ≤ 1000; omega)), fun Ed nE => ?_⟩
      have sE := same_new (o := .lst (([.int 0] ++ cs.map V.int) ++ [.int ((xs.length : Nat) : Int)])) nE
      have s2E := (s2B.trans sC).trans sE
      obtain ⟨es, ees⟩ : ∃ es : List Nat, 0 :: (cs.map Int.toNat ++ [ps.length]) = es := ⟨_, rfl⟩
      have eE : ([V.int 0] ++ cs.map V.int) ++ [.int ((xs.length : Nat) : Int)] = es.map fun e => V.int ((e : Nat) : Int) := by
        have e1 : cs.map V.int = (cs.map Int.toNat).map fun e => V.int ((e : Nat) : Int) := by
          rw [List.map_map]
          refine List.map_congr_left fun x hx => ?_
          have := (bc x hx).1
          show V.int x = V.int ((x.toNat : Nat) : Int)
          rw [Int.toNat_of_nonneg this]
        rw [e1, ← ees, lx]
        show V.int 0 :: _ = _
        rw [List.map_cons, List.map_append]
        rfl
      have upE : es.Pairwise (· ≤ ·) := by
        rw [← ees]
        refine List.pairwise_cons.mpr ⟨fun _ _ => Nat.zero_le _, List.pairwise_append.mpr ⟨List.pairwise_map.mpr (up.imp fun h => by omega), List.pairwise_singleton _ _, fun a ha b hb => ?_⟩⟩
        obtain ⟨x, hx, rfl⟩ := List.mem_map.mp ha
        obtain rfl := List.mem_singleton.mp hb
        have := (bc x hx).2
        omega
      have boundE : ∀ e, e ∈ es → e ≤ xs.length := fun e he => by
        rw [← ees] at he
        rcases List.mem_cons.mp he with rfl | inr
        · exact Nat.zero_le _
        · rcases List.mem_append.mp inr with h | h
          · obtain ⟨x, hx, rfl⟩ := List.mem_map.mp h
            have := (bc x hx).2
            omega
          · obtain rfl := List.mem_singleton.mp h
            omega
      have flat : (sgs ps es).flatten = ps := by
        have h1 : (0 :: (cs.map Int.toNat ++ [ps.length])).getLast? = some ps.length := by
          show ((0 :: cs.map Int.toNat) ++ [ps.length]).getLast? = _
          rw [List.getLast?_append]
          rfl
        rw [← ees] at upE
        rw [← ees, sgs_flat upE h1, Nat.sub_zero, List.drop_zero, List.take_length]
      have les : es.length = cn + 2 := by
        rw [← ees, List.length_cons, List.length_append, List.length_map, lcs]
        rfl
      have lsg : (sgs ps es).length = cn + 1 := by
        unfold sgs
        rw [List.length_zipWith, List.length_drop, les]
        omega
      obtain ⟨HE, eHE⟩ : ∃ HE, upd (upd (upd (upd (upd H2 S (.lst (cs.map V.int))) A (.lst [.int 0])) B (.lst ([.int 0] ++ cs.map V.int))) Cc (.lst [.int ((xs.length : Nat) : Int)])) Ed (.lst (([.int 0] ++ cs.map V.int) ++ [.int ((xs.length : Nat) : Int)])) = HE := ⟨_, rfl⟩
      have hEd : HE Ed = some (.lst (es.map fun e => V.int ((e : Nat) : Int))) := by
        rw [← eHE, upd_same, eE]
      have hxE : HE l = some (.lst xs) := by
        rw [← eHE]
        exact sE _ _ (sC _ _ hx)
      have hdE : DpAll K HE xs (ps.map pd) := by
        rw [← eHE]
        exact dpAll_same (sC.trans sE) hdx
      have s2H : Same H2 HE := by
        rw [← eHE]
        exact s2E
      dsimp only
      rw [eHE]
      refine ⟨_, rfl, _, rfl, 1, rfl, Ed, _, rfl, SqL.of hEd, fun G nG => ?_⟩
      rw [cut_1, ← List.map_drop]
      have sG : Same HE (upd HE G (.lst ((es.drop 1).map fun e => V.int ((e : Nat) : Int)))) := same_new nG
      obtain ⟨HG, eHG⟩ : ∃ HG, upd HE G (.lst ((es.drop 1).map fun e => V.int ((e : Nat) : Int))) = HG := ⟨_, rfl⟩
      have hG : HG G = some (.lst ((es.drop 1).map fun e => V.int ((e : Nat) : Int))) := by
        rw [← eHG]
        exact upd_same
      rw [eHG] at sG
      rw [eHG]
      have hEd2 := sG _ _ hEd
      have hxG := sG _ _ hxE
      have hdG := dpAll_same sG hdE
      have lzip : (sgs ps es).length = min (es.map fun e => V.int ((e : Nat) : Int)).length ((es.drop 1).map fun e => V.int ((e : Nat) : Int)).length := by
        unfold sgs
        rw [List.length_zipWith, List.length_map, List.length_map]
      refine ⟨Ed, G, _, _, rfl, SqL.of hEd2, SqL.of hG, fun R nR => lc_it (walk_zip lzip) (fun j Hc => Same HG Hc ∧ ∃ as : List Addr, Hc R = some (.lst (as.map V.ref)) ∧ Ls K Hc as ((sgs ps es).take j) ∧ ∀ a, a ∈ as → a ≠ R) ⟨same_new nR, [], upd_same, ⟨rfl, fun i a s e => nomatch e⟩, fun _ z => nomatch z⟩ (fun j Hc _ h => ⟨SqL.of (h.1 _ _ hEd2), SqL.of (h.1 _ _ hG)⟩) ?_ ?_⟩
      · rintro j v Hc Hc' hj ⟨sc, as, hR, ls, nas⟩ ⟨T, x, y, rfl, nT, rfl, ex, ey⟩
        dsimp only at ex ey
        rw [List.getElem?_map] at ex ey
        obtain ⟨ea, ha, rfl⟩ := Option.map_eq_some_iff.mp ex
        obtain ⟨eb, hb, rfl⟩ := Option.map_eq_some_iff.mp ey
        have ab : ea ≤ eb := by
          obtain ⟨i1, r1⟩ := List.getElem?_eq_some_iff.mp ha
          rw [List.getElem?_drop] at hb
          obtain ⟨i2, r2⟩ := List.getElem?_eq_some_iff.mp hb
          rw [← r1, ← r2]
          exact List.pairwise_iff_getElem.mp upE j (1 + j) i1 i2 (by omega)
        have bx : eb ≤ xs.length := boundE eb (List.mem_of_mem_drop (List.mem_of_getElem? hb))
        have sT : Same Hc (upd Hc T (.tup [.int ((ea : Nat) : Int), .int ((eb : Nat) : Int)])) := same_new nT
        refine ⟨T, _, rfl, SqT.of upd_same, rfl, _, _, rfl, _, [], rfl, rfl, rfl, ?_⟩
        unfold tYes
        dsimp only
        rw [if_pos rfl]
        refine ⟨_, rfl, _, rfl, _, rfl, _, rfl, _, rfl, l, xs, rfl, SqL.of ((sc.trans sT) _ _ hxG), fun N nN => ?_⟩
        rw [cut_mid xs ab bx]
        have sN : Same (upd Hc T (.tup [.int ((ea : Nat) : Int), .int ((eb : Nat) : Int)])) (upd (upd Hc T (.tup [.int ((ea : Nat) : Int), .int ((eb : Nat) : Int)])) N (.lst ((xs.drop ea).take (eb - ea)))) := same_new nN
        have sTN := sT.trans sN
        have hR2 := sTN _ _ hR
        have RN : R ≠ N := ne_of_none (sT _ _ hR) nN
        have las : as.length ≤ 13 := by
          rw [ls.1, List.length_take]
          omega
        have seg : (sgs ps es)[j]? = some ((ps.drop ea).take (eb - ea)) := zw_at ha hb
        refine ⟨_, hR2, ?_, same_put nR (sc.trans sTN), as ++ [N], ?_, ?_, ?_⟩
        · rw [List.length_map]
          exact small1000 (by omega)
        · rw [upd_same, List.map_append]
          rfl
        · rw [take_snoc seg]
          have put : ∀ (a : Addr) (ds : List PyData), (∀ d, d ∈ ds → TD d) → a ≠ R → LD K (upd (upd Hc T (.tup [.int ((ea : Nat) : Int), .int ((eb : Nat) : Int)])) N (.lst ((xs.drop ea).take (eb - ea)))) a ds → LD K (upd (upd (upd Hc T (.tup [.int ((ea : Nat) : Int), .int ((eb : Nat) : Int)])) N (.lst ((xs.drop ea).take (eb - ea)))) R (.lst (as.map V.ref ++ [.ref N]))) a ds := fun a ds td ne h => h.kt (KT.put hR2 nfix_lst) (fun u e => by rw [upd_ne ne]; exact e) td
          refine ⟨by rw [List.length_append, List.length_append, ls.1]; rfl, fun i a s e1 e2 => ?_⟩
          rcases Nat.lt_or_ge i as.length with lt | ge
          · rw [List.getElem?_append_left lt] at e1
            rw [List.getElem?_append_left (by rw [← ls.1]; exact lt)] at e2
            exact put a _ (td_pds s) (nas a (List.mem_of_getElem? e1)) ((ls.2 i a s e1 e2).same sTN)
          · rw [List.getElem?_append_right ge] at e1
            rw [List.getElem?_append_right (by rw [← ls.1]; exact ge), ← ls.1] at e2
            obtain ⟨i1, r1⟩ := List.getElem?_eq_some_iff.mp e1
            have i0 : i - as.length = 0 := by
              have : i - as.length < 1 := i1
              omega
            rw [i0] at e1 e2
            cases e1
            cases e2
            refine put N _ (td_pds _) RN.symm ⟨_, upd_same, ?_⟩
            rw [List.map_take]
            rw [List.map_drop]
            exact dpAll_take _ (dpAll_drop _ (dpAll_same (sc.trans sTN) hdG))
        · intro a ha2
          rcases List.mem_append.mp ha2 with h | h
          · exact nas a h
          · obtain rfl := List.mem_singleton.mp h
            exact RN.symm
      · rintro Hf ⟨sf, as, hR, ls, _⟩
        rw [List.take_length] at ls
        refine q R as (sgs ps es) Hf ?_ ?_ hR ls flat ?_ (by omega)
        · exact (k1.trans k2).trans (Kp.of (s2H.trans (sG.trans sf)))
        · have d3 := d2.same (s2H.trans (sG.trans sf))
          obtain ⟨q1, q2, q3, q4, q5, q6⟩ := d3
          exact ⟨q1, q2, q3, q4, q5, by omega⟩
        · intro z
          rw [z] at lsg
          cases lsg
end
end Tg

namespace Tg
open PySem PySem.Spec PyProof.Rows L2
abbrev sFlds : Stmt := topS 21
abbrev sMov : Stmt := topS 26
abbrev NMv : List Str := ["_law_draws_here", "_law_points", "_law_by", "_law_one", "_law_told", "_law_time", "_law_worth", "_law_ours", "_law_theirs"]
theorem scFlds : FnScope ["_law_fold", "_law_told"] ["_law_fold"] (defScope sFlds) := ⟨rfl, rfl, rfl, by decide +kernel, rfl, by decide +kernel, by decide +kernel⟩
theorem scMov : FnScope NMv ["_law_draws_here", "_law_points"] (defScope sMov) := ⟨rfl, rfl, rfl, by decide +kernel, rfl, by decide +kernel, by decide +kernel⟩
/-- a fold as a row of things -/
def due (F : FD) (vf vl : V) : List V := [.int F.cnt, .int F.tot, .int F.sq, vw F.lo, vw F.hi, vf, vl, .int F.ris, .int F.hel]
theorem eq_nil (ps : List Pt) : PyData.eqv (.list (ps.map pd)) (.list []) = ps.isEmpty := by
  cases ps <;> rfl
/-! ### points moved -/
def mvd (by_ : Int) (ps : List Pt) : List Pt := ps.map fun p => (p.1 + by_, p.2)
theorem zw_map {α β : Type} {f : β → β → Int} {g : α → β} {h : α → α → Int} (e : ∀ a b, f (g a) (g b) = h a b) : ∀ xs ys : List α, List.zipWith f (xs.map g) (ys.map g) = List.zipWith h xs ys
  | [], _ => by rfl
  | _ :: _, [] => by rfl
  | a :: xs, b :: ys => by
    show f (g a) (g b) :: List.zipWith f (xs.map g) (ys.map g) = h a b :: List.zipWith h xs ys
    rw [e, zw_map e xs ys]
theorem fOf_mvd (b : Int) (ps : List Pt) : fOf (mvd b ps) = ⟨(fOf ps).cnt, (fOf ps).tot, (fOf ps).sq, (fOf ps).lo, (fOf ps).hi, (fOf ps).fst.map fun p => (p.1 + b, p.2), (fOf ps).lst.map fun p => (p.1 + b, p.2), (fOf ps).ris, (fOf ps).hel⟩ := by
  have w : wts (mvd b ps) = wts ps := by
    unfold wts mvd
    rw [List.map_map]
    rfl
  have h : List.zipWith hld (mvd b ps) ((mvd b ps).drop 1) = List.zipWith hld ps (ps.drop 1) := by
    unfold mvd
    rw [← List.map_drop]
    refine zw_map (fun a c => ?_) ps (ps.drop 1)
    show a.2 * ((c.1 + b) - (a.1 + b)) = a.2 * (c.1 - a.1)
    rw [show (c.1 + b) - (a.1 + b) = c.1 - a.1 by omega]
  have l : (mvd b ps).length = ps.length := List.length_map ..
  have f1 : (mvd b ps).head? = ps.head?.map fun p => (p.1 + b, p.2) := by
    unfold mvd
    rw [List.head?_map]
  have f2 : (mvd b ps).getLast? = ps.getLast?.map fun p => (p.1 + b, p.2) := by
    unfold mvd
    rw [List.getLast?_map]
  unfold fOf
  rw [w, h, l, f1, f2]
theorem POk.mvd {ps : List Pt} (ok : POk ps) (b : Int) : POk (mvd b ps) := by
  refine ⟨by unfold Tg.mvd; rw [List.length_map]; exact ok.len, fun i p q h1 h2 => ?_, fun p hp => ?_⟩
  · unfold Tg.mvd at h1 h2
    rw [List.getElem?_map] at h1 h2
    obtain ⟨a, ha, rfl⟩ := Option.map_eq_some_iff.mp h1
    obtain ⟨c, hc, rfl⟩ := Option.map_eq_some_iff.mp h2
    have := ok.up i a c ha hc
    show a.1 + b < c.1 + b
    omega
  · obtain ⟨a, ha, rfl⟩ := List.mem_map.mp hp
    exact ok.sz a ha
section
variable {P : Program} {w : World} {K : PySem.W.Frag} {mg : Str → Option Value} {base : Heap} {C : Addr}
def spFlds (K : PySem.W.Frag) (C : Addr) : Sp := fun vs H Q _ => ∃ (a : Addr) (F : FD), vs = [.ref a] ∧ FdO K C H a F ∧ ∀ t vf vl H', Same H H' → SqT K H' t (due F vf vl) → PO K H' vf F.fst → PO K H' vl F.lst → Q (.ref t) H'
theorem ok_flds {f : Addr} {fd : FuncData} {k : Nat} (F : Fun K "_law_fields" "_law_fields" sFlds f fd) (T : TFold K C) : FnOk P w K mg base CX0 (k + 1) f fd ["_law_fold"] (spFlds K C) := by
  refine F.ok scFlds (fun vs H Q E h => ?_) (fun cdv A outer s H vs Q E hr h => ?_)
  · obtain ⟨a, F, rfl, _⟩ := h
    rfl
  · obtain ⟨a, F, rfl, ⟨dA, fA, lA, eA, pA, zA⟩, q⟩ := h
    refine ⟨_, pss_cons (ps_set (i := 1) scFlds.nd rfl (.inl rfl) (pe_tup (pa_cons (pe_fld (pv 0) rfl) (pa_cons (pe_fld (pv 0) rfl) (pa_cons (pe_fld (pv 0) rfl) (pa_cons (pe_fld (pv 0) rfl) (pa_cons (pe_fld (pv 0) rfl) pa_nil)))))))
      (pss_one (ps_ret (pe_op op_catA (pv 1) (pe_tup (pa_cons (pe_fld (pv 0) rfl) (pa_cons (pe_fld (pv 0) rfl) (pa_cons (pe_fld (pv 0) rfl) (pa_cons (pe_fld (pv 0) rfl) pa_nil)))))))), ?_⟩
    refine ⟨_, rfl, a, C, dA, _, _, rfl, eA, T.cl, T.no _ (by decide), rfl, _, rfl, a, C, dA, _, _, rfl, eA, T.cl, T.no _ (by decide), rfl, _, rfl, a, C, dA, _, _, rfl, eA, T.cl, T.no _ (by decide), rfl, _, rfl, a, C, dA, _, _, rfl, eA, T.cl, T.no _ (by decide), rfl, _, rfl, a, C, dA, _, _, rfl, eA, T.cl, T.no _ (by decide), rfl, (by show 5 ≤ sizeLine; decide), fun t nt => ?_⟩
    have s1 : Same H (upd H t (.tup [.int F.cnt, .int F.tot, .int F.sq, vw F.lo, vw F.hi])) := same_new nt
    have eA1 := s1 _ _ eA
    refine ⟨_, rfl, _, rfl, a, C, dA, _, _, rfl, eA1, T.cl, T.no _ (by decide), rfl, _, rfl, a, C, dA, _, _, rfl, eA1, T.cl, T.no _ (by decide), rfl, _, rfl, a, C, dA, _, _, rfl, eA1, T.cl, T.no _ (by decide), rfl, _, rfl, a, C, dA, _, _, rfl, eA1, T.cl, T.no _ (by decide), rfl, (by show 4 ≤ sizeLine; decide), fun u nu => ?_⟩
    have s2 : Same (upd H t (.tup [.int F.cnt, .int F.tot, .int F.sq, vw F.lo, vw F.hi])) (upd (upd H t (.tup [.int F.cnt, .int F.tot, .int F.sq, vw F.lo, vw F.hi])) u (.tup [fA, lA, .int F.ris, .int F.hel])) := same_new nu
    refine ⟨t, u, _, _, rfl, rfl, SqT.of (s2 _ _ upd_same), SqT.of upd_same, (by show 5 + 4 ≤ sizeLine; decide), (fun z => nomatch z), (fun _ z => nomatch z), fun _ _ r nr => ?_⟩
    have s3 := (s1.trans s2).trans (same_new (o := .tup (due F fA lA)) nr)
    exact q r fA lA _ s3 (SqT.of upd_same) (pA.same s3) (zA.same s3)
end
end Tg

namespace Tg
open PySem PySem.Spec PyProof.Rows L2
section
variable {P : Program} {w : World} {K : PySem.W.Frag} {mg : Str → Option Value} {base : Heap} {C : Addr}
/-- the own == of folds -/
def OwnE (P : Program) (w : World) (K : PySem.W.Frag) (mg : Str → Option Value) (base : Heap) (C : Addr) (k : Nat) (f : Addr) (fd : FuncData) : Prop := FnOk P w K mg base CX0 k f fd ["self", "other"] (spEq (SameF K C)) ∧ PySem.W.findIn K (.ref C) "__eq__" = some (some (.ref f)) ∧ PySem.W.isFn K (.ref f) = true ∧ Binds K fd ["self", "other"] [] ∧ NeC K C f
theorem FdO.ins {H : Hp} {a b : Addr} {F : FD} (hA : FdO K C H a F) (hB : FdO K C H b F) : DIns C (SameF K C) (.ref a) (.ref b) H := by
  obtain ⟨dA, fA, lA, eA, _⟩ := id hA
  obtain ⟨dB, fB, lB, eB, _⟩ := id hB
  exact ⟨a, b, dA, dB, _, _, rfl, rfl, eA, eB, F, hA, hB⟩
def seven (F : FD) : List PyData := [.int F.cnt, .int F.tot, .int F.sq, dw F.lo, dw F.hi, .int F.ris, .int F.hel]
theorem dp_seven {H : Hp} {F : FD} : DpAll K H [.int F.cnt, .int F.tot, .int F.sq, vw F.lo, vw F.hi, .int F.ris, .int F.hel] (seven F) := .cons (.int _) (.cons (.int _) (.cons (.int _) (.cons (dp_vw _) (.cons (dp_vw _) (.cons (.int _) (.cons (.int _) .nil))))))
theorem seven_form (F : FD) : SeqAt.shaped (.tuple (seven F)) = true ∧ PyData.eqv (.tuple (seven F)) (.tuple (seven F)) = true := by
  constructor
  · obtain ⟨a, b, c, lo, hi, d, e, g, h⟩ := F
    refine shaped_of ?_ ?_
    · cases lo <;> cases hi <;> rfl
    · cases lo <;> cases hi <;> (show 1 ≤ 64; decide)
  · show ((F.cnt == F.cnt) && ((F.tot == F.tot) && ((F.sq == F.sq) && (PyData.eqv (dw F.lo) (dw F.lo) && (PyData.eqv (dw F.hi) (dw F.hi) && ((F.ris == F.ris) && ((F.hel == F.hel) && true))))))) = true
    rw [beq_self_eq_true, beq_self_eq_true, beq_self_eq_true, beq_self_eq_true, beq_self_eq_true, (dw_form _).2, (dw_form _).2]
    rfl
theorem pair_form (a b : Pt) : SeqAt.shaped (.tuple [pd a, pd b]) = true ∧ PyData.eqv (.tuple [pd a, pd b]) (.tuple [pd a, pd b]) = true := by
  constructor
  · exact shaped_of rfl (by show 2 ≤ 64; decide)
  · show (PyData.eqv (pd a) (pd a) && (PyData.eqv (pd b) (pd b) && true)) = true
    rw [ref_pd, ref_pd]
    rfl
def spMov (K : PySem.W.Frag) : Sp := fun vs H Q _ => ∃ (p l : Addr) (n : Nat) (ps : List Pt), vs = [.ref p, .ref l] ∧ Dr H p n ∧ n < 900000 ∧ l ≠ p ∧ LD K H l (ps.map pd) ∧ POk ps ∧ ∀ H', Kp p H H' → Dr H' p (n + 1) → Q (.bl true) H'
theorem ok_mov {f fE : Addr} {fd fdE : FuncData} {k : Nat} (F : Fun K "_law_moved_right" "_law_moved_right" sMov f fd) (T : TFold K C) (OE : OwnE P w K mg base C k fE fdE) (L_next : Cal P w K mg base k "_law_next" ["_law_draws_here"] spNext) (C_fold_of : Cal P w K mg base k "fold_of" ["points"] (spFO K C)) (L_fields : Cal P w K mg base k "_law_fields" ["_law_fold"] (spFlds K C)) :
    FnOk P w K mg base CX0 (k + 1) f fd ["_law_draws_here", "_law_points"] (spMov K) := by
  obtain ⟨FE, hs, hf, hbE, _⟩ := OE
  refine F.ok scMov (fun vs H Q E h => ?_) (fun cdv A outer s H vs Q E hr h => ?_)
  · obtain ⟨p, l, n, ps, rfl, _⟩ := h
    rfl
  · obtain ⟨p, l, n, ps, rfl, dr, n9, lp, ld, ok, q⟩ := h
    have hu := hr.units
    refine ⟨_, pss_cons (ps_set (i := 2) scMov.nd rfl (.inr rfl) (pe_op op_sub (pe_op op_mod (pe_cal L_next (hr.mono (by omega)) (by rfl) (pa_cons (pv 0) pa_nil)) (pe_op op_pow pe_int pe_int)) pe_int))
      (pss_cons (ps_set (i := 3) scMov.nd rfl (.inl rfl) (pe_cal C_fold_of (hr.mono (by omega)) (by rfl) (pa_cons (pv 1) pa_nil)))
      (pss_cons (ps_set (i := 4) scMov.nd rfl (.inl rfl) (pe_cal C_fold_of (hr.mono (by omega)) (by rfl) (pa_cons (pe_lc (own := [("_law_time", 5), ("_law_worth", 6)]) (g := gTup K 2 _) (tt := tYes) rfl scMov.nd (pi_list (pv 1)) (blkOk_by (own := [("_law_time", 5), ("_law_worth", 6)]) (N := NMv) (sc := defScope sMov) (by decide +kernel)) (fun _ _ _ _ _ => (pg_tup rfl (pgs_cons (pg_name (i := 5) scMov.nd rfl (.inl rfl)) (pgs_cons (pg_name (i := 6) scMov.nd rfl (.inl rfl)) pgs_nil)))) (fun _ _ _ _ _ => pts_nil) (fun _ _ _ _ _ => (pe_tup (pa_cons (pe_op op_add (pv 5) (pv 2)) (pa_cons (pv 6) pa_nil))))) pa_nil)))
      (pss_cons (ps_if (pt_cmpR (op_eqD hu) (pv 1) (pe_lst pa_nil) (nomark _))
        (pss_one (ps_ret (pe_cmpR (op_eqG (rcG_ins (C := C) FE hs hf hbE pass0) (hr.mono (by omega))) (pv 4) (pv 3) (nomark _))))
        pss_nil)
      (pss_cons (ps_if (pt_cmpR (op_neD hu) (pe_tup (pa_cons (pe_fld (pv 4) rfl) (pa_cons (pe_fld (pv 4) rfl) pa_nil))) (pe_tup (pa_cons (pe_tup (pa_cons (pe_op op_add (pe_ix ix_tup (pe_fld (pv 3) rfl) pe_int (fun _ _ => rfl)) (pv 2)) (pa_cons (pe_ix ix_tup (pe_fld (pv 3) rfl) pe_int (fun _ _ => rfl)) pa_nil))) (pa_cons (pe_tup (pa_cons (pe_op op_add (pe_ix ix_tup (pe_fld (pv 3) rfl) pe_int (fun _ _ => rfl)) (pv 2)) (pa_cons (pe_ix ix_tup (pe_fld (pv 3) rfl) pe_int (fun _ _ => rfl)) pa_nil))) pa_nil))) (nomark _))
        (pss_one (ps_ret pe_bl))
        pss_nil)
      (pss_cons (ps_par (i := 7) (j := 8) rfl scMov.nd rfl rfl (by decide) rfl rfl (pa_cons (pe_cal L_fields (hr.mono (by omega)) (by rfl) (pa_cons (pv 3) pa_nil)) (pa_cons (pe_cal L_fields (hr.mono (by omega)) (by rfl) (pa_cons (pv 4) pa_nil)) pa_nil)) rfl)
      (pss_one (ps_ret (pe_cmpR (op_eqD hu) (pe_op op_catA (pe_slice sl_tup (pv 7) po_none (po_some pe_int)) (pe_slice sl_tup (pv 7) (po_some pe_int) po_none)) (pe_op op_catA (pe_slice sl_tup (pv 8) po_none (po_some pe_int)) (pe_slice sl_tup (pv 8) (po_some pe_int) po_none)) (nomark _))))))))), ?_⟩
    refine ⟨_, rfl, p, n, rfl, dr, by omega, fun v H1 k1 d1 _ _ => ?_⟩
    obtain ⟨b, eb⟩ : ∃ b : Int, v % 10 ^ Int.toNat 6 - 5000 = b := ⟨_, rfl⟩
    refine ⟨_, _, rfl, rfl, ⟨by decide, by decide, by decide⟩, _, _, rfl, rfl, (by show (0 : Int) < 10 ^ Int.toNat 6; decide), _, _, rfl, rfl, ?_⟩
    dsimp only
    rw [eb]
    have ld1 : LD K H1 l (ps.map pd) := by
      obtain ⟨_, _, _, hp, _⟩ := id dr
      exact LD.kp k1 hp nfix_lst lp (td_pds ps) ld
    obtain ⟨xs, hx, hdx⟩ := ld1
    have lx := dl_len hdx
    have l40 := ok.len
    refine ⟨_, rfl, l, ps, rfl, ⟨xs, SqL.of hx, hdx⟩, ok, fun a H2 s2 fa => ?_⟩
    have hx2 := s2 _ _ hx
    have hd2 := dpAll_same s2 hdx
    refine ⟨_, rfl, l, rfl, ⟨_, SqL.of hx2⟩, fun D1 nD1 => lc_list (K := K) (a := l) (xs := xs) (fun j Hc => Same H2 Hc ∧ LD K Hc D1 ((mvd b (ps.take j)).map pd)) ⟨same_new nD1, [], upd_same, .nil⟩ (fun j Hc _ h => SqL.of (h.1 _ _ hx2)) ?_ ?_⟩
    · rintro j v2 Hc hj ⟨sc, ys, hD, hdy⟩
      obtain ⟨r, hr1, d_r⟩ := dl_at hd2 hj
      obtain ⟨t, rfl, ht⟩ := dp_pd (dp_same sc d_r)
      refine ⟨t, _, rfl, ht, rfl, _, _, rfl, _, [], rfl, rfl, rfl, ?_⟩
      unfold tYes
      dsimp only
      rw [if_pos rfl]
      refine ⟨_, rfl, _, rfl, _, _, rfl, rfl, _, rfl, (by show 2 ≤ sizeLine; decide), fun u nu => ?_⟩
      have su : Same Hc (upd Hc u (.tup [.int (r.1 + b), .int r.2])) := same_new nu
      have ly := dl_len hdy
      refine ⟨_, su _ _ hD, ?_, same_put nD1 (sc.trans su), ?_⟩
      · rw [ly]
        unfold mvd
        rw [List.length_map, List.length_take]
        exact small1000 (by omega)
      · have e : mvd b (ps.take (j + 1)) = mvd b (ps.take j) ++ [(r.1 + b, r.2)] := by
          unfold mvd
          rw [take_snoc hr1, List.map_append]
          rfl
        rw [e, List.map_append]
        exact LD.snoc (KT.of su) (su _ _ hD) hdy (td_pds _) (pd_new (x := (r.1 + b, r.2)) upd_same) (td_pd _)
    · rintro H3 ⟨s3, ld3⟩
      rw [lx, List.take_length] at ld3
      obtain ⟨ys, hD, hdy⟩ := ld3
      refine ⟨D1, mvd b ps, rfl, ⟨ys, SqL.of hD, hdy⟩, ok.mvd b, fun c H4 s4 fc => ?_⟩
      rw [fOf_mvd] at fc
      have s24 := s3.trans s4
      have fa4 := fa.same s24
      have hx4 := s24 _ _ hx2
      have hd4 := dpAll_same s24 hd2
      have kd : Kp p H H4 ∧ Dr H4 p (n + 1) := ⟨k1.trans (Kp.of (s2.trans s24)), d1.same (s2.trans s24)⟩
      refine ⟨_, rfl, (by show 0 ≤ sizeLine; decide), fun z nz => ?_⟩
      have sz : Same H4 (upd H4 z (.lst [])) := same_new nz
      refine ⟨_, _, .lst (SqL.of (sz _ _ hx4)) (dpAll_same sz hd4), .lst (SqL.of upd_same) .nil, (pds_form ps).1, (pds_form []).1, _, rfl, ?_⟩
      rw [eq_nil]
      cases ps with
      | nil => exact if_t ⟨_, rfl, _, rfl, (fc.same sz).ins (fa4.same sz), fun H' e => q H' (kd.1.trans (Kp.of (sz.trans e))) (kd.2.same (sz.trans e))⟩
      | cons p0 pr =>
        obtain ⟨ps, eps⟩ : ∃ ps, p0 :: pr = ps := ⟨_, rfl⟩
        have f0 : ∃ x, (fOf ps).fst = some x := by
          rw [← eps]
          exact ⟨p0, rfl⟩
        have f9 : ∃ x, (fOf ps).lst = some x := by
          rw [← eps]
          exact ⟨_, List.getLast?_eq_some_getLast (List.cons_ne_nil p0 pr)⟩
        rw [eps] at fc fa4
        obtain ⟨F, eF⟩ : ∃ F, fOf ps = F := ⟨_, rfl⟩
        rw [eF] at fc fa4 f0 f9
        obtain ⟨x1, e1⟩ := f0
        obtain ⟨x9, e9⟩ := f9
        have fa5 := fa4.same sz
        have fc5 := fc.same sz
        obtain ⟨dA, fA, lA, eA4, pA, zA⟩ := id fa5
        obtain ⟨dC, fC, lC, eC4, pC, zC⟩ := id fc5
        rw [e1] at pA pC
        rw [e9] at zA zC
        obtain ⟨tA, rfl, hA⟩ := pA
        obtain ⟨uA, rfl, gA⟩ := zA
        obtain ⟨tC, rfl, hC⟩ := pC
        obtain ⟨uC, rfl, gC⟩ := zC
        refine if_f ⟨_, rfl, c, C, dC, _, _, rfl, eC4, T.cl, T.no _ (by decide), rfl, _, rfl, c, C, dC, _, _, rfl, eC4, T.cl, T.no _ (by decide), rfl, (by show 2 ≤ sizeLine; decide), fun m nm => ?_⟩
        have sm : Same (upd H4 z (.lst [])) (upd (upd H4 z (.lst [])) m (.tup [.ref tC, .ref uC])) := same_new nm
        have eA5 := sm _ _ eA4
        have hA5 := sqT_same sm hA
        have gA5 := sqT_same sm gA
        refine ⟨_, rfl, a, C, dA, _, _, rfl, eA5, T.cl, T.no _ (by decide), rfl, tA, _, _, _, rfl, rfl, hA5, rfl, _, rfl, _, _, rfl, rfl, _, rfl, a, C, dA, _, _, rfl, eA5, T.cl, T.no _ (by decide), rfl, tA, _, _, _, rfl, rfl, hA5, rfl, (by show 2 ≤ sizeLine; decide), fun m1 nm1 => ?_⟩
        have s6 : Same (upd (upd H4 z (.lst [])) m (.tup [.ref tC, .ref uC])) (upd (upd (upd H4 z (.lst [])) m (.tup [.ref tC, .ref uC])) m1 (.tup [.int (x1.1 + b), .int x1.2])) := same_new nm1
        have eA6 := s6 _ _ eA5
        have gA6 := sqT_same s6 gA5
        refine ⟨_, rfl, a, C, dA, _, _, rfl, eA6, T.cl, T.no _ (by decide), rfl, uA, _, _, _, rfl, rfl, gA6, rfl, _, rfl, _, _, rfl, rfl, _, rfl, a, C, dA, _, _, rfl, eA6, T.cl, T.no _ (by decide), rfl, uA, _, _, _, rfl, rfl, gA6, rfl, (by show 2 ≤ sizeLine; decide), fun m2 nm2 => ⟨(by show 2 ≤ sizeLine; decide), fun m3 nm3 => ?_⟩⟩
        have s7 : Same (upd (upd (upd H4 z (.lst [])) m (.tup [.ref tC, .ref uC])) m1 (.tup [.int (x1.1 + b), .int x1.2])) (upd (upd (upd (upd H4 z (.lst [])) m (.tup [.ref tC, .ref uC])) m1 (.tup [.int (x1.1 + b), .int x1.2])) m2 (.tup [.int (x9.1 + b), .int x9.2])) := same_new nm2
        have s8 : Same (upd (upd (upd (upd H4 z (.lst [])) m (.tup [.ref tC, .ref uC])) m1 (.tup [.int (x1.1 + b), .int x1.2])) m2 (.tup [.int (x9.1 + b), .int x9.2])) (upd (upd (upd (upd (upd H4 z (.lst [])) m (.tup [.ref tC, .ref uC])) m1 (.tup [.int (x1.1 + b), .int x1.2])) m2 (.tup [.int (x9.1 + b), .int x9.2])) m3 (.tup [.ref m1, .ref m2])) := same_new nm3
        have s58 := (s6.trans s7).trans s8
        have dm : Dp K (upd (upd (upd (upd (upd H4 z (.lst [])) m (.tup [.ref tC, .ref uC])) m1 (.tup [.int (x1.1 + b), .int x1.2])) m2 (.tup [.int (x9.1 + b), .int x9.2])) m3 (.tup [.ref m1, .ref m2])) (.ref m) (.tuple [pd (x1.1 + b, x1.2), pd (x9.1 + b, x9.2)]) := .tup (SqT.of (s58 _ _ upd_same)) (.cons (.tup (sqT_same (sm.trans s58) hC) (.cons (.int _) (.cons (.int _) .nil))) (.cons (.tup (sqT_same (sm.trans s58) gC) (.cons (.int _) (.cons (.int _) .nil))) .nil))
        have dn : Dp K (upd (upd (upd (upd (upd H4 z (.lst [])) m (.tup [.ref tC, .ref uC])) m1 (.tup [.int (x1.1 + b), .int x1.2])) m2 (.tup [.int (x9.1 + b), .int x9.2])) m3 (.tup [.ref m1, .ref m2])) (.ref m3) (.tuple [pd (x1.1 + b, x1.2), pd (x9.1 + b, x9.2)]) := .tup (SqT.of upd_same) (.cons (dp_same (s7.trans s8) (pd_new (x := (x1.1 + b, x1.2)) upd_same)) (.cons (dp_same s8 (pd_new (x := (x9.1 + b, x9.2)) upd_same)) .nil))
        refine ⟨_, _, dm, dn, (pair_form _ _).1, (pair_form _ _).1, _, rfl, if_n (by show (!PyData.eqv _ _) = false; rw [(pair_form _ _).2]; rfl) ?_⟩
        have s48 := (sz.trans sm).trans s58
        refine ⟨_, rfl, a, F, rfl, fa4.same s48, fun t1 vf1 vl1 H9 s9 h1 _ _ => ⟨_, rfl, c, _, rfl, fc.same (s48.trans s9), fun t2 vf2 vl2 HA sA h2 _ _ => ⟨_, _, rfl, ?_⟩⟩⟩
        have h1A := sqT_same sA h1
        refine ⟨_, rfl, 5, rfl, t1, _, rfl, h1A, (by rintro ⟨_, z⟩; cases z), fun A1 nA1 => ?_⟩
        have sa1 := same_new (o := .tup (cutV (due F vf1 vl1) none (some 5))) nA1
        refine ⟨_, rfl, 7, rfl, t1, _, rfl, sqT_same sa1 h1A, (by rintro ⟨z, _⟩; cases z), fun B1 nB1 => ?_⟩
        have sb1 := same_new (o := .tup (cutV (due F vf1 vl1) (some 7) none)) nB1
        refine ⟨A1, B1, _, _, rfl, rfl, SqT.of (sb1 _ _ upd_same), SqT.of upd_same, (by show 5 + 2 ≤ sizeLine; decide), (fun z => nomatch z), (fun _ z => nomatch z), fun _ _ R1 nR1 => ?_⟩
        have sr1 := same_new (o := .tup (cutV (due F vf1 vl1) none (some 5) ++ cutV (due F vf1 vl1) (some 7) none)) nR1
        have sA1 := (sa1.trans sb1).trans sr1
        have h2A := sqT_same sA1 h2
        refine ⟨_, rfl, 5, rfl, t2, _, rfl, h2A, (by rintro ⟨_, z⟩; cases z), fun A2 nA2 => ?_⟩
        have sa2 := same_new (o := .tup (cutV (due F vf2 vl2) none (some 5))) nA2
        refine ⟨_, rfl, 7, rfl, t2, _, rfl, sqT_same sa2 h2A, (by rintro ⟨z, _⟩; cases z), fun B2 nB2 => ?_⟩
        have sb2 := same_new (o := .tup (cutV (due F vf2 vl2) (some 7) none)) nB2
        refine ⟨A2, B2, _, _, rfl, rfl, SqT.of (sb2 _ _ upd_same), SqT.of upd_same, (by show 5 + 2 ≤ sizeLine; decide), (fun z => nomatch z), (fun _ z => nomatch z), fun _ _ R2 nR2 => ?_⟩
        have sr2 := same_new (o := .tup (cutV (due F vf2 vl2) none (some 5) ++ cutV (due F vf2 vl2) (some 7) none)) nR2
        have sA2 := (sa2.trans sb2).trans sr2
        refine ⟨_, _, .tup (SqT.of (sA2 _ _ upd_same)) (dp_seven (F := F)), .tup (SqT.of upd_same) (dp_seven (F := F)), (seven_form F).1, (seven_form F).1, ?_⟩
        rw [(seven_form F).2]
        have fin := s48.trans ((s9.trans sA).trans (sA1.trans sA2))
        exact q _ (kd.1.trans (Kp.of fin)) (kd.2.same fin)
end
end Tg

namespace Tg
open PySem PySem.Spec PyProof.Rows L2
/-! ### points with other worths -/
def wmap (f : Int → Int) (ps : List Pt) : List Pt := ps.map fun p => (p.1, f p.2)
theorem wmap_len (f : Int → Int) (ps : List Pt) : (wmap f ps).length = ps.length := List.length_map ..
theorem wts_wmap (f : Int → Int) (ps : List Pt) : wts (wmap f ps) = (wts ps).map f := by
  unfold wts wmap
  rw [List.map_map]
  rw [List.map_map]
  rfl
theorem wmap_snoc {f : Int → Int} {ps : List Pt} {j : Nat} {r : Pt} (h : ps[j]? = some r) : wmap f (ps.take (j + 1)) = wmap f (ps.take j) ++ [(r.1, f r.2)] := by
  unfold wmap
  rw [take_snoc h, List.map_append]
  rfl
theorem POk.wmap {ps : List Pt} (ok : POk ps) {f : Int → Int} (hf : ∀ p, p ∈ ps → (f p.2).natAbs < 2 ^ 60) : POk (Tg.wmap f ps) := by
  refine ⟨by rw [wmap_len]; exact ok.len, fun i p q h1 h2 => ?_, fun p hp => ?_⟩
  · unfold Tg.wmap at h1 h2
    rw [List.getElem?_map] at h1 h2
    obtain ⟨a, ha, rfl⟩ := Option.map_eq_some_iff.mp h1
    obtain ⟨c, hc, rfl⟩ := Option.map_eq_some_iff.mp h2
    exact ok.up i a c ha hc
  · obtain ⟨a, ha, rfl⟩ := List.mem_map.mp hp
    exact hf a ha
theorem sum_mul (b : Int) : ∀ ns : List Int, (ns.map fun w => w * b).sum = ns.sum * b
  | [] => by
    show (0 : Int) = 0 * b
    omega
  | a :: r => by
    rw [List.map_cons, List.sum_cons, List.sum_cons, sum_mul b r, Int.add_mul]
theorem stp_mul {b : Int} (h : 0 ≤ b) (x y : Int) : stp (x * b) (y * b) = stp x y * b := by
  unfold stp
  rcases Int.lt_or_eq_of_le h with hp | rfl
  · by_cases c : y ≥ x
    · rw [if_pos c, if_pos (Int.mul_le_mul_of_nonneg_right c h), Int.sub_mul]
    · rw [if_neg c, if_neg (fun z => c (Int.le_of_mul_le_mul_right z hp))]
      by_cases d : 0 > y
      · rw [if_pos d, if_pos (Int.mul_neg_of_neg_of_pos d hp), Int.zero_mul]
      · rw [if_neg d, if_neg (fun z => d (by
          by_cases g : y < 0
          · exact g
          · exact absurd z (Int.not_lt.mpr (Int.mul_nonneg (by omega) h))))]
  · rw [Int.mul_zero, Int.mul_zero, Int.mul_zero, if_pos (Int.le_refl _)]
    rfl
theorem zw_sum {α : Type} {f g : α → α → Int} {h : α → α} {b : Int} (e : ∀ x y, f (h x) (h y) = g x y * b) : ∀ xs ys : List α, (List.zipWith f (xs.map h) (ys.map h)).sum = (List.zipWith g xs ys).sum * b
  | [], _ => by
    show (0 : Int) = 0 * b
    omega
  | _ :: _, [] => by
    show (0 : Int) = 0 * b
    omega
  | x :: xs, y :: ys => by
    show (f (h x) (h y) :: List.zipWith f (xs.map h) (ys.map h)).sum = (g x y :: List.zipWith g xs ys).sum * b
    rw [List.sum_cons, List.sum_cons, zw_sum e xs ys, e, Int.add_mul]
def scl (b : Int) (ps : List Pt) : List Pt := wmap (fun w => w * b) ps
theorem scl_facts {b : Int} (h : 0 ≤ b) (ps : List Pt) : (fOf (scl b ps)).cnt = (fOf ps).cnt ∧ (fOf (scl b ps)).tot = (fOf ps).tot * b ∧ (fOf (scl b ps)).sq = (fOf ps).sq * b * b ∧ (fOf (scl b ps)).ris = (fOf ps).ris * b ∧ (fOf (scl b ps)).hel = (fOf ps).hel * b := by
  unfold scl
  refine ⟨?_, ?_, ?_, ?_, ?_⟩
  · show (((wmap _ ps).length : Nat) : Int) = ((ps.length : Nat) : Int)
    rw [wmap_len]
  · show (wts (wmap _ ps)).sum = (wts ps).sum * b
    rw [wts_wmap, sum_mul]
  · show ((wts (wmap _ ps)).map fun w => w * w).sum = ((wts ps).map fun w => w * w).sum * b * b
    rw [wts_wmap, List.map_map, ← sum_mul, ← sum_mul, List.map_map, List.map_map]
    refine congrArg List.sum (List.map_congr_left fun w _ => ?_)
    show w * b * (w * b) = w * w * b * b
    rw [Int.mul_assoc w b (w * b), ← Int.mul_assoc b w b, Int.mul_comm b w, ← Int.mul_assoc, ← Int.mul_assoc]
  · show (List.zipWith stp (wts (wmap _ ps)) ((wts (wmap _ ps)).drop 1)).sum = _
    rw [wts_wmap, ← List.map_drop]
    exact zw_sum (stp_mul h) _ _
  · show (List.zipWith hld (wmap _ ps) ((wmap _ ps).drop 1)).sum = _
    unfold wmap
    rw [← List.map_drop]
    refine zw_sum (fun x y => ?_) _ _
    show x.2 * b * (y.1 - x.1) = x.2 * (y.1 - x.1) * b
    rw [Int.mul_assoc, Int.mul_comm b, ← Int.mul_assoc]
theorem scl_ends {b : Int} (h : 0 ≤ b) {ps : List Pt} {lo hi : Int} (h1 : (fOf ps).lo = some lo) (h2 : (fOf ps).hi = some hi) : (fOf (scl b ps)).lo = some (lo * b) ∧ (fOf (scl b ps)).hi = some (hi * b) := by
  obtain ⟨i1, l1⟩ := List.min?_eq_some_iff.mp h1
  obtain ⟨i2, l2⟩ := List.max?_eq_some_iff.mp h2
  constructor
  · show (wts (wmap _ ps)).min? = _
    rw [wts_wmap]
    refine min_is (List.mem_map.mpr ⟨lo, i1, rfl⟩) fun y hy => ?_
    obtain ⟨x, hx, rfl⟩ := List.mem_map.mp hy
    exact Int.mul_le_mul_of_nonneg_right (l1 x hx) h
  · show (wts (wmap _ ps)).max? = _
    rw [wts_wmap]
    refine max_is (List.mem_map.mpr ⟨hi, i2, rfl⟩) fun y hy => ?_
    obtain ⟨x, hx, rfl⟩ := List.mem_map.mp hy
    exact Int.mul_le_mul_of_nonneg_right (l2 x hx) h
/-! ### worths summed up -/
def rsg (ps : List Pt) : List Pt := (List.range ps.length).map fun k => (((ps[k]?).map (·.1)).getD 0, ((wts ps).take (k + 1)).sum)
theorem rsg_len (ps : List Pt) : (rsg ps).length = ps.length := by
  unfold rsg
  rw [List.length_map]
  exact List.length_range
theorem rsg_at {ps : List Pt} {k : Nat} {p : Pt} (h : ps[k]? = some p) : (rsg ps)[k]? = some (p.1, ((wts ps).take (k + 1)).sum) := by
  have hk := (List.getElem?_eq_some_iff.mp h).1
  unfold rsg
  rw [List.getElem?_map, List.getElem?_range hk]
  show some (((ps[k]?).map (·.1)).getD 0, _) = _
  rw [h]
  rfl
theorem rsg_step {ps : List Pt} (pos : ∀ p, p ∈ ps → 0 ≤ p.2) {k : Nat} {a c : Pt} (h1 : (rsg ps)[k]? = some a) (h2 : (rsg ps)[k + 1]? = some c) : a.2 ≤ c.2 := by
  have hk : k + 1 < ps.length := by
    have := (List.getElem?_eq_some_iff.mp h2).1
    rw [rsg_len] at this
    exact this
  obtain ⟨p, hp⟩ : ∃ p, ps[k]? = some p := ⟨_, List.getElem?_eq_getElem (by omega)⟩
  obtain ⟨r, hr⟩ : ∃ r, ps[k + 1]? = some r := ⟨_, List.getElem?_eq_getElem hk⟩
  rw [rsg_at hp] at h1
  rw [rsg_at hr] at h2
  cases h1
  cases h2
  show ((wts ps).take (k + 1)).sum ≤ ((wts ps).take (k + 1 + 1)).sum
  rw [take_snoc (wts_at hr), List.sum_append, List.sum_singleton]
  have := pos r (List.mem_of_getElem? hr)
  omega
theorem ris_shift {b : Int} : ∀ {ws : List Int}, (∀ (k : Nat) (x y : Int), ws[k]? = some x → ws[k + 1]? = some y → x ≤ y) → (List.zipWith stp (ws.map fun w => w + b) ((ws.map fun w => w + b).drop 1)).sum = (List.zipWith stp ws (ws.drop 1)).sum
  | [], _ => rfl
  | [_], _ => rfl
  | x :: y :: r, h => by
    have ih := ris_shift (b := b) (ws := y :: r) fun k u v h1 h2 => h (k + 1) u v h1 h2
    have e1 : (List.zipWith stp ((x :: y :: r).map fun w => w + b) (((x :: y :: r).map fun w => w + b).drop 1)).sum = stp (x + b) (y + b) + (List.zipWith stp ((y :: r).map fun w => w + b) (((y :: r).map fun w => w + b).drop 1)).sum := chain_cons stp (x + b) (y + b) (r.map fun w => w + b)
    have e2 : (List.zipWith stp (x :: y :: r) ((x :: y :: r).drop 1)).sum = stp x y + (List.zipWith stp (y :: r) ((y :: r).drop 1)).sum := chain_cons stp x y r
    rw [e1, e2, ih]
    have le := h 0 x y rfl rfl
    unfold stp
    rw [if_pos (show y + b ≥ x + b by omega), if_pos le]
    omega
end Tg

namespace Tg
open PySem PySem.Spec PyProof.Rows L2
abbrev sSca : Stmt := topS 25
abbrev NSc : List Str := ["_law_draws_here", "_law_points", "_law_by", "_law_time", "_law_worth", "_law_one", "_law_told", "_law_steady", "_law_rising", "_law_k", "_law_first", "_law_at", "_law_more"]
theorem scSca : FnScope NSc ["_law_draws_here", "_law_points"] (defScope sSca) := ⟨rfl, rfl, rfl, by decide +kernel, rfl, by decide +kernel, by decide +kernel⟩
theorem sum_le {B : Nat} : ∀ {ns : List Int}, (∀ x, x ∈ ns → x.natAbs ≤ B) → ns.sum.natAbs ≤ ns.length * B
  | [], _ => Nat.zero_le _
  | a :: r, h => by
    have h1 := sum_le (ns := r) fun x hx => h x (List.mem_cons_of_mem _ hx)
    have h2 : a.natAbs ≤ B := h a (.head _)
    rw [List.sum_cons, List.length_cons, Nat.succ_mul]
    omega
theorem big_fOf {ps : List Pt} (ok : POk ps) : Big (fOf ps) := by
  have l40 := ok.len
  have bound : ∀ {ns : List Int} {B : Nat}, ns.length ≤ ps.length → (∀ x, x ∈ ns → x.natAbs ≤ B) → ns.sum.natAbs ≤ 40 * B := fun {ns B} h1 h2 => Nat.le_trans (sum_le h2) (Nat.mul_le_mul_right _ (by omega))
  refine ⟨?_, ?_, ?_, ?_⟩
  · show (0 : Int) ≤ ((ps.length : Nat) : Int)
    omega
  · show (((ps.length : Nat) : Int)).natAbs < 2 ^ 20
    omega
  · refine Nat.lt_of_le_of_lt (bound (B := 2 ^ 60) (Nat.le_of_eq (wts_len ps)) fun x hx => ?_) (by decide)
    obtain ⟨p, hp, rfl⟩ := List.mem_map.mp hx
    exact Nat.le_of_lt (ok.sz p hp)
  · refine Nat.lt_of_le_of_lt (bound (B := 2 ^ 120) (by rw [List.length_map, wts_len]; exact Nat.le_refl _) fun x hx => ?_) (by decide)
    obtain ⟨y, inW, rfl⟩ := List.mem_map.mp hx
    obtain ⟨p, hp, rfl⟩ := List.mem_map.mp inW
    exact Nat.le_of_lt (wide_lt (ok.sz p hp) (ok.sz p hp))
section
variable {P : Program} {w : World} {K : PySem.W.Frag} {mg : Str → Option Value} {base : Heap} {C : Addr} {k : Nat} {f : Addr} {cdv : Value} {A : Around} {outer : List Env} {s : Shared} {H0 : Hp} {E : XK}
/-- the last two rows -/
def RSc2 (K : PySem.W.Frag) (C : Addr) : TS := fun D σ H => ∃ (v0 v1 v3 v4 v6 v7 v9 v10 v11 v12 : Option V) (b : Int) (D4 a : Addr) (qs rs : List Pt), σ = [v0, v1, some (.int b), v3, v4, some (.ref a), v6, v7, some (.ref D4), v9, v10, v11, v12] ∧
  0 ≤ b ∧ b < 1000 ∧ LD K H D4 (rs.map pd) ∧ POk rs ∧ (∀ r, r ∈ rs → r.2.natAbs ≤ 40000) ∧ (∀ (j : Nat) (x y : Pt), rs[j]? = some x → rs[j + 1]? = some y → x.2 ≤ y.2) ∧ POk qs ∧ rs.length = qs.length ∧ FdO K C H a (fOf qs) ∧ ∀ H', Same H H' → D.rt (.bl true) H'
theorem sca_t2 (hr : Room k (A.deeper (envOfC "_law_scaled_right" (defScope sSca) s.heap.objs.size f cdv))) (T : TFold K C) (C_fold_of : Cal P w K mg base k "fold_of" ["points"] (spFO K C)) (C_asked : Cal P w K mg base k "asked" ["fold", "what"] (spAs K C)) :
    PSs (cxOf CX0 P w K mg base NSc "_law_scaled_right" (defScope sSca) f cdv A outer s H0 E).nox ((defBody sSca).drop 9) (RSc2 K C) := by
  have hu := hr.units
  refine pss_by (pss_cons (ps_set (i := 12) scSca.nd rfl (.inl rfl) (pe_cal C_fold_of (hr.mono (by omega)) (by rfl) (pa_cons (pe_lc (own := [("_law_time", 3), ("_law_worth", 4)]) (g := gTup K 2 _) (tt := tYes) rfl scSca.nd (pi_list (pv 8)) (blkOk_by (own := [("_law_time", 3), ("_law_worth", 4)]) (N := NSc) (sc := defScope sSca) (by decide +kernel)) (fun _ _ _ _ _ => (pg_tup rfl (pgs_cons (pg_name (i := 3) scSca.nd rfl (.inl rfl)) (pgs_cons (pg_name (i := 4) scSca.nd rfl (.inl rfl)) pgs_nil)))) (fun _ _ _ _ _ => pts_nil) (fun _ _ _ _ _ => (pe_tup (pa_cons (pv 3) (pa_cons (pe_op op_add (pv 4) (pv 2)) pa_nil))))) pa_nil)))
      (pss_one (ps_ret (pe_and (pe_cmpR op_eq (pe_fld (pv 12) rfl) (pe_fld (pe_cal C_fold_of (hr.mono (by omega)) (by rfl) (pa_cons (pv 8) pa_nil)) rfl) (nomark _)) (pe_one (pe_cmpR (op_eqD hu) (pe_cal C_asked (hr.mono (by omega)) (by rfl) (pa_cons (pv 12) (pa_cons pe_str pa_nil))) (pe_cal C_asked (hr.mono (by omega)) (by rfl) (pa_cons (pv 5) (pa_cons pe_str pa_nil))) (nomark _))))))) ?_
  rintro D σ H ⟨v0, v1, v3, v4, v6, v7, v9, v10, v11, v12, b, D4, a, qs, rs, rfl, b0, b1, ⟨us, hU, hdu⟩, okr, sz, up, okq, lr, fa, q⟩
  have lu := dl_len hdu
  have l40 := okr.len
  refine ⟨_, rfl, D4, rfl, ⟨_, SqL.of hU⟩, fun D5 nD5 => lc_list (K := K) (a := D4) (xs := us) (fun j Hc => Same H Hc ∧ LD K Hc D5 ((wmap (fun w => w + b) (rs.take j)).map pd)) ⟨same_new nD5, [], upd_same, .nil⟩ (fun j Hc _ h => SqL.of (h.1 _ _ hU)) ?_ ?_⟩
  · rintro j v2 Hc hj ⟨sc, ys, hD, hdy⟩
    obtain ⟨r, hr1, d_r⟩ := dl_at hdu hj
    obtain ⟨t, rfl, ht⟩ := dp_pd (dp_same sc d_r)
    refine ⟨t, _, rfl, ht, rfl, _, _, rfl, _, [], rfl, rfl, rfl, ?_⟩
    unfold tYes
    dsimp only
    rw [if_pos rfl]
    have ly := dl_len hdy
    refine ⟨_, rfl, _, rfl, _, rfl, _, _, rfl, rfl, (by show 2 ≤ sizeLine; decide), fun u nu => ?_⟩
    have su : Same Hc (upd Hc u (.tup [.int r.1, .int (r.2 + b)])) := same_new nu
    refine ⟨_, su _ _ hD, ?_, same_put nD5 (sc.trans su), ?_⟩
    · rw [ly, wmap_len, List.length_take]
      exact small1000 (by omega)
    · rw [wmap_snoc hr1, List.map_append]
      exact LD.snoc (KT.of su) (su _ _ hD) hdy (td_pds _) (pd_new (x := (r.1, r.2 + b)) upd_same) (td_pd _)
  · rintro H1 ⟨s1, ld1⟩
    rw [lu, List.take_length] at ld1
    obtain ⟨ys, hy, hdy⟩ := ld1
    have okm : POk (wmap (fun w => w + b) rs) := okr.wmap fun r hr => by
      have := sz r hr
      show (r.2 + b).natAbs < 2 ^ 60
      omega
    have er : (fOf (wmap (fun w => w + b) rs)).ris = (fOf rs).ris := by
      show (List.zipWith stp (wts (wmap (fun w => w + b) rs)) ((wts (wmap (fun w => w + b) rs)).drop 1)).sum = _
      rw [wts_wmap]
      refine ris_shift fun j x y h1 h2 => ?_
      unfold wts at h1 h2
      rw [List.getElem?_map] at h1 h2
      obtain ⟨p, hp, rfl⟩ := Option.map_eq_some_iff.mp h1
      obtain ⟨r, hr2, rfl⟩ := Option.map_eq_some_iff.mp h2
      exact up j p r hp hr2
    have ec : (fOf (wmap (fun w => w + b) rs)).cnt = (fOf qs).cnt := by
      show (((wmap _ rs).length : Nat) : Int) = ((qs.length : Nat) : Int)
      rw [wmap_len, lr]
    refine ⟨D5, _, rfl, ⟨ys, SqL.of hy, hdy⟩, okm, fun m H2 s2 fm => ?_⟩
    have bigm := big_fOf okm
    obtain ⟨G, eG⟩ : ∃ G, fOf (wmap (fun w => w + b) rs) = G := ⟨_, rfl⟩
    rw [eG] at fm er ec bigm
    obtain ⟨dM, fM, lM, eM, _⟩ := id fm
    have s12 := s1.trans s2
    refine ⟨_, rfl, m, C, dM, _, _, rfl, eM, T.cl, T.no _ (by decide), rfl, _, rfl, D4, rs, rfl, ⟨us, SqL.of (s12 _ _ hU), dpAll_same s12 hdu⟩, okr, fun n H3 s3 fn => ?_⟩
    obtain ⟨F3, e3⟩ : ∃ F3, fOf rs = F3 := ⟨_, rfl⟩
    rw [e3] at fn er
    obtain ⟨dN, fN, lN, eN, _⟩ := id fn
    have s13 := s12.trans s3
    refine ⟨n, C, dN, _, _, rfl, eN, T.cl, T.no _ (by decide), rfl, rfl, true, congrArg V.bl (decide_eq_true (congrArg V.int er)), if_t ?_⟩
    refine ⟨_, rfl, m, G, 0, _, rfl, rfl, fm.same s3, bigm, fun u1 H4 s4 d1 => ⟨_, rfl, a, fOf qs, 0, _, rfl, rfl, fa.same (s13.trans s4), big_fOf okq, fun u2 H5 s5 d2 => ?_⟩⟩
    have shp : ∀ p, SeqAt.shaped (pd p) = true := fun p => shaped_of rfl (by show 1 ≤ 64; decide)
    refine ⟨_, _, dp_same s5 d1, d2, shp _, shp _, ?_⟩
    rw [show PyData.eqv (askD G 0) (askD (fOf qs) 0) = true by show PyData.eqv (pd (one G.cnt)) (pd (one (fOf qs).cnt)) = true; rw [ec]; exact ref_pd _]
    exact q H5 (s13.trans (s4.trans s5))
/-- from the third last row on -/
def RSc1 (K : PySem.W.Frag) (C : Addr) : TS := fun D σ H => ∃ (v0 v3 v4 v6 v7 v8 v9 v10 v11 v12 : Option V) (b : Int) (D1 a : Addr) (qs : List Pt), σ = [v0, some (.ref D1), some (.int b), v3, v4, some (.ref a), v6, v7, v8, v9, v10, v11, v12] ∧
  0 ≤ b ∧ b < 1000 ∧ LD K H D1 (qs.map pd) ∧ POk qs ∧ (∀ r, r ∈ qs → -1000 ≤ r.2 ∧ r.2 ≤ 1000) ∧ FdO K C H a (fOf qs) ∧ ∀ H', Same H H' → D.rt (.bl true) H'
end
def absI (w : Int) : Int := if w < 0 then -w else w
theorem yes_i {σ : L2.St} {H : Hp} {Q : Bool → Hp → Prop} (h : Q true H) : tYes σ H Q := h
abbrev scC : Scope := { kind := .function, names := [(".0", .local), ("_law_k", .local), ("_law_time", .local), ("_law_first", .local), ("sum", .globalImplicit), ("_law_steady", .cell)], isGenerator := false, isCoroutine := false }
section
variable {P : Program} {w : World} {K : PySem.W.Frag} {mg : Str → Option Value} {base : Heap} {C : Addr} {k : Nat} {f : Addr} {cdv : Value} {A : Around} {outer : List Env} {s : Shared} {H0 : Hp} {E : XK}
theorem sca_t1 (hr : Room k (A.deeper (envOfC "_law_scaled_right" (defScope sSca) s.heap.objs.size f cdv))) (T : TFold K C) (C_fold_of : Cal P w K mg base k "fold_of" ["points"] (spFO K C)) (C_asked : Cal P w K mg base k "asked" ["fold", "what"] (spAs K C)) (m_abs : mg "abs" = none) (m_sum : mg "sum" = none) (m_enumerate : mg "enumerate" = none) :
    PSs (cxOf CX0 P w K mg base NSc "_law_scaled_right" (defScope sSca) f cdv A outer s H0 E).nox ((defBody sSca).drop 7) (RSc1 K C) := by
  have hu := hr.units
  refine pss_by (pss_cons (ps_set (i := 7) scSca.nd rfl (.inr rfl) (pe_lc (own := [("_law_time", 3), ("_law_worth", 4)]) (g := gTup K 2 _) (tt := tYes) rfl scSca.nd (pi_list (pv 1)) (blkOk_by (own := [("_law_time", 3), ("_law_worth", 4)]) (N := NSc) (sc := defScope sSca) (by decide +kernel)) (fun _ _ _ _ _ => (pg_tup rfl (pgs_cons (pg_name (i := 3) scSca.nd rfl (.inl rfl)) (pgs_cons (pg_name (i := 4) scSca.nd rfl (.inl rfl)) pgs_nil)))) (fun _ _ _ _ _ => pts_nil) (fun _ _ _ _ _ => (pe_tup (pa_cons (pv 3) (pa_cons (pe_callB call_abs (by rfl) m_abs (by decide +kernel) (pa_cons (pv 4) pa_nil)) pa_nil))))))
      (pss_cons (ps_setLc (i := 8) (own := [("_law_k", 9), ("_law_time", 3), ("_law_first", 10)]) (g := gTup K 2 (gCons (gName 9) (gCons (gTup K 2 (gCons (gName 3) (gCons (gName 10) gNil))) gNil))) (tt := tYes) rfl scSca.nd rfl rfl (sw_true rfl rfl rfl (by decide +kernel)) (pi_enum (by rfl) m_enumerate (pa_cons (pv 7) pa_nil)) (blkOk_by (own := [("_law_k", 9), ("_law_time", 3), ("_law_first", 10)]) (N := NSc) (sc := defScope sSca) (by decide +kernel)) (fun _ _ _ _ _ => (pg_tup rfl (pgs_cons (pg_name (i := 9) scSca.nd rfl (.inl rfl)) (pgs_cons (pg_tup rfl (pgs_cons (pg_name (i := 3) scSca.nd rfl (.inl rfl)) (pgs_cons (pg_name (i := 10) scSca.nd rfl (.inl rfl)) pgs_nil))) pgs_nil)))) (fun _ _ _ _ _ => pts_nil) (fun _ _ _ _ _ => (pe_tup (pa_cons (pv 3) (pa_cons (pe_callB (id := "sum") (r := rSum K) (cr_sum rfl) (by rfl) m_sum (by decide +kernel) (pa_cons (pe_lc (own := [("_law_at", 11), ("_law_worth", 4)]) (g := gTup K 2 (gCons (gName 11) (gCons (gName 4) gNil))) (tt := tYes) (wi := iList K (tSl (rSlL K) (tVar 7) tNoPart (tPart (tOp (rI0 fun i j => .int (i + j)) (tVar 9) (tC (.int 1)))))) rfl scSca.nd (pi_list (pe_slice (r := rSlL K) sl_list (pv 7) po_none (po_some (pe_op op_add (pv 9) pe_int)))) (blkOk_by (own := [("_law_at", 11), ("_law_worth", 4)]) (N := NSc) (sc := scC) (by decide +kernel)) (fun _ _ _ _ _ => (pg_tup rfl (pgs_cons (pg_name (i := 11) scSca.nd rfl (.inl rfl)) (pgs_cons (pg_name (i := 4) scSca.nd rfl (.inl rfl)) pgs_nil)))) (fun _ _ _ _ _ => pts_nil) (fun _ _ _ _ _ => (pv 4))) pa_nil)) pa_nil)))))
      (sca_t2 hr T C_fold_of C_asked))) ?_
  rintro D σ H ⟨v0, v3, v4, v6, v7, v8, v9, v10, v11, v12, b, D1, a, qs, rfl, b0, b1, ⟨ys, hyW, hdW⟩, okq, small, fa, q⟩
  have ly := dl_len hdW
  have l40 := okq.len
  refine ⟨_, rfl, D1, rfl, ⟨_, SqL.of hyW⟩, fun D3 nD3 => lc_list (K := K) (a := D1) (xs := ys) (fun j Hc => Same H Hc ∧ LD K Hc D3 ((wmap absI (qs.take j)).map pd)) ⟨same_new nD3, [], upd_same, .nil⟩ (fun j Hc _ h => SqL.of (h.1 _ _ hyW)) ?_ ?_⟩
  · rintro j v2 Hc hj ⟨sc, vs, hD, hdv⟩
    obtain ⟨r, hr1, d_r⟩ := dl_at hdW hj
    obtain ⟨t, rfl, ht⟩ := dp_pd (dp_same sc d_r)
    refine ⟨t, _, rfl, ht, rfl, _, _, rfl, _, [], rfl, rfl, rfl, ?_⟩
    refine yes_i (if_t ?_)
    have lv := dl_len hdv
    refine ⟨_, rfl, _, rfl, r.2, rfl, (by show 2 ≤ sizeLine; decide), fun u nu => ?_⟩
    have su : Same Hc (upd Hc u (.tup [.int r.1, .int (absI r.2)])) := same_new nu
    refine ⟨_, su _ _ hD, ?_, same_put nD3 (sc.trans su), ?_⟩
    · rw [lv, wmap_len, List.length_take]
      exact small1000 (by omega)
    · rw [wmap_snoc hr1, List.map_append]
      exact LD.snoc (KT.of su) (su _ _ hD) hdv (td_pds _) (pd_new (x := (r.1, absI r.2)) upd_same) (td_pd _)
  · rintro H8 ⟨s8, ld8⟩
    rw [ly, List.take_length] at ld8
    obtain ⟨rs, ers⟩ : ∃ rs, wmap absI qs = rs := ⟨_, rfl⟩
    have posr : ∀ r, r ∈ rs → 0 ≤ r.2 ∧ r.2 ≤ 1000 := fun r hr => by
      rw [← ers] at hr
      obtain ⟨x, hx2, rfl⟩ := List.mem_map.mp hr
      have := small x hx2
      show 0 ≤ absI x.2 ∧ absI x.2 ≤ 1000
      unfold absI
      split <;> omega
    have okr : POk rs := by
      rw [← ers]
      refine okq.wmap fun r hr => ?_
      have := small r hr
      show (absI r.2).natAbs < 2 ^ 60
      unfold absI
      split <;> omega
    have lr : rs.length = qs.length := by rw [← ers, wmap_len]
    rw [ers] at ld8
    obtain ⟨us, hu8, hdu⟩ := ld8
    have lu := dl_len hdu
    refine ⟨_, rfl, D3, us, rfl, SqL.of hu8, fun D4 nD4 => lc_it (walk_enum (K := K) (a := D3) (xs := us)) (fun j Hc => Same H8 Hc ∧ LD K Hc D4 (((rsg rs).take j).map pd)) ⟨same_new nD4, [], upd_same, .nil⟩ (fun j Hc _ h => SqL.of (h.1 _ _ hu8)) ?_ ?_⟩
    · rintro j v2 Hc Hc' hj ⟨sc, vs, hD, hdv⟩ ⟨T, x1, x2, rfl, nT, rfl, i1, i2⟩
      cases i1
      replace i2 : us[j]? = some x2 := i2
      obtain ⟨r, hr1, d_r⟩ := dl_at hdu i2
      have sT : Same Hc (upd Hc T (.tup [.int (j : Nat), x2])) := same_new nT
      obtain ⟨t, rfl, ht⟩ := dp_pd (dp_same (sc.trans sT) d_r)
      refine ⟨T, _, rfl, SqT.of upd_same, rfl, _, _, rfl, _, [], rfl, t, _, rfl, ht, rfl, _, _, rfl, _, [], rfl, rfl, rfl, rfl, ?_⟩
      refine yes_i (if_t ?_)
      refine ⟨_, rfl, _, rfl, _, rfl, _, _, rfl, rfl, _, rfl, D3, us, rfl, SqL.of ((sc.trans sT) _ _ hu8), fun S nS => ?_⟩
      have jl : j < us.length := hj
      have ecut : cutV us none (some ((j : Int) + 1)) = us.take (j + 1) := by
        rw [show ((j : Int) + 1) = ((j + 1 : Nat) : Int) by omega]
        exact cut_to _ _
      dsimp only
      rw [ecut]
      have sS : Same (upd Hc T (.tup [.int (j : Nat), .ref t])) (upd (upd Hc T (.tup [.int (j : Nat), .ref t])) S (.lst (us.take (j + 1)))) := same_new nS
      obtain ⟨HS, eS⟩ : ∃ HS, upd (upd Hc T (.tup [.int (j : Nat), .ref t])) S (.lst (us.take (j + 1))) = HS := ⟨_, rfl⟩
      have hS : HS S = some (.lst (us.take (j + 1))) := by
        rw [← eS]
        exact upd_same
      rw [eS] at sS
      rw [eS]
      have s8S := (sc.trans sT).trans sS
      refine ⟨S, rfl, ⟨_, SqL.of hS⟩, fun D6 nD6 => lc_list (K := K) (a := S) (xs := us.take (j + 1)) (fun i Hd => Same HS Hd ∧ Hd D6 = some (.lst (((wts rs).take i).map V.int))) ⟨same_new nD6, upd_same⟩ (fun i Hd _ h => SqL.of (h.1 _ _ hS)) ?_ ?_⟩
      · rintro i v3 Hd hi ⟨sd, hD6⟩
        have hi2 : us[i]? = some v3 := by
          rw [List.getElem?_take] at hi
          split at hi
          · exact hi
          · cases hi
        obtain ⟨r3, hr3, d3⟩ := dl_at hdu hi2
        obtain ⟨t3, rfl, ht3⟩ := dp_pd (dp_same (s8S.trans sd) d3)
        refine ⟨t3, _, rfl, ht3, rfl, _, _, rfl, _, [], rfl, rfl, rfl, ?_⟩
        refine yes_i (if_t ?_)
        refine ⟨_, rfl, _, hD6, ?_, same_put nD6 sd, ?_⟩
        · rw [List.length_map, List.length_take, wts_len]
          exact small1000 (by omega)
        · rw [upd_same, take_snoc (wts_at hr3), List.map_append]
          rfl
      · rintro Hd ⟨sd, hD6⟩
        rw [List.length_take, Nat.min_eq_left jl] at hD6
        refine ⟨D6, _, rfl, SqL.of hD6, (by show 2 ≤ sizeLine; decide), fun u nu => ?_⟩
        have su : Same Hd (upd Hd u (.tup [.int r.1, .int ((wts rs).take (j + 1)).sum])) := same_new nu
        have sAll := (sT.trans sS).trans (sd.trans su)
        have lv := dl_len hdv
        refine ⟨_, sAll _ _ hD, ?_, same_put nD4 (sc.trans sAll), ?_⟩
        · rw [lv, List.length_take, rsg_len]
          exact small1000 (by omega)
        · rw [take_snoc (rsg_at hr1), List.map_append]
          exact LD.snoc (KT.of sAll) (sAll _ _ hD) hdv (td_pds _) (pd_new (x := (r.1, ((wts rs).take (j + 1)).sum)) upd_same) (td_pd _)
    · rintro H9 ⟨s9, ld9⟩
      have z1 : (rsg rs).take us.length = rsg rs := List.take_of_length_le (by rw [rsg_len]; omega)
      rw [z1] at ld9
      have szr : ∀ r, r ∈ rsg rs → r.2.natAbs ≤ 40000 := fun r hr => by
        obtain ⟨i, hi, rfl⟩ := List.mem_map.mp hr
        show ((wts rs).take (i + 1)).sum.natAbs ≤ 40000
        have hl : ((wts rs).take (i + 1)).length ≤ 40 := by
          rw [List.length_take, wts_len]
          omega
        refine Nat.le_trans (sum_le (B := 1000) fun x hx => ?_) (Nat.mul_le_mul_right 1000 hl)
        obtain ⟨p, hp, rfl⟩ := List.mem_map.mp (List.mem_of_mem_take hx)
        have := posr p hp
        omega
      have okz : POk (rsg rs) := by
        refine ⟨by rw [rsg_len]; omega, fun i p q h1 h2 => ?_, fun r hr => Nat.lt_of_le_of_lt (szr r hr) (by decide)⟩
        have hk : i + 1 < rs.length := by
          have := (List.getElem?_eq_some_iff.mp h2).1
          rw [rsg_len] at this
          exact this
        obtain ⟨p1, hp1⟩ : ∃ p, rs[i]? = some p := ⟨_, List.getElem?_eq_getElem (by omega)⟩
        obtain ⟨p2, hp2⟩ : ∃ r, rs[i + 1]? = some r := ⟨_, List.getElem?_eq_getElem hk⟩
        rw [rsg_at hp1] at h1
        rw [rsg_at hp2] at h2
        cases h1
        cases h2
        exact okr.up i p1 p2 hp1 hp2
      exact ⟨_, _, _, _, _, _, _, _, _, _, b, D4, a, qs, rsg rs, rfl, b0, b1, ld9, okz, szr, fun j x y h1 h2 => rsg_step (fun p hp => (posr p hp).1) h1 h2, okq, by rw [rsg_len, lr], fa.same (s8.trans s9), fun H' s' => q H' ((s8.trans s9).trans s')⟩
end
end Tg

namespace Tg
open PySem PySem.Spec PyProof.Rows L2
theorem three_form (a b c : Int) : SeqAt.shaped (.tuple [.int a, .int b, .int c]) = true ∧ PyData.eqv (.tuple [.int a, .int b, .int c]) (.tuple [.int a, .int b, .int c]) = true := by
  refine ⟨shaped_of rfl (by show 1 ≤ 64; decide), ?_⟩
  show ((a == a) && ((b == b) && ((c == c) && true))) = true
  rw [beq_self_eq_true, beq_self_eq_true, beq_self_eq_true]
  rfl
theorem mul_le {x b : Int} (h1 : -1000 ≤ x ∧ x ≤ 1000) (h2 : 0 ≤ b ∧ b < 1000) : (x * b).natAbs < 2 ^ 60 := by
  rw [Int.natAbs_mul]
  exact Nat.lt_of_le_of_lt (Nat.mul_le_mul (show x.natAbs ≤ 1000 by omega) (show b.natAbs ≤ 1000 by omega)) (by decide)
section
variable {P : Program} {w : World} {K : PySem.W.Frag} {mg : Str → Option Value} {base : Heap} {C : Addr}
theorem ok_sca {f : Addr} {fd : FuncData} {k : Nat} (F : Fun K "_law_scaled_right" "_law_scaled_right" sSca f fd) (T : TFold K C) (L_next : Cal P w K mg base k "_law_next" ["_law_draws_here"] spNext) (C_fold_of : Cal P w K mg base k "fold_of" ["points"] (spFO K C)) (C_asked : Cal P w K mg base k "asked" ["fold", "what"] (spAs K C)) (m_abs : mg "abs" = none) (m_sum : mg "sum" = none) (m_enumerate : mg "enumerate" = none) :
    FnOk P w K mg base CX0 (k + 1) f fd ["_law_draws_here", "_law_points"] (spMov K) := by
  refine F.ok scSca (fun vs H Q E h => ?_) (fun cdv A outer s H vs Q E hr h => ?_)
  · obtain ⟨p, l, n, ps, rfl, _⟩ := h
    rfl
  · obtain ⟨p, l, n, ps, rfl, dr, n9, lp, ld, ok, q⟩ := h
    have hu := hr.units
    refine ⟨_, pss_cons (ps_set (i := 2) scSca.nd rfl (.inr rfl) (pe_op op_mod (pe_cal L_next (hr.mono (by omega)) (by rfl) (pa_cons (pv 0) pa_nil)) pe_int))
      (pss_cons (ps_setLc (i := 1) (own := [("_law_time", 3), ("_law_worth", 4)]) (g := gTup K 2 _) (tt := tYes) rfl scSca.nd rfl rfl (sw_true rfl rfl rfl (by decide +kernel)) (pi_list (pv 1)) (blkOk_by (own := [("_law_time", 3), ("_law_worth", 4)]) (N := NSc) (sc := defScope sSca) (by decide +kernel)) (fun _ _ _ _ _ => (pg_tup rfl (pgs_cons (pg_name (i := 3) scSca.nd rfl (.inl rfl)) (pgs_cons (pg_name (i := 4) scSca.nd rfl (.inl rfl)) pgs_nil)))) (fun _ _ _ _ _ => pts_nil) (fun _ _ _ _ _ => (pe_tup (pa_cons (pv 3) (pa_cons (pe_op op_sub (pe_op op_mod (pv 4) pe_int) pe_int) pa_nil)))))
      (pss_cons (ps_set (i := 5) scSca.nd rfl (.inl rfl) (pe_cal C_fold_of (hr.mono (by omega)) (by rfl) (pa_cons (pv 1) pa_nil)))
      (pss_cons (ps_set (i := 6) scSca.nd rfl (.inl rfl) (pe_cal C_fold_of (hr.mono (by omega)) (by rfl) (pa_cons (pe_lc (own := [("_law_time", 3), ("_law_worth", 4)]) (g := gTup K 2 _) (tt := tYes) rfl scSca.nd (pi_list (pv 1)) (blkOk_by (own := [("_law_time", 3), ("_law_worth", 4)]) (N := NSc) (sc := defScope sSca) (by decide +kernel)) (fun _ _ _ _ _ => (pg_tup rfl (pgs_cons (pg_name (i := 3) scSca.nd rfl (.inl rfl)) (pgs_cons (pg_name (i := 4) scSca.nd rfl (.inl rfl)) pgs_nil)))) (fun _ _ _ _ _ => pts_nil) (fun _ _ _ _ _ => (pe_tup (pa_cons (pv 3) (pa_cons (pe_op op_mul (pv 4) (pv 2)) pa_nil))))) pa_nil)))
      (pss_cons (ps_if (pt_cmpR (op_neD hu) (pe_tup (pa_cons (pe_fld (pv 6) rfl) (pa_cons (pe_fld (pv 6) rfl) (pa_cons (pe_fld (pv 6) rfl) pa_nil)))) (pe_tup (pa_cons (pe_fld (pv 5) rfl) (pa_cons (pe_op op_mul (pe_fld (pv 5) rfl) (pv 2)) (pa_cons (pe_op op_mul (pe_op op_mul (pe_fld (pv 5) rfl) (pv 2)) (pv 2)) pa_nil)))) (nomark _))
        (pss_one (ps_ret pe_bl))
        pss_nil)
      (pss_cons (ps_if (pt_cmpR (op_neD hu) (pe_tup (pa_cons (pe_fld (pv 6) rfl) (pa_cons (pe_fld (pv 6) rfl) pa_nil))) (pe_tup (pa_cons (pe_op op_mul (pe_fld (pv 5) rfl) (pv 2)) (pa_cons (pe_op op_mul (pe_fld (pv 5) rfl) (pv 2)) pa_nil))) (nomark _))
        (pss_one (ps_ret pe_bl))
        pss_nil)
      (pss_cons (ps_if (PW.pt (pw_and (pt_cmpR (op_neD hu) (pv 1) (pe_lst pa_nil) (nomark _)) (pw_and1 (pt_cmpR (op_neD hu) (pe_tup (pa_cons (pe_fld (pv 6) rfl) (pa_cons (pe_fld (pv 6) rfl) pa_nil))) (pe_tup (pa_cons (pe_op op_mul (pe_fld (pv 5) rfl) (pv 2)) (pa_cons (pe_op op_mul (pe_fld (pv 5) rfl) (pv 2)) pa_nil))) (nomark _)))))
        (pss_one (ps_ret pe_bl))
        pss_nil)
      (sca_t1 hr T C_fold_of C_asked m_abs m_sum m_enumerate))))))), ?_⟩
    refine ⟨_, rfl, p, n, rfl, dr, by omega, fun v H1 k1 d1 v0 _ => ⟨_, _, rfl, rfl, (by show (0 : Int) < 1000; decide), ?_⟩⟩
    obtain ⟨b, eb⟩ : ∃ b : Int, v % 1000 = b := ⟨_, rfl⟩
    have b0 : 0 ≤ b ∧ b < 1000 := by omega
    dsimp only
    rw [eb]
    have ld1 : LD K H1 l (ps.map pd) := by
      obtain ⟨_, _, _, hp, _⟩ := id dr
      exact LD.kp k1 hp nfix_lst lp (td_pds ps) ld
    obtain ⟨xs, hx, hdx⟩ := ld1
    have lx := dl_len hdx
    have l40 := ok.len
    refine ⟨_, rfl, l, rfl, ⟨_, SqL.of hx⟩, fun D1 nD1 => lc_list (K := K) (a := l) (xs := xs) (fun j Hc => Same H1 Hc ∧ LD K Hc D1 ((wmap (fun w => w % 2001 - 1000) (ps.take j)).map pd)) ⟨same_new nD1, [], upd_same, .nil⟩ (fun j Hc _ h => SqL.of (h.1 _ _ hx)) ?_ ?_⟩
    · rintro j v2 Hc hj ⟨sc, ys, hD, hdy⟩
      obtain ⟨r, hr1, d_r⟩ := dl_at hdx hj
      obtain ⟨t, rfl, ht⟩ := dp_pd (dp_same sc d_r)
      refine ⟨t, _, rfl, ht, rfl, _, _, rfl, _, [], rfl, rfl, rfl, ?_⟩
      unfold tYes
      dsimp only
      rw [if_pos rfl]
      have ly := dl_len hdy
      refine ⟨_, rfl, _, rfl, _, _, rfl, rfl, (by show (0 : Int) < 2001; decide), _, _, rfl, rfl, (by show 2 ≤ sizeLine; decide), fun u nu => ?_⟩
      have su : Same Hc (upd Hc u (.tup [.int r.1, .int (r.2 % 2001 - 1000)])) := same_new nu
      refine ⟨_, su _ _ hD, ?_, same_put nD1 (sc.trans su), ?_⟩
      · rw [ly, wmap_len, List.length_take]
        exact small1000 (by omega)
      · rw [wmap_snoc hr1, List.map_append]
        exact LD.snoc (KT.of su) (su _ _ hD) hdy (td_pds _) (pd_new (x := (r.1, r.2 % 2001 - 1000)) upd_same) (td_pd _)
    · rintro H2 ⟨s2, ld2⟩
      rw [lx, List.take_length] at ld2
      obtain ⟨qs, eqs⟩ : ∃ qs, wmap (fun w => w % 2001 - 1000) ps = qs := ⟨_, rfl⟩
      have small : ∀ r, r ∈ qs → -1000 ≤ r.2 ∧ r.2 ≤ 1000 := fun r hr => by
        rw [← eqs] at hr
        obtain ⟨x, _, rfl⟩ := List.mem_map.mp hr
        show -1000 ≤ x.2 % 2001 - 1000 ∧ x.2 % 2001 - 1000 ≤ 1000
        omega
      have okq : POk qs := by
        rw [← eqs]
        refine ok.wmap fun r hr => ?_
        show (r.2 % 2001 - 1000).natAbs < 2 ^ 60
        omega
      have lq : qs.length = ps.length := by rw [← eqs, wmap_len]
      rw [eqs] at ld2
      obtain ⟨ys, hy, hdy⟩ := ld2
      have ly := dl_len hdy
      refine ⟨_, rfl, D1, qs, rfl, ⟨ys, SqL.of hy, hdy⟩, okq, fun a H3 s3 fa => ?_⟩
      have hy3 := s3 _ _ hy
      have hd3 := dpAll_same s3 hdy
      refine ⟨_, rfl, D1, rfl, ⟨_, SqL.of hy3⟩, fun D2 nD2 => lc_list (K := K) (a := D1) (xs := ys) (fun j Hc => Same H3 Hc ∧ LD K Hc D2 ((wmap (fun w => w * b) (qs.take j)).map pd)) ⟨same_new nD2, [], upd_same, .nil⟩ (fun j Hc _ h => SqL.of (h.1 _ _ hy3)) ?_ ?_⟩
      · rintro j v2 Hc hj ⟨sc, ys, hD, hdy⟩
        obtain ⟨r, hr1, d_r⟩ := dl_at hd3 hj
        obtain ⟨t, rfl, ht⟩ := dp_pd (dp_same sc d_r)
        refine ⟨t, _, rfl, ht, rfl, _, _, rfl, _, [], rfl, rfl, rfl, ?_⟩
        unfold tYes
        dsimp only
        rw [if_pos rfl]
        have ly := dl_len hdy
        refine ⟨_, rfl, _, rfl, _, rfl, _, _, rfl, rfl, .inr ⟨by omega, by omega⟩, (by show 2 ≤ sizeLine; decide), fun u nu => ?_⟩
        have su : Same Hc (upd Hc u (.tup [.int r.1, .int (r.2 * b)])) := same_new nu
        refine ⟨_, su _ _ hD, ?_, same_put nD2 (sc.trans su), ?_⟩
        · rw [ly, wmap_len, List.length_take]
          exact small1000 (by omega)
        · rw [wmap_snoc hr1, List.map_append]
          exact LD.snoc (KT.of su) (su _ _ hD) hdy (td_pds _) (pd_new (x := (r.1, r.2 * b)) upd_same) (td_pd _)
      · rintro H4 ⟨s4, ld4⟩
        rw [ly, List.take_length] at ld4
        obtain ⟨zs, hz, hdz⟩ := ld4
        have oks : POk (scl b qs) := okq.wmap fun r hr => mul_le (small r hr) b0
        refine ⟨D2, scl b qs, rfl, ⟨zs, SqL.of hz, hdz⟩, oks, fun c H5 s5 fc => ?_⟩
        obtain ⟨e1, e2, e3, e4, e5⟩ := scl_facts b0.1 qs
        have eL := @scl_ends b b0.1 qs
        have s35 := s4.trans s5
        have fa5 := fa.same s35
        have hy5 := s35 _ _ hy3
        have hd5 := dpAll_same s35 hd3
        have cntq : (fOf qs).cnt = ((qs.length : Nat) : Int) := rfl
        have fullq := @full qs
        obtain ⟨G, eG⟩ : ∃ G, fOf (scl b qs) = G := ⟨_, rfl⟩
        obtain ⟨F1, eF⟩ : ∃ F1, fOf qs = F1 := ⟨_, rfl⟩
        rw [eG, eF] at e1 e2 e3 e4 e5
        rw [eG] at fc
        rw [eF] at fa5 cntq
        rw [eG, eF] at eL
        rw [eF] at fullq
        obtain ⟨dA, fA, lA, eA, pA, zA⟩ := id fa5
        obtain ⟨dC, fC, lC, eC, pC, zC⟩ := id fc
        refine ⟨_, rfl, c, C, dC, _, _, rfl, eC, T.cl, T.no _ (by decide), rfl, _, rfl, c, C, dC, _, _, rfl, eC, T.cl, T.no _ (by decide), rfl, _, rfl, c, C, dC, _, _, rfl, eC, T.cl, T.no _ (by decide), rfl, (by show 3 ≤ sizeLine; decide), fun t1 n1 => ?_⟩
        have st1 : Same H5 (upd H5 t1 (.tup [.int G.cnt, .int G.tot, .int G.sq])) := same_new n1
        have eA1 := st1 _ _ eA
        refine ⟨_, rfl, a, C, dA, _, _, rfl, eA1, T.cl, T.no _ (by decide), rfl, _, rfl, a, C, dA, _, _, rfl, eA1, T.cl, T.no _ (by decide), rfl, _, rfl, _, _, rfl, rfl, .inr ⟨by omega, by omega⟩, _, rfl, a, C, dA, _, _, rfl, eA1, T.cl, T.no _ (by decide), rfl, _, rfl, _, _, rfl, rfl, .inr ⟨by omega, by omega⟩, _, rfl, _, _, rfl, rfl, .inr ⟨by omega, by omega⟩, (by show 3 ≤ sizeLine; decide), fun t2 n2 => ?_⟩
        have st2 : Same (upd H5 t1 (.tup [.int G.cnt, .int G.tot, .int G.sq])) (upd (upd H5 t1 (.tup [.int G.cnt, .int G.tot, .int G.sq])) t2 (.tup [.int F1.cnt, .int (F1.tot * b), .int (F1.sq * b * b)])) := same_new n2
        have dm : Dp K (upd (upd H5 t1 (.tup [.int G.cnt, .int G.tot, .int G.sq])) t2 (.tup [.int F1.cnt, .int (F1.tot * b), .int (F1.sq * b * b)])) (.ref t1) (.tuple [.int G.cnt, .int G.tot, .int G.sq]) := .tup (SqT.of (st2 _ _ upd_same)) (.cons (.int _) (.cons (.int _) (.cons (.int _) .nil)))
        have dn : Dp K (upd (upd H5 t1 (.tup [.int G.cnt, .int G.tot, .int G.sq])) t2 (.tup [.int F1.cnt, .int (F1.tot * b), .int (F1.sq * b * b)])) (.ref t2) (.tuple [.int F1.cnt, .int (F1.tot * b), .int (F1.sq * b * b)]) := .tup (SqT.of upd_same) (.cons (.int _) (.cons (.int _) (.cons (.int _) .nil)))
        refine ⟨_, _, dm, dn, (three_form _ _ _).1, (three_form _ _ _).1, _, rfl, if_n (by show (!PyData.eqv _ _) = false; rw [e1, e2, e3, (three_form _ _ _).2]; rfl) ?_⟩
        have sA := st1.trans st2
        have eA6 := sA _ _ eA
        have eC6 := sA _ _ eC
        obtain ⟨H6, e6⟩ : ∃ H6, upd (upd H5 t1 (.tup [.int G.cnt, .int G.tot, .int G.sq])) t2 (.tup [.int F1.cnt, .int (F1.tot * b), .int (F1.sq * b * b)]) = H6 := ⟨_, rfl⟩
        rw [e6] at sA eA6 eC6
        dsimp only
        rw [e6]
        refine ⟨_, rfl, c, C, dC, _, _, rfl, eC6, T.cl, T.no _ (by decide), rfl, _, rfl, c, C, dC, _, _, rfl, eC6, T.cl, T.no _ (by decide), rfl, (by show 2 ≤ sizeLine; decide), fun t3 n3 => ?_⟩
        have st3 : Same H6 (upd H6 t3 (.tup [.int G.ris, .int G.hel])) := same_new n3
        have eA7 := st3 _ _ eA6
        refine ⟨_, rfl, a, C, dA, _, _, rfl, eA7, T.cl, T.no _ (by decide), rfl, _, rfl, _, _, rfl, rfl, .inr ⟨by omega, by omega⟩, _, rfl, a, C, dA, _, _, rfl, eA7, T.cl, T.no _ (by decide), rfl, _, rfl, _, _, rfl, rfl, .inr ⟨by omega, by omega⟩, (by show 2 ≤ sizeLine; decide), fun t4 n4 => ?_⟩
        have st4 : Same (upd H6 t3 (.tup [.int G.ris, .int G.hel])) (upd (upd H6 t3 (.tup [.int G.ris, .int G.hel])) t4 (.tup [.int (F1.ris * b), .int (F1.hel * b)])) := same_new n4
        have shp : ∀ p, SeqAt.shaped (pd p) = true := fun p => shaped_of rfl (by show 1 ≤ 64; decide)
        have dm2 : Dp K (upd (upd H6 t3 (.tup [.int G.ris, .int G.hel])) t4 (.tup [.int (F1.ris * b), .int (F1.hel * b)])) (.ref t3) (pd (G.ris, G.hel)) := dp_same st4 (pd_new (x := (G.ris, G.hel)) upd_same)
        refine ⟨_, _, dm2, pd_new (x := (F1.ris * b, F1.hel * b)) upd_same, shp _, shp _, _, rfl, if_n (by show (!PyData.eqv _ _) = false; rw [e4, e5, ref_pd]; rfl) ?_⟩
        have sB := sA.trans (st3.trans st4)
        obtain ⟨H7, e7⟩ : ∃ H7, upd (upd H6 t3 (.tup [.int G.ris, .int G.hel])) t4 (.tup [.int (F1.ris * b), .int (F1.hel * b)]) = H7 := ⟨_, rfl⟩
        rw [e7] at sB
        dsimp only
        rw [e7]
        have eA8 := sB _ _ eA
        have eC8 := sB _ _ eC
        have hy8 := sB _ _ hy5
        have hd8 := dpAll_same sB hd5
        refine ⟨_, rfl, (by show 0 ≤ sizeLine; decide), fun z nz => ?_⟩
        have sz : Same H7 (upd H7 z (.lst [])) := same_new nz
        refine ⟨_, _, .lst (SqL.of (sz _ _ hy8)) (dpAll_same sz hd8), .lst (SqL.of upd_same) .nil, (pds_form qs).1, (pds_form []).1, _, rfl, ?_⟩
        rw [eq_nil]
        have rest : ∀ Hw, Same H7 Hw → Same H5 Hw ∧ LD K Hw D1 (qs.map pd) ∧ FdO K C Hw a (fOf qs) ∧ ∀ H', Same Hw H' → Q (.bl true) H' := fun Hw sW => by
          have s1W : Same H1 Hw := s2.trans (s3.trans (s35.trans (sB.trans sW)))
          refine ⟨sB.trans sW, ⟨ys, sW _ _ hy8, dpAll_same sW hd8⟩, ?_, fun H' s' => q H' (k1.trans (Kp.of (s1W.trans s'))) (d1.same (s1W.trans s'))⟩
          rw [eF]
          exact fa5.same (sB.trans sW)
        cases hq : qs.isEmpty with
        | true =>
          refine if_f (if_f ?_)
          obtain ⟨_, r1, r2, r3⟩ := rest _ sz
          exact ⟨_, _, _, _, _, _, _, _, _, _, b, D1, a, qs, rfl, b0.1, b0.2, r1, okq, small, r2, r3⟩
        | false =>
          have c0 : ¬ F1.cnt = 0 := fun zz => by
            rw [cntq] at zz
            cases qs with
            | nil => cases hq
            | cons q1 q2 =>
              rw [List.length_cons] at zz
              omega
          obtain ⟨⟨lo, w1⟩, ⟨hi, w2⟩, _, _⟩ := fullq c0
          obtain ⟨g1, g2⟩ := eL w1 w2
          have eA9 := sz _ _ eA8
          have eC9 := sz _ _ eC8
          refine if_t ⟨_, rfl, c, C, dC, _, _, rfl, eC9, T.cl, T.no _ (by decide), rfl, _, rfl, c, C, dC, _, _, rfl, eC9, T.cl, T.no _ (by decide), rfl, (by show 2 ≤ sizeLine; decide), fun t5 n5 => ?_⟩
          have st5 : Same (upd H7 z (.lst [])) (upd (upd H7 z (.lst [])) t5 (.tup [vw G.lo, vw G.hi])) := same_new n5
          have eAA := st5 _ _ eA9
          refine ⟨_, rfl, a, C, dA, _, _, rfl, eAA, T.cl, T.no _ (by decide), rfl, _, rfl, lo, b, (by rw [w1]; rfl), rfl, .inr ⟨by omega, by omega⟩, _, rfl, a, C, dA, _, _, rfl, eAA, T.cl, T.no _ (by decide), rfl, _, rfl, hi, b, (by rw [w2]; rfl), rfl, .inr ⟨by omega, by omega⟩, (by show 2 ≤ sizeLine; decide), fun t6 n6 => ?_⟩
          have st6 : Same (upd (upd H7 z (.lst [])) t5 (.tup [vw G.lo, vw G.hi])) (upd (upd (upd H7 z (.lst [])) t5 (.tup [vw G.lo, vw G.hi])) t6 (.tup [.int (lo * b), .int (hi * b)])) := same_new n6
          have dm3 : Dp K (upd (upd (upd H7 z (.lst [])) t5 (.tup [vw G.lo, vw G.hi])) t6 (.tup [.int (lo * b), .int (hi * b)])) (.ref t5) (pd (lo * b, hi * b)) := by
            have z0 : Dp K (upd (upd (upd H7 z (.lst [])) t5 (.tup [vw G.lo, vw G.hi])) t6 (.tup [.int (lo * b), .int (hi * b)])) (.ref t5) (.tuple [dw G.lo, dw G.hi]) := .tup (SqT.of (st6 _ _ upd_same)) (.cons (dp_vw _) (.cons (dp_vw _) .nil))
            rw [g1, g2] at z0 ⊢
            exact z0
          refine ⟨_, _, dm3, pd_new (x := (lo * b, hi * b)) upd_same, shp _, shp _, false, congrArg V.bl (by rw [ref_pd]; rfl), if_f ?_⟩
          obtain ⟨_, r1, r2, r3⟩ := rest _ ((sz.trans st5).trans st6)
          exact ⟨_, _, _, _, _, _, _, _, _, _, b, D1, a, qs, rfl, b0.1, b0.2, r1, okq, small, r2, r3⟩
end
end Tg

namespace Tg
open PySem PySem.Spec PyProof.Rows L2
/-! ### folds beside one another -/
theorem FD.same {F G : FD} (h1 : F.cnt = G.cnt) (h2 : F.tot = G.tot) (h3 : F.sq = G.sq) (h4 : F.lo = G.lo) (h5 : F.hi = G.hi) (h6 : F.fst = G.fst) (h7 : F.lst = G.lst) (h8 : F.ris = G.ris) (h9 : F.hel = G.hel) : F = G := by
  cases F
  cases G
  cases h1; cases h2; cases h3; cases h4; cases h5; cases h6; cases h7; cases h8; cases h9
  rfl
theorem sum_perm {xs ys : List Int} (h : xs.Perm ys) : xs.sum = ys.sum := by
  induction h with
  | nil => rfl
  | cons x _ ih => rw [List.sum_cons, List.sum_cons, ih]
  | swap x y l =>
    rw [List.sum_cons, List.sum_cons, List.sum_cons, List.sum_cons]
    omega
  | trans _ _ a b => exact a.trans b
/-- the same least: each of the one isn't below some of the other -/
theorem min_eq {xs ys : List Int} (h1 : ∀ x, x ∈ xs → ∃ y, y ∈ ys ∧ y ≤ x) (h2 : ∀ y, y ∈ ys → ∃ x, x ∈ xs ∧ x ≤ y) (h3 : ∀ y, y ∈ ys → y ∈ xs) : xs.min? = ys.min? := by
  cases e : ys.min? with
  | none =>
    rw [List.min?_eq_none_iff] at e ⊢
    subst e
    cases xs with
    | nil => rfl
    | cons a r =>
      obtain ⟨y, hy, _⟩ := h1 a (.head _)
      cases hy
  | some m =>
    obtain ⟨i, l⟩ := List.min?_eq_some_iff.mp e
    refine min_is (h3 m i) fun x hx => ?_
    obtain ⟨y, hy, le⟩ := h1 x hx
    have := l y hy
    omega
theorem max_eq {xs ys : List Int} (h1 : ∀ x, x ∈ xs → ∃ y, y ∈ ys ∧ x ≤ y) (h3 : ∀ y, y ∈ ys → y ∈ xs) : xs.max? = ys.max? := by
  cases e : ys.max? with
  | none =>
    rw [List.max?_eq_none_iff] at e ⊢
    subst e
    cases xs with
    | nil => rfl
    | cons a r =>
      obtain ⟨y, hy, _⟩ := h1 a (.head _)
      cases hy
  | some m =>
    obtain ⟨i, l⟩ := List.max?_eq_some_iff.mp e
    refine max_is (h3 m i) fun x hx => ?_
    obtain ⟨y, hy, le⟩ := h1 x hx
    have := l y hy
    omega
theorem min_le {xs : List Int} {x : Int} (h : x ∈ xs) : ∃ y, y ∈ xs.min?.toList ∧ y ≤ x := by
  cases e : xs.min? with
  | none =>
    rw [List.min?_eq_none_iff] at e
    subst e
    cases h
  | some m => exact ⟨m, List.mem_singleton.mpr rfl, (List.min?_eq_some_iff.mp e).2 x h⟩
theorem max_ge {xs : List Int} {x : Int} (h : x ∈ xs) : ∃ y, y ∈ xs.max?.toList ∧ x ≤ y := by
  cases e : xs.max? with
  | none =>
    rw [List.max?_eq_none_iff] at e
    subst e
    cases h
  | some m => exact ⟨m, List.mem_singleton.mpr rfl, (List.max?_eq_some_iff.mp e).2 x h⟩
theorem min_in {xs : List Int} {x : Int} (h : x ∈ xs.min?.toList) : x ∈ xs := (List.min?_eq_some_iff.mp (Option.mem_toList.mp h)).1
theorem max_in {xs : List Int} {x : Int} (h : x ∈ xs.max?.toList) : x ∈ xs := (List.max?_eq_some_iff.mp (Option.mem_toList.mp h)).1
def los (xs : List FD) : List Int := xs.flatMap fun x => x.lo.toList
def his (xs : List FD) : List Int := xs.flatMap fun x => x.hi.toList
def sm (g : FD → Int) (xs : List FD) : Int := (xs.map g).sum
/-- all together, side by side -/
def cs (xs : List FD) : FD := ⟨sm (·.cnt) xs, sm (·.tot) xs, sm (·.sq) xs, (los xs).min?, (his xs).max?, none, none, sm (·.ris) xs, sm (·.hel) xs⟩
theorem sm_mid (g : FD → Int) (l r : List FD) (x y z : FD) (h : g z = g x + g y) : sm g (l ++ x :: y :: r) = sm g (l ++ z :: r) := by
  unfold sm
  rw [List.map_append, List.map_append, List.sum_append, List.sum_append, List.map_cons, List.map_cons, List.map_cons, List.sum_cons, List.sum_cons, List.sum_cons, h]
  omega
theorem cs_mid (l r : List FD) (x y : FD) : cs (l ++ x :: y :: r) = cs (l ++ bs x y :: r) := by
  refine FD.same ?_ ?_ ?_ ?_ ?_ rfl rfl ?_ ?_
  · exact sm_mid _ l r x y (bs x y) rfl
  · exact sm_mid _ l r x y (bs x y) rfl
  · exact sm_mid _ l r x y (bs x y) rfl
  · show (los _).min? = (los _).min?
    have e1 : los (l ++ x :: y :: r) = los l ++ ((x.lo.toList ++ y.lo.toList) ++ los r) := by
      unfold los
      rw [List.flatMap_append, List.flatMap_cons, List.flatMap_cons, List.append_assoc]
    have e2 : los (l ++ bs x y :: r) = los l ++ ((x.lo.toList ++ y.lo.toList).min?.toList ++ los r) := by
      unfold los
      rw [List.flatMap_append, List.flatMap_cons]
      rfl
    rw [e1, e2]
    refine min_eq (fun a ha => ?_) (fun a ha => ⟨a, ?_, Int.le_refl _⟩) fun a ha => ?_
    · rcases List.mem_append.mp ha with h | h
      · exact ⟨a, List.mem_append_left _ h, Int.le_refl _⟩
      · rcases List.mem_append.mp h with hl | hr
        · obtain ⟨b, hb, le⟩ := min_le hl
          exact ⟨b, List.mem_append_right _ (List.mem_append_left _ hb), le⟩
        · exact ⟨a, List.mem_append_right _ (List.mem_append_right _ hr), Int.le_refl _⟩
    all_goals
      rcases List.mem_append.mp ha with h | h
      · exact List.mem_append_left _ h
      · rcases List.mem_append.mp h with hl | hr
        · exact List.mem_append_right _ (List.mem_append_left _ (min_in hl))
        · exact List.mem_append_right _ (List.mem_append_right _ hr)
  · show (his _).max? = (his _).max?
    have e1 : his (l ++ x :: y :: r) = his l ++ ((x.hi.toList ++ y.hi.toList) ++ his r) := by
      unfold his
      rw [List.flatMap_append, List.flatMap_cons, List.flatMap_cons, List.append_assoc]
    have e2 : his (l ++ bs x y :: r) = his l ++ ((x.hi.toList ++ y.hi.toList).max?.toList ++ his r) := by
      unfold his
      rw [List.flatMap_append, List.flatMap_cons]
      rfl
    rw [e1, e2]
    refine max_eq (fun a ha => ?_) fun a ha => ?_
    · rcases List.mem_append.mp ha with h | h
      · exact ⟨a, List.mem_append_left _ h, Int.le_refl _⟩
      · rcases List.mem_append.mp h with hl | hr
        · obtain ⟨b, hb, le⟩ := max_ge hl
          exact ⟨b, List.mem_append_right _ (List.mem_append_left _ hb), le⟩
        · exact ⟨a, List.mem_append_right _ (List.mem_append_right _ hr), Int.le_refl _⟩
    · rcases List.mem_append.mp ha with h | h
      · exact List.mem_append_left _ h
      · rcases List.mem_append.mp h with hl | hr
        · exact List.mem_append_right _ (List.mem_append_left _ (max_in hl))
        · exact List.mem_append_right _ (List.mem_append_right _ hr)
  · exact sm_mid _ l r x y (bs x y) rfl
  · exact sm_mid _ l r x y (bs x y) rfl
theorem cs_perm {xs ys : List FD} (h : xs.Perm ys) : cs xs = cs ys := by
  have s : ∀ g, sm g xs = sm g ys := fun g => sum_perm (h.map g)
  refine FD.same (s _) (s _) (s _) ?_ ?_ rfl rfl (s _) (s _)
  · have m : ∀ a, a ∈ los xs ↔ a ∈ los ys := fun a => by
      unfold los
      rw [List.mem_flatMap, List.mem_flatMap]
      exact ⟨fun ⟨x, h1, h2⟩ => ⟨x, h.mem_iff.mp h1, h2⟩, fun ⟨x, h1, h2⟩ => ⟨x, h.mem_iff.mpr h1, h2⟩⟩
    exact min_eq (fun a ha => ⟨a, (m a).mp ha, Int.le_refl _⟩) (fun a ha => ⟨a, (m a).mpr ha, Int.le_refl _⟩) fun a ha => (m a).mpr ha
  · have m : ∀ a, a ∈ his xs ↔ a ∈ his ys := fun a => by
      unfold his
      rw [List.mem_flatMap, List.mem_flatMap]
      exact ⟨fun ⟨x, h1, h2⟩ => ⟨x, h.mem_iff.mp h1, h2⟩, fun ⟨x, h1, h2⟩ => ⟨x, h.mem_iff.mpr h1, h2⟩⟩
    exact max_eq (fun a ha => ⟨a, (m a).mp ha, Int.le_refl _⟩) fun a ha => (m a).mpr ha
theorem wf_bs {F G : FD} (hF : WF F) (hG : WF G) : WF (bs F G) := by
  have c1 : ∀ (o p : Option Int) (m : Int), o = some m ∨ p = some m → ∃ n, (o.toList ++ p.toList).min? = some n := fun o p m h => by
    cases e : (o.toList ++ p.toList).min? with
    | some n => exact ⟨n, rfl⟩
    | none =>
      rw [List.min?_eq_none_iff] at e
      rcases h with rfl | rfl
      · cases e
      · cases o <;> cases e
  have c2 : ∀ (o p : Option Int) (m : Int), o = some m ∨ p = some m → ∃ n, (o.toList ++ p.toList).max? = some n := fun o p m h => by
    cases e : (o.toList ++ p.toList).max? with
    | some n => exact ⟨n, rfl⟩
    | none =>
      rw [List.max?_eq_none_iff] at e
      rcases h with rfl | rfl
      · cases e
      · cases o <;> cases e
  have add : (bs F G).cnt = F.cnt + G.cnt := rfl
  rcases hF with ⟨f1, ⟨m, f2⟩, ⟨n, f3⟩⟩ | ⟨f1, f2, f3⟩
  · refine .inl ⟨?_, c1 _ _ m (.inl f2), c2 _ _ n (.inl f3)⟩
    rcases hG with ⟨g1, _⟩ | ⟨g1, _⟩ <;> omega
  · rcases hG with ⟨g1, ⟨m, g2⟩, ⟨n, g3⟩⟩ | ⟨g1, g2, g3⟩
    · exact .inl ⟨by omega, c1 _ _ m (.inr g2), c2 _ _ n (.inr g3)⟩
    · refine .inr ⟨by omega, ?_, ?_⟩
      · show (F.lo.toList ++ G.lo.toList).min? = none
        rw [f2, g2]
        rfl
      · show (F.hi.toList ++ G.hi.toList).max? = none
        rw [f3, g3]
        rfl
/-- what stands whatever two are put beside one another -/
def JB (S : FD) (xs : List FD) : Prop := (∀ x, x ∈ xs → WF x) ∧ cs xs = S ∧ (2 ≤ xs.length ∨ ∀ x, x ∈ xs → x.fst = none ∧ x.lst = none)
theorem JB.step {S : FD} (l : List FD) (x y : FD) (r : List FD) (h : JB S (l ++ x :: y :: r)) : (WF x ∧ WF y) ∧ JB S (l ++ bs x y :: r) := by
  obtain ⟨w, e, _⟩ := h
  have wx : WF x := w x (List.mem_append_right _ (.head _))
  have wy : WF y := w y (List.mem_append_right _ (.tail _ (.head _)))
  refine ⟨⟨wx, wy⟩, fun z hz => ?_, (cs_mid l r x y).symm.trans e, ?_⟩
  · rcases List.mem_append.mp hz with h | h
    · exact w z (List.mem_append_left _ h)
    · rcases List.mem_cons.mp h with rfl | ht
      · exact wf_bs wx wy
      · exact w z (List.mem_append_right _ (.tail _ (.tail _ ht)))
  · rcases Nat.lt_or_ge (l ++ bs x y :: r).length 2 with lt | ge
    · refine .inr fun z hz => ?_
      rw [List.length_append, List.length_cons] at lt
      obtain rfl : l = [] := List.length_eq_zero_iff.mp (by omega)
      obtain rfl : r = [] := List.length_eq_zero_iff.mp (by omega)
      obtain rfl := List.mem_singleton.mp hz
      exact ⟨rfl, rfl⟩
    · exact .inl ge
theorem JB.one {S x : FD} (h : JB S [x]) : x = S := by
  obtain ⟨_, e, c⟩ := h
  rcases c with c | c
  · exact absurd c (by show ¬ 2 ≤ 1; decide)
  · obtain ⟨c1, c2⟩ := c x (.head _)
    rw [← e]
    have s : ∀ g : FD → Int, g x = sm g [x] := fun g => by
      show g x = g x + 0
      omega
    refine FD.same (s _) (s _) (s _) ?_ ?_ c1 c2 (s _) (s _)
    · show x.lo = (x.lo.toList ++ []).min?
      cases x.lo <;> rfl
    · show x.hi = (x.hi.toList ++ []).max?
      cases x.hi <;> rfl
def wall (rows : List (List Pt)) : List Int := wts rows.flatten
theorem sm_rows {g : FD → Int} {h : List Pt → Int} (e : ∀ ps, g (fOf ps) = h ps) (h0 : h [] = 0) (ha : ∀ ps qs, h (ps ++ qs) = h ps + h qs) : ∀ rows : List (List Pt), sm g (rows.map fOf) = h rows.flatten
  | [] => h0.symm
  | ps :: r => by
    have ih := sm_rows e h0 ha r
    show g (fOf ps) + sm g (r.map fOf) = _
    rw [ih, e, List.flatten_cons, ha]
theorem cs_rows (rows : List (List Pt)) : (cs (rows.map fOf)).cnt = ((wall rows).length : Nat) ∧ (cs (rows.map fOf)).tot = (wall rows).sum ∧ (cs (rows.map fOf)).lo = (wall rows).min? ∧ (cs (rows.map fOf)).hi = (wall rows).max? := by
  refine ⟨?_, ?_, ?_, ?_⟩
  · refine (sm_rows (h := fun ps => ((ps.length : Nat) : Int)) (fun _ => rfl) rfl (fun ps qs => ?_) rows).trans ?_
    · show (((ps ++ qs).length : Nat) : Int) = _
      rw [List.length_append]
      omega
    · show ((rows.flatten.length : Nat) : Int) = _
      unfold wall
      rw [wts_len]
  · exact sm_rows (h := fun ps => (wts ps).sum) (fun _ => rfl) rfl (fun ps qs => by show (wts (ps ++ qs)).sum = _; rw [wts_app, List.sum_append]) rows
  · have m : ∀ a, a ∈ wall rows ↔ ∃ ps, ps ∈ rows ∧ a ∈ wts ps := fun a => by
      unfold wall wts
      rw [List.mem_map]
      constructor
      · rintro ⟨p, hp, rfl⟩
        obtain ⟨ps, h1, h2⟩ := List.mem_flatten.mp hp
        exact ⟨ps, h1, List.mem_map.mpr ⟨p, h2, rfl⟩⟩
      · rintro ⟨ps, h1, h2⟩
        obtain ⟨p, hp, rfl⟩ := List.mem_map.mp h2
        exact ⟨p, List.mem_flatten.mpr ⟨ps, h1, hp⟩, rfl⟩
    have n : ∀ a, a ∈ los (rows.map fOf) ↔ ∃ ps, ps ∈ rows ∧ a ∈ (wts ps).min?.toList := fun a => by
      unfold los
      rw [List.mem_flatMap]
      constructor
      · rintro ⟨x, h1, h2⟩
        obtain ⟨ps, hp, rfl⟩ := List.mem_map.mp h1
        exact ⟨ps, hp, h2⟩
      · rintro ⟨ps, h1, h2⟩
        exact ⟨fOf ps, List.mem_map.mpr ⟨ps, h1, rfl⟩, h2⟩
    refine Eq.symm (min_eq (fun a ha => ?_) (fun a ha => ⟨a, ?_, Int.le_refl _⟩) fun a ha => ?_)
    · obtain ⟨ps, h1, h2⟩ := (m a).mp ha
      obtain ⟨b, hb, le⟩ := min_le h2
      exact ⟨b, (n b).mpr ⟨ps, h1, hb⟩, le⟩
    all_goals
      obtain ⟨ps, h1, h2⟩ := (n a).mp ha
      exact (m a).mpr ⟨ps, h1, min_in h2⟩
  · have m : ∀ a, a ∈ wall rows ↔ ∃ ps, ps ∈ rows ∧ a ∈ wts ps := fun a => by
      unfold wall wts
      rw [List.mem_map]
      constructor
      · rintro ⟨p, hp, rfl⟩
        obtain ⟨ps, h1, h2⟩ := List.mem_flatten.mp hp
        exact ⟨ps, h1, List.mem_map.mpr ⟨p, h2, rfl⟩⟩
      · rintro ⟨ps, h1, h2⟩
        obtain ⟨p, hp, rfl⟩ := List.mem_map.mp h2
        exact ⟨p, List.mem_flatten.mpr ⟨ps, h1, hp⟩, rfl⟩
    have n : ∀ a, a ∈ his (rows.map fOf) ↔ ∃ ps, ps ∈ rows ∧ a ∈ (wts ps).max?.toList := fun a => by
      unfold his
      rw [List.mem_flatMap]
      constructor
      · rintro ⟨x, h1, h2⟩
        obtain ⟨ps, hp, rfl⟩ := List.mem_map.mp h1
        exact ⟨ps, hp, h2⟩
      · rintro ⟨ps, h1, h2⟩
        exact ⟨fOf ps, List.mem_map.mpr ⟨ps, h1, rfl⟩, h2⟩
    refine Eq.symm (max_eq (fun a ha => ?_) fun a ha => ?_)
    · obtain ⟨ps, h1, h2⟩ := (m a).mp ha
      obtain ⟨b, hb, le⟩ := max_ge h2
      exact ⟨b, (n b).mpr ⟨ps, h1, hb⟩, le⟩
    · obtain ⟨ps, h1, h2⟩ := (n a).mp ha
      exact (m a).mpr ⟨ps, h1, max_in h2⟩
theorem cs_zero (xs : List FD) : cs (fOf [] :: xs) = cs xs := by
  have s : ∀ g : FD → Int, g (fOf []) = 0 → sm g (fOf [] :: xs) = sm g xs := fun g h => by
    show g (fOf []) + sm g xs = sm g xs
    rw [h]
    omega
  exact FD.same (s _ rfl) (s _ rfl) (s _ rfl) rfl rfl rfl rfl (s _ rfl) (s _ rfl)
end Tg

namespace Tg
open PySem PySem.Spec PyProof.Rows L2
abbrev sBR : Stmt := topS 27
abbrev NBR : List Str := ["_law_draws_here", "_law_rows", "_law_k", "_law_folds", "_law_row", "_law_at", "_law_one", "_law_other", "_law_two", "_law_worths", "_law_time", "_law_worth"]
theorem scBR : FnScope NBR ["_law_draws_here"] (defScope sBR) := ⟨rfl, rfl, rfl, by decide +kernel, rfl, by decide +kernel, by decide +kernel⟩
theorem fn_ex {ι : Type} {P : Program} {w : World} {K : PySem.W.Frag} {mg : Str → Option Value} {base : Heap} {CX : CXT} {k : Nat} {f : Addr} {fd : FuncData} {ps : List Str} {sp : ι → Sp} (h : ∀ i, FnOk P w K mg base CX k f fd ps (sp i)) :
    FnOk P w K mg base CX k f fd ps (fun vs H Q E => ∃ i, sp i vs H Q E) :=
  ⟨fun vs H Q E ⟨i, q⟩ => (h i).len vs H Q E q, fun A outer s H args us vs Q E hr he hb hv ⟨i, q⟩ => (h i).run A outer s H args us vs Q E hr he hb hv q⟩
theorem two_form (a b : Option Int) : SeqAt.shaped (.list [dw a, dw b]) = true ∧ PyData.eqv (.list [dw a, dw b]) (.list [dw a, dw b]) = true := by
  constructor
  · refine shaped_of ?_ ?_
    · cases a <;> cases b <;> rfl
    · cases a <;> cases b <;> (show 1 ≤ 64; decide)
  · show (PyData.eqv (dw a) (dw a) && (PyData.eqv (dw b) (dw b) && true)) = true
    rw [(dw_form _).2, (dw_form _).2]
    rfl
section
variable {P : Program} {w : World} {K : PySem.W.Frag} {mg : Str → Option Value} {base : Heap} {C fb : Addr} {k : Nat} {f : Addr} {cdv : Value} {A : Around} {outer : List Env} {s : Shared} {H0 : Hp} {E : XK}
/-- the last two rows -/
def RBR2 (K : PySem.W.Frag) (C : Addr) : TS := fun D σ H => ∃ (v0 v1 v2 v3 v4 v5 v7 v10 v11 : Option V) (a c W : Addr) (S : FD) (ws : List Int), σ = [v0, v1, v2, v3, v4, v5, some (.ref a), v7, some (.ref c), some (.ref W), v10, v11] ∧
  FdO K C H a S ∧ FdO K C H c S ∧ H W = some (.lst (ws.map V.int)) ∧ S.cnt = ((ws.length : Nat) : Int) ∧ S.tot = ws.sum ∧ S.lo = ws.min? ∧ S.hi = ws.max? ∧ S.fst = none ∧ ∀ H', Same H H' → D.rt (.bl true) H'
theorem br_t2 {fE : Addr} {fdE : FuncData} {j : Nat} (hr : Room k (A.deeper (envOfC "_law_beside_right" (defScope sBR) s.heap.objs.size f cdv))) (T : TFold K C) (OE : OwnE P w K mg base C j fE fdE) (hj : j + 1 ≤ k) (m_len : mg "len" = none) (m_sum : mg "sum" = none) (m_min : mg "min" = none) (m_max : mg "max" = none) :
    PSs (cxOf CX0 P w K mg base NBR "_law_beside_right" (defScope sBR) f cdv A outer s H0 E).nox ((defBody sBR).drop 7) (RBR2 K C) := by
  have hu := hr.units
  have hu1 := hu_of hr
  obtain ⟨FE, hs, hf, hbE, NE⟩ := OE
  refine pss_by (pss_cons (ps_if (PW.pt (pw_or (pt_cmpR (op_neG FE NE hbE pass0 (hr.mono (by omega))) (pv 6) (pv 8) (nomark _)) (pw_or (pt_cmpR (op_neD hu) (pe_tup (pa_cons (pe_fld (pv 6) rfl) (pa_cons (pe_fld (pv 6) rfl) pa_nil))) (pe_tup (pa_cons (pe_callB call_len_seq (by rfl) m_len (by decide +kernel) (pa_cons (pv 9) pa_nil)) (pa_cons (pe_callB (cr_sum rfl) (by rfl) m_sum (by decide +kernel) (pa_cons (pv 9) pa_nil)) pa_nil))) (nomark _)) (pw_or1 (pt_cmpR op_notN (pe_fld (pv 6) rfl) pe_non (nomark _))))))
        (pss_one (ps_ret pe_bl))
        pss_nil)
      (pss_one (ps_ret (pe_cmpR (op_eqD hu) (pe_lst (pa_cons (pe_fld (pv 6) rfl) (pa_cons (pe_fld (pv 6) rfl) pa_nil))) (pe_lst (pa_cons (pe_minDef rfl (by exact hu1) (by rfl) m_min (pv 9)) (pa_cons (pe_maxDef rfl (by exact hu1) (by rfl) m_max (pv 9)) pa_nil))) (nomark _))))) ?_
  rintro D σ H ⟨v0, v1, v2, v3, v4, v5, v7, v10, v11, a, c, W, S, ws, rfl, fa, fc, hW, e1, e2, e3, e4, e5, q⟩
  refine ⟨_, rfl, _, rfl, fa.ins fc, fun H1 x1 => ⟨false, rfl, if_f ?_⟩⟩
  have s1 : Same H H1 := x1
  have fa1 := fa.same s1
  obtain ⟨dA, fA, lA, eA, pA, zA⟩ := id fa1
  refine ⟨_, rfl, a, C, dA, _, _, rfl, eA, T.cl, T.no _ (by decide), rfl, _, rfl, a, C, dA, _, _, rfl, eA, T.cl, T.no _ (by decide), rfl, (by show 2 ≤ sizeLine; decide), fun t1 n1 => ?_⟩
  have st1 : Same H1 (upd H1 t1 (.tup [.int S.cnt, .int S.tot])) := same_new n1
  have hW1 := (s1.trans st1) _ _ hW
  refine ⟨_, rfl, W, _, rfl, .inl (SqL.of hW1), _, rfl, W, ws, rfl, SqL.of hW1, (by show 2 ≤ sizeLine; decide), fun t2 n2 => ?_⟩
  have st2 : Same (upd H1 t1 (.tup [.int S.cnt, .int S.tot])) (upd (upd H1 t1 (.tup [.int S.cnt, .int S.tot])) t2 (.tup [.int (((ws.map V.int).length : Nat) : Int), .int ws.sum])) := same_new n2
  have shp : ∀ p, SeqAt.shaped (pd p) = true := fun p => shaped_of rfl (by show 1 ≤ 64; decide)
  refine ⟨_, _, dp_same st2 (pd_new (x := (S.cnt, S.tot)) upd_same), pd_new (x := ((((ws.map V.int).length : Nat) : Int), ws.sum)) upd_same, shp _, shp _, false, congrArg V.bl (by rw [e1, e2, List.length_map, ref_pd]; rfl), if_f ?_⟩
  have s2 := s1.trans (st1.trans st2)
  obtain ⟨H2, eH⟩ : ∃ H2, upd (upd H1 t1 (.tup [.int S.cnt, .int S.tot])) t2 (.tup [.int (((ws.map V.int).length : Nat) : Int), .int ws.sum]) = H2 := ⟨_, rfl⟩
  have eA2 := (st1.trans st2) _ _ eA
  rw [eH] at s2 eA2
  dsimp only
  rw [eH]
  rw [e5] at pA
  obtain rfl : fA = .non := pA
  refine ⟨_, rfl, a, C, dA, _, _, rfl, eA2, T.cl, T.no _ (by decide), rfl, rfl, false, rfl, if_f ?_⟩
  refine ⟨_, rfl, a, C, dA, _, _, rfl, eA2, T.cl, T.no _ (by decide), rfl, _, rfl, a, C, dA, _, _, rfl, eA2, T.cl, T.no _ (by decide), rfl, (by show 2 ≤ sizeLine; decide), fun l1 n3 => ?_⟩
  have st3 : Same H2 (upd H2 l1 (.lst [vw S.lo, vw S.hi])) := same_new n3
  have hW3 := (s2.trans st3) _ _ hW
  refine ⟨_, rfl, W, ws, rfl, SqL.of hW3, _, rfl, W, ws, rfl, SqL.of hW3, (by show 2 ≤ sizeLine; decide), fun l2 n4 => ?_⟩
  rw [vO_vw, vO_vw] at *
  have st4 : Same (upd H2 l1 (.lst [vw S.lo, vw S.hi])) (upd (upd H2 l1 (.lst [vw S.lo, vw S.hi])) l2 (.lst [vw ws.min?, vw ws.max?])) := same_new n4
  refine ⟨_, _, .lst (SqL.of (st4 _ _ upd_same)) (.cons (dp_vw S.lo) (.cons (dp_vw S.hi) .nil)), .lst (SqL.of upd_same) (.cons (dp_vw ws.min?) (.cons (dp_vw ws.max?) .nil)), (two_form _ _).1, (two_form _ _).1, ?_⟩
  rw [e3, e4, (two_form _ _).2]
  rw [e3, e4] at st3 st4
  exact q _ (s2.trans (st3.trans st4))
end
end Tg

namespace Tg
open PySem PySem.Spec PyProof.Rows L2
theorem Ls.same {K : PySem.W.Frag} {H H' : Hp} {as : List Addr} {rows : List (List Pt)} (h : Ls K H as rows) (s : Same H H') : Ls K H' as rows := ⟨h.1, fun i a r e1 e2 => (h.2 i a r e1 e2).same s⟩
theorem Ls.kp {K : PySem.W.Frag} {H H' : Hp} {as : List Addr} {rows : List (List Pt)} {p : Addr} {n : Nat} (h : Ls K H as rows) (d : Dr H p n) (k : Kp p H H') (ne : ∀ a, a ∈ as → a ≠ p) : Ls K H' as rows := by
  obtain ⟨_, _, _, hp, _⟩ := d
  exact ⟨h.1, fun i a r e1 e2 => LD.kp k hp nfix_lst (ne a (List.mem_of_getElem? e1)) (td_pds r) (h.2 i a r e1 e2)⟩
theorem Ls.put {K : PySem.W.Frag} {H : Hp} {as : List Addr} {rows : List (List Pt)} {D : Addr} {xs ys : List V} (h : Ls K H as rows) (hD : H D = some (.lst xs)) (ne : ∀ a, a ∈ as → a ≠ D) : Ls K (upd H D (.lst ys)) as rows :=
  ⟨h.1, fun i a r e1 e2 => (h.2 i a r e1 e2).kt (KT.put hD nfix_lst) (fun u e => by rw [upd_ne (ne a (List.mem_of_getElem? e1))]; exact e) (td_pds r)⟩
theorem Ls.snoc {K : PySem.W.Frag} {H : Hp} {as : List Addr} {rows : List (List Pt)} {a : Addr} {r : List Pt} (h : Ls K H as rows) (hr : LD K H a (r.map pd)) : Ls K H (as ++ [a]) (rows ++ [r]) := by
  refine ⟨by rw [List.length_append, List.length_append, h.1]; rfl, fun i b s e1 e2 => ?_⟩
  rcases Nat.lt_or_ge i as.length with lt | ge
  · rw [List.getElem?_append_left lt] at e1
    rw [List.getElem?_append_left (by rw [← h.1]; exact lt)] at e2
    exact h.2 i b s e1 e2
  · rw [List.getElem?_append_right ge] at e1
    rw [List.getElem?_append_right (by rw [← h.1]; exact ge), ← h.1] at e2
    obtain ⟨i1, _⟩ := List.getElem?_eq_some_iff.mp e1
    have i0 : i - as.length = 0 := by
      have : i - as.length < 1 := i1
      omega
    rw [i0] at e1 e2
    cases e1
    cases e2
    exact hr
theorem Ls.vals {K : PySem.W.Frag} {H : Hp} : ∀ {as : List Addr} {rows : List (List Pt)}, Ls K H as rows → ∃ rs : List (List V), as.length = rs.length ∧ (∀ (i : Nat) (a : Addr) (r : List V), as[i]? = some a → rs[i]? = some r → H a = some (.lst r)) ∧ DpAll K H rs.flatten (rows.flatten.map pd)
  | [], [], _ => ⟨[], rfl, (fun _ _ _ z _ => nomatch z), .nil⟩
  | [], _ :: _, h => nomatch h.1
  | _ :: _, [], h => nomatch h.1
  | a :: as, r :: rows, h => by
    obtain ⟨rs, l, v, d⟩ := Ls.vals (as := as) (rows := rows) ⟨Nat.succ.inj h.1, fun i b s e1 e2 => h.2 (i + 1) b s e1 e2⟩
    obtain ⟨xs, hx, dx⟩ := h.2 0 a r rfl rfl
    refine ⟨xs :: rs, by rw [List.length_cons, List.length_cons, l], fun i b s e1 e2 => ?_, ?_⟩
    · cases i with
      | zero =>
        cases e1
        cases e2
        exact hx
      | succ i => exact v i b s e1 e2
    · rw [List.flatten_cons, List.flatten_cons, List.map_append]
      exact dpAll_app dx d
theorem FdO.put {K : PySem.W.Frag} {C a D : Addr} {H : Hp} {F : FD} {xs ys : List V} (h : FdO K C H a F) (hD : H D = some (.lst xs)) : FdO K C (upd H D (.lst ys)) a F := by
  obtain ⟨dx, vf, vl, e, h1, h2⟩ := h
  refine ⟨dx, vf, vl, ?_, h1.kt (KT.put hD nfix_lst), h2.kt (KT.put hD nfix_lst)⟩
  rw [upd_ne fun z => by rw [z, hD] at e; cases e]
  exact e
/-- folds with their places -/
def Fp (K : PySem.W.Frag) (C : Addr) (H : Hp) (L : List (Addr × FD)) : Prop := ∀ q, q ∈ L → FdO K C H q.1 q.2
theorem Fp.same {K : PySem.W.Frag} {C : Addr} {H H' : Hp} {L : List (Addr × FD)} (h : Fp K C H L) (s : Same H H') : Fp K C H' L := fun q hq => (h q hq).same s
theorem Fp.kp {K : PySem.W.Frag} {C p : Addr} {H H' : Hp} {L : List (Addr × FD)} {n : Nat} (h : Fp K C H L) (d : Dr H p n) (k : Kp p H H') : Fp K C H' L := fun q hq => (h q hq).kp d k
theorem Fp.fs {K : PySem.W.Frag} {C : Addr} {H : Hp} {L : List (Addr × FD)} (h : Fp K C H L) : Fs K C id H (L.map (·.1)) (L.map (·.2)) := by
  refine ⟨by rw [List.length_map, List.length_map], fun i a x e1 e2 => ?_⟩
  rw [List.getElem?_map] at e1 e2
  obtain ⟨q, hq, rfl⟩ := Option.map_eq_some_iff.mp e1
  rw [hq] at e2
  cases e2
  exact h q (List.mem_of_getElem? hq)
section
variable {P : Program} {w : World} {K : PySem.W.Frag} {mg : Str → Option Value} {base : Heap} {C fb : Addr} {k : Nat} {f : Addr} {cdv : Value} {A : Around} {outer : List Env} {s : Shared} {H0 : Hp} {E : XK}
/-- from the worths on -/
def RBR1 (K : PySem.W.Frag) (C : Addr) : TS := fun D σ H => ∃ (v0 v2 v3 v4 v5 v7 v9 v10 v11 : Option V) (D1 a c : Addr) (S : FD) (as : List Addr) (rows : List (List Pt)), σ = [v0, some (.ref D1), v2, v3, v4, v5, some (.ref a), v7, some (.ref c), v9, v10, v11] ∧
  H D1 = some (.lst (as.map V.ref)) ∧ Ls K H as rows ∧ 0 < rows.length ∧ rows.flatten.length ≤ 400 ∧ FdO K C H a S ∧ FdO K C H c S ∧ S = cs (rows.map fOf) ∧ ∀ H', Same H H' → D.rt (.bl true) H'
theorem br_t1 {fE : Addr} {fdE : FuncData} {j : Nat} (hr : Room k (A.deeper (envOfC "_law_beside_right" (defScope sBR) s.heap.objs.size f cdv))) (T : TFold K C) (OE : OwnE P w K mg base C j fE fdE) (hj : j + 1 ≤ k) (m_len : mg "len" = none) (m_sum : mg "sum" = none) (m_min : mg "min" = none) (m_max : mg "max" = none) :
    PSs (cxOf CX0 P w K mg base NBR "_law_beside_right" (defScope sBR) f cdv A outer s H0 E).nox ((defBody sBR).drop 6) (RBR1 K C) := by
  refine pss_by (pss_cons (ps_setLc (i := 9) (own := [("_law_time", 10), ("_law_worth", 11)]) (g := gTup K 2 _) (tt := tYes) rfl scBR.nd rfl rfl (sw_true rfl rfl rfl (by decide +kernel)) (pi_list (pe_callB (cr_sumL rfl) (by rfl) m_sum (by decide +kernel) (pa_cons (pv 1) (pa_cons (pe_lst pa_nil) pa_nil)))) (blkOk_by (own := [("_law_time", 10), ("_law_worth", 11)]) (N := NBR) (sc := defScope sBR) (by decide +kernel)) (fun _ _ _ _ _ => (pg_tup rfl (pgs_cons (pg_name (i := 10) scBR.nd rfl (.inl rfl)) (pgs_cons (pg_name (i := 11) scBR.nd rfl (.inl rfl)) pgs_nil)))) (fun _ _ _ _ _ => pts_nil) (fun _ _ _ _ _ => (pv 11)))
      (br_t2 hr T OE hj m_len m_sum m_min m_max)) ?_
  rintro D σ H ⟨v0, v2, v3, v4, v5, v7, v9, v10, v11, D1, a, c, S, as, rows, rfl, hD1, ls, l0, l4, fa, fc, eS, q⟩
  refine ⟨_, rfl, (by show 0 ≤ sizeLine; decide), fun z nz => ?_⟩
  have sz : Same H (upd H z (.lst [])) := same_new nz
  obtain ⟨rs, lr, hv, hd⟩ := (ls.same sz).vals
  have lf := dl_len hd
  refine ⟨D1, z, as, rs, rfl, SqL.of (sz _ _ hD1), upd_same, lr, hv, by rw [ls.1]; exact l0, Nat.le_of_lt (small1000 (by omega)), fun p np => ?_⟩
  have sp : Same (upd H z (.lst [])) (upd (upd H z (.lst [])) p (.lst rs.flatten)) := same_new np
  have hd2 := dpAll_same sp hd
  obtain ⟨H2, e2⟩ : ∃ H2, upd (upd H z (.lst [])) p (.lst rs.flatten) = H2 := ⟨_, rfl⟩
  have hp : H2 p = some (.lst rs.flatten) := by
    rw [← e2]
    exact upd_same
  rw [e2] at sp hd2
  rw [e2]
  have s2 := sz.trans sp
  refine ⟨p, rfl, ⟨_, SqL.of hp⟩, fun D9 nD9 => lc_list (K := K) (a := p) (xs := rs.flatten) (fun i Hc => Same H2 Hc ∧ Hc D9 = some (.lst (((wall rows).take i).map V.int))) ⟨same_new nD9, upd_same⟩ (fun i Hc _ h => SqL.of (h.1 _ _ hp)) ?_ ?_⟩
  · rintro i v Hc hi ⟨sc, hD⟩
    obtain ⟨r, hr1, d_r⟩ := dl_at hd2 hi
    obtain ⟨t, rfl, ht⟩ := dp_pd (dp_same sc d_r)
    refine ⟨t, _, rfl, ht, rfl, _, _, rfl, _, [], rfl, rfl, rfl, yes_i (if_t ?_)⟩
    refine ⟨_, rfl, _, hD, ?_, same_put nD9 sc, ?_⟩
    · unfold wall
      rw [List.length_map, List.length_take, wts_len]
      exact small1000 (by omega)
    · unfold wall
      rw [upd_same, take_snoc (wts_at hr1), List.map_append]
      rfl
  · rintro H3 ⟨s3, hD⟩
    have z1 : (wall rows).take rs.flatten.length = wall rows := List.take_of_length_le (by unfold wall; rw [wts_len]; omega)
    rw [z1] at hD
    obtain ⟨c1, c2, c3, c4⟩ := cs_rows rows
    rw [← eS] at c1 c2 c3 c4
    have s23 := s2.trans s3
    exact ⟨_, _, _, _, _, _, _, _, _, a, c, D9, S, wall rows, rfl, fa.same s23, fc.same s23, hD, c1, c2, c3, c4, by rw [eS]; rfl, fun H' s' => q H' (s23.trans s')⟩
def spJoinB (K : PySem.W.Frag) (C fb : Addr) : Sp := fun vs H Q E => ∃ S : FD, spJoin K C fb id (JB S) vs H Q E
def spBR (K : PySem.W.Frag) : Sp := fun vs H Q _ => ∃ (p : Addr) (n : Nat), vs = [.ref p] ∧ Dr H p n ∧ n < 800000 ∧ ∀ H', Kp p H H' → Dr H' p (n + 400) → Q (.bl true) H'
theorem ok_br {fE : Addr} {fd fdE : FuncData} {j : Nat} (F : Fun K "_law_beside_right" "_law_beside_right" sBR f fd) (T : TFold K C) (OE : OwnE P w K mg base C j fE fdE) (hj : j + 1 ≤ k) (g_beside : mg "beside" = some (.ref fb)) (L_next : Cal P w K mg base k "_law_next" ["_law_draws_here"] spNext) (L_some_points : Cal P w K mg base k "_law_some_points" ["_law_draws_here"] (spSome K)) (C_fold_of : Cal P w K mg base k "fold_of" ["points"] (spFO K C)) (K_Fold0 : KF0 P w K mg base C j) (L_joined : Cal P w K mg base k "_law_joined" ["_law_draws_here", "_law_folds", "_law_both"] (spJoinB K C fb))
    (m_range : mg "range" = none) (m_len : mg "len" = none) (m_sum : mg "sum" = none) (m_min : mg "min" = none) (m_max : mg "max" = none) : FnOk P w K mg base CX0 (k + 1) f fd ["_law_draws_here"] (spBR K) := by
  refine F.ok scBR (fun vs H Q E h => ?_) (fun cdv A outer s H vs Q E hr h => ?_)
  · obtain ⟨p, n, rfl, _⟩ := h
    rfl
  · obtain ⟨p, n, rfl, dr, n9, q⟩ := h
    refine ⟨_, pss_cons (ps_setLc (i := 1) (own := [("_law_k", 2)]) (g := (gName 2)) (tt := tYes) rfl scBR.nd rfl rfl (sw_true rfl rfl rfl (by decide +kernel)) (pi_range1 (by rfl) m_range (pa_cons (pe_op op_add pe_int (pe_op op_mod (pe_cal L_next (hr.mono (by omega)) (by rfl) (pa_cons (pv 0) pa_nil)) pe_int)) pa_nil)) (blkOk_by (own := [("_law_k", 2)]) (N := NBR) (sc := defScope sBR) (by decide +kernel)) (fun _ _ _ _ _ => (pg_name (i := 2) scBR.nd rfl (.inl rfl))) (fun _ _ _ _ _ => pts_nil) (fun _ _ _ _ _ => (pe_cal L_some_points (hr.mono (by omega)) (by rfl) (pa_cons (pv 0) pa_nil))))
      (pss_cons (ps_setLc (i := 3) (own := [("_law_row", 4)]) (g := (gName 4)) (tt := tYes) rfl scBR.nd rfl rfl (sw_true rfl rfl rfl (by decide +kernel)) (pi_list (pv 1)) (blkOk_by (own := [("_law_row", 4)]) (N := NBR) (sc := defScope sBR) (by decide +kernel)) (fun _ _ _ _ _ => (pg_name (i := 4) scBR.nd rfl (.inl rfl))) (fun _ _ _ _ _ => pts_nil) (fun _ _ _ _ _ => (pe_cal C_fold_of (hr.mono (by omega)) (by rfl) (pa_cons (pv 4) pa_nil))))
      (pss_cons (ps_set (i := 5) scBR.nd rfl (.inl rfl) (pe_op op_mod (pe_cal L_next (hr.mono (by omega)) (by rfl) (pa_cons (pv 0) pa_nil)) (pe_callB call_len_seq (by rfl) m_len (by decide +kernel) (pa_cons (pv 1) pa_nil))))
      (pss_cons (ps_set (i := 6) scBR.nd rfl (.inl rfl) (pe_cal L_joined (hr.mono (by omega)) (by rfl) (pa_cons (pv 0) (pa_cons (pe_op op_cat (pe_lst (pa_cons (pe_calCK K_Fold0 (hr.mono (by omega)) (by rfl) pk_nil) pa_nil)) (pv 3)) (pa_cons (pe_glob (v := .ref fb) rfl g_beside rfl) pa_nil)))))
      (pss_cons (ps_set (i := 7) scBR.nd rfl (.inl rfl) (pe_revL (pe_op op_cat (pe_slice sl_list (pv 3) (po_some (pv 5)) po_none) (pe_slice sl_list (pv 3) po_none (po_some (pv 5))))))
      (pss_cons (ps_set (i := 8) scBR.nd rfl (.inl rfl) (pe_cal L_joined (hr.mono (by omega)) (by rfl) (pa_cons (pv 0) (pa_cons (pe_op op_cat (pv 7) (pe_lst (pa_cons (pe_calCK K_Fold0 (hr.mono (by omega)) (by rfl) pk_nil) pa_nil))) (pa_cons (pe_glob (v := .ref fb) rfl g_beside rfl) pa_nil)))))
      (br_t1 hr T OE hj m_len m_sum m_min m_max)))))), ?_⟩
    refine ⟨_, rfl, p, n, rfl, dr, by omega, fun v H1 k1 d1 v0 _ => ⟨_, _, rfl, rfl, (by show (0 : Int) < 6; decide), _, _, rfl, rfl, _, rfl, by omega, by omega, fun D1 nD1 => ?_⟩⟩
    obtain ⟨cn, ecn⟩ : ∃ cn : Nat, (1 + v % 6).toNat = cn := ⟨_, rfl⟩
    have cn6 : 0 < cn ∧ cn ≤ 6 := by omega
    have D1p : D1 ≠ p := d1.ne nD1
    rw [ecn]
    refine lc_range (n := cn) (fun i Hc => Kp p H1 Hc ∧ Dr Hc p (n + 1 + 43 * i) ∧ ∃ (as : List Addr) (rows : List (List Pt)), Hc D1 = some (.lst (as.map V.ref)) ∧ Ls K Hc as rows ∧ rows.length = i ∧ (∀ r, r ∈ rows → POk r) ∧ (∀ a, a ∈ as → a ≠ D1) ∧ ∀ a, a ∈ as → a ≠ p)
      ⟨Kp.of (same_new nD1), d1.same (same_new nD1), [], [], upd_same, ⟨rfl, (fun _ _ _ z _ => nomatch z)⟩, rfl, (fun _ z => nomatch z), (fun _ z => nomatch z), (fun _ z => nomatch z)⟩ ?_ ?_
    · rintro i Hc hi ⟨kc, dc, as, rows, hD, ls, ln, ok, nD, nP⟩
      refine ⟨rfl, yes_i (if_t ?_)⟩
      refine ⟨_, rfl, p, _, rfl, dc, by omega, fun l ps Hv kv dv nl ld okp => ?_⟩
      have hDv := kv _ _ D1p hD
      have lD : l ≠ D1 := (ne_of_none hD nl).symm
      have lp : l ≠ p := dc.ne nl
      refine ⟨_, hDv, ?_, fun b u hb e => ?_, ?_, as ++ [l], rows ++ [ps], ?_, ?_, ?_, ?_, ?_, ?_⟩
      · rw [List.length_map, ls.1]
        exact small1000 (by omega)
      · rw [upd_ne (ne_of_none e nD1)]
        exact kv _ _ hb (kc _ _ hb e)
      · obtain ⟨a, m, b, h, r0, r1⟩ := dv
        exact ⟨a, m, b, by rw [upd_ne D1p.symm]; exact h, r0, by omega⟩
      · rw [upd_same, List.map_append]
        rfl
      · exact (((ls.kp dc kv nP).snoc ld).put hDv fun a ha => by
          rcases List.mem_append.mp ha with h | h
          · exact nD a h
          · rw [List.mem_singleton.mp h]
            exact lD)
      · rw [List.length_append, ln]
        rfl
      all_goals
        intro a ha
        rcases List.mem_append.mp ha with h | h
      · exact ok a h
      · rw [List.mem_singleton.mp h]
        exact okp
      · exact nD a h
      · rw [List.mem_singleton.mp h]
        exact lD
      · exact nP a h
      · rw [List.mem_singleton.mp h]
        exact lp
    · rintro H2 ⟨k2, d2, as, rows, hD, ls, ln, ok, nD, nP⟩
      have l4 : rows.flatten.length ≤ 240 := by
        have : ∀ rs : List (List Pt), (∀ r, r ∈ rs → POk r) → rs.flatten.length ≤ 40 * rs.length := fun rs => by
          induction rs with
          | nil => exact fun _ => Nat.zero_le _
          | cons r rs ih =>
            intro h
            have h1 := ih fun x hx => h x (.tail _ hx)
            have h2 := (h r (.head _)).len
            rw [List.flatten_cons, List.length_append, List.length_cons]
            omega
        have := this rows ok
        omega
      -- the folds
      refine ⟨_, rfl, D1, rfl, ⟨_, SqL.of hD⟩, fun D2 nD2 => lc_list (K := K) (a := D1) (xs := as.map V.ref) (fun i Hc => Same H2 Hc ∧ ∃ L : List (Addr × FD), Hc D2 = some (.lst ((L.map (·.1)).map V.ref)) ∧ L.map (·.2) = (rows.take i).map fOf ∧ Fp K C Hc L) ⟨same_new nD2, [], upd_same, rfl, (fun _ z => nomatch z)⟩ (fun i Hc _ h => SqL.of (h.1 _ _ hD)) ?_ ?_⟩
      · rintro i v2 Hc hi ⟨sc, L, hD2, eL, fp⟩
        rw [List.getElem?_map] at hi
        obtain ⟨a, ha, rfl⟩ := Option.map_eq_some_iff.mp hi
        have il := (List.getElem?_eq_some_iff.mp ha).1
        obtain ⟨r, hr1⟩ : ∃ r, rows[i]? = some r := ⟨_, List.getElem?_eq_getElem (by rw [← ls.1]; exact il)⟩
        obtain ⟨xs, hx, hdx⟩ := ((ls.same sc).2 i a r ha hr1)
        refine ⟨rfl, yes_i (if_t ?_)⟩
        refine ⟨_, rfl, a, r, rfl, ⟨xs, SqL.of hx, hdx⟩, ok r (List.mem_of_getElem? hr1), fun c Hv sv fv => ?_⟩
        have hDv := sv _ _ hD2
        have lL : L.length ≤ 6 := by
          have := congrArg List.length eL
          rw [List.length_map, List.length_map, List.length_take] at this
          omega
        refine ⟨_, hDv, ?_, same_put nD2 (sc.trans sv), L ++ [(c, fOf r)], ?_, ?_, fun q hq => ?_⟩
        · rw [List.length_map, List.length_map]
          exact small1000 (by omega)
        · rw [upd_same, List.map_append, List.map_append]
          rfl
        · rw [List.map_append, eL, take_snoc hr1, List.map_append]
          rfl
        · refine FdO.put ?_ hDv
          rcases List.mem_append.mp hq with h | h
          · exact (fp q h).same sv
          · rw [List.mem_singleton.mp h]
            exact fv
      · rintro H3 ⟨s3, L, hD2, eL, fp⟩
        have zl : rows.take (as.map V.ref).length = rows := List.take_of_length_le (by rw [List.length_map, ls.1]; exact Nat.le_refl _)
        rw [zl] at eL
        have lL : L.length = rows.length := by
          have := congrArg List.length eL
          rw [List.length_map, List.length_map] at this
          exact this
        have d3 := d2.same s3
        -- where the other order begins
        refine ⟨_, rfl, p, _, rfl, d3, by omega, fun v4 H4 k4 d4 v40 _ => ?_⟩
        have D2p : D2 ≠ p := d2.ne nD2
        have hD4 := k4 _ _ D1p (s3 _ _ hD)
        have hF4 := k4 _ _ D2p hD2
        have fp4 := fp.kp d3 k4
        have ls4 := (ls.same s3).kp d3 k4 nP
        refine ⟨_, rfl, D1, _, rfl, .inl (SqL.of hD4), _, _, rfl, rfl, (by rw [List.length_map, ls.1]; omega), ?_⟩
        have m0 : 0 ≤ v4 % (((as.map V.ref).length : Nat) : Int) := Int.emod_nonneg _ (by rw [List.length_map, ls.1]; omega)
        obtain ⟨x, ex⟩ : ∃ x : Nat, v4 % (((as.map V.ref).length : Nat) : Int) = (x : Nat) := ⟨(v4 % (((as.map V.ref).length : Nat) : Int)).toNat, by omega⟩
        dsimp only
        rw [ex]
        obtain ⟨S, eS⟩ : ∃ S, cs (rows.map fOf) = S := ⟨_, rfl⟩
        have wfL : ∀ y, y ∈ L.map (·.2) → WF y := fun y hy => by
          rw [eL] at hy
          obtain ⟨r, _, rfl⟩ := List.mem_map.mp hy
          exact wf_fOf r
        -- the first order
        refine ⟨_, rfl, rfl, rfl, fun z dz nz ndz nez => ⟨z, dz, _, _, _, _, _, _, _, _, _, rfl, upd_same, rfl, ?_⟩⟩
        obtain ⟨sZ, fz⟩ := fd_made (K := K) (C := C) nz ndz nez (F := fOf []) (vf := .non) (vl := .non) rfl rfl
        refine ⟨(by show 1 ≤ sizeLine; decide), fun l1 n1 => ?_⟩
        have sL := same_new (o := .lst [.ref z]) n1
        have s45 := sZ.trans sL
        have l6 : L.length ≤ 6 := by omega
        refine ⟨_, rfl, l1, D2, _, _, rfl, rfl, upd_same, s45 _ _ hF4, Nat.le_of_lt (small1000 (by rw [List.length_map, List.length_map]; show 1 + L.length ≤ 1000; omega)), fun M nM => ?_⟩
        have sM := same_new (o := .lst ([.ref z] ++ (L.map (·.1)).map V.ref)) nM
        have s4M := s45.trans sM
        have fp5 : Fp K C _ ((z, fOf []) :: L) := fun q hq => by
          rcases List.mem_cons.mp hq with rfl | h
          · exact fz.same (sL.trans sM)
          · exact (fp4 q h).same s4M
        have jb1 : JB S (fOf [] :: L.map (·.2)) := by
          refine ⟨fun y hy => ?_, by rw [cs_zero, eL, eS], .inl (by rw [List.length_cons, List.length_map]; omega)⟩
          rcases List.mem_cons.mp hy with rfl | h
          · exact wf_fOf []
          · exact wfL y h
        refine ⟨S, p, M, _, z :: L.map Prod.fst, fOf [] :: L.map Prod.snd, rfl, d4.same s4M, by omega, SqL.of upd_same, fp5.fs, List.cons_ne_nil _ _, (by rw [List.length_cons, List.length_map]; omega), jb1, fun a y H6 k6 d6 fa jy => ?_⟩
        obtain rfl := jy.one
        have Mp : D2 ≠ p := D2p
        have hF6 := k6 _ _ D2p (s4M _ _ hF4)
        have hD6 := k6 _ _ D1p (s4M _ _ hD4)
        have fp6 := (fp4.same s4M).kp (d4.same s4M) k6
        have ls6 := (ls4.same s4M).kp (d4.same s4M) k6 nP
        -- the other order
        refine ⟨_, rfl, _, rfl, _, rfl, D2, _, rfl, SqL.of hF6, fun S1 nS1 => ?_⟩
        have sS1 := same_new (o := .lst (cutV ((L.map (·.1)).map V.ref) (some (x : Int)) none)) nS1
        refine ⟨_, rfl, _, rfl, _, rfl, D2, _, rfl, SqL.of (sS1 _ _ hF6), fun S2 nS2 => ?_⟩
        have sS2 := same_new (o := .lst (cutV ((L.map (·.1)).map V.ref) none (some (x : Int)))) nS2
        have l1a : (cutV ((L.map (·.1)).map V.ref) (some (x : Int)) none).length ≤ 6 := by
          rw [cut_from, List.length_drop, List.length_map, List.length_map]
          omega
        have l1b : (cutV ((L.map (·.1)).map V.ref) none (some (x : Int))).length ≤ 6 := by
          rw [cut_to, List.length_take, List.length_map, List.length_map]
          omega
        refine ⟨S1, S2, _, _, rfl, rfl, sS2 _ _ upd_same, upd_same, Nat.le_of_lt (small1000 (by omega)), fun M2 nM2 => ?_⟩
        have sM2 := same_new (o := .lst (cutV ((L.map (·.1)).map V.ref) (some (x : Int)) none ++ cutV ((L.map (·.1)).map V.ref) none (some (x : Int)))) nM2
        refine ⟨M2, _, rfl, SqL.of upd_same, fun R nR => ?_⟩
        have sR := same_new (o := .lst (cutV ((L.map (·.1)).map V.ref) (some (x : Int)) none ++ cutV ((L.map (·.1)).map V.ref) none (some (x : Int))).reverse) nR
        have s6R := (sS1.trans sS2).trans (sM2.trans sR)
        obtain ⟨L2, eL2⟩ : ∃ L2, (L.drop x ++ L.take x).reverse = L2 := ⟨_, rfl⟩
        have per : L2.Perm L := by
          rw [← eL2]
          refine (List.reverse_perm _).trans (List.perm_append_comm.trans ?_)
          rw [List.take_append_drop]
        have eR : (cutV ((L.map (·.1)).map V.ref) (some (x : Int)) none ++ cutV ((L.map (·.1)).map V.ref) none (some (x : Int))).reverse = (L2.map (·.1)).map V.ref := by
          rw [cut_from, cut_to, ← eL2, List.map_reverse, List.map_reverse, List.map_append, List.map_append, List.map_drop, List.map_take, List.map_drop, List.map_take]
        have l62 : L2.length ≤ 6 := by rw [per.length_eq]; exact l6
        have lR : (cutV ((L.map (·.1)).map V.ref) (some (x : Int)) none ++ cutV ((L.map (·.1)).map V.ref) none (some (x : Int))).reverse.length ≤ 6 := by
          rw [eR, List.length_map, List.length_map]
          exact l62
        refine ⟨_, rfl, _, rfl, rfl, rfl, fun z2 dz2 nz2 ndz2 nez2 => ⟨z2, dz2, _, _, _, _, _, _, _, _, _, rfl, upd_same, rfl, ?_⟩⟩
        obtain ⟨sZ2, fz2⟩ := fd_made (K := K) (C := C) nz2 ndz2 nez2 (F := fOf []) (vf := .non) (vl := .non) rfl rfl
        refine ⟨(by show 1 ≤ sizeLine; decide), fun l2 n2 => ?_⟩
        have sL2 := same_new (o := .lst [.ref z2]) n2
        have s67 := s6R.trans (sZ2.trans sL2)
        refine ⟨R, l2, _, _, rfl, rfl, (sZ2.trans sL2) _ _ upd_same, upd_same, Nat.le_of_lt (small1000 (by show _ + 1 ≤ 1000; omega)), fun M3 nM3 => ?_⟩
        have sM3 := same_new (o := .lst ((cutV ((L.map (·.1)).map V.ref) (some (x : Int)) none ++ cutV ((L.map (·.1)).map V.ref) none (some (x : Int))).reverse ++ [.ref z2])) nM3
        have s68 := s67.trans sM3
        have fp8 : Fp K C _ (L2 ++ [(z2, fOf [])]) := fun q hq => by
          rcases List.mem_append.mp hq with h | h
          · exact (fp6 q (per.mem_iff.mp h)).same s68
          · rw [List.mem_singleton.mp h]
            exact fz2.same (sL2.trans sM3)
        have jb2 : JB y ((L2 ++ [(z2, fOf [])]).map (·.2)) := by
          have pp : ((L2 ++ [(z2, fOf [])]).map (·.2)).Perm (fOf [] :: L.map (·.2)) := by
            rw [List.map_append]
            exact List.perm_append_comm.trans (List.Perm.cons _ (per.map _))
          refine ⟨fun u hu => jb1.1 u (pp.mem_iff.mp hu), (cs_perm pp).trans jb1.2.1, .inl (by rw [pp.length_eq, List.length_cons, List.length_map]; omega)⟩
        have vM : ((cutV ((L.map (·.1)).map V.ref) (some (x : Int)) none ++ cutV ((L.map (·.1)).map V.ref) none (some (x : Int))).reverse ++ [.ref z2]) = ((L2 ++ [(z2, fOf [])]).map (·.1)).map V.ref := by
          rw [eR, List.map_append, List.map_append]
          rfl
        refine ⟨y, p, M3, _, (L2 ++ [(z2, fOf [])]).map Prod.fst, (L2 ++ [(z2, fOf [])]).map Prod.snd, rfl, d6.same s68, by omega, SqL.of (by rw [← vM]; exact upd_same), fp8.fs, (by rw [List.map_append]; exact List.append_ne_nil_of_right_ne_nil _ (List.cons_ne_nil _ _)), (by rw [List.length_map, List.length_append]; show _ + 1 ≤ 20; omega), jb2, fun c u H9 k9 d9 fc ju => ?_⟩
        obtain rfl := ju.one
        have hD9 := k9 _ _ D1p (s68 _ _ hD6)
        have ls9 := (ls6.same s68).kp (d6.same s68) k9 nP
        refine ⟨_, _, _, _, _, _, _, _, _, D1, a, c, u, as, rows, rfl, hD9, ls9, by omega, by omega, (fa.same s68).kp (d6.same s68) k9, fc, eS.symm, fun H' s' => q H' ?_ ?_⟩
        · exact (k1.trans k2).trans ((Kp.of s3).trans (k4.trans ((Kp.of s4M).trans (k6.trans ((Kp.of s68).trans (k9.trans (Kp.of s')))))))
        · obtain ⟨q1, q2, q3, q4, q5, q6⟩ := d9.same s'
          exact ⟨q1, q2, q3, q4, q5, by omega⟩
end
end Tg

namespace Tg
open PySem PySem.Spec PyProof.Rows L2
abbrev sLaw : Stmt := topS 28
abbrev NLw : List Str := ["_law_script", "_law_cell", "_law_draws_here", "_law_points", "_law_folds", "_law_part", "_law_turn"]
theorem scLaw : FnScope NLw ["_law_script"] (defScope sLaw) := ⟨rfl, rfl, rfl, by decide +kernel, rfl, by decide +kernel, by decide +kernel⟩
theorem POk.mid {l x r : List Pt} (h : POk (l ++ (x ++ r))) : POk x := by
  have len : x.length ≤ (l ++ (x ++ r)).length := by
    rw [List.length_append, List.length_append]
    omega
  have at_ : ∀ {i : Nat} {p : Pt}, x[i]? = some p → (l ++ (x ++ r))[l.length + i]? = some p := fun {i p} e => by
    rw [List.getElem?_append_right (Nat.le_add_right _ _), Nat.add_sub_cancel_left, List.getElem?_append_left (List.getElem?_eq_some_iff.mp e).1]
    exact e
  exact ⟨Nat.lt_of_le_of_lt len h.len, fun i p q h1 h2 => h.up (l.length + i) p q (at_ h1) (at_ h2), fun p hp => h.sz p (List.mem_append_right _ (List.mem_append_left _ hp))⟩
/-- what stands whatever two neighbours are put together -/
def JT (ps : List Pt) (xs : List (List Pt)) : Prop := xs.flatten = ps ∧ POk ps
theorem JT.step {ps : List Pt} (l : List (List Pt)) (x y : List Pt) (r : List (List Pt)) (h : JT ps (l ++ x :: y :: r)) : POk (x ++ y) ∧ JT ps (l ++ (x ++ y) :: r) := by
  obtain ⟨e, ok⟩ := h
  have e2 : l.flatten ++ ((x ++ y) ++ r.flatten) = ps := by
    rw [← e, List.flatten_append, List.flatten_cons, List.flatten_cons, List.append_assoc x y]
  refine ⟨POk.mid (l := l.flatten) (r := r.flatten) (by rw [e2]; exact ok), ?_, ok⟩
  rw [List.flatten_append, List.flatten_cons]
  exact e2
theorem JT.one {ps x : List Pt} (h : JT ps [x]) : x = ps := by
  obtain ⟨e, _⟩ := h
  rw [List.flatten_singleton] at e
  exact e
theorem Fs.snoc {α : Type} {K : PySem.W.Frag} {C c : Addr} {g : α → FD} {H : Hp} {as : List Addr} {xs : List α} {x : α} (h : Fs K C g H as xs) (hx : FdO K C H c (g x)) : Fs K C g H (as ++ [c]) (xs ++ [x]) := by
  refine ⟨by rw [List.length_append, List.length_append, h.1]; rfl, fun i b s e1 e2 => ?_⟩
  rcases Nat.lt_or_ge i as.length with lt | ge
  · rw [List.getElem?_append_left lt] at e1
    rw [List.getElem?_append_left (by rw [← h.1]; exact lt)] at e2
    exact h.2 i b s e1 e2
  · rw [List.getElem?_append_right ge] at e1
    rw [List.getElem?_append_right (by rw [← h.1]; exact ge), ← h.1] at e2
    obtain ⟨i1, _⟩ := List.getElem?_eq_some_iff.mp e1
    have i0 : i - as.length = 0 := by
      have : i - as.length < 1 := i1
      omega
    rw [i0] at e1 e2
    cases e1
    cases e2
    exact hx
theorem Fs.put {α : Type} {K : PySem.W.Frag} {C D : Addr} {g : α → FD} {H : Hp} {as : List Addr} {xs : List α} {us ys : List V} (h : Fs K C g H as xs) (hD : H D = some (.lst us)) : Fs K C g (upd H D (.lst ys)) as xs := ⟨h.1, fun i a x e1 e2 => (h.2 i a x e1 e2).put hD⟩
theorem cut_ints (ns : List Int) (lo hi : Option Int) : ∃ ms : List Int, cutV (ns.map V.int) lo hi = ms.map V.int ∧ ms.length ≤ ns.length := by
  unfold cutV
  refine ⟨(ns.drop (HT.sIx (ns.map V.int).length 0 lo)).take (HT.sIx (ns.map V.int).length (ns.map V.int).length hi - HT.sIx (ns.map V.int).length 0 lo), ?_, ?_⟩
  · rw [List.map_take, List.map_drop]
  · rw [List.length_take, List.length_drop]
    omega
section
variable {P : Program} {w : World} {K : PySem.W.Frag} {mg : Str → Option Value} {base : Heap} {C ft : Addr} {f : Addr} {k : Nat}
def spJoinT (K : PySem.W.Frag) (C ft : Addr) : Sp := fun vs H Q E => ∃ ps : List Pt, spJoin K C ft fOf (JT ps) vs H Q E
def spLaw (K : PySem.W.Frag) : Sp := fun vs H Q _ => ∃ (a : Addr) (ns : List Int), vs = [.ref a] ∧ SqL K H a (ns.map V.int) ∧ ns.length ≤ 63 ∧ ∀ H', Q (.bl true) H'
theorem ok_law {fE : Addr} {fd fdE : FuncData} {j : Nat} (F : Fun K "law" "law" sLaw f fd) (OE : OwnE P w K mg base C j fE fdE) (hj : j + 1 ≤ k) (g_together : mg "together" = some (.ref ft)) (L_draws : Cal P w K mg base k "_law_draws" ["_law_cell"] spDraws) (L_some_points : Cal P w K mg base k "_law_some_points" ["_law_draws_here"] (spSome K)) (L_parts : Cal P w K mg base k "_law_parts" ["_law_draws_here", "_law_points"] (spParts K)) (C_fold_of : Cal P w K mg base k "fold_of" ["points"] (spFO K C)) (L_joined : Cal P w K mg base k "_law_joined" ["_law_draws_here", "_law_folds", "_law_both"] (spJoinT K C ft)) (L_scaled_right : Cal P w K mg base k "_law_scaled_right" ["_law_draws_here", "_law_points"] (spMov K)) (L_moved_right : Cal P w K mg base k "_law_moved_right" ["_law_draws_here", "_law_points"] (spMov K)) (L_beside_right : Cal P w K mg base k "_law_beside_right" ["_law_draws_here"] (spBR K)) (m_range : mg "range" = none) :
    FnOk P w K mg base CX0 (k + 1) f fd ["_law_script"] (spLaw K) := by
  obtain ⟨FE, hs, hf, hbE, NE⟩ := OE
  refine F.ok scLaw (fun vs H Q E h => ?_) (fun cdv A outer s H vs Q E hr h => ?_)
  · obtain ⟨a, ns, rfl, _⟩ := h
    rfl
  · obtain ⟨a, ns, rfl, hS, hlen, q⟩ := h
    refine ⟨_, pss_cons (ps_for PassesOwn.never rfl (pi_list (pe_op op_cat (pe_slice sl_list (pv 0) po_none (po_some pe_int)) (pe_lst (pa_cons pe_int pa_nil)))) (pg_name (i := 1) scLaw.nd rfl (.inl rfl))
        (pss_cons (ps_set (i := 2) scLaw.nd rfl (.inl rfl) (pe_cal L_draws (hr.mono (by omega)) (by rfl) (pa_cons (pv 1) pa_nil)))
        (pss_cons (ps_set (i := 3) scLaw.nd rfl (.inl rfl) (pe_cal L_some_points (hr.mono (by omega)) (by rfl) (pa_cons (pv 2) pa_nil)))
        (pss_cons (ps_setLc (i := 4) (own := [("_law_part", 5)]) (g := (gName 5)) (tt := tYes) rfl scLaw.nd rfl rfl (sw_true rfl rfl rfl (by decide +kernel)) (pi_list (pe_cal L_parts (hr.mono (by omega)) (by rfl) (pa_cons (pv 2) (pa_cons (pv 3) pa_nil)))) (blkOk_by (own := [("_law_part", 5)]) (N := NLw) (sc := defScope sLaw) (by decide +kernel)) (fun _ _ _ _ _ => (pg_name (i := 5) scLaw.nd rfl (.inl rfl))) (fun _ _ _ _ _ => pts_nil) (fun _ _ _ _ _ => (pe_cal C_fold_of (hr.mono (by omega)) (by rfl) (pa_cons (pv 5) pa_nil))))
        (pss_cons (ps_for PassesOwn.never rfl (pi_range1 (by rfl) m_range (pa_cons pe_int pa_nil)) (pg_name (i := 6) scLaw.nd rfl (.inl rfl))
          (pss_one (ps_if (pt_cmpR (op_neG FE NE hbE pass0 (hr.mono (by omega))) (pe_cal L_joined (hr.mono (by omega)) (by rfl) (pa_cons (pv 2) (pa_cons (pv 4) (pa_cons (pe_glob (v := .ref ft) rfl g_together rfl) pa_nil)))) (pe_cal C_fold_of (hr.mono (by omega)) (by rfl) (pa_cons (pv 3) pa_nil)) (nomark _))
            (pss_one (ps_ret pe_bl))
            pss_nil)))
        (pss_cons (ps_if (PW.pt (pw_or (pt_not (pt_val (pe_cal L_scaled_right (hr.mono (by omega)) (by rfl) (pa_cons (pv 2) (pa_cons (pv 3) pa_nil))))) (pw_or1 (pt_not (pt_val (pe_cal L_moved_right (hr.mono (by omega)) (by rfl) (pa_cons (pv 2) (pa_cons (pv 3) pa_nil))))))))
          (pss_one (ps_ret pe_bl))
          pss_nil)
        (pss_one (ps_if (pt_not (pt_val (pe_cal L_beside_right (hr.mono (by omega)) (by rfl) (pa_cons (pv 2) pa_nil))))
          (pss_one (ps_ret pe_bl))
          pss_nil))))))))
      (pss_one (ps_ret pe_bl)), ?_⟩
    obtain ⟨ms, em, lm⟩ := cut_ints ns none (some 6)
    refine ⟨_, rfl, 6, rfl, a, _, rfl, hS, fun l1 n1 => ?_⟩
    rw [em]
    refine ⟨(by show 1 ≤ sizeLine; decide), fun l2 n2 => ?_⟩
    have s2 := same_new (o := .lst [.int 0]) n2
    refine ⟨l1, l2, _, _, rfl, rfl, s2 _ _ upd_same, upd_same, Nat.le_of_lt (small1000 (by rw [List.length_map]; show ms.length + 1 ≤ 1000; omega)), fun l3 n3 => ?_⟩
    have e3 : (ms.map V.int ++ [V.int 0]) = (ms ++ [0]).map V.int := by
      rw [List.map_append]
      rfl
    rw [e3]
    obtain ⟨H3, eH3⟩ : ∃ H3, upd (upd (upd H l1 (.lst (ms.map V.int))) l2 (.lst [.int 0])) l3 (.lst ((ms ++ [0]).map V.int)) = H3 := ⟨_, rfl⟩
    have m3 : H3 l3 = some (.lst ((ms ++ [0]).map V.int)) := by
      rw [← eH3]
      exact upd_same
    rw [eH3]
    refine ⟨l3, rfl, ⟨_, SqL.of m3⟩, for_list (K := K) (a := l3) (xs := (ms ++ [0]).map V.int) (fun i σ Hc => ∃ z1 z2 z3 z4 z5 z6 : Option V, σ = [some (.ref a), z1, z2, z3, z4, z5, z6] ∧ Same H3 Hc) ⟨none, none, none, none, none, none, rfl, Same.refl _⟩ ?_ ?_ ?_⟩
    · rintro i σ Hc _ ⟨_, _, _, _, _, _, _, h⟩
      exact SqL.of (h _ _ m3)
    · rintro i xv σ Hc hx ⟨z1, z2, z3, z4, z5, z6, rfl, sc⟩
      obtain ⟨c, rfl⟩ : ∃ c : Int, xv = .int c := by
        rw [List.getElem?_map] at hx
        obtain ⟨c, _, e⟩ := Option.map_eq_some_iff.mp hx
        exact ⟨c, e.symm⟩
      refine ⟨_, rfl, c, rfl, fun p da db np => ?_⟩
      have sp := same_new (o := .lst [.int da, .int 0, .bl db]) np
      have d0 : Dr (upd Hc p (.lst [.int da, .int 0, .bl db])) p 0 := ⟨da, 0, db, upd_same, by decide, by decide⟩
      refine ⟨_, rfl, p, 0, rfl, d0, by decide, fun l ps H4 k4 d4 nl ld ok => ?_⟩
      have sH4 : Same Hc H4 := Kp.same sp np k4
      have lp : l ≠ p := d0.ne nl
      refine ⟨_, rfl, _, rfl, p, l, _, ps, rfl, d4, by decide, lp, ld, ok, fun r as segs H5 k5 d5 hr5 ls fl sne s13 => ?_⟩
      have sH5 : Same Hc H5 := Kp.same sH4 np k5
      have ldk : ∀ {Hv Hw : Hp} {m : Nat}, Dr Hv p m → Kp p Hv Hw → LD K Hv l (ps.map pd) → LD K Hw l (ps.map pd) := fun {Hv Hw m} d kk h => by
        obtain ⟨_, _, _, hp, _⟩ := id d
        exact LD.kp kk hp nfix_lst lp (td_pds ps) h
      have ld5 := ldk d4 k5 ld
      have oks : ∀ s, s ∈ segs → POk s := fun s hs => by
        obtain ⟨x, y, rfl⟩ := List.append_of_mem hs
        rw [List.flatten_append, List.flatten_cons] at fl
        exact POk.mid (l := x.flatten) (r := y.flatten) (by rw [fl]; exact ok)
      refine ⟨r, rfl, ⟨_, SqL.of hr5⟩, fun D2 nD2 => lc_list (K := K) (a := r) (xs := as.map V.ref) (fun i Hd => Same H5 Hd ∧ ∃ fs : List Addr, Hd D2 = some (.lst (fs.map V.ref)) ∧ Fs K C fOf Hd fs (segs.take i)) ⟨same_new nD2, [], upd_same, rfl, (fun _ _ _ z _ => nomatch z)⟩ (fun i Hd _ h => SqL.of (h.1 _ _ hr5)) ?_ ?_⟩
      · rintro i v2 Hd hi ⟨sd, fs, hD2, fp⟩
        rw [List.getElem?_map] at hi
        obtain ⟨b, hb, rfl⟩ := Option.map_eq_some_iff.mp hi
        have il := (List.getElem?_eq_some_iff.mp hb).1
        obtain ⟨g, hg⟩ : ∃ g, segs[i]? = some g := ⟨_, List.getElem?_eq_getElem (by rw [← ls.1]; exact il)⟩
        obtain ⟨xs, hx2, hdx⟩ := ((ls.same sd).2 i b g hb hg)
        refine ⟨rfl, yes_i (if_t ?_)⟩
        refine ⟨_, rfl, b, g, rfl, ⟨xs, SqL.of hx2, hdx⟩, oks g (List.mem_of_getElem? hg), fun e Hv sv fv => ?_⟩
        have hDv := sv _ _ hD2
        refine ⟨_, hDv, ?_, same_put nD2 (sd.trans sv), fs ++ [e], ?_, ?_⟩
        · rw [List.length_map, fp.1, List.length_take]
          exact small1000 (by omega)
        · rw [upd_same, List.map_append]
          rfl
        · rw [take_snoc hg]
          exact ((fp.same sv).snoc fv).put hDv
      · rintro H6 ⟨s6, fs, hD2, fp⟩
        have zl : segs.take (as.map V.ref).length = segs := List.take_of_length_le (by rw [List.length_map, ls.1]; exact Nat.le_refl _)
        rw [zl] at fp
        have d6 := d5.same s6
        have D2p : D2 ≠ p := d5.ne nD2
        have ld6 := ld5.same s6
        have jt : JT ps segs := ⟨fl, ok⟩
        refine ⟨_, rfl, by decide, by decide, for_range (n := 2) (fun i σ Hd => ∃ z6 : Option V, σ = [some (.ref a), some (.int c), some (.ref p), some (.ref l), some (.ref D2), z5, z6] ∧ Kp p H6 Hd ∧ Dr Hd p (56 + 20 * i)) ⟨_, rfl, Kp.refl _ _, d6⟩ ?_ ?_⟩
        · rintro i σ Hd hi ⟨z6, rfl, kd, dd⟩
          refine ⟨_, rfl, _, rfl, ps, p, D2, _, fs, segs, rfl, dd, by omega, SqL.of (kd _ _ D2p hD2), fp.kp d6 kd, sne, by omega, jt, fun e x H7 k7 d7 fe jx => ?_⟩
          obtain rfl := jx.one
          obtain ⟨xs, hx2, hdx⟩ := ldk d6 (kd.trans k7) ld6
          refine ⟨_, rfl, l, x, rfl, ⟨xs, SqL.of hx2, hdx⟩, ok, fun g H8 s8 fg => ?_⟩
          refine ⟨(fe.same s8).ins fg, fun H9 x9 => ⟨false, rfl, if_f ?_⟩⟩
          have s9 : Same H8 H9 := x9
          refine ⟨_, rfl, (kd.trans k7).trans (Kp.of (s8.trans s9)), ?_⟩
          obtain ⟨q1, q2, q3, q4, q5, q6⟩ := d7.same (s8.trans s9)
          exact ⟨q1, q2, q3, q4, q5, by omega⟩
        · rintro σ H7 ⟨z6, rfl, k7, d7⟩
          have ld7 := ldk d6 k7 ld6
          refine ⟨_, rfl, _, rfl, p, l, _, ps, rfl, d7, by decide, lp, ld7, ok, fun H8 k8 d8 => ⟨true, rfl, if_f ?_⟩⟩
          have ld8 := ldk d7 k8 ld7
          refine ⟨_, rfl, _, rfl, p, l, _, ps, rfl, d8, by decide, lp, ld8, ok, fun H9 k9 d9 => ⟨true, rfl, if_f ?_⟩⟩
          refine ⟨_, rfl, p, _, rfl, d9, by decide, fun HA kA dA => ⟨true, rfl, if_f ?_⟩⟩
          exact ⟨_, _, _, _, _, _, rfl, sc.trans (Kp.same sH5 np ((Kp.of s6).trans (k7.trans (k8.trans (k9.trans kA)))))⟩
    · rintro σ Hc ⟨_, _, _, _, _, _, rfl, _⟩
      exact q Hc
end
end Tg

namespace Tg
open PySem PySem.Spec PyProof.Rows L2
section
variable {K : PySem.W.Frag} {f : Addr} {fd : FuncData}
def kw9 : List (Str × V) := [("count", .int 0), ("total", .int 0), ("squares", .int 0), ("least", .non), ("greatest", .non), ("first", .non), ("last", .non), ("rise", .int 0), ("held", .int 0)]
abbrev FFold (K : PySem.W.Frag) (f : Addr) (fd : FuncData) : Prop := FunD K "__init__" "Fold.__init__" (defArgs sFI) (defBody sFI) (defScope sFI) [] kw9 f fd
set_option maxHeartbeats 0 in
theorem kb_9 (F : FFold K f fd) : ∃ g, KBn K fd NFI 1 kFold g (fun vs zs => vs ++ zs) := by
  obtain ⟨mv, h⟩ := F.kbinds0 (ps := NFI) 1 kFold [] (fun us _ ws => us ++ ws) (fun z => nomatch z) (fun q hq => nomatch hq) (fun h1 _ h2 => h1.append h2) (fun D doc pm an cdv ct us mv ws h1 h2 h3 => match us, mv, ws, h1, h2, h3 with | [_], [], [_, _, _, _, _, _, _, _, _], _, _, _ => rfl)
  exact ⟨_, h⟩
set_option maxHeartbeats 0 in
theorem kb_0 (F : FFold K f fd) : ∃ g, KBn K fd NFI 1 [] g (fun vs _ => vs ++ [.int 0, .int 0, .int 0, .non, .non, .non, .non, .int 0, .int 0]) := by
  obtain ⟨mv, h⟩ := F.kbinds0 (ps := NFI) 1 [] kw9 (fun us ms _ => us ++ ms) (fun z => nomatch z) (fun q hq => hq) (fun h1 h2 _ => h1.append h2) (fun D doc pm an cdv ct us mv ws h1 h2 h3 => match us, mv, ws, h1, h2, h3 with
    | [_], [_, _, _, _, _, _, _, _, _], [], _, _, _ => ⟨_, _, _, _, _, _, rfl, rfl, _, _, _, _, _, _, rfl, rfl, _, _, _, _, _, _, rfl, rfl, _, _, _, _, _, _, rfl, rfl, _, _, _, _, _, _, rfl, rfl, _, _, _, _, _, _, rfl, rfl, _, _, _, _, _, _, rfl, rfl, _, _, _, _, _, _, rfl, rfl, _, _, _, _, _, _, rfl, rfl, rfl⟩)
  exact ⟨_, h⟩
set_option maxHeartbeats 0 in
theorem kb_7 (F : FFold K f fd) : ∃ g, KBn K fd NFI 1 kFold7 g (fun vs zs => vs ++ zs.take 5 ++ [.non, .non] ++ zs.drop 5) := by
  obtain ⟨mv, h⟩ := F.kbinds0 (ps := NFI) 1 kFold7 [("first", .non), ("last", .non)] (fun us ms ws => us ++ ws.take 5 ++ ms ++ ws.drop 5) (fun z => nomatch z) (fun q lack => by
      rcases List.mem_cons.mp lack with rfl | lack
      · exact .tail _ (.tail _ (.tail _ (.tail _ (.tail _ (.head _)))))
      · obtain rfl := List.mem_singleton.mp lack
        exact .tail _ (.tail _ (.tail _ (.tail _ (.tail _ (.tail _ (.head _))))))) (fun h1 h2 h3 => ((h1.append (h3.take 5)).append h2).append (h3.drop 5)) (fun D doc pm an cdv ct us mv ws h1 h2 h3 => match us, mv, ws, h1, h2, h3 with
    | [_], [_, _], [_, _, _, _, _, _, _], _, _, _ => ⟨_, _, _, _, _, _, rfl, rfl, _, _, _, _, _, _, rfl, rfl, rfl⟩)
  exact ⟨_, h⟩
end
end Tg

namespace Tg
open PySem PySem.Spec PyProof.Rows L2
/-! ### what the top has written; the law's own head -/
theorem all_mk {l : PySem.W.OpenLaw} {w : World} {K : PySem.W.Frag} {h : Heap} {mg : Str → Option Value} {fa C1 f1 f2 f3 f4 f5 f6 f7 f8 f9 f10 f11 f12 f13 f14 f15 f16 f17 f18 f19 f20 f21 f22 : Addr} {TW KD NF : Addr} {nmF qF : Str} {bsF subF : List Value} {hdF abF : Bool} {snF : List Str} {colF : Option Bool} {ddF : Option Addr} {v0F v1F v2F v3F v5F : Option Value} {idF : String} {cN : Value} {dN : Option Addr} {esN : Array DictEntry} {epN : Nat} {slN : Array (Option Value)} {itW : Array Value} {nT : Nat} {cT : Value} {dT : Option Addr} {sT : Array (Option Value)} {tk_count : Tok} {tk_total : Tok} {tk_squares : Tok} {tk_rise : Tok} {tk_held : Tok} (X : K.In h) (G : h.Ns mainGlobals mg) (hfa : mg "law" = some (.ref fa))
    {od1 an1 od2 an2 od3 an3 od4 an4 od5 an5 od6 an6 od7 an7 od8 an8 od9 an9 od10 an10 od11 an11 od12 an12 od13 an13 od14 an14 od15 an15 od16 an16 od17 an17 od18 an18 od19 an19 od20 an20 od21 an21 od22 an22 : Option Addr} {sl1 sl2 sl3 sl4 sl5 sl6 sl7 sl8 sl9 sl10 sl11 sl12 sl13 sl14 sl15 sl16 sl17 sl18 sl19 sl20 sl21 sl22 : Array (Option Value)} {oc1 dc1 pm1 cd1 ct1 oc2 kV2 dc2 pm2 cd2 ct2 oc3 kV3 dc3 pm3 cd3 ct3 oc4 kV4 dc4 pm4 cd4 ct4 oc5 kV5 dc5 pm5 cd5 ct5 oc6 kV6 dc6 pm6 cd6 ct6 oc7 kV7 dc7 pm7 cd7 ct7 oc8 kV8 dc8 pm8 cd8 ct8 oc9 kV9 dc9 pm9 cd9 ct9 oc10 kV10 dc10 pm10 cd10 ct10 oc11 kV11 dc11 pm11 cd11 ct11 oc12 kV12 dc12 pm12 cd12 ct12 oc13 kV13 dc13 pm13 cd13 ct13 oc14 kV14 dc14 pm14 cd14 ct14 oc15 kV15 dc15 pm15 cd15 ct15 oc16 kV16 dc16 pm16 cd16 ct16 oc17 kV17 dc17 pm17 cd17 ct17 oc18 kV18 dc18 pm18 cd18 ct18 oc19 kV19 dc19 pm19 cd19 ct19 oc20 kV20 dc20 pm20 cd20 ct20 oc21 kV21 dc21 pm21 cd21 ct21 oc22 kV22 dc22 pm22 cd22 ct22 : Value}
    (aC1 : PySem.W.nsIn K mainGlobals "Fold" = some (some (.ref C1)))
    (pgC1 : PySem.W.plainGet K C1 Str.empty = true)
    (hdC1 : PySem.W.hasDictIn K C1 = true)
    (poC1 : PySem.W.plainOver K C1 = true)
    (saC1 : PySem.W.findIn K (.ref C1) "__setattr__" = some (some (.builtin "object.__setattr__")))
    (mkC1 : PySem.W.makesIn K C1 = true)
    (kcC1 : PySem.W.keepIn K (.ref C1) = true)
    (noC1_count : PySem.W.findIn K (.ref C1) "count" = some none)
    (noC1_total : PySem.W.findIn K (.ref C1) "total" = some none)
    (noC1_squares : PySem.W.findIn K (.ref C1) "squares" = some none)
    (noC1_least : PySem.W.findIn K (.ref C1) "least" = some none)
    (noC1_greatest : PySem.W.findIn K (.ref C1) "greatest" = some none)
    (noC1_first : PySem.W.findIn K (.ref C1) "first" = some none)
    (noC1_last : PySem.W.findIn K (.ref C1) "last" = some none)
    (noC1_rise : PySem.W.findIn K (.ref C1) "rise" = some none)
    (noC1_held : PySem.W.findIn K (.ref C1) "held" = some none)
    (a1 : PySem.W.findIn K (.ref C1) "__init__" = some (some (.ref f1)))
    (i1 : PySem.W.isFn K (.ref f1) = true)
    (l1 : K.lookup f1 = some ⟨oc1, od1, .func (PySem.W.fnOf "__init__" "Fold.__init__" (defArgs sFI) (defBody sFI) (defScope sFI) .none (.ref KD) dc1 pm1 an1 cd1 ct1), sl1⟩)
    (d_count : PySem.W.nsIn K KD "count" = some (some (.int 0 tk_count)))
    (d_total : PySem.W.nsIn K KD "total" = some (some (.int 0 tk_total)))
    (d_squares : PySem.W.nsIn K KD "squares" = some (some (.int 0 tk_squares)))
    (d_least : PySem.W.nsIn K KD "least" = some (some (.none)))
    (d_greatest : PySem.W.nsIn K KD "greatest" = some (some (.none)))
    (d_first : PySem.W.nsIn K KD "first" = some (some (.none)))
    (d_last : PySem.W.nsIn K KD "last" = some (some (.none)))
    (d_rise : PySem.W.nsIn K KD "rise" = some (some (.int 0 tk_rise)))
    (d_held : PySem.W.nsIn K KD "held" = some (some (.int 0 tk_held)))
    (c1 : PySem.W.codeIn K cd1 "Fold.__init__" = true)
    (k1 : PySem.W.keepIn K (.ref f1) = true)
    (a2 : PySem.W.findIn K (.ref C1) "__eq__" = some (some (.ref f2)))
    (i2 : PySem.W.isFn K (.ref f2) = true)
    (l2 : K.lookup f2 = some ⟨oc2, od2, .func (PySem.W.fnOf "__eq__" "Fold.__eq__" (defArgs sEq) (defBody sEq) (defScope sEq) .none kV2 dc2 pm2 an2 cd2 ct2), sl2⟩)
    (c2 : PySem.W.codeIn K cd2 "Fold.__eq__" = true)
    (k2 : PySem.W.keepIn K (.ref f2) = true)
    (a3 : PySem.W.nsIn K mainGlobals "greatest_common" = some (some (.ref f3)))
    (l3 : K.lookup f3 = some ⟨oc3, od3, .func (PySem.W.fnOf "greatest_common" "greatest_common" (defArgs sGc) (defBody sGc) (defScope sGc) .none kV3 dc3 pm3 an3 cd3 ct3), sl3⟩)
    (c3 : PySem.W.codeIn K cd3 "greatest_common" = true)
    (k3 : PySem.W.keepIn K (.ref f3) = true)
    (a4 : PySem.W.nsIn K mainGlobals "risen" = some (some (.ref f4)))
    (l4 : K.lookup f4 = some ⟨oc4, od4, .func (PySem.W.fnOf "risen" "risen" (defArgs sRisen) (defBody sRisen) (defScope sRisen) .none kV4 dc4 pm4 an4 cd4 ct4), sl4⟩)
    (c4 : PySem.W.codeIn K cd4 "risen" = true)
    (k4 : PySem.W.keepIn K (.ref f4) = true)
    (a5 : PySem.W.nsIn K mainGlobals "held_between" = some (some (.ref f5)))
    (l5 : K.lookup f5 = some ⟨oc5, od5, .func (PySem.W.fnOf "held_between" "held_between" (defArgs sHB) (defBody sHB) (defScope sHB) .none kV5 dc5 pm5 an5 cd5 ct5), sl5⟩)
    (c5 : PySem.W.codeIn K cd5 "held_between" = true)
    (k5 : PySem.W.keepIn K (.ref f5) = true)
    (a6 : PySem.W.nsIn K mainGlobals "check_rising" = some (some (.ref f6)))
    (l6 : K.lookup f6 = some ⟨oc6, od6, .func (PySem.W.fnOf "check_rising" "check_rising" (defArgs sCkR) (defBody sCkR) (defScope sCkR) .none kV6 dc6 pm6 an6 cd6 ct6), sl6⟩)
    (c6 : PySem.W.codeIn K cd6 "check_rising" = true)
    (k6 : PySem.W.keepIn K (.ref f6) = true)
    (a7 : PySem.W.nsIn K mainGlobals "fold_of" = some (some (.ref f7)))
    (l7 : K.lookup f7 = some ⟨oc7, od7, .func (PySem.W.fnOf "fold_of" "fold_of" (defArgs sFO) (defBody sFO) (defScope sFO) .none kV7 dc7 pm7 an7 cd7 ct7), sl7⟩)
    (c7 : PySem.W.codeIn K cd7 "fold_of" = true)
    (k7 : PySem.W.keepIn K (.ref f7) = true)
    (a8 : PySem.W.nsIn K mainGlobals "together" = some (some (.ref f8)))
    (l8 : K.lookup f8 = some ⟨oc8, od8, .func (PySem.W.fnOf "together" "together" (defArgs sTg) (defBody sTg) (defScope sTg) .none kV8 dc8 pm8 an8 cd8 ct8), sl8⟩)
    (c8 : PySem.W.codeIn K cd8 "together" = true)
    (k8 : PySem.W.keepIn K (.ref f8) = true)
    (a9 : PySem.W.nsIn K mainGlobals "beside" = some (some (.ref f9)))
    (l9 : K.lookup f9 = some ⟨oc9, od9, .func (PySem.W.fnOf "beside" "beside" (defArgs sBe) (defBody sBe) (defScope sBe) .none kV9 dc9 pm9 an9 cd9 ct9), sl9⟩)
    (c9 : PySem.W.codeIn K cd9 "beside" = true)
    (k9 : PySem.W.keepIn K (.ref f9) = true)
    (a10 : PySem.W.nsIn K mainGlobals "lowest" = some (some (.ref f10)))
    (l10 : K.lookup f10 = some ⟨oc10, od10, .func (PySem.W.fnOf "lowest" "lowest" (defArgs sLo) (defBody sLo) (defScope sLo) .none kV10 dc10 pm10 an10 cd10 ct10), sl10⟩)
    (c10 : PySem.W.codeIn K cd10 "lowest" = true)
    (k10 : PySem.W.keepIn K (.ref f10) = true)
    (a11 : PySem.W.nsIn K mainGlobals "worth_asked" = some (some (.ref f11)))
    (l11 : K.lookup f11 = some ⟨oc11, od11, .func (PySem.W.fnOf "worth_asked" "worth_asked" (defArgs sWA) (defBody sWA) (defScope sWA) .none kV11 dc11 pm11 an11 cd11 ct11), sl11⟩)
    (c11 : PySem.W.codeIn K cd11 "worth_asked" = true)
    (k11 : PySem.W.keepIn K (.ref f11) = true)
    (a12 : PySem.W.nsIn K mainGlobals "asked" = some (some (.ref f12)))
    (l12 : K.lookup f12 = some ⟨oc12, od12, .func (PySem.W.fnOf "asked" "asked" (defArgs sAs) (defBody sAs) (defScope sAs) .none kV12 dc12 pm12 an12 cd12 ct12), sl12⟩)
    (c12 : PySem.W.codeIn K cd12 "asked" = true)
    (k12 : PySem.W.keepIn K (.ref f12) = true)
    (a13 : PySem.W.nsIn K mainGlobals "_law_draws" = some (some (.ref f13)))
    (l13 : K.lookup f13 = some ⟨oc13, od13, .func (PySem.W.fnOf "_law_draws" "_law_draws" (defArgs sDraws) (defBody sDraws) (defScope sDraws) .none kV13 dc13 pm13 an13 cd13 ct13), sl13⟩)
    (c13 : PySem.W.codeIn K cd13 "_law_draws" = true)
    (k13 : PySem.W.keepIn K (.ref f13) = true)
    (a14 : PySem.W.nsIn K mainGlobals "_law_next" = some (some (.ref f14)))
    (l14 : K.lookup f14 = some ⟨oc14, od14, .func (PySem.W.fnOf "_law_next" "_law_next" (defArgs sNext) (defBody sNext) (defScope sNext) .none kV14 dc14 pm14 an14 cd14 ct14), sl14⟩)
    (c14 : PySem.W.codeIn K cd14 "_law_next" = true)
    (k14 : PySem.W.keepIn K (.ref f14) = true)
    (a15 : PySem.W.nsIn K mainGlobals "_law_fields" = some (some (.ref f15)))
    (l15 : K.lookup f15 = some ⟨oc15, od15, .func (PySem.W.fnOf "_law_fields" "_law_fields" (defArgs sFlds) (defBody sFlds) (defScope sFlds) .none kV15 dc15 pm15 an15 cd15 ct15), sl15⟩)
    (c15 : PySem.W.codeIn K cd15 "_law_fields" = true)
    (k15 : PySem.W.keepIn K (.ref f15) = true)
    (a16 : PySem.W.nsIn K mainGlobals "_law_some_points" = some (some (.ref f16)))
    (l16 : K.lookup f16 = some ⟨oc16, od16, .func (PySem.W.fnOf "_law_some_points" "_law_some_points" (defArgs sSome) (defBody sSome) (defScope sSome) .none kV16 dc16 pm16 an16 cd16 ct16), sl16⟩)
    (c16 : PySem.W.codeIn K cd16 "_law_some_points" = true)
    (k16 : PySem.W.keepIn K (.ref f16) = true)
    (a17 : PySem.W.nsIn K mainGlobals "_law_parts" = some (some (.ref f17)))
    (l17 : K.lookup f17 = some ⟨oc17, od17, .func (PySem.W.fnOf "_law_parts" "_law_parts" (defArgs sParts) (defBody sParts) (defScope sParts) .none kV17 dc17 pm17 an17 cd17 ct17), sl17⟩)
    (c17 : PySem.W.codeIn K cd17 "_law_parts" = true)
    (k17 : PySem.W.keepIn K (.ref f17) = true)
    (a18 : PySem.W.nsIn K mainGlobals "_law_joined" = some (some (.ref f18)))
    (l18 : K.lookup f18 = some ⟨oc18, od18, .func (PySem.W.fnOf "_law_joined" "_law_joined" (defArgs sJoin) (defBody sJoin) (defScope sJoin) .none kV18 dc18 pm18 an18 cd18 ct18), sl18⟩)
    (c18 : PySem.W.codeIn K cd18 "_law_joined" = true)
    (k18 : PySem.W.keepIn K (.ref f18) = true)
    (a19 : PySem.W.nsIn K mainGlobals "_law_scaled_right" = some (some (.ref f19)))
    (l19 : K.lookup f19 = some ⟨oc19, od19, .func (PySem.W.fnOf "_law_scaled_right" "_law_scaled_right" (defArgs sSca) (defBody sSca) (defScope sSca) .none kV19 dc19 pm19 an19 cd19 ct19), sl19⟩)
    (c19 : PySem.W.codeIn K cd19 "_law_scaled_right" = true)
    (k19 : PySem.W.keepIn K (.ref f19) = true)
    (a20 : PySem.W.nsIn K mainGlobals "_law_moved_right" = some (some (.ref f20)))
    (l20 : K.lookup f20 = some ⟨oc20, od20, .func (PySem.W.fnOf "_law_moved_right" "_law_moved_right" (defArgs sMov) (defBody sMov) (defScope sMov) .none kV20 dc20 pm20 an20 cd20 ct20), sl20⟩)
    (c20 : PySem.W.codeIn K cd20 "_law_moved_right" = true)
    (k20 : PySem.W.keepIn K (.ref f20) = true)
    (a21 : PySem.W.nsIn K mainGlobals "_law_beside_right" = some (some (.ref f21)))
    (l21 : K.lookup f21 = some ⟨oc21, od21, .func (PySem.W.fnOf "_law_beside_right" "_law_beside_right" (defArgs sBR) (defBody sBR) (defScope sBR) .none kV21 dc21 pm21 an21 cd21 ct21), sl21⟩)
    (c21 : PySem.W.codeIn K cd21 "_law_beside_right" = true)
    (k21 : PySem.W.keepIn K (.ref f21) = true)
    (a22 : PySem.W.nsIn K mainGlobals "law" = some (some (.ref f22)))
    (l22 : K.lookup f22 = some ⟨oc22, od22, .func (PySem.W.fnOf "law" "law" (defArgs sLaw) (defBody sLaw) (defScope sLaw) .none kV22 dc22 pm22 an22 cd22 ct22), sl22⟩)
    (c22 : PySem.W.codeIn K cd22 "law" = true)
    (k22 : PySem.W.keepIn K (.ref f22) = true)
    (z_range : PySem.W.nsIn K mainGlobals "range" = some none)
    (z_len : PySem.W.nsIn K mainGlobals "len" = some none)
    (z_max : PySem.W.nsIn K mainGlobals "max" = some none)
    (z_min : PySem.W.nsIn K mainGlobals "min" = some none)
    (z_sum : PySem.W.nsIn K mainGlobals "sum" = some none)
    (z_abs : PySem.W.nsIn K mainGlobals "abs" = some none)
    (z_zip : PySem.W.nsIn K mainGlobals "zip" = some none)
    (z_list : PySem.W.nsIn K mainGlobals "list" = some none)
    (z_isinstance : PySem.W.nsIn K mainGlobals "isinstance" = some none)
    (z_sorted : PySem.W.nsIn K mainGlobals "sorted" = some none)
    (z_enumerate : PySem.W.nsIn K mainGlobals "enumerate" = some none)
    (v_WHATS : PySem.W.nsIn K mainGlobals "WHATS" = some (some (.ref TW)))
    (xF : K.lookup C1 = some (excClassObj nmF qF C1 NF bsF [.type "object"] hdF snF subF abF colF ddF v0F v1F v2F v3F v5F idF))
    (lNF : K.lookup NF = some ⟨cN, dN, .dict esN epN, slN⟩)
    (okE : (esN.toList.all fun e => match e.key with | .str _ _ => true | _ => false) = true)
    (eqF : PySem.W.nsIn K NF "__eq__" = some (some (.ref f2)))
    (neF : PySem.W.nsIn K NF "__ne__" = some none)
    (ocE : oc2 = .type "function")
    (ccF : PySem.W.findIn K (.ref C1) "__class__" = some (some (.builtin "object.__class__")))
    (hnF : PySem.W.specialIn K (.builtin "object.__class__") "__get__" = some (some (.builtin "getset_descriptor.__get__")))
    (htF : PySem.W.takesIn K (.builtin "object.__class__") = some true)
    (hmF : PySem.W.mroIn K C1 (.type "object") = some true)
    (kitF : PySem.W.kitOne K (.ref C1) (.ref C1) = some true)
    (lW : K.lookup TW = some ⟨cT, dT, .seq itW nT, sT⟩)
    (cW : cT = .type "tuple")
    (nW : itW.size ≤ sizeLine)
    (vW : Vals (whs.map V.str) itW.toList)
    : ∃ fd : FuncData, (∀ (s : Shared) (v : Value), BindsTo s fd ⟨[v], []⟩ [("_law_script", v)]) ∧ ∀ base : Heap, K.In base → base.Ns mainGlobals mg → FnOk l.prog w K mg base CX0 6 fa fd ["_law_script"] (spLaw K) := by
  have e := hfa.symm.trans (PySem.W.mg_of X G a22)
  cases e
  have F1 : FFold K f1 _ := ⟨⟨oc1, od1, .none, .ref KD, dc1, pm1, an1, cd1, ct1, sl1, rfl, l1, c1, .inl ⟨rfl, rfl⟩, .inr ⟨KD, rfl, fun q lack => by
    rcases List.mem_cons.mp lack with rfl | lack
    · exact ⟨_, d_count, ⟨_, rfl⟩⟩
    rcases List.mem_cons.mp lack with rfl | lack
    · exact ⟨_, d_total, ⟨_, rfl⟩⟩
    rcases List.mem_cons.mp lack with rfl | lack
    · exact ⟨_, d_squares, ⟨_, rfl⟩⟩
    rcases List.mem_cons.mp lack with rfl | lack
    · exact ⟨_, d_least, rfl⟩
    rcases List.mem_cons.mp lack with rfl | lack
    · exact ⟨_, d_greatest, rfl⟩
    rcases List.mem_cons.mp lack with rfl | lack
    · exact ⟨_, d_first, rfl⟩
    rcases List.mem_cons.mp lack with rfl | lack
    · exact ⟨_, d_last, rfl⟩
    rcases List.mem_cons.mp lack with rfl | lack
    · exact ⟨_, d_rise, ⟨_, rfl⟩⟩
    rcases List.mem_cons.mp lack with rfl | lack
    · exact ⟨_, d_held, ⟨_, rfl⟩⟩
    cases lack⟩⟩, k1⟩
  have F2 := fun_mk (st := sEq) l2 c2 k2
  have F3 := fun_mk (st := sGc) l3 c3 k3
  have F4 := fun_mk (st := sRisen) l4 c4 k4
  have F5 := fun_mk (st := sHB) l5 c5 k5
  have F6 := fun_mk (st := sCkR) l6 c6 k6
  have F7 := fun_mk (st := sFO) l7 c7 k7
  have F8 := fun_mk (st := sTg) l8 c8 k8
  have F9 := fun_mk (st := sBe) l9 c9 k9
  have F10 := fun_mk (st := sLo) l10 c10 k10
  have F11 := fun_mk (st := sWA) l11 c11 k11
  have F12 := fun_mk (st := sAs) l12 c12 k12
  have F13 := fun_mk (st := sDraws) l13 c13 k13
  have F14 := fun_mk (st := sNext) l14 c14 k14
  have F15 := fun_mk (st := sFlds) l15 c15 k15
  have F16 := fun_mk (st := sSome) l16 c16 k16
  have F17 := fun_mk (st := sParts) l17 c17 k17
  have F18 := fun_mk (st := sJoin) l18 c18 k18
  have F19 := fun_mk (st := sSca) l19 c19 k19
  have F20 := fun_mk (st := sMov) l20 c20 k20
  have F21 := fun_mk (st := sBR) l21 c21 k21
  have F22 := fun_mk (st := sLaw) l22 c22 k22
  have b2 := F2.binds (ps := ["self", "other"]) fun _ _ _ _ _ _ us hl => match us, hl with | [_, _], _ => rfl
  have b3 := F3.binds (ps := ["one", "two"]) fun _ _ _ _ _ _ us hl => match us, hl with | [_, _], _ => rfl
  have b4 := F4.binds (ps := ["ahead", "behind"]) fun _ _ _ _ _ _ us hl => match us, hl with | [_, _], _ => rfl
  have b5 := F5.binds (ps := ["ahead", "behind"]) fun _ _ _ _ _ _ us hl => match us, hl with | [_, _], _ => rfl
  have b6 := F6.binds (ps := ["points"]) fun _ _ _ _ _ _ us hl => match us, hl with | [_], _ => rfl
  have b7 := F7.binds (ps := ["points"]) fun _ _ _ _ _ _ us hl => match us, hl with | [_], _ => rfl
  have b8 := F8.binds (ps := ["one", "two"]) fun _ _ _ _ _ _ us hl => match us, hl with | [_, _], _ => rfl
  have b9 := F9.binds (ps := ["one", "two"]) fun _ _ _ _ _ _ us hl => match us, hl with | [_, _], _ => rfl
  have b10 := F10.binds (ps := ["top", "bottom"]) fun _ _ _ _ _ _ us hl => match us, hl with | [_, _], _ => rfl
  have b11 := F11.binds (ps := ["fold", "what"]) fun _ _ _ _ _ _ us hl => match us, hl with | [_, _], _ => rfl
  have b12 := F12.binds (ps := ["fold", "what"]) fun _ _ _ _ _ _ us hl => match us, hl with | [_, _], _ => rfl
  have b13 := F13.binds (ps := ["_law_cell"]) fun _ _ _ _ _ _ us hl => match us, hl with | [_], _ => rfl
  have b14 := F14.binds (ps := ["_law_draws_here"]) fun _ _ _ _ _ _ us hl => match us, hl with | [_], _ => rfl
  have b15 := F15.binds (ps := ["_law_fold"]) fun _ _ _ _ _ _ us hl => match us, hl with | [_], _ => rfl
  have b16 := F16.binds (ps := ["_law_draws_here"]) fun _ _ _ _ _ _ us hl => match us, hl with | [_], _ => rfl
  have b17 := F17.binds (ps := ["_law_draws_here", "_law_points"]) fun _ _ _ _ _ _ us hl => match us, hl with | [_, _], _ => rfl
  have b18 := F18.binds (ps := ["_law_draws_here", "_law_folds", "_law_both"]) fun _ _ _ _ _ _ us hl => match us, hl with | [_, _, _], _ => rfl
  have b19 := F19.binds (ps := ["_law_draws_here", "_law_points"]) fun _ _ _ _ _ _ us hl => match us, hl with | [_, _], _ => rfl
  have b20 := F20.binds (ps := ["_law_draws_here", "_law_points"]) fun _ _ _ _ _ _ us hl => match us, hl with | [_, _], _ => rfl
  have b21 := F21.binds (ps := ["_law_draws_here"]) fun _ _ _ _ _ _ us hl => match us, hl with | [_], _ => rfl
  have g3 := PySem.W.mg_of X G a3
  have g4 := PySem.W.mg_of X G a4
  have g5 := PySem.W.mg_of X G a5
  have g6 := PySem.W.mg_of X G a6
  have g7 := PySem.W.mg_of X G a7
  have g8 := PySem.W.mg_of X G a8
  have g9 := PySem.W.mg_of X G a9
  have g10 := PySem.W.mg_of X G a10
  have g11 := PySem.W.mg_of X G a11
  have g12 := PySem.W.mg_of X G a12
  have g13 := PySem.W.mg_of X G a13
  have g14 := PySem.W.mg_of X G a14
  have g15 := PySem.W.mg_of X G a15
  have g16 := PySem.W.mg_of X G a16
  have g17 := PySem.W.mg_of X G a17
  have g18 := PySem.W.mg_of X G a18
  have g19 := PySem.W.mg_of X G a19
  have g20 := PySem.W.mg_of X G a20
  have g21 := PySem.W.mg_of X G a21
  have gC1 := PySem.W.mg_of X G aC1
  have m_range := PySem.W.mg_none_of X G z_range
  have m_len := PySem.W.mg_none_of X G z_len
  have m_max := PySem.W.mg_none_of X G z_max
  have m_min := PySem.W.mg_none_of X G z_min
  have m_sum := PySem.W.mg_none_of X G z_sum
  have m_abs := PySem.W.mg_none_of X G z_abs
  have m_zip := PySem.W.mg_none_of X G z_zip
  have m_list := PySem.W.mg_none_of X G z_list
  have m_isinstance := PySem.W.mg_none_of X G z_isinstance
  have m_sorted := PySem.W.mg_none_of X G z_sorted
  have m_enumerate := PySem.W.mg_none_of X G z_enumerate
  have g_WHATS := PySem.W.mg_of X G v_WHATS
  refine ⟨PySem.W.fnOf "law" "law" (defArgs sLaw) (defBody sLaw) (defScope sLaw) .none kV22 dc22 pm22 an22 cd22 ct22, fun s v => .of_eq rfl, fun base _ _ => ?_⟩
  have T : TFold K C1 := ⟨⟨pgC1, hdC1, poC1, saC1⟩, fun n hn => by
    rcases List.mem_cons.mp hn with rfl | hn
    · exact noC1_count
    rcases List.mem_cons.mp hn with rfl | hn
    · exact noC1_total
    rcases List.mem_cons.mp hn with rfl | hn
    · exact noC1_squares
    rcases List.mem_cons.mp hn with rfl | hn
    · exact noC1_least
    rcases List.mem_cons.mp hn with rfl | hn
    · exact noC1_greatest
    rcases List.mem_cons.mp hn with rfl | hn
    · exact noC1_first
    rcases List.mem_cons.mp hn with rfl | hn
    · exact noC1_last
    rcases List.mem_cons.mp hn with rfl | hn
    · exact noC1_rise
    obtain rfl := List.mem_singleton.mp hn
    exact noC1_held⟩
  have tw : HasW K TW := fun H => .inr ⟨_, itW, nT, lW, cW, rfl, nW, vW⟩
  have OI : ∀ j, FnOk l.prog w K mg base CX0 (j + 1) f1 _ NFI (spFI C1) := fun j => ok_fi F1 T
  have MK : Mk K C1 f1 := ⟨mkC1, a1, i1, kcC1⟩
  obtain ⟨q0, z0⟩ := kb_0 F1
  obtain ⟨q7, z7⟩ := kb_7 F1
  obtain ⟨q9, z9⟩ := kb_9 F1
  have okF : PySem.W.nsOkIn K NF = true := by
    unfold PySem.W.nsOkIn
    rw [lNF]
    dsimp only
    rw [← Array.all_toList]
    exact okE
  have OE : ∀ j, OwnE l.prog w K mg base C1 (j + 1) f2 _ := fun j => ⟨ok_eq F2 T ⟨ccF, hnF, htF, hmF, kitF⟩ gC1 m_isinstance, a2, i2, b2, ⟨⟨nmF, qF, NF, bsF, hdF, snF, subF, abF, colF, ddF, v0F, v1F, v2F, v3F, v5F, idF, xF, okF, eqF, neF⟩, _, l2, ocE⟩⟩
  have RI : ∀ j, Cal l.prog w K mg base (j + 1) "risen" ["ahead", "behind"] spRisen := fun j => ⟨f4, _, ok_risen F4 m_max, g4, k4, b4⟩
  have HB : ∀ j, Cal l.prog w K mg base (j + 1) "held_between" ["ahead", "behind"] (spHB K) := fun j => ⟨f5, _, ok_hb F5, g5, k5, b5⟩
  have K0 : ∀ j, KF0 l.prog w K mg base C1 (j + 1) := fun j => ⟨f1, _, q0, OI j, gC1, MK, z0⟩
  have K9 : ∀ j, KF9 l.prog w K mg base C1 (j + 1) := fun j => ⟨f1, _, q9, OI j, gC1, MK, z9⟩
  have FO : ∀ j, Cal l.prog w K mg base (j + 3) "fold_of" ["points"] (spFO K C1) := fun j => ⟨f7, _, ok_fo (k := j + 1) F7 ⟨f6, _, ok_ckR F6 m_range m_len, g6, k6, b6⟩ (K0 j) (K9 j) (RI j) (HB j) m_list m_len m_sum m_min m_max m_zip, g7, k7, b7⟩
  have OT : FnOk l.prog w K mg base CX0 3 f8 _ ["one", "two"] (spBoth K C1 fOf (· ++ ·) (fun x y => POk (x ++ y))) := ok_tg (k := 1) F8 T (K9 0) (RI 0) (HB 0) m_min m_max
  have OB : FnOk l.prog w K mg base CX0 3 f9 _ ["one", "two"] (spBoth K C1 id bs (fun x y => WF x ∧ WF y)) := (ok_be (k := 1) F9 T ⟨f1, _, q7, OI 0, gC1, MK, z7⟩ m_min m_max).imp fun vs H Q E h => by
    obtain ⟨a, b, x, y, e, h1, h2, ⟨h3, h4⟩, h5⟩ := h
    exact ⟨a, b, x, y, e, h1, h2, h3, h4, h5⟩
  have OA : ∀ j, Cal l.prog w K mg base (j + 3) "asked" ["fold", "what"] (spAs K C1) := fun j => ⟨f12, _, ok_as (k := j + 2) F12 T tw g_WHATS ⟨f10, _, ok_lo (k := j + 1) F10 ⟨f3, _, ok_gc F3, g3, k3, b3⟩ m_abs, g10, k10, b10⟩ ⟨f11, _, ok_wa F11 T, g11, k11, b11⟩, g12, k12, b12⟩
  have LN : ∀ j, Cal l.prog w K mg base (j + 1) "_law_next" ["_law_draws_here"] spNext := fun j => ⟨f14, _, ok_next F14, g14, k14, b14⟩
  have LS : ∀ j, Cal l.prog w K mg base (j + 2) "_law_some_points" ["_law_draws_here"] (spSome K) := fun j => ⟨f16, _, ok_some (k := j + 1) F16 (LN j) m_range, g16, k16, b16⟩
  have JT1 : FnOk l.prog w K mg base CX0 4 f18 _ ["_law_draws_here", "_law_folds", "_law_both"] (spJoinT K C1 f8) := fn_ex fun ps => ok_join (k := 3) (op := (· ++ ·)) (okp := fun x y => POk (x ++ y)) JT.step F18 (LN 2) OT k8 b8 m_list m_len
  have JB1 : FnOk l.prog w K mg base CX0 4 f18 _ ["_law_draws_here", "_law_folds", "_law_both"] (spJoinB K C1 f9) := fn_ex fun S => ok_join (k := 3) (op := bs) (okp := fun x y => WF x ∧ WF y) JB.step F18 (LN 2) OB k9 b9 m_list m_len
  have BR : Cal l.prog w K mg base 5 "_law_beside_right" ["_law_draws_here"] (spBR K) := ⟨f21, _, ok_br (k := 4) (j := 1) F21 T (OE 0) (by decide) g9 (LN 3) (LS 2) (FO 1) (K0 0) ⟨f18, _, JB1, g18, k18, b18⟩ m_range m_len m_sum m_min m_max, g21, k21, b21⟩
  have SC : Cal l.prog w K mg base 5 "_law_scaled_right" ["_law_draws_here", "_law_points"] (spMov K) := ⟨f19, _, ok_sca (k := 4) F19 T (LN 3) (FO 1) (OA 1) m_abs m_sum m_enumerate, g19, k19, b19⟩
  have MO : Cal l.prog w K mg base 5 "_law_moved_right" ["_law_draws_here", "_law_points"] (spMov K) := ⟨f20, _, ok_mov (k := 4) F20 T (OE 3) (LN 3) (FO 1) ⟨f15, _, ok_flds F15 T, g15, k15, b15⟩, g20, k20, b20⟩
  have PA : Cal l.prog w K mg base 5 "_law_parts" ["_law_draws_here", "_law_points"] (spParts K) := ⟨f17, _, ok_parts (k := 4) F17 (LN 3) m_range m_len m_sorted m_zip, g17, k17, b17⟩
  exact ok_law (k := 5) (j := 1) F22 (OE 0) (by decide) g8 ⟨f13, _, ok_draws F13 m_range, g13, k13, b13⟩ (LS 3) PA (FO 2) ⟨f18, _, JT1.mono (by decide), g18, k18, b18⟩ SC MO BR m_range
end Tg
open PySem PySem.W PyProof.Rows
set_option maxRecDepth 100000 in
set_option maxHeartbeats 0 in
theorem PySem.Challenge.cw_timegranary_k09_whole_folds_in_any_parts_holds : PySem.Challenge.rw_timegranary_k09_whole_folds_in_any_parts.Holds := by
  w_on; o_law; k_head; (case hw => w_witness2)
  k_fill
  refine L2.walk_of (l := PySem.Challenge.rw_timegranary_k09_whole_folds_in_any_parts) (n := 63) (k := 6) (x := "_law_script") (CX := fun _ => L2.CX0) (sp := fun w => Tg.spLaw _) rfl (by decide) rfl ⟨rfl, by decide, by decide⟩ (fun w h Y => PySem.W.kIn_of Y) ?F (fun _ _ a ns hl _ hS => ⟨a, ns, rfl, hS, hl, fun _ => rfl⟩) (fun _ _ _ _ _ h => h)
  case F =>
    intro w mg fa h KX G hmg
    refine' Tg.all_mk KX G hmg ?aC1 ?pgC1 ?hdC1 ?poC1 ?saC1 ?mkC1 ?kcC1 ?noC1_count ?noC1_total ?noC1_squares ?noC1_least ?noC1_greatest ?noC1_first ?noC1_last ?noC1_rise ?noC1_held ?a1 ?i1 ?l1 ?d_count ?d_total ?d_squares ?d_least ?d_greatest ?d_first ?d_last ?d_rise ?d_held ?c1 ?k1 ?a2 ?i2 ?l2 ?c2 ?k2 ?a3 ?l3 ?c3 ?k3 ?a4 ?l4 ?c4 ?k4 ?a5 ?l5 ?c5 ?k5 ?a6 ?l6 ?c6 ?k6 ?a7 ?l7 ?c7 ?k7 ?a8 ?l8 ?c8 ?k8 ?a9 ?l9 ?c9 ?k9 ?a10 ?l10 ?c10 ?k10 ?a11 ?l11 ?c11 ?k11 ?a12 ?l12 ?c12 ?k12 ?a13 ?l13 ?c13 ?k13 ?a14 ?l14 ?c14 ?k14 ?a15 ?l15 ?c15 ?k15 ?a16 ?l16 ?c16 ?k16 ?a17 ?l17 ?c17 ?k17 ?a18 ?l18 ?c18 ?k18 ?a19 ?l19 ?c19 ?k19 ?a20 ?l20 ?c20 ?k20 ?a21 ?l21 ?c21 ?k21 ?a22 ?l22 ?c22 ?k22 ?z_range ?z_len ?z_max ?z_min ?z_sum ?z_abs ?z_zip ?z_list ?z_isinstance ?z_sorted ?z_enumerate ?v_WHATS ?xF ?lNF ?okE ?eqF ?neF ?ocE ?ccF ?hnF ?htF ?hmF ?kitF ?lW ?cW ?nW ?vW
    (case aC1 => k_is); (case pgC1 => k_is); (case hdC1 => k_is); (case poC1 => k_is); (case saC1 => k_is); (case mkC1 => k_is)
    (case kcC1 => k_is); (case noC1_count => k_is); (case noC1_total => k_is); (case noC1_squares => k_is); (case noC1_least => k_is); (case noC1_greatest => k_is)
    (case noC1_first => k_is); (case noC1_last => k_is); (case noC1_rise => k_is); (case noC1_held => k_is); (case a1 => k_is); (case i1 => k_is)
    (case l1 => k_is); (case d_count => k_is); (case d_total => k_is); (case d_squares => k_is); (case d_least => k_is); (case d_greatest => k_is); (case d_first => k_is); (case d_last => k_is); (case d_rise => k_is); (case d_held => k_is); (case c1 => k_is); (case k1 => k_is); (case a2 => k_is); (case i2 => k_is); (case l2 => k_is)
    (case c2 => k_is); (case k2 => k_is); (case a3 => k_is); (case l3 => k_is); (case c3 => k_is); (case k3 => k_is)
    (case a4 => k_is); (case l4 => k_is); (case c4 => k_is); (case k4 => k_is); (case a5 => k_is); (case l5 => k_is)
    (case c5 => k_is); (case k5 => k_is); (case a6 => k_is); (case l6 => k_is); (case c6 => k_is); (case k6 => k_is)
    (case a7 => k_is); (case l7 => k_is); (case c7 => k_is); (case k7 => k_is); (case a8 => k_is); (case l8 => k_is)
    (case c8 => k_is); (case k8 => k_is); (case a9 => k_is); (case l9 => k_is); (case c9 => k_is); (case k9 => k_is)
    (case a10 => k_is); (case l10 => k_is); (case c10 => k_is); (case k10 => k_is); (case a11 => k_is); (case l11 => k_is)
    (case c11 => k_is); (case k11 => k_is); (case a12 => k_is); (case l12 => k_is); (case c12 => k_is); (case k12 => k_is)
    (case a13 => k_is); (case l13 => k_is); (case c13 => k_is); (case k13 => k_is); (case a14 => k_is); (case l14 => k_is)
    (case c14 => k_is); (case k14 => k_is); (case a15 => k_is); (case l15 => k_is); (case c15 => k_is); (case k15 => k_is)
    (case a16 => k_is); (case l16 => k_is); (case c16 => k_is); (case k16 => k_is); (case a17 => k_is); (case l17 => k_is)
    (case c17 => k_is); (case k17 => k_is); (case a18 => k_is); (case l18 => k_is); (case c18 => k_is); (case k18 => k_is)
    (case a19 => k_is); (case l19 => k_is); (case c19 => k_is); (case k19 => k_is); (case a20 => k_is); (case l20 => k_is)
    (case c20 => k_is); (case k20 => k_is); (case a21 => k_is); (case l21 => k_is); (case c21 => k_is); (case k21 => k_is)
    (case a22 => k_is); (case l22 => k_is); (case c22 => k_is); (case k22 => k_is); (case z_range => k_is); (case z_len => k_is)
    (case z_max => k_is); (case z_min => k_is); (case z_sum => k_is); (case z_abs => k_is); (case z_zip => k_is); (case z_list => k_is)
    (case z_isinstance => k_is); (case z_sorted => k_is); (case z_enumerate => k_is); (case v_WHATS => k_is); (case xF => k_is); (case lNF => k_is)
    (case okE => rfl); (case eqF => k_is); (case neF => k_is); (case ocE => rfl); (case ccF => k_is); (case hnF => k_is)
    (case htF => k_is); (case hmF => k_is); (case kitF => first | k_is | rfl); (case lW => k_is); (case cW => rfl); (case nW => decide +kernel)
    (case vW => exact .cons ⟨_, rfl⟩ (.cons ⟨_, rfl⟩ (.cons ⟨_, rfl⟩ (.cons ⟨_, rfl⟩ (.cons ⟨_, rfl⟩ (.cons ⟨_, rfl⟩ (.cons ⟨_, rfl⟩ (.cons ⟨_, rfl⟩ (.cons ⟨_, rfl⟩ (.cons ⟨_, rfl⟩ .nil))))))))))

