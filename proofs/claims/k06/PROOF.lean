import PyProof.Rows.All
import Wide.All
import OpenK.AllK
import Wide.FinOn
import HandS.ForMost
import HandS.Conv
import HandS.Wide
import HandS.IsInst
import HandS.Defaults
import HandS.Dict
import HandS.Iter
import HandS.Walk
import HandS.Exc
import HandS.ExcInit
import HandS.ExcIs
import HandS.ExcField
import HandS.ExcValue
import KE.KExcIs
import KE.KTryMore
import HandS.WordsExc
import HandS.ExcOwn
import KE.DatumOrd
import PyProof.Rows.CallKwBuiltin
import HandS.OwnEq
import PyProof.InstNe
import OpenK.KOwn
import PyProof.ReprRoads
import HandS.FStr
import PyProof.EqKinds
import HandS.Zip
import KE.GoesNew
import KE.GoesMore
import KE.GoesEnum
import HandS.RaiseMore
import HandS.Deep
import PySem.Challenge.RW_timegranary_k06_folds
import HandS.MakeKwOnly
import HandS.CallLocal
import HandS.TupAny
import HandS.FStrTup
import HandS.TupLe
import HandS.TryOnly
set_option Elab.async false
set_option linter.all false
set_option maxRecDepth 100000
namespace Tg
open PySem PySem.Spec PyProof.Rows L2

/-! ### rules of my own: a call by keywords alone; list(range(a, b, c)) -/
section
variable {X : Cx} {CX : CXT} {k : Nat} {f : Addr} {fd : FuncData} {ps ks : List Str} {sp : Sp} {E : XK} {x : Str} {p pos : Pos} {kws : List Keyword} {tk : TA}
  {g : List Value → List Value → List Value} {gV : List V → List V → List V}
def tKw0 (n : Nat) (sp : Sp) (gV : List V → List V → List V) (E : XK) (tk : TA) : TE :=
  fun σ H Q => tk σ H fun zs H2 => zs.length = n ∧ sp (gV [] zs) H2 Q E
theorem pe_kw0 (F : FnOk X.prog X.w X.K X.mg X.base CX k f fd ps sp) (room : Room k X.A) (gl : Gl X x) (at_x : X.mg x = some (.ref f)) (kept : PySem.W.keepIn X.K (.ref f) = true) (binds : KBn X.K fd ps 0 ks g gV) (lets : Passes CX X E) (vals : PK X kws tk)
    (named : (backToKw pos (keywordEach kws X.env)).all (·.1.isSome) = true := by rfl) (names : (backToKw pos (keywordEach kws X.env)).filterMap (·.1) = ks := by rfl) (nodebug : (x == ("__debug__" : Str)) = false := by decide)
    (nostar : ((backTo pos (starEach [] X.env)).any (·.1) || (backToKw pos (keywordEach kws X.env)).any (·.1.isNone)) = false := by rfl) : PE X (.Call (.Name x p) [] kws pos) (tKw0 ks.length sp gV E tk) := by
  constructor
  intro pins s σ H Q I read
  refine wpAny_Call_Name_kw (ld_glob I gl at_x (PySem.W.callWith_KW0 (h₀ := X.base) I.ok.mod.kin kept named (thn (vals.run pos pins s σ H _ I read) fun ws s2 y => ?_) nostar) nodebug)
  obtain ⟨zs, H2, J, rel, many, h⟩ := y
  rw [names]
  exact ⟨J.kIn, run_fnN (us := []) (vs := []) F room binds lets J .nil rel rfl many h⟩
end

/-- two keywords, the second parameter's first -/
def sw2 {α : Type} : List α → List α
  | [y, x] => [x, y]
  | _ => []
/-- three keywords, the parameters' from the last on -/
def sw3 {α : Type} : List α → List α
  | [z, y, x] => [x, y, z]
  | _ => []
theorem sw2_rel : ∀ {zs : List V} {ws : List Value}, Vals zs ws → Vals (sw2 zs) (sw2 ws)
  | _, _, .nil => .nil
  | _, _, .cons _ .nil => .nil
  | _, _, .cons a (.cons b .nil) => .cons b (.cons a .nil)
  | _, _, .cons _ (.cons _ (.cons _ _)) => .nil
theorem sw3_rel : ∀ {zs : List V} {ws : List Value}, Vals zs ws → Vals (sw3 zs) (sw3 ws)
  | _, _, .nil => .nil
  | _, _, .cons _ .nil => .nil
  | _, _, .cons _ (.cons _ .nil) => .nil
  | _, _, .cons a (.cons b (.cons c .nil)) => .cons c (.cons b (.cons a .nil))
  | _, _, .cons _ (.cons _ (.cons _ (.cons _ _))) => .nil

section
variable {X : Cx} {a b c : Expr} {ta : TA}
def rg3 (a c : Int) (n : Nat) : List V := (List.range n).map fun i => V.int (a + (i : Nat) * c)
theorem rg3_length (a c : Int) (n : Nat) : (rg3 a c n).length = n := by
  simp [rg3]
def R3 (a b c : Int) (n : Nat) : Prop :=
  c ≠ 0 ∧ c.natAbs.log2 < 9000 ∧ Builtin.Range.small a b c = true ∧ Builtin.Range.rangeSize a b c = n ∧ n ≤ 2 ^ 24
def tLst3 (ta : TA) : TE := fun σ H Q => ta σ H fun vs H1 => ∃ (a b c : Int) (n : Nat), vs = [.int a, .int b, .int c] ∧ R3 a b c n ∧
  ∀ q, H1 q = none → Q (.ref q) (upd H1 q (.lst (rg3 a c n)))
theorem pe_lst3 {p p2 pos pos2 : Pos} (calm : X.calm = true) (gl : Gl X "list") (nl : X.mg "list" = none) (gr : Gl X "range") (nr : X.mg "range" = none) (args : PA X [a, b, c] ta)
    (one : starEach [a, b, c] X.env = (false, eval a X.env) :: starEach [b, c] X.env := by rfl) (nostar : (backTo pos2 (starEach [b, c] X.env)).any (·.1) = false := by rfl)
    (whole : starEach [.Call (.Name "range" p2) [a, b, c] [] pos2] X.env = (false, eval (.Call (.Name "range" p2) [a, b, c] [] pos2) X.env) :: starEach [] X.env := by rfl) :
    PE X (.Call (.Name "list" p) [.Call (.Name "range" p2) [a, b, c] [] pos2] [] pos) (tLst3 ta) := by
  constructor
  intro pins s σ H Q I read
  refine Call_ (ld_blt I gl nl boot_list (PyProof.Rows.callWith_type1 (args_cons (Call_ (ld_blt I gr nr boot_range (PyProof.Rows.callWith_type1 (thn (args.run pos2 pins s σ H _ I read) fun us s1 y => ?_) one nostar))) whole) whole))
  obtain ⟨zs, H1, J, rel, i, j, k, n, e, ⟨c0, c1, c2, c3, c4⟩, h⟩ := y
  subst e
  match us, rel with
  | [_, _, _], .cons ⟨t, ei⟩ (.cons ⟨u, ej⟩ (.cons ⟨v, ek⟩ .nil)) =>
    subst ei
    subst ej
    subst ek
    refine call_range_3 c0 (args_nil ?_) (.inl (PyProof.noPylong_of_log2 c1))
    obtain ⟨hx, ehx⟩ : ∃ hx, hx = s1.heap.push { cls := .type "range", data := .fields #[.int i t, .int j u, .int k v] } := ⟨_, rfl⟩
    have J2 : Inv X pins σ H1 { s1 with heap := hx } := by
      rw [ehx]
      exact J.kept (t' := s1.toks) fun _ _ z => Heap.get?_push_of_some _ z
    rw [← ehx]
    refine call_list_range (s := { s1 with heap := hx }) (n := n) (J2.ok.hd calm) (by rw [ehx]; exact IsRange.new ..) c2 c3 c4 fun h' tk acc cc kp made items => ?_
    have len : acc.toList.length = n := Array.length_toList.trans items.1
    have vals : Vals (rg3 i k n) acc.toList := by
      have z := vals_of_get acc.toList (fun m : Nat => V.int (i + m * k)) fun m w hw => by
        obtain ⟨tw, ew⟩ := items.2 m w (by rw [← hw, Array.getElem?_toList])
        exact ⟨tw, ew⟩
      rw [len] at z
      exact z
    refine ⟨.ref hx.objs.size, upd H1 hx.objs.size (.lst (rg3 i k n)), J2.laid kp (Nat.le_refl _) (show ObjOk X.prog X.w _ _ _ (.lst (rg3 i k n)) from ⟨?_, acc.toList, cc, vals, ?_⟩), rfl, h _ (J2.hok.fresh (Nat.le_refl _))⟩
    · rw [rg3_length, sizeLine_eq]
      omega
    · rw [Array.toArray_toList]
      exact made
end

/-! ### lists of ints, compared -/
theorem dp_ints {K : PySem.W.Frag} {H : Hp} : ∀ ns : List Int, DpAll K H (ns.map V.int) (ns.map PyData.int)
  | [] => .nil
  | n :: r => .cons (.int n) (dp_ints r)
theorem lay_ints : ∀ ns : List Int, PyData.canLayAll0 (ns.map PyData.int) = true
  | [] => rfl
  | n :: r => by
    show (true && PyData.canLayAll0 (r.map PyData.int)) = true
    rw [lay_ints r]
    rfl
theorem depth_ints : ∀ ns : List Int, PyData.depthAll (ns.map PyData.int) = 0
  | [] => rfl
  | n :: r => by
    show max 0 (PyData.depthAll (r.map PyData.int)) = 0
    rw [depth_ints r]
    rfl
theorem shaped_ints (ns : List Int) : SeqAt.shaped (.list (ns.map PyData.int)) = true := by
  unfold SeqAt.shaped
  have h1 : PyData.canLay0 (.list (ns.map PyData.int)) = true := lay_ints ns
  have h2 : PyData.depth (.list (ns.map PyData.int)) = 1 := by
    show PyData.depthAll (ns.map PyData.int) + 1 = 1
    rw [depth_ints]
  rw [h1, h2]
  rfl
theorem eqv_ints : ∀ ns : List Int, PyData.eqvAll (ns.map PyData.int) (ns.map PyData.int) = true
  | [] => rfl
  | n :: r => by
    show ((n == n) && PyData.eqvAll (r.map PyData.int) (r.map PyData.int)) = true
    rw [eqv_ints r, beq_self_eq_true]
    rfl
theorem dp_lst {K : PySem.W.Frag} {H : Hp} {a : Addr} {ns : List Int} (h : SqL K H a (ns.map V.int)) : Dp K H (.ref a) (.list (ns.map PyData.int)) := .lst h (dp_ints ns)
end Tg

namespace Tg
open PySem PySem.Spec PyProof.Rows L2
/-! ### defs, methods and classes as a caller needs them -/
section
variable (P : Program) (w : World) (K : PySem.W.Frag) (mg : Str → Option Value) (base : Heap)
/-- the def x is there, and keeps sp by level k -/
def Cal (k : Nat) (x : Str) (ps : List Str) (sp : Sp) : Prop := ∃ f fd, FnOk P w K mg base CX0 k f fd ps sp ∧ mg x = some (.ref f) ∧ PySem.W.keepIn K (.ref f) = true ∧ Binds K fd ps []
/-- the places that is tells, out of a list -/
def prm {α : Type} (is : List Nat) (zs : List α) : List α := is.filterMap fun i => zs[i]?
/-- the same with keywords alone, ks in this order; is: the places of the parameters among them -/
def CalK (k : Nat) (x : Str) (ps ks : List Str) (is : List Nat) (sp : Sp) : Prop := ∃ f fd, FnOk P w K mg base CX0 k f fd ps sp ∧ mg x = some (.ref f) ∧ PySem.W.keepIn K (.ref f) = true ∧ KBn K fd ps 0 ks (fun _ ws => prm is ws) (fun _ zs => prm is zs)
/-- a method of the class C -/
def CalM (k : Nat) (C : Addr) (m : Str) (ps : List Str) (sp : Sp) : Prop := ∃ f fd, FnOk P w K mg base CX0 k f fd ps sp ∧ Meth K C m f ∧ Binds K fd ps []
def CalMK (k : Nat) (C : Addr) (m : Str) (ps ks : List Str) (is : List Nat) (sp : Sp) : Prop := ∃ f fd, FnOk P w K mg base CX0 k f fd ps sp ∧ Meth K C m f ∧ KBn K fd ps 1 ks (fun us ws => us ++ prm is ws) (fun vs zs => vs ++ prm is zs)
/-- a class, by its __init__ -/
def CalC (k : Nat) (x : Str) (C : Addr) (ps : List Str) (sp : Sp) : Prop := ∃ f fd, FnOk P w K mg base CX0 k f fd ps sp ∧ mg x = some (.ref C) ∧ Mk K C f ∧ Binds K fd ps []
end
theorem vals_at : ∀ {zs : List V} {ws : List Value}, Vals zs ws → ∀ i : Nat, (zs[i]? = none ∧ ws[i]? = none) ∨ ∃ z w, zs[i]? = some z ∧ ws[i]? = some w ∧ RelV z w
  | _, _, .nil, i => .inl ⟨by simp, by simp⟩
  | _, _, .cons a b, i => by
    cases i with
    | zero => exact .inr ⟨_, _, rfl, rfl, a⟩
    | succ i => exact vals_at b i
theorem prm_rel {zs : List V} {ws : List Value} (h : Vals zs ws) : ∀ is : List Nat, Vals (prm is zs) (prm is ws)
  | [] => .nil
  | i :: r => by
    have ih := prm_rel h r
    unfold prm at ih ⊢
    rcases vals_at h i with ⟨h1, h2⟩ | ⟨z, w, h1, h2, h3⟩
    · rw [List.filterMap_cons_none h1, List.filterMap_cons_none h2]
      exact ih
    · rw [List.filterMap_cons_some h1, List.filterMap_cons_some h2]
      exact .cons h3 ih
section
variable {X : Cx} {k : Nat} {ps ks : List Str} {is : List Nat} {sp : Sp} {x m : Str} {C : Addr} {o e : Expr} {es : List Expr} {p pos apos : Pos} {kws : List Keyword} {ta t tk : TA} {to : TE}
theorem pe_cal (c : Cal X.prog X.w X.K X.mg X.base k x ps sp) (hr : Room k X.A) (gl : Gl X x) (ha : PA X (e :: es) t) (hdb : (x == ("__debug__" : Str)) = false := by decide)
    (he : starEach (e :: es) X.env = (false, eval e X.env) :: starEach es X.env := by rfl) (hpl : (backTo pos (starEach es X.env)).any (·.1) = false := by rfl) : PE X (.Call (.Name x p) (e :: es) [] pos) (tCall sp [] E0 t) := by
  obtain ⟨f, fd, F, hm, hk, hb⟩ := c
  exact pe_call F hr gl hm hk hb .nil pass0 ha hdb he hpl
theorem pe_calK (c : CalK X.prog X.w X.K X.mg X.base k x ps ks is sp) (hr : Room k X.A) (gl : Gl X x) (vals : PK X kws tk)
    (named : (backToKw pos (keywordEach kws X.env)).all (·.1.isSome) = true := by rfl) (names : (backToKw pos (keywordEach kws X.env)).filterMap (·.1) = ks := by rfl) (nodebug : (x == ("__debug__" : Str)) = false := by decide)
    (nostar : ((backTo pos (starEach [] X.env)).any (·.1) || (backToKw pos (keywordEach kws X.env)).any (·.1.isNone)) = false := by rfl) :
    PE X (.Call (.Name x p) [] kws pos) (tKw0 ks.length sp (fun _ zs => prm is zs) E0 tk) := by
  obtain ⟨f, fd, F, hm, hk, hb⟩ := c
  exact pe_kw0 F hr gl hm hk hb pass0 vals named names nodebug nostar
theorem pe_calM {pl : Sem Bool} (he : PE X o to) (cl : Cls X.K C) (c : CalM X.prog X.w X.K X.mg X.base k C m ps sp) (hr : Room k X.A) (ha : PA X (e :: es) t)
    (hst : starEach (e :: es) X.env = (false, eval e X.env) :: starEach es X.env := by rfl) (hpl : (backTo pos (starEach es X.env)).any (·.1) = false := by rfl) (ht : eval (.Call (.Attribute o m apos) (e :: es) [] pos) X.env = (do let ov ← eval o X.env; standAt apos.atName; let (f, first) ← holding [ov] (getMethod ov m pl); callWith pos f first (backTo pos (starEach (e :: es) X.env)) (backToKw pos (keywordEach [] X.env))) := by rfl) :
    PE X (.Call (.Attribute o m apos) (e :: es) [] pos) (tMeth C m sp [] E0 to t) := by
  obtain ⟨f, fd, F, hm, hb⟩ := c
  exact pe_meth (pl := pl) he cl hm F hr hb .nil pass0 ha hst hpl ht
theorem pe_calM0 {pl : Sem Bool} (he : PE X o to) (cl : Cls X.K C) (c : CalM X.prog X.w X.K X.mg X.base k C m ps sp) (hr : Room k X.A)
    (ht : eval (.Call (.Attribute o m apos) [] [] pos) X.env = (do let ov ← eval o X.env; standAt apos.atName; let (f, first) ← holding [ov] (getMethod ov m pl); callWith pos f first (backTo pos (starEach [] X.env)) (backToKw pos (keywordEach [] X.env))) := by rfl) :
    PE X (.Call (.Attribute o m apos) [] [] pos) (tMeth C m sp [] E0 to tNil) := by
  obtain ⟨f, fd, F, hm, hb⟩ := c
  exact pe_meth0 (pl := pl) he cl hm F hr hb .nil pass0 ht
/-- o.m(k = v, ..) -/
def tMethK (C : Addr) (m : Str) (n : Nat) (sp : Sp) (is : List Nat) (E : XK) (to : TE) (tk : TA) : TE := fun σ H Q => to σ H fun x H1 => ∃ a dx fs, x = .ref a ∧ H1 a = some (.ins C dx fs) ∧ fs.lookup m = none ∧ tk σ H1 fun zs H2 => zs.length = n ∧ sp (x :: prm is zs) H2 Q E
theorem pe_calMK {pl : Sem Bool} (he : PE X o to) (cl : Cls X.K C) (c : CalMK X.prog X.w X.K X.mg X.base k C m ps ks is sp) (hr : Room k X.A) (vals : PK X kws tk)
    (named : (backToKw pos (keywordEach kws X.env)).all (·.1.isSome) = true := by rfl) (names : (backToKw pos (keywordEach kws X.env)).filterMap (·.1) = ks := by rfl)
    (nostar : ((backTo pos (starEach [] X.env)).any (·.1) || (backToKw pos (keywordEach kws X.env)).any (·.1.isNone)) = false := by rfl)
    (ht : eval (.Call (.Attribute o m apos) [] kws pos) X.env = (do let ov ← eval o X.env; standAt apos.atName; let (f, first) ← holding [ov] (getMethod ov m pl); callWith pos f first (backTo pos (starEach [] X.env)) (backToKw pos (keywordEach kws X.env))) := by rfl) :
    PE X (.Call (.Attribute o m apos) [] kws pos) (tMethK C m ks.length sp is E0 to tk) := by
  obtain ⟨f, fd, F, hm, hb⟩ := c
  constructor
  intro pins s σ H Q I read
  refine PySem.W.methodCall_KW (pl := pl) (thn (he.run pins s σ H _ I read) fun u s1 ⟨x, H1, I1, rx, a, dx, fs, ex, ea, l, q⟩ => ?_) ht
  subst ex
  obtain rfl : u = .ref a := rx
  refine getmeth_ok I1 ea cl hm l ?_
  refine PySem.W.callWith_KW0 (first := [.ref a]) (h₀ := X.base) I.ok.mod.kin hm.kp named (thn (vals.run pos pins s1 σ H1 _ I1 q) fun ws s2 y => ?_) nostar
  obtain ⟨zs, H2, J, rel, many, h⟩ := y
  rw [names]
  exact ⟨J.kIn, run_fnN (E := E0) (us := [.ref a]) (vs := [.ref a]) F hr hb pass0 J (.cons rfl .nil) rel rfl many h⟩
theorem pe_calC0 (c : CalC X.prog X.w X.K X.mg X.base k x C ps sp) (hr : Room (k + 1) X.A) (gl : Gl X x) (hdb : (x == ("__debug__" : Str)) = false := by decide) : PE X (.Call (.Name x p) [] [] pos) (tMake C sp [] E0 tNil) := by
  obtain ⟨f, fd, F, hm, M, hb⟩ := c
  exact pe_make0 M F hr gl hm hb .nil pass0 hdb
theorem pe_calC (c : CalC X.prog X.w X.K X.mg X.base k x C ps sp) (hr : Room (k + 1) X.A) (gl : Gl X x) (ha : PA X (e :: es) t) (hdb : (x == ("__debug__" : Str)) = false := by decide)
    (he : starEach (e :: es) X.env = (false, eval e X.env) :: starEach es X.env := by rfl) (hpl : (backTo pos (starEach es X.env)).any (·.1) = false := by rfl) : PE X (.Call (.Name x p) (e :: es) [] pos) (tMake C sp [] E0 t) := by
  obtain ⟨f, fd, F, hm, M, hb⟩ := c
  exact pe_make M F hr gl hm hb .nil pass0 ha hdb he hpl
end
end Tg

namespace Tg
open PySem PySem.Spec PyProof.Rows L2
/-! ### the heap: what stands -/
/-- all but p stands as it stood -/
def Kp (p : Addr) (H H' : Hp) : Prop := ∀ b o, b ≠ p → H b = some o → H' b = some o
theorem Kp.refl (p : Addr) (H : Hp) : Kp p H H := fun _ _ _ h => h
theorem Kp.trans {p : Addr} {H H1 H2 : Hp} (a : Kp p H H1) (b : Kp p H1 H2) : Kp p H H2 := fun c o hc h => b c o hc (a c o hc h)
theorem Kp.of {p : Addr} {H H' : Hp} (s : Same H H') : Kp p H H' := fun c o _ h => s c o h
theorem Kp.put {p : Addr} {H : Hp} {o : HO} : Kp p H (upd H p o) := fun c u hc h => by
  rw [upd_ne hc]
  exact h
/-- what is new stays apart -/
theorem Kp.same {p : Addr} {H H1 H2 : Hp} (s : Same H H1) (n : H p = none) (k : Kp p H1 H2) : Same H H2 := fun b o h => k b o (ne_of_none h n) (s b o h)
theorem same_new {H : Hp} {p : Addr} {o : HO} (h : H p = none) : Same H (upd H p o) := fun b x e => by
  rw [upd_ne (ne_of_none e h)]
  exact e
theorem same_put {H H' : Hp} {D : Addr} {o : HO} (n : H D = none) (s : Same H H') : Same H (upd H' D o) := fun b x e => by
  rw [upd_ne (ne_of_none e n)]
  exact s _ _ e
/-- what can't be changed: tuples, and what is locked -/
def Fix : HO → Prop
  | .tup _ => True
  | .frz _ _ => True
  | _ => False
/-- all that can't be changed stands -/
def KT (H H' : Hp) : Prop := ∀ a o, Fix o → H a = some o → H' a = some o
theorem KT.refl (H : Hp) : KT H H := fun _ _ _ h => h
theorem KT.trans {H H1 H2 : Hp} (a : KT H H1) (b : KT H1 H2) : KT H H2 := fun c o f h => b c o f (a c o f h)
theorem KT.of {H H' : Hp} (s : Same H H') : KT H H' := fun c o _ h => s c o h
theorem KT.kp {p : Addr} {H H' : Hp} {o : HO} (k : Kp p H H') (h : H p = some o) (n : ¬ Fix o) : KT H H' := fun a u f e => k a u (fun z => n (by
  rw [z, h] at e
  cases e
  exact f)) e
theorem KT.put {p : Addr} {H : Hp} {o u : HO} (h : H p = some o) (n : ¬ Fix o) : KT H (upd H p u) := KT.kp Kp.put h n
theorem KT.new {p : Addr} {H : Hp} {u : HO} (h : H p = none) : KT H (upd H p u) := KT.of (same_new h)
theorem nfix_lst {xs : List V} : ¬ Fix (.lst xs) := fun z => z
theorem nfix_dK {xs : List (Key × V)} : ¬ Fix (.dK xs) := fun z => z
theorem nfix_ins {C dx : Addr} {fs : List (Str × V)} : ¬ Fix (.ins C dx fs) := fun z => z
/-! ### data -/
theorem rd_same {H H' : Hp} {a : Addr} {o : HO} (s : Same H H') (h : Rd H a o) : Rd H' a o := by
  rcases h with h | ⟨ob, h⟩
  · exact .inl (s _ _ h)
  · exact .inr ⟨ob, s _ _ h⟩
theorem sqL_same {K : PySem.W.Frag} {H H' : Hp} {a : Addr} {xs : List V} (s : Same H H') (h : SqL K H a xs) : SqL K H' a xs := h.imp (rd_same s) id
theorem sqT_same {K : PySem.W.Frag} {H H' : Hp} {a : Addr} {xs : List V} (s : Same H H') (h : SqT K H a xs) : SqT K H' a xs := h.imp (rd_same s) id
theorem sqT_kt {K : PySem.W.Frag} {H H' : Hp} {a : Addr} {xs : List V} (s : KT H H') (h : SqT K H a xs) : SqT K H' a xs := by
  refine h.imp (fun h => ?_) id
  rcases h with h | ⟨ob, h⟩
  · exact .inl (s _ _ trivial h)
  · exact .inr ⟨ob, s _ _ trivial h⟩
mutual
theorem dp_same {K : PySem.W.Frag} {H H' : Hp} (s : Same H H') : ∀ {x : V} {d : PyData}, Dp K H x d → Dp K H' x d
  | _, _, .non => .non
  | _, _, .bl b => .bl b
  | _, _, .int i => .int i
  | _, _, .str z => .str z
  | _, _, .lst a b => .lst (sqL_same s a) (dpAll_same s b)
  | _, _, .tup a b => .tup (sqT_same s a) (dpAll_same s b)
theorem dpAll_same {K : PySem.W.Frag} {H H' : Hp} (s : Same H H') : ∀ {xs : List V} {ds : List PyData}, DpAll K H xs ds → DpAll K H' xs ds
  | _, _, .nil => .nil
  | _, _, .cons a b => .cons (dp_same s a) (dpAll_same s b)
end
/-- no list and no dict in it -/
inductive TD : PyData → Prop
  | non : TD .none
  | bl (b : Bool) : TD (.bool b)
  | int (i : Int) : TD (.int i)
  | str (z : Str) : TD (.str z)
  | tup {ds : List PyData} : (∀ d, d ∈ ds → TD d) → TD (.tuple ds)
mutual
theorem dp_kt {K : PySem.W.Frag} {H H' : Hp} (s : KT H H') : ∀ {x : V} {d : PyData}, Dp K H x d → TD d → Dp K H' x d
  | _, _, .non, _ => .non
  | _, _, .bl b, _ => .bl b
  | _, _, .int i, _ => .int i
  | _, _, .str z, _ => .str z
  | _, _, .lst _ _, t => nomatch t
  | _, _, .tup a b, .tup t => .tup (sqT_kt s a) (dpAll_kt s b t)
theorem dpAll_kt {K : PySem.W.Frag} {H H' : Hp} (s : KT H H') : ∀ {xs : List V} {ds : List PyData}, DpAll K H xs ds → (∀ d, d ∈ ds → TD d) → DpAll K H' xs ds
  | _, _, .nil, _ => .nil
  | _, _, .cons a b, t => .cons (dp_kt s a (t _ List.mem_cons_self)) (dpAll_kt s b fun d hd => t d (List.mem_cons_of_mem _ hd))
end
theorem dpAll_len {K : PySem.W.Frag} {H : Hp} : ∀ {xs : List V} {ds : List PyData}, DpAll K H xs ds → xs.length = ds.length
  | _, _, .nil => rfl
  | _, _, .cons _ b => congrArg Nat.succ (dpAll_len b)
theorem dpAll_at {K : PySem.W.Frag} {H : Hp} : ∀ {xs : List V} {ds : List PyData}, DpAll K H xs ds → ∀ (i : Nat) (x : V), xs[i]? = some x → ∃ d, ds[i]? = some d ∧ Dp K H x d
  | _, _, .nil => fun i x h => by simp at h
  | _, _, .cons a b => fun i x h => by
    cases i with
    | zero =>
      simp only [Option.some.injEq, List.getElem?_cons_zero] at h
      subst h
      exact ⟨_, rfl, a⟩
    | succ i =>
      rw [List.getElem?_cons_succ] at h ⊢
      exact dpAll_at b i x h
theorem dpAll_tk {K : PySem.W.Frag} {H : Hp} : ∀ {xs : List V} {ds : List PyData}, DpAll K H xs ds → ∀ (i : Nat) (d : PyData), ds[i]? = some d → ∃ x, xs[i]? = some x ∧ Dp K H x d
  | _, _, .nil => fun i x h => by simp at h
  | _, _, .cons a b => fun i x h => by
    cases i with
    | zero =>
      simp only [Option.some.injEq, List.getElem?_cons_zero] at h
      subst h
      exact ⟨_, rfl, a⟩
    | succ i =>
      rw [List.getElem?_cons_succ] at h ⊢
      exact dpAll_tk b i x h
theorem dpAll_app {K : PySem.W.Frag} {H : Hp} : ∀ {xs ys : List V} {ds es : List PyData}, DpAll K H xs ds → DpAll K H ys es → DpAll K H (xs ++ ys) (ds ++ es)
  | _, _, _, _, .nil, h => h
  | _, _, _, _, .cons a b, h => .cons a (dpAll_app b h)
theorem dpAll_snoc {K : PySem.W.Frag} {H : Hp} {xs : List V} {ds : List PyData} {y : V} {e : PyData} (h : DpAll K H xs ds) (a : Dp K H y e) : DpAll K H (xs ++ [y]) (ds ++ [e]) := dpAll_app h (.cons a .nil)
/-- a list of data that can't be changed itself -/
def LD (K : PySem.W.Frag) (H : Hp) (a : Addr) (ds : List PyData) : Prop := ∃ xs, H a = some (.lst xs) ∧ DpAll K H xs ds
theorem LD.dp {K : PySem.W.Frag} {H : Hp} {a : Addr} {ds : List PyData} (h : LD K H a ds) : Dp K H (.ref a) (.list ds) := by
  obtain ⟨xs, h1, h2⟩ := h
  exact .lst (SqL.of h1) h2
theorem LD.same {K : PySem.W.Frag} {H H' : Hp} {a : Addr} {ds : List PyData} (s : Same H H') (h : LD K H a ds) : LD K H' a ds := by
  obtain ⟨xs, h1, h2⟩ := h
  exact ⟨xs, s _ _ h1, dpAll_same s h2⟩
/-- where the list itself stands and all tuples do -/
theorem LD.kt {K : PySem.W.Frag} {H H' : Hp} {a : Addr} {ds : List PyData} (s : KT H H') (e : ∀ o, H a = some o → H' a = some o) (t : ∀ d, d ∈ ds → TD d) (h : LD K H a ds) : LD K H' a ds := by
  obtain ⟨xs, h1, h2⟩ := h
  exact ⟨xs, e _ h1, dpAll_kt s h2 t⟩
theorem LD.kp {K : PySem.W.Frag} {H H' : Hp} {a p : Addr} {o : HO} {ds : List PyData} (k : Kp p H H') (hp : H p = some o) (n : ¬ Fix o) (ne : a ≠ p) (t : ∀ d, d ∈ ds → TD d) (h : LD K H a ds) : LD K H' a ds :=
  h.kt (KT.kp k hp n) (fun u e => k _ _ ne e) t
/-- one more at the end -/
theorem LD.snoc {K : PySem.W.Frag} {H H1 : Hp} {a : Addr} {xs : List V} {ds : List PyData} {y : V} {e : PyData} (k : KT H H1) (h1 : H1 a = some (.lst xs)) (hd : DpAll K H xs ds) (t : ∀ d, d ∈ ds → TD d) (hy : Dp K H1 y e) (te : TD e) :
    LD K (upd H1 a (.lst (xs ++ [y]))) a (ds ++ [e]) :=
  ⟨_, upd_same, dpAll_snoc (dpAll_kt (k.trans (KT.put h1 nfix_lst)) hd t) (dp_kt (KT.put h1 nfix_lst) hy te)⟩
theorem shaped_of {d : PyData} (h1 : d.canLay0 = true) (h2 : d.depth ≤ 64) : SeqAt.shaped d = true := by
  unfold SeqAt.shaped
  rw [h1, decide_eq_true h2]
  rfl
theorem if_f {A B : Prop} (h : B) : if false = true then A else B := by
  rw [if_neg (by decide)]
  exact h
theorem if_t {A B : Prop} (h : A) : if true = true then A else B := by
  rw [if_pos rfl]
  exact h
theorem atI_mem {xs : List Int} {i : Int} (h0 : 0 ≤ i) (h1 : i < xs.length) : ∃ v, v ∈ xs ∧ atI (xs.map V.int) i = some (.int v) := by
  have hn : i.toNat < xs.length := by omega
  obtain ⟨j, rfl⟩ : ∃ j : Nat, i = (j : Int) := ⟨i.toNat, by omega⟩
  have hj : j < xs.length := by omega
  refine ⟨xs[j], List.getElem_mem hj, atI_nat ?_⟩
  rw [List.getElem?_map, List.getElem?_eq_getElem hj]
  rfl
end Tg

namespace Tg
open PySem L2
/-! ### rows: time, number, worth or none -/
abbrev Rw := Int × Int × Option Int
def Lt (x y : Rw) : Prop := x.1 < y.1 ∨ (x.1 = y.1 ∧ x.2.1 < y.2.1)
def Srt (rs : List Rw) : Prop := rs.Pairwise Lt
theorem Lt.irr (x : Rw) : ¬ Lt x x := fun h => by
  rcases h with h | h
  · omega
  · omega
theorem Srt.sub {rs : List Rw} (h : Srt rs) (p : Rw → Bool) : Srt (rs.filter p) := List.Pairwise.filter p h
/-- r is the last row of its time with a number up to n -/
def IsLast (rs : List Rw) (n : Int) (r : Rw) : Prop := r ∈ rs ∧ r.2.1 ≤ n ∧ ∀ q, q ∈ rs → q.1 = r.1 → q.2.1 ≤ n → q.2.1 ≤ r.2.1
theorem srt_tri {rs : List Rw} (h : Srt rs) {a b : Rw} (ha : a ∈ rs) (hb : b ∈ rs) : a = b ∨ Lt a b ∨ Lt b a := by
  induction rs with
  | nil => cases ha
  | cons x r ih =>
    have ⟨h1, h2⟩ := List.pairwise_cons.mp (show (x :: r).Pairwise Lt from h)
    rcases List.mem_cons.mp ha with e1 | a1
    · rcases List.mem_cons.mp hb with e2 | b1
      · exact .inl (e1.trans e2.symm)
      · rw [e1]
        exact .inr (.inl (h1 b b1))
    · rcases List.mem_cons.mp hb with e2 | b1
      · rw [e2]
        exact .inr (.inr (h1 a a1))
      · exact ih h2 a1 b1
theorem srt_same {rs : List Rw} (h : Srt rs) {a b : Rw} (ha : a ∈ rs) (hb : b ∈ rs) (e1 : a.1 = b.1) (e2 : a.2.1 = b.2.1) : a = b := by
  rcases srt_tri h ha hb with e | (e | e) | (e | e)
  · exact e
  · omega
  · omega
  · omega
  · omega
theorem last_uniq {rs : List Rw} (h : Srt rs) {n : Int} {a b : Rw} (ha : IsLast rs n a) (hb : IsLast rs n b) (e : a.1 = b.1) : a = b := by
  have h1 := ha.2.2 b hb.1 e.symm hb.2.1
  have h2 := hb.2.2 a ha.1 e ha.2.1
  exact srt_same h ha.1 hb.1 e (by omega)
theorem Srt.nodup {rs : List Rw} (h : Srt rs) : rs.Nodup := by
  unfold List.Nodup
  refine List.Pairwise.imp (fun {a b} (l : Lt a b) => ?_) h
  intro e
  rw [← e] at l
  exact Lt.irr a l
/-! ### tables by times -/
def putL {α : Type} (m : List (Int × α)) (t : Int) (a : α) : List (Int × α) := if (m.any fun p => decide (p.1 = t)) = true then m.map (fun p => if p.1 = t then (p.1, a) else p) else m ++ [(t, a)]
theorem mem_putL {α : Type} {m : List (Int × α)} {t : Int} {a : α} {p : Int × α} : p ∈ putL m t a ↔ p = (t, a) ∨ (p ∈ m ∧ ¬ p.1 = t) := by
  unfold putL
  by_cases c : (m.any fun p => decide (p.1 = t)) = true
  · rw [if_pos c]
    obtain ⟨q, hq, eq⟩ := List.any_eq_true.mp c
    have eq := of_decide_eq_true eq
    constructor
    · intro h
      obtain ⟨x, hx, e⟩ := List.mem_map.mp h
      by_cases d : x.1 = t
      · rw [if_pos d, d] at e
        exact .inl e.symm
      · rw [if_neg d] at e
        subst e
        exact .inr ⟨hx, d⟩
    · rintro (rfl | ⟨h1, h2⟩)
      · exact List.mem_map.mpr ⟨q, hq, by rw [if_pos eq, eq]⟩
      · exact List.mem_map.mpr ⟨p, h1, by rw [if_neg h2]⟩
  · rw [if_neg c]
    constructor
    · intro there
      rcases List.mem_append.mp there with old | new
      · exact .inr ⟨old, fun z => c (List.any_eq_true.mpr ⟨p, old, decide_eq_true z⟩)⟩
      · exact .inl (List.mem_singleton.mp new)
    · rintro (rfl | ⟨h1, h2⟩)
      · exact List.mem_append_right _ (List.mem_singleton.mpr rfl)
      · exact List.mem_append_left _ h1
theorem putL_keys {α : Type} {m : List (Int × α)} {t : Int} {a : α} (h : m.Pairwise fun x y => x.1 < y.1) (le : ∀ p, p ∈ m → p.1 ≤ t) : (putL m t a).Pairwise fun x y => x.1 < y.1 := by
  unfold putL
  by_cases c : (m.any fun p => decide (p.1 = t)) = true
  · rw [if_pos c, List.pairwise_map]
    refine h.imp fun {x y} l => ?_
    by_cases d : x.1 = t
    · by_cases e : y.1 = t
      · rw [if_pos d, if_pos e]
        exact l
      · rw [if_pos d, if_neg e]
        exact l
    · by_cases e : y.1 = t
      · rw [if_neg d, if_pos e]
        exact l
      · rw [if_neg d, if_neg e]
        exact l
  · rw [if_neg c, List.pairwise_append]
    refine ⟨h, List.pairwise_singleton _ _, fun x hx y hy => ?_⟩
    rw [List.mem_singleton.mp hy]
    have h1 := le x hx
    have h2 : ¬ x.1 = t := fun z => c (List.any_eq_true.mpr ⟨x, hx, decide_eq_true z⟩)
    show x.1 < t
    omega
theorem putL_len {α : Type} {m : List (Int × α)} {t : Int} {a : α} : (putL m t a).length ≤ m.length + 1 := by
  unfold putL
  split
  · rw [List.length_map]
    omega
  · rw [List.length_append]
    exact Nat.le_refl _
/-- of each time the last row up to a number -/
def lwR (rs : List Rw) (n : Int) : List (Int × Rw) := rs.foldl (fun m r => if r.2.1 ≤ n then putL m r.1 r else m) []
theorem lwR_snoc (rs : List Rw) (n : Int) (r : Rw) : lwR (rs ++ [r]) n = if r.2.1 ≤ n then putL (lwR rs n) r.1 r else lwR rs n := by
  unfold lwR
  rw [List.foldl_append]
  rfl
theorem lwR_len (rs : List Rw) (n : Int) : (lwR rs n).length ≤ rs.length := by
  obtain ⟨k, hk⟩ : ∃ k, rs.length = k := ⟨_, rfl⟩
  induction k generalizing rs with
  | zero =>
    rw [List.length_eq_zero_iff.mp hk]
    exact Nat.le_refl _
  | succ k ih =>
    rcases List.eq_nil_or_concat rs with rfl | ⟨q, x, e⟩
    · exact Nat.zero_le _
    · rw [List.concat_eq_append] at e
      subst e
      rw [List.length_append] at hk ⊢
      have i1 := ih q (by simp at hk; exact hk)
      rw [lwR_snoc]
      have := putL_len (m := lwR q n) (t := x.1) (a := x)
      show _ ≤ q.length + 1
      split <;> omega
theorem lwR_is {n : Int} (rs : List Rw) (h : Srt rs) : ((lwR rs n).Pairwise fun x y => x.1 < y.1) ∧ ∀ p : Int × Rw, p ∈ lwR rs n ↔ p.1 = p.2.1 ∧ IsLast rs n p.2 := by
  obtain ⟨k, hk⟩ : ∃ k, rs.length = k := ⟨_, rfl⟩
  induction k generalizing rs with
  | zero =>
    rw [List.length_eq_zero_iff.mp hk]
    exact ⟨.nil, fun p => ⟨(fun z => absurd z List.not_mem_nil), (fun z => absurd z.2.1 List.not_mem_nil)⟩⟩
  | succ k ih =>
    rcases List.eq_nil_or_concat rs with rfl | ⟨q, x, e⟩
    · exact ⟨.nil, fun p => ⟨(fun z => absurd z List.not_mem_nil), (fun z => absurd z.2.1 List.not_mem_nil)⟩⟩
    · rw [List.concat_eq_append] at e
      subst e
      rw [List.length_append] at hk
      obtain ⟨h1, _, h3⟩ := List.pairwise_append.mp h
      have hx : ∀ y, y ∈ q → Lt y x := fun y hy => h3 y hy x (List.mem_singleton.mpr rfl)
      obtain ⟨i1, i2⟩ := ih q h1 (by simp at hk; exact hk)
      rw [lwR_snoc]
      by_cases c : x.2.1 ≤ n
      · rw [if_pos c]
        constructor
        · refine putL_keys i1 fun p hp => ?_
          obtain ⟨e1, e2⟩ := (i2 p).mp hp
          rcases hx p.2 e2.1 with l | l <;> omega
        · intro p
          rw [mem_putL]
          constructor
          · rintro (rfl | ⟨h4, h5⟩)
            · refine ⟨rfl, List.mem_append_right _ (List.mem_singleton.mpr rfl), c, fun y hy e4 _ => ?_⟩
              rcases List.mem_append.mp hy with h | h
              · rcases hx y h with l | l
                · have e4' : y.1 = x.1 := e4
                  omega
                · show y.2.1 ≤ x.2.1
                  omega
              · rw [List.mem_singleton.mp h]
                exact Int.le_refl _
            · obtain ⟨e1, e2, e3, e4⟩ := (i2 p).mp h4
              refine ⟨e1, List.mem_append_left _ e2, e3, fun y hy e5 e6 => ?_⟩
              rcases List.mem_append.mp hy with h | h
              · exact e4 y h e5 e6
              · rw [List.mem_singleton.mp h] at e5
                omega
          · rintro ⟨e1, e2, e3, e4⟩
            rcases List.mem_append.mp e2 with h | h
            · by_cases d : p.1 = x.1
              · exfalso
                have := e4 x (List.mem_append_right _ (List.mem_singleton.mpr rfl)) (by omega) c
                rcases hx p.2 h with l | l <;> omega
              · exact .inr ⟨(i2 p).mpr ⟨e1, h, e3, fun y hy => e4 y (List.mem_append_left _ hy)⟩, d⟩
            · left
              have e := List.mem_singleton.mp h
              obtain ⟨p1, p2⟩ := p
              have e' : p2 = x := e
              rw [e'] at e1 ⊢
              exact congrArg (fun z => (z, x)) e1
      · rw [if_neg c]
        refine ⟨i1, fun p => ?_⟩
        rw [i2 p]
        constructor
        · rintro ⟨e1, e2, e3, e4⟩
          refine ⟨e1, List.mem_append_left _ e2, e3, fun y hy e5 e6 => ?_⟩
          rcases List.mem_append.mp hy with h | h
          · exact e4 y h e5 e6
          · rw [List.mem_singleton.mp h] at e6
            exact absurd e6 c
        · rintro ⟨e1, e2, e3, e4⟩
          rcases List.mem_append.mp e2 with h | h
          · exact ⟨e1, h, e3, fun y hy => e4 y (List.mem_append_left _ hy)⟩
          · rw [List.mem_singleton.mp h] at e3
            exact absurd e3 c
/-- there is a last one -/
theorem last_of {rs : List Rw} (h : Srt rs) {n t : Int} {l : Rw} (e : (rs.filter fun q => decide (q.1 = t ∧ q.2.1 ≤ n)).getLast? = some l) : IsLast rs n l ∧ l.1 = t := by
  have ml := List.mem_of_getLast? e
  obtain ⟨m1, m2⟩ := List.mem_filter.mp ml
  obtain ⟨m3, m4⟩ := of_decide_eq_true m2
  refine ⟨⟨m1, m4, fun q hq e1 e2 => ?_⟩, m3⟩
  have mq : q ∈ rs.filter fun q => decide (q.1 = t ∧ q.2.1 ≤ n) := List.mem_filter.mpr ⟨hq, decide_eq_true ⟨by omega, e2⟩⟩
  have hs := h.sub fun q => decide (q.1 = t ∧ q.2.1 ≤ n)
  revert e mq hs
  generalize rs.filter (fun q => decide (q.1 = t ∧ q.2.1 ≤ n)) = fs
  intro e mq hs
  rcases List.eq_nil_or_concat fs with rfl | ⟨g, x, eg⟩
  · cases mq
  · rw [List.concat_eq_append] at eg
    subst eg
    rw [List.getLast?_concat] at e
    cases e
    rcases List.mem_append.mp mq with hg | hg
    · rcases (List.pairwise_append.mp hs).2.2 q hg l (List.mem_singleton.mpr rfl) with z | z <;> omega
    · rw [List.mem_singleton.mp hg]
      exact Int.le_refl _
theorem last_there {rs : List Rw} (h : Srt rs) {n : Int} {r : Rw} (hr : r ∈ rs) (hn : r.2.1 ≤ n) : ∃ l, IsLast rs n l ∧ l.1 = r.1 := by
  cases e : (rs.filter fun q => decide (q.1 = r.1 ∧ q.2.1 ≤ n)).getLast? with
  | some l => exact ⟨l, last_of h e⟩
  | none =>
    rw [List.getLast?_eq_none_iff] at e
    have : r ∈ rs.filter fun q => decide (q.1 = r.1 ∧ q.2.1 ≤ n) := List.mem_filter.mpr ⟨hr, decide_eq_true ⟨rfl, hn⟩⟩
    rw [e] at this
    cases this
/-! ### rising lists are told by their members -/
theorem ext_sorted {α : Type} {lt : α → α → Prop} (irr : ∀ a, ¬ lt a a) (tr : ∀ a b c, lt a b → lt b c → lt a c) : ∀ {xs ys : List α}, xs.Pairwise lt → ys.Pairwise lt → (∀ a, a ∈ xs ↔ a ∈ ys) → xs = ys
  | [], [], _, _, _ => rfl
  | [], y :: ys, _, _, h => nomatch (h y).mpr List.mem_cons_self
  | x :: xs, [], _, _, h => nomatch (h x).mp List.mem_cons_self
  | x :: xs, y :: ys, h1, h2, h => by
    obtain ⟨a1, a2⟩ := List.pairwise_cons.mp h1
    obtain ⟨b1, b2⟩ := List.pairwise_cons.mp h2
    have e : x = y := by
      rcases List.mem_cons.mp ((h x).mp List.mem_cons_self) with z | z
      · exact z
      · rcases List.mem_cons.mp ((h y).mpr List.mem_cons_self) with u | u
        · exact u.symm
        · exact absurd (tr _ _ _ (a1 y u) (b1 x z)) (irr x)
    subst e
    refine congrArg (x :: ·) (ext_sorted irr tr a2 b2 fun a => ?_)
    constructor
    · intro ha
      rcases List.mem_cons.mp ((h a).mp (List.mem_cons_of_mem _ ha)) with z | z
      · rw [z] at ha
        exact absurd (a1 x ha) (irr x)
      · exact z
    · intro ha
      rcases List.mem_cons.mp ((h a).mpr (List.mem_cons_of_mem _ ha)) with z | z
      · rw [z] at ha
        exact absurd (b1 x ha) (irr x)
      · exact z
/-! ### what is known -/
def kn (rs : List Rw) (n : Int) : List (Int × Int) := (lwR rs n).filterMap fun p => p.2.2.2.map fun w => (p.1, w)
theorem mem_kn {rs : List Rw} (h : Srt rs) {n : Int} {x : Int × Int} : x ∈ kn rs n ↔ ∃ r, IsLast rs n r ∧ r.1 = x.1 ∧ r.2.2 = some x.2 := by
  unfold kn
  rw [List.mem_filterMap]
  constructor
  · rintro ⟨p, hp, e⟩
    obtain ⟨e1, e2⟩ := ((lwR_is rs h).2 p).mp hp
    obtain ⟨w, e3, rfl⟩ := Option.map_eq_some_iff.mp e
    exact ⟨p.2, e2, e1.symm, e3⟩
  · rintro ⟨r, h1, h2, h3⟩
    refine ⟨(r.1, r), ((lwR_is rs h).2 _).mpr ⟨rfl, h1⟩, ?_⟩
    rw [h3, h2]
    rfl
theorem kn_srt {rs : List Rw} (h : Srt rs) (n : Int) : (kn rs n).Pairwise fun x y => x.1 < y.1 := by
  unfold kn
  rw [List.pairwise_filterMap]
  refine (lwR_is rs h).1.imp fun {a b} l x hx y hy => ?_
  obtain ⟨w, _, rfl⟩ := Option.map_eq_some_iff.mp hx
  obtain ⟨u, _, rfl⟩ := Option.map_eq_some_iff.mp hy
  exact l
theorem kn_len (rs : List Rw) (n : Int) : (kn rs n).length ≤ rs.length := Nat.le_trans (List.length_filterMap_le _ _) (lwR_len rs n)
theorem kn_ext {rs qs : List Rw} (h1 : Srt rs) (h2 : Srt qs) {n m : Int} (h : ∀ r, r.2.2 ≠ none → (IsLast rs n r ↔ IsLast qs m r)) : kn rs n = kn qs m := by
  refine ext_sorted (lt := fun x y => x.1 < y.1) (fun a => Int.lt_irrefl _) (fun a b c => Int.lt_trans) (kn_srt h1 n) (kn_srt h2 m) fun x => ?_
  rw [mem_kn h1, mem_kn h2]
  constructor
  · rintro ⟨r, a, b, c⟩
    exact ⟨r, (h r (by rw [c]; simp)).mp a, b, c⟩
  · rintro ⟨r, a, b, c⟩
    exact ⟨r, (h r (by rw [c]; simp)).mpr a, b, c⟩
/-! ### what is needed -/
instance (rs : List Rw) (n : Int) (r : Rw) : Decidable (IsLast rs n r) := by
  unfold IsLast
  exact inferInstance
def Need (rs : List Rw) (n : Int) (r : Rw) : Prop := n < r.2.1 ∨ (IsLast rs n r ∧ ¬ r.2.2 = none)
instance (rs : List Rw) (n : Int) (r : Rw) : Decidable (Need rs n r) := by
  unfold Need
  exact inferInstance
def fl (rs : List Rw) (n : Int) (r : Rw) : Bool := decide (Need rs n r)
def thin (rs : List Rw) (n : Int) : List Rw := rs.filter (fl rs n)
def ndl (rs : List Rw) (n : Int) : List Rw := rs.filter fun r => !fl rs n r
theorem thin_known {rs : List Rw} (h : Srt rs) {n m : Int} (le : n ≤ m) : kn (thin rs n) m = kn rs m := by
  refine kn_ext (h.sub _) h fun r hr => ?_
  constructor
  · rintro ⟨a1, a2, a3⟩
    obtain ⟨b1, b2⟩ := List.mem_filter.mp a1
    have b3 : Need rs n r := of_decide_eq_true b2
    refine ⟨b1, a2, fun q hq e1 e2 => ?_⟩
    by_cases c : n < q.2.1
    · exact a3 q (List.mem_filter.mpr ⟨hq, decide_eq_true (.inl c)⟩) e1 e2
    · rcases b3 with z | z
      · omega
      · exact z.1.2.2 q hq e1 (by omega)
  · rintro ⟨a1, a2, a3⟩
    refine ⟨List.mem_filter.mpr ⟨a1, decide_eq_true ?_⟩, a2, fun q hq e1 e2 => a3 q (List.mem_filter.mp hq).1 e1 e2⟩
    by_cases c : n < r.2.1
    · exact .inl c
    · exact .inr ⟨⟨a1, by omega, fun q hq e1 e2 => a3 q hq e1 (by omega)⟩, hr⟩
/-- a row left out is missed -/
theorem missed {rs : List Rw} (h : Srt rs) {n : Int} {row : Rw} (hm : row ∈ thin rs n) (hw : ¬ row.2.2 = none) {b : Int} (eb : b = max n row.2.1)
    (he : (((thin rs n).filter fun q => !decide (q = row)).filter fun q => decide (q.1 = row.1 ∧ q.2.1 ≤ b)).getLast?.map (·.2.2) ≠ some row.2.2) :
    kn ((thin rs n).filter fun q => !decide (q = row)) b ≠ kn (thin rs n) b := fun z => by
  have hl : Srt (thin rs n) := h.sub _
  have hf : Srt ((thin rs n).filter fun q => !decide (q = row)) := hl.sub _
  obtain ⟨w, ew⟩ : ∃ w, row.2.2 = some w := by
    cases e : row.2.2 with
    | none => exact absurd e hw
    | some w => exact ⟨w, rfl⟩
  have last : IsLast (thin rs n) b row := by
    refine ⟨hm, by omega, fun q hq e1 e2 => ?_⟩
    obtain ⟨m1, m2⟩ := List.mem_filter.mp hm
    have nd : Need rs n row := of_decide_eq_true m2
    rcases nd with c | c
    · omega
    · have := c.1.2.1
      exact c.1.2.2 q (List.mem_filter.mp hq).1 e1 (by omega)
  have m1 : (row.1, w) ∈ kn (thin rs n) b := (mem_kn hl).mpr ⟨row, last, rfl, ew⟩
  rw [← z, mem_kn hf] at m1
  obtain ⟨r, r1, r2, r3⟩ := m1
  cases e : (((thin rs n).filter fun q => !decide (q = row)).filter fun q => decide (q.1 = row.1 ∧ q.2.1 ≤ b)).getLast? with
  | none =>
    rw [List.getLast?_eq_none_iff] at e
    have : r ∈ ((thin rs n).filter fun q => !decide (q = row)).filter fun q => decide (q.1 = row.1 ∧ q.2.1 ≤ b) := List.mem_filter.mpr ⟨r1.1, decide_eq_true ⟨r2, r1.2.1⟩⟩
    rw [e] at this
    cases this
  | some l =>
    obtain ⟨l1, l2⟩ := last_of hf e
    have el := last_uniq hf r1 l1 (by rw [l2]; exact r2)
    refine he ?_
    rw [e, ← el, ew]
    exact congrArg some r3
/-! ### the tables as dicts -/
def lwV (f : Rw → V) (rs : List Rw) (n : Int) : List (Key × V) := rs.foldl (fun m r => if r.2.1 ≤ n then putK m (Sum.inl r.1) (f r) else m) []
theorem lwV_snoc (f : Rw → V) (rs : List Rw) (n : Int) (r : Rw) : lwV f (rs ++ [r]) n = if r.2.1 ≤ n then putK (lwV f rs n) (Sum.inl r.1) (f r) else lwV f rs n := by
  unfold lwV
  rw [List.foldl_append]
  rfl
theorem putK_map (f : Rw → V) (m : List (Int × Rw)) (t : Int) (r : Rw) : putK (m.map fun p => ((Sum.inl p.1 : Key), f p.2)) (Sum.inl t) (f r) = (putL m t r).map fun p => ((Sum.inl p.1 : Key), f p.2) := by
  unfold putK putL
  have e : ((m.map fun p => ((Sum.inl p.1 : Key), f p.2)).any fun kv => decide (kv.1 = Sum.inl t)) = m.any fun p => decide (p.1 = t) := by
    rw [List.any_map]
    refine List.any_congr rfl fun p => ?_
    simp only [Function.comp_apply, Sum.inl.injEq]
  rw [e]
  by_cases c : (m.any fun p => decide (p.1 = t)) = true
  · rw [if_pos c, if_pos c, List.map_map, List.map_map]
    refine List.map_congr_left fun p _ => ?_
    simp only [Function.comp_apply]
    by_cases d : p.1 = t
    · rw [if_pos (congrArg Sum.inl d), if_pos d]
    · rw [if_neg (fun z => d (Sum.inl.inj z)), if_neg d]
  · rw [if_neg c, if_neg c, List.map_append]
    rfl
theorem lwV_eq (f : Rw → V) (rs : List Rw) (n : Int) : lwV f rs n = (lwR rs n).map fun p => ((Sum.inl p.1 : Key), f p.2) := by
  obtain ⟨k, hk⟩ : ∃ k, rs.length = k := ⟨_, rfl⟩
  induction k generalizing rs with
  | zero =>
    rw [List.length_eq_zero_iff.mp hk]
    rfl
  | succ k ih =>
    rcases List.eq_nil_or_concat rs with rfl | ⟨q, x, e⟩
    · rfl
    · rw [List.concat_eq_append] at e
      subst e
      rw [List.length_append] at hk
      have i1 := ih q (by simp at hk; exact hk)
      rw [lwV_snoc, lwR_snoc, i1]
      by_cases c : x.2.1 ≤ n
      · rw [if_pos c, if_pos c, putK_map]
      · rw [if_neg c, if_neg c]
theorem lwV_len (f : Rw → V) (rs : List Rw) (n : Int) : (lwV f rs n).length ≤ rs.length := by
  rw [lwV_eq, List.length_map]
  exact lwR_len rs n
theorem valV_of {f : Rw → V} : ∀ {m : List (Int × Rw)} {p : Int × Rw}, (m.Pairwise fun x y => x.1 < y.1) → p ∈ m → valV (m.map fun p => ((Sum.inl p.1 : Key), f p.2)) (Sum.inl p.1) = some (f p.2)
  | [], p, _, h => nomatch h
  | q :: m, p, .cons h1 h2, there => by
    rcases List.mem_cons.mp there with rfl | h
    · exact valV_pos rfl
    · rw [List.map_cons, valV_neg (fun z => by
        have := h1 p h
        have : q.1 = p.1 := Sum.inl.inj z
        omega)]
      exact valV_of h2 h
theorem lwV_last {f : Rw → V} {rs : List Rw} (h : Srt rs) {n : Int} {r : Rw} (hl : IsLast rs n r) : valV (lwV f rs n) (Sum.inl r.1 : Key) = some (f r) := by
  rw [lwV_eq]
  exact valV_of (p := (r.1, r)) (lwR_is rs h).1 (((lwR_is rs h).2 _).mpr ⟨rfl, hl⟩)
/-- the values of a list of unlike rows, as a function -/
theorem val_fun : ∀ (rs : List Rw) (xs : List V), rs.Nodup → ∃ f : Rw → V, ∀ (i : Nat) (r : Rw) (v : V), rs[i]? = some r → xs[i]? = some v → f r = v
  | [], xs, _ => ⟨fun _ => .non, fun i r v h => by simp at h⟩
  | r0 :: rs, [], _ => ⟨fun _ => .non, fun i r v _ h => by simp at h⟩
  | r0 :: rs, x :: xs, nd => by
    have n1 := (List.nodup_cons.mp nd).1
    obtain ⟨f, hf⟩ := val_fun rs xs (List.nodup_cons.mp nd).2
    refine ⟨fun r => if r = r0 then x else f r, fun i r v h1 h2 => ?_⟩
    cases i with
    | zero =>
      simp only [List.getElem?_cons_zero, Option.some.injEq] at h1 h2
      show (if r = r0 then x else f r) = v
      rw [if_pos h1.symm, h2]
    | succ i =>
      rw [List.getElem?_cons_succ] at h1 h2
      have ne : ¬ r = r0 := fun z => n1 (z ▸ List.mem_of_getElem? h1)
      show (if r = r0 then x else f r) = v
      rw [if_neg ne]
      exact hf i r v h1 h2
end Tg

namespace Tg
open PySem PySem.Spec PyProof.Rows L2
/-! ### rows and points as data -/
def dw : Option Int → PyData
  | none => .none
  | some i => .int i
def vw : Option Int → V
  | none => .non
  | some i => .int i
theorem dp_vw {K : PySem.W.Frag} {H : Hp} : ∀ o : Option Int, Dp K H (vw o) (dw o)
  | none => .non
  | some i => .int i
theorem dp_dw {K : PySem.W.Frag} {H : Hp} {v : V} : ∀ {o : Option Int}, Dp K H v (dw o) → v = vw o
  | none, h => by
    cases h
    rfl
  | some i, h => by
    cases h
    rfl
theorem vw_non (o : Option Int) : decide (vw o = .non) = o.isNone := by
  cases o with
  | none => rfl
  | some i => rfl
theorem td_dw : ∀ o : Option Int, TD (dw o)
  | none => .non
  | some i => .int i
theorem eq_dw (a b : Option Int) : PyData.eqv (dw a) (dw b) = decide (a = b) := by
  cases a with
  | none =>
    cases b with
    | none => rfl
    | some j => rfl
  | some i =>
    cases b with
    | none => rfl
    | some j =>
      show (i == j) = _
      by_cases c : i = j
      · rw [c, beq_self_eq_true, decide_eq_true rfl]
      · rw [beq_eq_false_iff_ne.mpr c, decide_eq_false fun z => c (Option.some.inj z)]
def rd (r : Rw) : PyData := .tuple [.int r.1, .int r.2.1, dw r.2.2]
def pd (x : Int × Int) : PyData := .tuple [.int x.1, .int x.2]
theorem td_rd (r : Rw) : TD (rd r) := .tup fun d hd => by
  simp only [List.mem_cons, List.not_mem_nil, or_false] at hd
  rcases hd with rfl | rfl | rfl
  · exact .int _
  · exact .int _
  · exact td_dw _
theorem td_rds (rs : List Rw) : ∀ d, d ∈ rs.map rd → TD d := fun d hd => by
  obtain ⟨x, _, rfl⟩ := List.mem_map.mp hd
  exact td_rd x
theorem td_pd (x : Int × Int) : TD (pd x) := .tup fun d hd => by
  simp only [List.mem_cons, List.not_mem_nil, or_false] at hd
  rcases hd with rfl | rfl
  · exact .int _
  · exact .int _
theorem td_pds (ps : List (Int × Int)) : ∀ d, d ∈ ps.map pd → TD d := fun d hd => by
  obtain ⟨x, _, rfl⟩ := List.mem_map.mp hd
  exact td_pd x
theorem dp_rd {K : PySem.W.Frag} {H : Hp} {v : V} {r : Rw} (h : Dp K H v (rd r)) : ∃ a, v = .ref a ∧ SqT K H a [.int r.1, .int r.2.1, vw r.2.2] := by
  cases h with
  | tup a b =>
    cases b with
    | cons h1 b =>
      cases b with
      | cons h2 b =>
        cases b with
        | cons h3 b =>
          cases b
          cases h1
          cases h2
          rw [dp_dw h3] at a
          exact ⟨_, rfl, a⟩
theorem rd_new {K : PySem.W.Frag} {H : Hp} {a : Addr} {r : Rw} (h : SqT K H a [.int r.1, .int r.2.1, vw r.2.2]) : Dp K H (.ref a) (rd r) := .tup h (.cons (.int _) (.cons (.int _) (.cons (dp_vw _) .nil)))
theorem pd_new {K : PySem.W.Frag} {H : Hp} {a : Addr} {x : Int × Int} (h : H a = some (.tup [.int x.1, .int x.2])) : Dp K H (.ref a) (pd x) := .tup (SqT.of h) (.cons (.int _) (.cons (.int _) .nil))
theorem lay_dw : ∀ o : Option Int, (dw o).canLay0 = true
  | none => rfl
  | some i => rfl
theorem dep_dw : ∀ o : Option Int, (dw o).depth = 0
  | none => rfl
  | some i => rfl
theorem lay_rd (r : Rw) : (rd r).canLay0 = true := by
  show (true && (true && ((dw r.2.2).canLay0 && true))) = true
  rw [lay_dw]
  rfl
theorem dep_rd (r : Rw) : (rd r).depth = 1 := by
  show max 0 (max 0 (max (dw r.2.2).depth 0)) + 1 = 1
  rw [dep_dw]
  rfl
theorem eq_rd (a b : Rw) : PyData.eqv (rd a) (rd b) = decide (a = b) := by
  show ((a.1 == b.1) && ((a.2.1 == b.2.1) && (PyData.eqv (dw a.2.2) (dw b.2.2) && true))) = _
  rw [eq_dw]
  by_cases c : a = b
  · subst c
    rw [beq_self_eq_true, beq_self_eq_true, decide_eq_true rfl, decide_eq_true rfl]
    rfl
  · rw [decide_eq_false c]
    by_cases c1 : a.1 = b.1
    · by_cases c2 : a.2.1 = b.2.1
      · by_cases c3 : a.2.2 = b.2.2
        · exact absurd (Prod.ext c1 (Prod.ext c2 c3)) c
        · rw [decide_eq_false c3]
          simp
      · rw [beq_eq_false_iff_ne.mpr c2]
        simp
    · rw [beq_eq_false_iff_ne.mpr c1]
      rfl
/-- lists of things of such a form -/
theorem form_all {α : Type} {f : α → PyData} (h1 : ∀ x, (f x).canLay0 = true) (h2 : ∀ x, (f x).depth ≤ 1) (h3 : ∀ x, PyData.eqv (f x) (f x) = true) (xs : List α) :
    PyData.canLayAll0 (xs.map f) = true ∧ PyData.depthAll (xs.map f) ≤ 1 ∧ PyData.eqvAll (xs.map f) (xs.map f) = true := by
  induction xs with
  | nil => exact ⟨rfl, Nat.zero_le _, rfl⟩
  | cons x r ih =>
    obtain ⟨i1, i2, i3⟩ := ih
    refine ⟨?_, ?_, ?_⟩
    · show ((f x).canLay0 && PyData.canLayAll0 (r.map f)) = true
      rw [h1, i1]
      rfl
    · show max (f x).depth (PyData.depthAll (r.map f)) ≤ 1
      have := h2 x
      omega
    · show (PyData.eqv (f x) (f x) && PyData.eqvAll (r.map f) (r.map f)) = true
      rw [h3, i3]
      rfl
theorem form_list {α : Type} {f : α → PyData} (h1 : ∀ x, (f x).canLay0 = true) (h2 : ∀ x, (f x).depth ≤ 1) (h3 : ∀ x, PyData.eqv (f x) (f x) = true) (xs : List α) : SeqAt.shaped (.list (xs.map f)) = true ∧ PyData.eqv (.list (xs.map f)) (.list (xs.map f)) = true := by
  obtain ⟨a, b, c⟩ := form_all h1 h2 h3 xs
  refine ⟨shaped_of a ?_, c⟩
  show PyData.depthAll (xs.map f) + 1 ≤ 64
  omega
theorem ref_rd (r : Rw) : PyData.eqv (rd r) (rd r) = true := by
  rw [eq_rd]
  exact decide_eq_true rfl
theorem rds_form (rs : List Rw) : SeqAt.shaped (.list (rs.map rd)) = true ∧ PyData.eqv (.list (rs.map rd)) (.list (rs.map rd)) = true := form_list lay_rd (fun r => Nat.le_of_eq (dep_rd r)) ref_rd rs
theorem ref_pd (x : Int × Int) : PyData.eqv (pd x) (pd x) = true := by
  show ((x.1 == x.1) && ((x.2 == x.2) && true)) = true
  rw [beq_self_eq_true, beq_self_eq_true]
  rfl
theorem pds_form (ps : List (Int × Int)) : SeqAt.shaped (.list (ps.map pd)) = true ∧ PyData.eqv (.list (ps.map pd)) (.list (ps.map pd)) = true := form_list (f := pd) (fun _ => rfl) (fun _ => Nat.le_refl 1) ref_pd ps
theorem sh_rd (r : Rw) : SeqAt.shaped (rd r) = true := shaped_of (lay_rd r) (by rw [dep_rd]; decide)
theorem dl_at {α : Type} {f : α → PyData} {K : PySem.W.Frag} {H : Hp} {xs : List V} {ps : List α} (h : DpAll K H xs (ps.map f)) {i : Nat} {v : V} (e : xs[i]? = some v) : ∃ x, ps[i]? = some x ∧ Dp K H v (f x) := by
  obtain ⟨d, h1, h2⟩ := dpAll_at h i v e
  rw [List.getElem?_map] at h1
  obtain ⟨x, h3, rfl⟩ := Option.map_eq_some_iff.mp h1
  exact ⟨x, h3, h2⟩
theorem dl_get {α : Type} {f : α → PyData} {K : PySem.W.Frag} {H : Hp} {xs : List V} {ps : List α} (h : DpAll K H xs (ps.map f)) {i : Nat} {x : α} (e : ps[i]? = some x) : ∃ v, xs[i]? = some v ∧ Dp K H v (f x) := dpAll_tk h i (f x) (by rw [List.getElem?_map, e]; rfl)
theorem dl_len {α : Type} {f : α → PyData} {K : PySem.W.Frag} {H : Hp} {xs : List V} {ps : List α} (h : DpAll K H xs (ps.map f)) : xs.length = ps.length := by
  have := dpAll_len h
  rw [List.length_map] at this
  exact this
theorem nodup_len {α : Type} [DecidableEq α] : ∀ {rs L : List α}, rs.Nodup → (∀ r, r ∈ rs → r ∈ L) → rs.length ≤ L.length
  | [], L, _, _ => Nat.zero_le _
  | r :: rs, L, nd, h => by
    have n1 := (List.nodup_cons.mp nd).1
    have n2 := (List.nodup_cons.mp nd).2
    have hr : r ∈ L := h r List.mem_cons_self
    have i := nodup_len (rs := rs) (L := L.erase r) n2 fun q hq => (List.mem_erase_of_ne (fun z : q = r => n1 (by rw [← z]; exact hq))).mpr (h q (List.mem_cons_of_mem _ hq))
    rw [List.length_erase_of_mem hr] at i
    have := List.length_pos_of_mem hr
    show rs.length + 1 ≤ L.length
    omega
theorem take_snoc {α : Type} {L : List α} {i : Nat} {x : α} (h : L[i]? = some x) : L.take (i + 1) = L.take i ++ [x] := by
  rw [List.take_add_one, h]
  rfl
end Tg

namespace Tg
open PySem PySem.Spec PyProof.Rows L2
/-! ### a new thing that is only read from now on -/
section
variable {X : Cx} {e : Expr} {t : TE}
def tFrz (t : TE) : TE := fun σ H Q => t σ H fun x H1 => ∃ d u, x = .ref d ∧ H1 d = some u ∧ Mut (some u) ∧ ∀ od, Q x (upd H1 d (.frz od u))
theorem pe_frz (h : PE X e t) : PE X e (tFrz t) := by
  constructor
  intro pins s σ H Q I read
  refine thn (h.run pins s σ H _ I read) fun v s1 y => ?_
  obtain ⟨x, H1, J, r, d, u, ex, hd, mu, q⟩ := y
  obtain ⟨od, J2⟩ := J.lock hd mu
  exact ⟨x, _, J2, r, q od⟩
/-- a statement that is never reached -/
theorem ps_dead {st : Stmt} : PS X st (fun _ _ _ => False) := ⟨fun _ _ _ _ _ _ h => h.elim⟩
end
end Tg

set_option maxHeartbeats 2000000
namespace Tg
open PySem PySem.Spec PyProof.Rows L2
/-! ### a caught exception that is kept in a name: try: .. except T as e: kept = e -/
/-- the exception of the class cls, its dict at d, at a -/
def ExV (cls : Value) (d : Option Addr) (a : Addr) : HO := .ext fun h => ∃ (oe : Obj) (vs : Array Value), h.get? a = some oe ∧ Zc cls d oe ∧ oe.data = .fields vs
theorem exV_ok {P : Program} {w : World} {H : Hp} {h : Heap} {a : Addr} {cls : Value} {d : Option Addr} {oe : Obj} {vs : Array Value} (e : h.get? a = some oe) (z : Zc cls d oe) (q : oe.data = .fields vs) : ObjOk P w H h a (ExV cls d a) := by
  refine ⟨⟨oe, vs, e, z, q⟩, ⟨oe, e⟩, fun h1 h2 y st => ?_⟩
  obtain ⟨o1, v1, e1, z1, q1⟩ := y
  exact ⟨o1, v1, st _ e1, z1, q1⟩
section
variable {X : Cx} {s : Shared} {H : Hp} {σ : L2.St} {pins : List (Addr × Obj)}
theorem track {a : Addr} {oe : Obj} {vs : Array Value} {o : HO} (I : Inv X pins σ H s) (h0 : X.s_0.heap.get? a = none) (he : s.heap.get? a = some oe) (hd : oe.data = .fields vs) (na : H a = none)
    (nL : a ≠ X.env.locals) (np : ∀ p, p ∈ X.pn ++ pins → p.1 ≠ a) (new : ObjOk X.prog X.w (upd H a o) s.heap a o) : Inv X pins σ (upd H a o) s where
  ok := I.ok
  os := I.os
  bare := I.bare
  base := {
    keep := I.base.keep
    slot := I.base.slot
    free := fun b u q n x => by
      rw [upd_ne (fun z => by rw [z, h0] at q; cases q)]
      exact I.base.free b u q n x
    there := I.base.there
    tups := fun b xs q => by
      have y := I.base.tups b xs q
      rw [upd_ne (ne_of_none y na)]
      exact y
    frzs := fun b u xs q => by
      have y := I.base.frzs b u xs q
      rw [upd_ne (ne_of_none y na)]
      exact y
    tbls := fun b ps q => by
      obtain ⟨m, y⟩ := I.base.tbls b ps q
      refine ⟨m, ?_⟩
      rw [upd_ne (ne_of_none y na)]
      exact y }
  loc := I.loc
  cell := I.cell
  free := by
    rw [upd_ne nL.symm]
    exact I.free
  freeC := fun x c e => by
    have nc : c ≠ a := fun z => by
      obtain ⟨v, y⟩ := I.cell x c e
      obtain ⟨oc, y1, y2⟩ := y
      rw [z, he] at y1
      cases y1
      rw [hd] at y2
      cases y2
    rw [upd_ne nc]
    exact I.freeC x c e
  pin := fun p hp => by
    obtain ⟨y1, y2, y3⟩ := I.pin p hp
    refine ⟨y1, ?_, y3⟩
    rw [upd_ne (np p hp)]
    exact y2
  hok := I.hok.laidN (fun _ _ z => z) na new
  len := I.len
/-- what is wanted of an exception of the body: its class is one that the clause takes; it is kept in slot j -/
def wKeep (Mt : Value → Prop) (i j : Nat) (D : Ends) : WX := fun cls d σ H => Mt cls ∧ ∀ a, H a = none → D.nx (((σ.set i (some (.ref a))).set j (some (.ref a))).set i none) (upd H a (ExV cls d a))
/-- the clause's test: its value takes each exception of such a class -/
def Tests (X : Cx) (test : Expr) (Mt : Value → Prop) : Prop := ∀ (a : Addr) (oe : Obj) (pn : List (Addr × Obj)) (s : Shared) (σ : L2.St) (H : Hp) (Q : Value → Shared → Prop) (E : Value → Shared → Prop),
  Inv (X.suite a ((a, oe) :: pn)) [] σ H s → s.heap.get? a = some oe → Mt oe.cls →
  (∀ (c : Value) (s' : Shared), (∀ b o, s.heap.get? b = some o → s'.heap.get? b = some o) → s'.os = s.os → s'.gens = s.gens → PySem.W.Looks (model X.prog X.w) s'.heap (excMatches (.ref a) c) true → Q c s') →
    wpAny (model X.prog X.w) (X.A.mark (some (.ref a))) (eval test X.env) Q E s
theorem flying_keeps {B : Heap} {l : List Env} {a : Addr} {Z : Obj → Prop} {h h' : Heap} (k : ∀ b o, h.get? b = some o → h'.get? b = some o) (f : HandSPX.FlyingZ B l a Z h) : HandSPX.FlyingZ B l a Z h' := by
  obtain ⟨f1, f2, f3, oe, vs, T, oT, ts, y1, y2, y3, y4, y5, y6, y7, y8, y9⟩ := f
  exact ⟨fun b o e => k _ _ (f1 b o e), f2, Heap.FunFrames.of_keeps (fun b o e _ => ⟨o, k _ _ e, rfl⟩) f3, oe, vs, T, oT, ts, k _ _ y1, y2, y3, y4, y5, y6, k _ _ y7, y8, y9⟩
variable {n y : Str} {i j : Nat} {body : List Stmt} {test : Expr} {py pn' ps' pos pos' : Pos} {tb : WX → TS} {Mt : Value → Prop}
/-- a try's body, whatever is wished of the exceptions that leave it -/
def Bodies (X : Cx) (body : List Stmt) (tb : WX → TS) : Prop := ∀ W pn xe, Takes (X.tr pn xe) W → PassesOwn (model X.prog X.w) X.A X.env xe → PSs (X.tr pn xe) body (tb W)
/-- the same state, one thing more (or less) pinned -/
theorem repin {Y Z : Cx} {p q : List (Addr × Obj)} (I : Inv Y p σ H s) (ok : Z.Ok) (e : Z = { Y with A := Z.A, calm := Z.calm, pn := Z.pn, xe := Z.xe }) (sub : ∀ r, r ∈ Z.pn ++ q → r ∈ Y.pn ++ p) : Inv Z q σ H s := by
  obtain ⟨_, f2, f3, f4, f5, f6, f7, f8, f9, f10, f11⟩ := I
  rw [e] at ok sub ⊢
  exact ⟨ok, f2, f3, f4, f5, f6, f7, f8, fun r hr => f9 r (sub r hr), f10, f11⟩
theorem ps_try_keep (top : X.stack = X.env :: X.outer) (own : X.env.frame = some X.env.locals) (noex : X.ex = []) (nd : X.N.Nodup) (at_i : X.N[i]? = some n) (at_j : X.N[j]? = some y) (loc_n : X.env.scope.names.lookup n = some .local)
    (loc_y : X.env.scope.names.lookup y = some .local) (takes : Tests X test Mt) (bodies : Bodies X body tb) (nodebug : (n == ("__debug__" : Str)) = false := by decide) (noclass : (n == ("__classdict__" : Str)) = false := by decide) :
    PS X (.Try body [.ExceptHandler (some test) (some n) [.Assign [.Name y py] (.Name n pn') ps'] pos'] [] [] pos) (fun D σ H => tb (wKeep Mt i j D) D σ H) := by
  constructor
  intro pins s σ H D I read
  have frames := I.ok.frames.trans (congrArg some top)
  refine wpAny_Try_except (wpAny_mono ((bodies (wKeep Mt i j D) (X.pn ++ pins) _ (fun u s' air => ?_) PassesOwn.looking).run [] s σ H D (I.toTry _) read) (fun f s1 z => ?_) (fun _ _ z => z))
  · obtain ⟨a, B, s0, _, σ0, H0, cls, d, rfl, J0, ground, up, sky, na, os, gens, takes_it, wish⟩ := air
    have J : Inv X pins σ0 H0 s0 := J0.ofTry I.ok
    rw [show (X.tr (X.pn ++ pins) _).stack = X.env :: X.outer from top] at sky ground
    refine Sky.land Zc.steady frames own sky fun h3 fly3 up3 => ?_
    have J3 := J.landed (s' := { s' with heap := h3 }) (B := B) (by rw [top]; exact ground) fly3.1 (up.trans up3) os gens
    obtain ⟨o3, v3, get3, kind3, data3⟩ := fly3.there
    -- it is none of the frames, and it wasn't there ahead of the try
    have noframe : a ∉ frs (X.env :: X.outer) := fun m => by
      obtain ⟨_, _, e, nofields⟩ := fly3.2.2.1.mem m
      cases get3.symm.trans e
      exact nofields _ data3
    have noloc : a ≠ X.env.locals := fun z => noframe (by
      rw [z]
      exact List.mem_filterMap.mpr ⟨X.env, List.mem_cons_self, own⟩)
    have noouter : a ∉ X.fs := fun m => noframe (by
      obtain ⟨env, h1, h2⟩ := List.mem_filterMap.mp m
      exact List.mem_filterMap.mpr ⟨env, .tail _ h1, h2⟩)
    have new0 : s0.heap.get? a = none := by
      rcases q : s0.heap.get? a with _ | o
      · rfl
      · exact nomatch (ground a o q noframe).symm.trans fly3.2.1
    have new : X.s_0.heap.get? a = none := by
      rcases q : X.s_0.heap.get? a with _ | o
      · rfl
      · exact (J.base.there a o q (by rw [noex]; exact List.not_mem_nil)).elim fun _ z => nomatch z.symm.trans new0
    have nopin : ∀ p, p ∈ X.pn ++ pins → p.1 ≠ a := fun p m z => by
      have there := (J.pin p m).1
      rw [z, new0] at there
      cases there
    refine wpAny_handleBy_cons (codeAny_handlers_test (takes a o3 _ _ σ0 H0 _ _ (J3.suite get3 data3 na noloc noouter) get3 (by rw [kind3.1]; exact takes_it) fun c s4 kp4 os4 gens4 match4 => match4.here ?_)) (fun z => nomatch z)
    refine codeAny_handlers_suite_as (HandSPX.lands_againZ (flying_keeps kp4 fly3) fun h5 fly5 up5 => ?_)
    have up4 : h3.UpToSlots s4.heap := fun b o z _ => ⟨o.slots, kp4 _ _ z⟩
    have J5 := J.landed (s' := { s4 with heap := h5 }) (B := B) (by rw [top]; exact ground) fly5.1 (((up.trans up3).trans up4).trans up5) (os4.trans os) (by rw [show ({ s4 with heap := h5 } : Shared).gens = s4.gens from rfl, gens4]; exact gens)
    obtain ⟨o5, v5, get5, kind5, data5⟩ := fly5.there
    refine store_ok (X := X.suite a ((a, o5) :: (X.pn ++ pins))) (v := .ref a) (J5.suite get5 data5 na noloc noouter) nd at_i (.inl loc_n) rfl (fun s6 J6 => ?_) (.inr loc_n)
    -- kept = e
    have keep : PSs (X.suite a ((a, o5) :: (X.pn ++ pins))) [.Assign [.Name y py] (.Name n pn') ps'] (tAsg (tVar i) (gName j)) := pss_one (ps_set nd at_j (.inl loc_y) (pe_var at_i (.inl loc_n) nodebug noclass) (by rfl) (.inr loc_y))
    have short : i < σ0.length := by
      rw [J.len]
      exact (List.getElem?_eq_some_iff.mp at_i).1
    refine wpAny_mono (keep.run [] s6 _ H0 { nx := fun σ7 H7 => σ7 = (σ0.set i (some (.ref a))).set j (some (.ref a)) ∧ H0 = H7, rt := fun _ _ => False, bk := fun _ _ => False, ct := fun _ _ => False } J6 ⟨.ref a, by rw [List.getElem?_set_self short], rfl, rfl⟩) (fun f s7 z => ?_) (fun _ _ z => z.elim)
    match f, z with
    | .next, ⟨_, _, J7, e7, eH⟩ =>
      subst e7
      subst eH
      refine gone_ok (repin (q := (a, o5) :: pins) J7 I.ok rfl fun r m => ?_) nd at_i loc_n fun s8 J8 => ?_
      · refine List.mem_append_left _ ?_
        rcases List.mem_append.mp m with m | m
        · exact .tail _ (List.mem_append_left _ m)
        · cases m with
          | head => exact .head _
          | tail _ m => exact .tail _ (List.mem_append_right _ m)
      · have get8 := (J8.pin (a, o5) (List.mem_append_right _ (.head _))).1
        have J9 : Inv X pins (((σ0.set i (some (.ref a))).set j (some (.ref a))).set i none) H0 s8 := repin J8 I.ok rfl fun r m => by
          rcases List.mem_append.mp m with m | m
          · exact List.mem_append_left _ m
          · exact List.mem_append_right _ (.tail _ m)
        exact ⟨_, _, track J9 new get8 data5 na noloc nopin (exV_ok get8 kind5 data5), wish a na⟩
    | .brk, ⟨_, _, _, z⟩ => exact z.elim
    | .cont, ⟨_, _, _, z⟩ => exact z.elim
    | .ret _, ⟨_, _, _, _, _, z⟩ => exact z.elim
  · match f, z with
    | .next, ⟨σ1, H1, J1, z⟩ => exact wpAny_execs_nil ⟨σ1, H1, J1.ofTry I.ok, z⟩
    | .brk, ⟨σ1, H1, J1, z⟩ => exact ⟨σ1, H1, J1.ofTry I.ok, z⟩
    | .cont, ⟨σ1, H1, J1, z⟩ => exact ⟨σ1, H1, J1.ofTry I.ok, z⟩
    | .ret _, ⟨v, σ1, H1, J1, rel, z⟩ => exact ⟨v, σ1, H1, J1.ofTry I.ok, rel, z⟩
end
end Tg

set_option maxHeartbeats 2000000
namespace Tg
open PySem PySem.Spec PyProof.Rows L2
section
variable {X : Cx} {x1 x2 x3 x4 : Str} {c1 c2 c3 c4 : Value} {p1 p2 p3 p4 pos : Pos}
theorem tests_one (hc : Names X x1 c1) : Tests X (.Name x1 p1) (fun cls => PySem.W.exmOne X.K cls c1 = some true) := by
  intro a oe pn s σ H Q E I he mt h
  have LT : PySem.W.Looks (model X.prog X.w) s.heap (typeOf (.ref a)) oe.cls := fun A Q E s k q => wpAny_typeOf_ref (k _ _ he) q
  have LM := PySem.W.exm_one (M := model X.prog X.w) I.kIn LT mt
  have told := h c1 s (fun _ _ z => z) rfl rfl LM
  rcases hc with ⟨gl, nodebug, own | ⟨none_, boot, noname⟩⟩
  · exact ld_glob (X := X.suite a ((a, oe) :: pn)) I gl own told nodebug
  · exact ld_blt (X := X.suite a ((a, oe) :: pn)) I gl none_ boot told noname nodebug
/-- own classes named one after the other -/
structure Glb (X : Cx) (x : Str) (c : Value) : Prop where
  gl : Gl X x
  mg : X.mg x = some c
  db : (x == ("__debug__" : Str)) = false := by decide
theorem glb_args {a : Addr} {oe : Obj} {pn : List (Addr × Obj)} {s : Shared} {σ : L2.St} {H : Hp} {E : Value → Shared → Prop} {pos : Pos} (I : Inv (X.suite a ((a, oe) :: pn)) [] σ H s) :
    ∀ {xs : List (Str × Pos)} {cs : List Value} {Q : List Value → Shared → Prop}, Paired (fun x c => Glb X x.1 c) xs cs → Q cs s →
      wpAny (model X.prog X.w) (X.A.mark (some (.ref a))) (spliced (backTo pos (starEach (xs.map fun x => .Name x.1 x.2) X.env))) Q E s
  | _, _, Q, .nil, q => args_nil q
  | (x, p) :: xs, c :: cs, Q, .cons g r, q => by
    refine args_cons (ld_glob (X := X.suite a ((a, oe) :: pn)) I g.gl g.mg (glb_args I r q) g.db) rfl
theorem tests_tup {xs : List (Str × Pos)} {cs : List Value} {kt : Nat} (hp : Paired (fun x c => Glb X x.1 c) xs cs) (hl : cs.length ≤ sizeLine)
    (hm : ∀ {h : Heap} {a tp : Addr} {cls : Value}, X.K.In h → PySem.W.Looks (model X.prog X.w) h (typeOf (.ref a)) cls → h.get? tp = some { cls := .type "tuple", data := .seq cs.toArray } → PySem.W.exmAny X.K cls cs = some true → PySem.W.Looks (model X.prog X.w) h (excMatches (.ref a) (.ref tp)) true) :
    Tests X (.Tuple (xs.map fun x => .Name x.1 x.2) kt pos) (fun cls => PySem.W.exmAny X.K cls cs = some true) := by
  intro a oe pn s σ H Q E I he mt h
  refine wpAny_Tuple_spliced (glb_args I hp ⟨hl, ?_⟩)
  have kk : ∀ b o, s.heap.get? b = some o → (s.heap.push { cls := .type "tuple", data := .seq cs.toArray }).get? b = some o := fun b o e => Heap.get?_push_of_some _ e
  have LT : PySem.W.Looks (model X.prog X.w) (s.heap.push { cls := .type "tuple", data := .seq cs.toArray }) (typeOf (.ref a)) oe.cls := fun A Q E s k q => wpAny_typeOf_ref (k _ _ (kk _ _ he)) q
  exact h _ _ kk rfl rfl (hm (I.kIn.keeps kk) LT (Heap.get?_push_size _ rfl) mt)
theorem tests_2 {kt : Nat} (h1 : Glb X x1 c1) (h2 : Glb X x2 c2) : Tests X (.Tuple [.Name x1 p1, .Name x2 p2] kt pos) (fun cls => PySem.W.exmAny X.K cls [c1, c2] = some true) :=
  tests_tup (xs := [(x1, p1), (x2, p2)]) (.cons h1 (.cons h2 .nil)) (by show 2 ≤ sizeLine; decide) fun X LT hp mt => PySem.W.exm_tup2 X LT hp mt
theorem tests_3 {kt : Nat} (h1 : Glb X x1 c1) (h2 : Glb X x2 c2) (h3 : Glb X x3 c3) : Tests X (.Tuple [.Name x1 p1, .Name x2 p2, .Name x3 p3] kt pos) (fun cls => PySem.W.exmAny X.K cls [c1, c2, c3] = some true) :=
  tests_tup (xs := [(x1, p1), (x2, p2), (x3, p3)]) (.cons h1 (.cons h2 (.cons h3 .nil))) (by show 3 ≤ sizeLine; decide) fun X LT hp mt => PySem.W.exm_tup3 X LT hp mt
theorem tests_4 {kt : Nat} (h1 : Glb X x1 c1) (h2 : Glb X x2 c2) (h3 : Glb X x3 c3) (h4 : Glb X x4 c4) : Tests X (.Tuple [.Name x1 p1, .Name x2 p2, .Name x3 p3, .Name x4 p4] kt pos) (fun cls => PySem.W.exmAny X.K cls [c1, c2, c3, c4] = some true) :=
  tests_tup (xs := [(x1, p1), (x2, p2), (x3, p3), (x4, p4)]) (.cons h1 (.cons h2 (.cons h3 (.cons h4 .nil)))) (by show 4 ≤ sizeLine; decide) fun X LT hp mt => PySem.W.exm_tup4 X LT hp mt
end
/-! ### what is asked of it later: a field, isinstance -/
section
variable {X : Cx} {e : Expr} {te : TE} {pos : Pos} {n : Str}
/-- kept.f -/
def tExf (K : PySem.W.Frag) (f : Str) (te : TE) : TE := fun σ H Q => te σ H fun x H1 => ∃ (a C dd : Addr) (fs : List (Str × V)) (v : V), x = .ref a ∧ H1 a = some (ExV (.ref C) (some dd) a) ∧ XfC K C ∧ PySem.W.findIn K (.ref C) f = some none ∧ H1 dd = some (.xd fs) ∧ fs.lookup f = some v ∧ Q v H1
theorem exV_inst {a C dd : Addr} {fs : List (Str × V)} {pins : List (Addr × Obj)} {σ : L2.St} {H : Hp} {s : Shared} (I : Inv X pins σ H s) (ea : H a = some (ExV (.ref C) (some dd) a)) (ed : H dd = some (.xd fs)) :
    ∃ (oe od : Obj) (m : Str → Option Value), PySem.W.InstAt s.heap a oe C (some od) ∧ (∀ f, RelO (fs.lookup f) (m f)) ∧ ∀ x, PySem.W.lookIn x od = some (m x) := by
  obtain ⟨⟨oe, vs, he, hz, hd⟩, _, _⟩ := (show ObjOk X.prog X.w H s.heap a (ExV (.ref C) (some dd) a) from I.hok a _ ea)
  obtain ⟨m, ns, rel⟩ := (show ObjOk X.prog X.w H s.heap dd (.xd fs) from I.hok dd _ ed)
  obtain ⟨od, get, look⟩ := lookIn_ns ns
  exact ⟨oe, od, m, ⟨he, hz.1, by unfold PySem.W.notCls; rw [hd] <;> rfl, by rw [hz.2]; exact get⟩, rel, look⟩
theorem pe_exf (he : PE X e te) (base : attributeBase e n X.env (eval e X.env) = eval e X.env := by rfl) : PE X (.Attribute e n pos) (tExf X.K n te) := by
  constructor
  intro pins s σ H Q I read
  refine attr_of base (thn (he.run pins s σ H _ I read) fun u s1 z => ?_)
  obtain ⟨_, H1, J, ru, a, C, dd, fs, v, rfl, ea, T, none_, ed, is_v, told⟩ := z
  obtain rfl : u = .ref a := ru
  obtain ⟨oe, od, m, inst, rel, look⟩ := exV_inst J ea ed
  have there := rel n
  rw [is_v] at there
  obtain ⟨w, mw, rw_⟩ := RelO.some_of there
  exact HandSPX.exc_get J.kIn inst T.ga T.gg T.exC (PySem.W.findObj_own T.hdC none_ rfl ((look n).trans (congrArg some mw))) (handed_of rw_) ⟨v, H1, J.tok _, rw_, told⟩
theorem cls_some {K : PySem.W.Frag} {D : Addr} (h : PySem.W.hasDictIn K D = true) : (PySem.W.clsIn K D).isSome = true := by
  obtain ⟨cd, hc, _⟩ := PySem.W.any_some h
  rw [hc]
  rfl
/-- isinstance(kept, c) -/
def rIsV (K : PySem.W.Frag) : List V → Hp → VK → Prop := fun xs H Q => ∃ (a D dd : Addr) (fs : List (Str × V)) (c : V) (cv : Value) (b : Bool), xs = [.ref a, c] ∧ H a = some (ExV (.ref D) (some dd) a) ∧ H dd = some (.xd fs) ∧ ExcC K D ∧ ClsV c cv ∧ PySem.W.kitOne K (.ref D) cv = some b ∧ Q (.bl b) H
theorem call_isV : CallR X (.builtin "isinstance") (rIsV X.K) := by
  rintro pins s σ H _ us Q I rel ⟨a, D, dd, fs, c, cv, b, rfl, ea, ed, C, cls, kit, told⟩
  match us, rel with
  | [_, _], .cons ra (.cons rc .nil) =>
    cases ra
    cases cls.eq rc
    obtain ⟨_, _, _, inst, _⟩ := exV_inst I ea ed
    exact PySem.W.kia_one (PySem.W.kitx_exc (cls_some C.hd) C.hg C.hk C.hs C.ha C.hn C.ht C.hm) I.kIn inst kit (fun z => nomatch z) fun tk => ⟨.bl b, H, I.tok tk, rfl, told⟩
/-- isinstance(kept, (c1, c2, ..)) -/
def rIsVT (K : PySem.W.Frag) : List V → Hp → VK → Prop := fun xs H Q => ∃ (a D dd tp : Addr) (fs : List (Str × V)) (cs : List V) (us : List Value) (b : Bool), xs = [.ref a, .ref tp] ∧ H a = some (ExV (.ref D) (some dd) a) ∧ H dd = some (.xd fs) ∧ ExcC K D ∧
  H tp = some (.tup cs) ∧ Paired ClsV cs us ∧ PySem.W.kitAny K (.ref D) us = some b ∧ Q (.bl b) H
theorem call_isVT : CallR X (.builtin "isinstance") (rIsVT X.K) := by
  rintro pins s σ H _ us Q I rel ⟨a, D, dd, tp, fs, cs, ws, b, rfl, ea, ed, C, tup, cls, kit, told⟩
  match us, rel with
  | [_, _], .cons ra (.cons rt .nil) =>
    cases ra
    cases rt
    obtain ⟨_, _, _, inst, _⟩ := exV_inst I ea ed
    obtain ⟨_, items, ri, ⟨oc, od, dt, sl⟩, get, is_tup, m, is_seq⟩ := (show ObjOk X.prog X.w H s.heap tp (.tup cs) from I.hok tp _ tup)
    cases ClsV.all cls ri
    cases is_tup
    cases is_seq
    exact PySem.W.kia_tup (PySem.W.kitx_exc (cls_some C.hd) C.hg C.hk C.hs C.ha C.hn C.ht C.hm) I.kIn inst get kit (fun z => nomatch z) fun tk => ⟨.bl b, H, I.tok tk, rfl, told⟩
end
end Tg

set_option maxHeartbeats 2000000
namespace Tg
open PySem PySem.Spec PyProof.Rows L2
/-! ### class X(ValueError): def __init__(self, at): ValueError.__init__(self, "..") ; self.at = at -/
def inCls (s : Stmt) (i : Nat) : Stmt := match s with
  | .ClassDef _ _ _ body _ _ _ _ _ _ _ => body.getD i (.Pass ⟨0, 0, 0, 0⟩)
  | _ => .Pass ⟨0, 0, 0, 0⟩
/-- what __init__ leaves: the field in a new dict -/
def spErr (C : Addr) (f : Str) : Sp := fun vs H Q _ => ∃ (a : Addr) (v : V), vs = [.ref a, v] ∧ H a = some (exo a C none) ∧ ∀ dx, H dx = none → dx ≠ a → Q .non (upd (upd H dx (exd dx [(f, v)])) a (exo a C (some dx)))
/-- what raise X(v) then leads to -/
theorem err_read {C : Addr} {f : Str} {ta : TE} {σ : L2.St} {H : Hp} {Q : XK} (h : ta σ H fun v H1 => ∀ (d : Addr) (H' : Hp), Same H1 H' → H1 d = none → H' d = some (.xd [(f, v)]) → Q (.ref C) (some d) H')
    (mono : ∀ {Q Q' : VK}, (∀ v H1, Q v H1 → Q' v H1) → ta σ H Q → ta σ H Q') : tMkO C (spErr C f) [] (tCons ta tNil) σ H Q := by
  refine mono (fun v H1 q => ⟨by show 1 ≤ 1000; decide, fun a na => ?_⟩) h
  refine ⟨a, v, rfl, upd_same, fun dx nd da => ⟨rfl, dx, [(f, v)], upd_same, ?_, ?_, ?_⟩⟩
  · rw [upd_ne da, upd_same]
  · rw [upd_ne da] at nd
    exact nd
  · have nd' : H1 dx = none := by
      rw [upd_ne da] at nd
      exact nd
    refine q dx _ (fun b o e => ?_) nd' upd_same
    have nb : b ≠ dx := ne_of_none e nd'
    have nba : b ≠ a := ne_of_none e na
    rw [upd_ne nb, del_ne nba, upd_ne nba, upd_ne nb, upd_ne nba]
    exact e
end Tg

set_option maxHeartbeats 2000000
namespace Tg
open PySem PySem.Spec PyProof.Rows L2
/-! ### a call by keywords that may raise, in a try -/
section
variable {X : Cx} {CX : CXT} {k : Nat} {f : Addr} {fd : FuncData} {ps ks : List Str} {sp : Sp} {E : L2.St → XK} {x : Str} {p pos : Pos} {kws : List Keyword} {tk : TA} {g : List Value → List Value → List Value} {gV : List V → List V → List V}
theorem pe_kwS (F : FnOk X.prog X.w X.K X.mg X.base CX k f fd ps sp) (room : Room k X.A) (gl : Gl X x) (at_x : X.mg x = some (.ref f)) (kept : PySem.W.keepIn X.K (.ref f) = true) (binds : KBn X.K fd ps 0 ks g gV) (lets : ∀ σ, PassesAt CX X σ (E σ)) (vals : PK X kws tk)
    (named : (backToKw pos (keywordEach kws X.env)).all (·.1.isSome) = true := by rfl) (names : (backToKw pos (keywordEach kws X.env)).filterMap (·.1) = ks := by rfl) (nodebug : (x == ("__debug__" : Str)) = false := by decide)
    (nostar : ((backTo pos (starEach [] X.env)).any (·.1) || (backToKw pos (keywordEach kws X.env)).any (·.1.isNone)) = false := by rfl) : PE X (.Call (.Name x p) [] kws pos) (fun σ H Q => tk σ H fun zs H2 => zs.length = ks.length ∧ sp (gV [] zs) H2 Q (E σ)) := by
  constructor
  intro pins s σ H Q I read
  refine wpAny_Call_Name_kw (ld_glob I gl at_x (PySem.W.callWith_KW0 (h₀ := X.base) I.ok.mod.kin kept named (thn (vals.run pos pins s σ H _ I read) fun ws s2 y => ?_) nostar) nodebug)
  obtain ⟨zs, H2, J, rel, many, told⟩ := y
  rw [names]
  refine ⟨J.kIn, wpAny_call (codeAny_mono (F.run X.A X.stack s2 H2 ⟨[], ks.zip ws⟩ (g [] ws) (gV [] zs) Q (E σ) room J.env0 (binds.to s2 [] ws J.kIn rfl (rel.length.symm.trans many)) (binds.rel (vs := []) (us := []) .nil rel) told) fun a s' z => ?_)⟩
  match a, z with
  | .error e, z => exact lets σ pins H2 s2 e s' J z
  | .ok (.ret u), z => exact J.after z
end
end Tg

set_option maxHeartbeats 2000000
namespace Tg
open PySem PySem.Spec PyProof.Rows L2
/-! ### own errors, and classes whose __init__ may raise, as a caller needs them -/
section
variable (P : Program) (w : World) (K : PySem.W.Frag) (mg : Str → Option Value) (base : Heap)
/-- the error x, of the class C over ValueError, made of one thing that is its field fld -/
def CalE (k : Nat) (x : Str) (C : Addr) (fld : Str) : Prop := ∃ fI fdI, OexC K C ∧ PySem.W.findIn K (.ref C) "__init__" = some (some (.ref fI)) ∧ PySem.W.typeIn K (.ref fI) = some (.type "function") ∧
  FnOk P w K mg base CX0 k fI fdI ["self", fld] (spErr C fld) ∧ Binds K fdI ["self", fld] [] ∧ mg x = some (.ref C)
/-- a def that may raise -/
def CalR (k : Nat) (x : Str) (ps : List Str) (sp : Sp) : Prop := ∃ f fd, FnOk P w K mg base (L2.CX P w) k f fd ps sp ∧ mg x = some (.ref f) ∧ PySem.W.keepIn K (.ref f) = true ∧ Binds K fd ps []
def CalRK (k : Nat) (x : Str) (ps ks : List Str) (is : List Nat) (sp : Sp) : Prop := ∃ f fd, FnOk P w K mg base (L2.CX P w) k f fd ps sp ∧ mg x = some (.ref f) ∧ PySem.W.keepIn K (.ref f) = true ∧ KBn K fd ps 0 ks (fun _ ws => prm is ws) (fun _ zs => prm is zs)
/-- a class whose __init__ may raise -/
def CalRC (k : Nat) (x : Str) (C : Addr) (ps : List Str) (sp : Sp) : Prop := ∃ f fd, FnOk P w K mg base (L2.CX P w) k f fd ps sp ∧ mg x = some (.ref C) ∧ Mk K C f ∧ Binds K fd ps []
def CalRCK (k : Nat) (x : Str) (C : Addr) (ps ks : List Str) (is : List Nat) (sp : Sp) : Prop := ∃ f fd, FnOk P w K mg base (L2.CX P w) k f fd ps sp ∧ mg x = some (.ref C) ∧ Mk K C f ∧ KBn K fd ps 1 ks (fun us ws => us ++ prm is ws) (fun vs zs => vs ++ prm is zs)
end
section
variable {X : Cx} {k : Nat} {ps ks : List Str} {is : List Nat} {sp : Sp} {x fld : Str} {C : Addr} {e : Expr} {es : List Expr} {p pos : Pos} {kws : List Keyword} {ta : TE} {t tk : TA} {W : WX}
theorem pm_err (c : CalE X.prog X.w X.K X.mg X.base k x C fld) (room : Room (k + 1) X.A) (gl : Gl X x) (he : PE X e ta) (nodebug : (x == ("__debug__" : Str)) = false := by decide)
    (star : starEach [e] X.env = (false, eval e X.env) :: starEach [] X.env := by rfl) : PMk X (.Call (.Name x p) [e] [] pos) (tMkO C (spErr C fld) [] (tCons ta tNil)) := by
  obtain ⟨fI, fdI, T, iC, tI, F, b, m⟩ := c
  exact pmk_oex T iC tI F room b .nil (fun _ _ _ _ _ _ _ z => z.elim) gl m (pa_cons he pa_nil star) nodebug star
/-- raise x(e), out of the def -/
def tErr (C : Addr) (fld : Str) (ta : TE) (E : XK) : TS := fun _ σ H => ta σ H fun v H1 => ∀ (d : Addr) (H' : Hp), Same H1 H' → H1 d = none → H' d = some (.xd [(fld, v)]) → E (.ref C) (some d) H'
/-- a call that may raise, in a def that lets it out -/
def tCalR (sp : Sp) (E : XK) (t : TA) : TE := fun σ H Q => t σ H fun vs H1 => sp vs H1 Q E
theorem pe_calR {E : XK} (c : CalR X.prog X.w X.K X.mg X.base k x ps sp) (hr : Room k X.A) (gl : Gl X x) (lets : Passes (L2.CX X.prog X.w) X E) (ha : PA X (e :: es) t) (nodebug : (x == ("__debug__" : Str)) = false := by decide)
    (star : starEach (e :: es) X.env = (false, eval e X.env) :: starEach es X.env := by rfl) (plain : (backTo pos (starEach es X.env)).any (·.1) = false := by rfl) : PE X (.Call (.Name x p) (e :: es) [] pos) (tCall sp [] E t) := by
  obtain ⟨f, fd, F, m, kp, b⟩ := c
  exact pe_call F hr gl m kp b .nil lets ha nodebug star plain
/-- the same in a try -/
theorem pe_calT (c : CalR X.prog X.w X.K X.mg X.base k x ps sp) (hr : Room k X.A) (gl : Gl X x) (tks : Takes X W) (ha : PA X (e :: es) t) (nodebug : (x == ("__debug__" : Str)) = false := by decide)
    (star : starEach (e :: es) X.env = (false, eval e X.env) :: starEach es X.env := by rfl) (plain : (backTo pos (starEach es X.env)).any (·.1) = false := by rfl) : PE X (.Call (.Name x p) (e :: es) [] pos) (tCallS sp (WE W) t) := by
  obtain ⟨f, fd, F, m, kp, b⟩ := c
  exact pe_callS F hr gl m kp b (fun σ => passAt tks σ) ha nodebug star plain
def tKwT (n : Nat) (sp : Sp) (is : List Nat) (W : WX) (tk : TA) : TE := fun σ H Q => tk σ H fun zs H2 => zs.length = n ∧ sp (prm is zs) H2 Q (WE W σ)
theorem pe_calKT (c : CalRK X.prog X.w X.K X.mg X.base k x ps ks is sp) (hr : Room k X.A) (gl : Gl X x) (tks : Takes X W) (vals : PK X kws tk)
    (named : (backToKw pos (keywordEach kws X.env)).all (·.1.isSome) = true := by rfl) (names : (backToKw pos (keywordEach kws X.env)).filterMap (·.1) = ks := by rfl) (nodebug : (x == ("__debug__" : Str)) = false := by decide)
    (nostar : ((backTo pos (starEach [] X.env)).any (·.1) || (backToKw pos (keywordEach kws X.env)).any (·.1.isNone)) = false := by rfl) : PE X (.Call (.Name x p) [] kws pos) (tKwT ks.length sp is W tk) := by
  obtain ⟨f, fd, F, m, kp, b⟩ := c
  exact pe_kwS (E := WE W) F hr gl m kp b (fun σ => passAt tks σ) vals named names nodebug nostar
/-! ### C(..), whose __init__ may raise, in a try -/
theorem made_or_raised {CX : CXT} {f : Addr} {fd : FuncData} {pins : List (Addr × Obj)} {σ : L2.St} {H : Hp} {s : Shared} {Q : VK} {E : L2.St → XK} {us zs : List Value} {kwv : List (Str × Value)} {vs : List V} (M : Mk X.K C f) (F : FnOk X.prog X.w X.K X.mg X.base CX k f fd ps sp)
    (room : Room (k + 1) X.A) (lets : PassesAt CX X σ (E σ)) (I : Inv X pins σ H s) (bound : ∀ s2 : Shared, X.K.In s2.heap → BindsTo s2 fd ⟨.ref (s.heap.objs.size + 1) :: us, kwv⟩ (ps.zip zs)) (rel : Vals (.ref (s.heap.objs.size + 1) :: vs) zs)
    (told : ∀ a d, H a = none → H d = none → d ≠ a → sp (.ref a :: vs) (upd (upd H d (.own a)) a (.ins C d [])) (fun v H2 => v = .non ∧ Q (.ref a) H2) (E σ)) : wpAny (model X.prog X.w) X.A (call (.ref C) us kwv) (EP X pins σ Q) X.xe s := by
  have new := I.made (C := C)
  have now := told _ _ (I.hok.fresh (Nat.le_succ s.heap.objs.size)) (I.hok.fresh (Nat.le_refl s.heap.objs.size)) (Nat.ne_of_lt (Nat.lt_succ_self _))
  have ran := F.run _ X.stack _ _ _ zs _ _ (E σ) (room.make C us kwv) (new.env0.make C us kwv) (bound _ new.kIn) rel now
  refine wpAny_call (make_map (f := f) I.kIn M.makes M.init (beq_iff_eq.mp M.fn) (codeAny_mono ran fun out s' z => ?_))
  match out, z with
  | .error err, z => exact lets pins _ _ err s' new z
  | .ok (.ret u), z =>
    obtain ⟨_, H3, J, r, rfl, q⟩ := new.after z
    exact ⟨r, .ref (s.heap.objs.size + 1), H3, J, rfl, q⟩
def tMkT (C : Addr) (sp : Sp) (W : WX) (t : TA) : TE := fun σ H Q => t σ H fun vs H1 => ∀ a d, H1 a = none → H1 d = none → d ≠ a → sp (.ref a :: vs) (upd (upd H1 d (.own a)) a (.ins C d [])) (fun v H2 => v = .non ∧ Q (.ref a) H2) (WE W σ)
theorem pe_mkT (c : CalRC X.prog X.w X.K X.mg X.base k x C ps sp) (room : Room (k + 1) X.A) (gl : Gl X x) (tks : Takes X W) (ha : PA X (e :: es) t) (nodebug : (x == ("__debug__" : Str)) = false := by decide)
    (star : starEach (e :: es) X.env = (false, eval e X.env) :: starEach es X.env := by rfl) (plain : (backTo pos (starEach es X.env)).any (·.1) = false := by rfl) : PE X (.Call (.Name x p) (e :: es) [] pos) (tMkT C sp W t) := by
  obtain ⟨f, fd, F, m, M, b⟩ := c
  constructor
  intro pins s σ H Q I read
  refine wpAny_Call_Name_kw (ld_glob I gl m (PySem.W.callWith_K (h₀ := X.base) I.ok.mod.kin M.kp (thn (ha.run pos pins s σ H _ I read) fun us s1 y => ?_) star plain) nodebug)
  obtain ⟨vs, H1, J, rel, told⟩ := y
  refine ⟨J.kIn, made_or_raised (E := WE W) (zs := .ref (s1.heap.objs.size + 1) :: us) M F room (passAt tks σ) J (fun s2 kin => ?_) (.cons rfl rel) told⟩
  have many : (V.ref (s1.heap.objs.size + 1) :: vs).length = ps.length := F.len _ _ _ _ (told _ _ (J.hok.fresh (Nat.le_succ s1.heap.objs.size)) (J.hok.fresh (Nat.le_refl s1.heap.objs.size)) (Nat.ne_of_lt (Nat.lt_succ_self _)))
  have z := b s2 (.ref (s1.heap.objs.size + 1) :: us) kin (by rw [List.append_nil, List.length_cons, ← rel.length]; exact many)
  rw [List.append_nil] at z
  exact z
def tMkKT (C : Addr) (n : Nat) (sp : Sp) (is : List Nat) (W : WX) (tk : TA) : TE := fun σ H Q => tk σ H fun zs H1 => zs.length = n ∧ ∀ a d, H1 a = none → H1 d = none → d ≠ a → sp (.ref a :: prm is zs) (upd (upd H1 d (.own a)) a (.ins C d [])) (fun v H2 => v = .non ∧ Q (.ref a) H2) (WE W σ)
theorem pe_mkKT (c : CalRCK X.prog X.w X.K X.mg X.base k x C ps ks is sp) (room : Room (k + 1) X.A) (gl : Gl X x) (tks : Takes X W) (vals : PK X kws tk)
    (named : (backToKw pos (keywordEach kws X.env)).all (·.1.isSome) = true := by rfl) (names : (backToKw pos (keywordEach kws X.env)).filterMap (·.1) = ks := by rfl) (nodebug : (x == ("__debug__" : Str)) = false := by decide)
    (nostar : ((backTo pos (starEach [] X.env)).any (·.1) || (backToKw pos (keywordEach kws X.env)).any (·.1.isNone)) = false := by rfl) : PE X (.Call (.Name x p) [] kws pos) (tMkKT C ks.length sp is W tk) := by
  obtain ⟨f, fd, F, m, M, b⟩ := c
  constructor
  intro pins s σ H Q I read
  refine wpAny_Call_Name_kw (ld_glob I gl m (PySem.W.callWith_KW0 (h₀ := X.base) I.ok.mod.kin M.kp named (thn (vals.run pos pins s σ H _ I read) fun ws s1 y => ?_) nostar) nodebug)
  obtain ⟨zs, H1, J, rel, many, told⟩ := y
  rw [names]
  exact ⟨J.kIn, made_or_raised (E := WE W) (us := []) (zs := .ref (s1.heap.objs.size + 1) :: prm is ws) M F room (passAt tks σ) J (fun s2 kin => b.to s2 [.ref (s1.heap.objs.size + 1)] ws kin rfl (rel.length.symm.trans many)) (.cons rfl (prm_rel rel is)) told⟩
end
end Tg

set_option maxHeartbeats 1000000
namespace Tg
open PySem PySem.Spec PyProof.Rows L2
/-! ### min(xs, default=None), max(xs, default=None), xs a list of areI -/
theorem minOf_is : ∀ (ys : List Int) (y : Int), PySem.W.minOf y ys ∈ y :: ys ∧ ∀ z, z ∈ y :: ys → PySem.W.minOf y ys ≤ z
  | [], y => ⟨List.mem_cons_self, fun z hz => by
    rw [List.mem_singleton.mp hz]
    exact Int.le_refl _⟩
  | x :: ys, y => by
    have e : PySem.W.minOf y (x :: ys) = PySem.W.minOf (if decide (x < y) = true then x else y) ys := rfl
    obtain ⟨i1, i2⟩ := minOf_is ys (if decide (x < y) = true then x else y)
    rw [e]
    have a0 := i2 _ List.mem_cons_self
    by_cases c : x < y
    · rw [if_pos (decide_eq_true c)] at i1 i2 a0 ⊢
      refine ⟨List.mem_cons_of_mem _ i1, fun z inside => ?_⟩
      rcases List.mem_cons.mp inside with rfl | inside
      · omega
      · exact i2 z inside
    · rw [if_neg (fun z => c (of_decide_eq_true z))] at i1 i2 a0 ⊢
      refine ⟨?_, fun z inside => ?_⟩
      · rcases List.mem_cons.mp i1 with h | h
        · rw [h]
          exact List.mem_cons_self
        · exact List.mem_cons_of_mem _ (List.mem_cons_of_mem _ h)
      · rcases List.mem_cons.mp inside with rfl | inside
        · exact a0
        · rcases List.mem_cons.mp inside with rfl | inside
          · omega
          · exact i2 z (List.mem_cons_of_mem _ inside)
theorem maxOf_is : ∀ (ys : List Int) (y : Int), PySem.W.maxOf y ys ∈ y :: ys ∧ ∀ z, z ∈ y :: ys → z ≤ PySem.W.maxOf y ys
  | [], y => ⟨List.mem_cons_self, fun z hz => by
    rw [List.mem_singleton.mp hz]
    exact Int.le_refl _⟩
  | x :: ys, y => by
    have e : PySem.W.maxOf y (x :: ys) = PySem.W.maxOf (if decide (y < x) = true then x else y) ys := rfl
    obtain ⟨i1, i2⟩ := maxOf_is ys (if decide (y < x) = true then x else y)
    rw [e]
    have a0 := i2 _ List.mem_cons_self
    by_cases c : y < x
    · rw [if_pos (decide_eq_true c)] at i1 i2 a0 ⊢
      refine ⟨List.mem_cons_of_mem _ i1, fun z inside => ?_⟩
      rcases List.mem_cons.mp inside with rfl | inside
      · omega
      · exact i2 z inside
    · rw [if_neg (fun z => c (of_decide_eq_true z))] at i1 i2 a0 ⊢
      refine ⟨?_, fun z inside => ?_⟩
      · rcases List.mem_cons.mp i1 with h | h
        · rw [h]
          exact List.mem_cons_self
        · exact List.mem_cons_of_mem _ (List.mem_cons_of_mem _ h)
      · rcases List.mem_cons.mp inside with rfl | inside
        · exact a0
        · rcases List.mem_cons.mp inside with rfl | inside
          · omega
          · exact i2 z (List.mem_cons_of_mem _ inside)
section
variable {X : Cx} {e : Expr} {te : TE} {p pos cpos kpos : Pos} {j : Nat}
/-- a number or None -/
def vO : Option Int → V
  | none => .non
  | some m => .int m
def tMinDef (K : PySem.W.Frag) (te : TE) : TE := fun σ H Q => te σ H fun x H1 => ∃ (l : Addr) (ns : List Int), x = .ref l ∧ SqL K H1 l (ns.map V.int) ∧ Q (vO ns.min?) H1
def tMaxDef (K : PySem.W.Frag) (te : TE) : TE := fun σ H Q => te σ H fun x H1 => ∃ (l : Addr) (ns : List Int), x = .ref l ∧ SqL K H1 l (ns.map V.int) ∧ Q (vO ns.max?) H1
theorem pe_minDef (calm : X.calm = true) (room : X.A.units + 1 < cLine) (glob : Gl X "min") (unset : X.mg "min" = none) (he : PE X e te) (nostar : starEach [e] X.env = (false, eval e X.env) :: starEach [] X.env := by rfl) :
    PE X (.Call (.Name "min" p) [e] [⟨some "default", .Constant .none j cpos, kpos⟩] pos) (tMinDef X.K te) := by
  constructor
  intro pins s σ H Q I read
  refine wpAny_Call_Name_kw (ld_blt I glob unset boot_min (callWith_kw (thn ((pa_cons he pa_nil nostar).run pos pins s σ H (fun vs H1 => ∃ (l : Addr) (ns : List Int), vs = [.ref l] ∧ SqL X.K H1 l (ns.map V.int) ∧ Q (vO ns.min?) H1) I ?_) fun us s1 come => ?_) (by rw [nostar]; rfl) (by rw [nostar]; rfl) rfl rfl))
  · have mono : ∀ x H1, (∃ (l : Addr) (ns : List Int), x = .ref l ∧ SqL X.K H1 l (ns.map V.int) ∧ Q (vO ns.min?) H1) → tNil σ H1 (fun xs H2 => ∃ (l : Addr) (ns : List Int), x :: xs = [.ref l] ∧ SqL X.K H2 l (ns.map V.int) ∧ Q (vO ns.min?) H2) := fun x H1 h => by
      obtain ⟨l, ns, ex, r⟩ := h
      exact ⟨l, ns, by rw [ex], r⟩
    have ext : (fun x H1 => ∃ (l : Addr) (ns : List Int), x = V.ref l ∧ SqL X.K H1 l (ns.map V.int) ∧ Q (vO ns.min?) H1) = fun x H1 => tNil σ H1 (fun xs H2 => ∃ (l : Addr) (ns : List Int), x :: xs = [.ref l] ∧ SqL X.K H2 l (ns.map V.int) ∧ Q (vO ns.min?) H2) := by
      funext x H1
      refine propext ⟨mono x H1, fun h => ?_⟩
      obtain ⟨l, ns, ex, r⟩ := h
      exact ⟨l, ns, (List.cons.inj ex).1, r⟩
    show te σ H (fun x H1 => tNil σ H1 _)
    rw [← ext]
    exact read
  · obtain ⟨_, H1, J, rel, l, ns, rfl, hl, fin⟩ := come
    rw [Vals.ref1 rel]
    obtain ⟨its, rv, isl, _⟩ := J.list hl
    have areI : IntsAre its ns := intsAre_of rv
    refine evalAll_cons (wpAny_bind (wpAny_Constant_none (wpAny_bind (wpAny_standAt (wpAny_pure (evalAll_nil ?_))))))
    refine PySem.W.min_list_datum_default (α := Int) (xs := ns) (J.ok.hd calm) isl.isList ⟨[], areI.reads s1.heap⟩ room (fun en h' tk kp => ?_) fun y ys i v h' tk en at_i holds kp => ?_
    · refine ⟨.non, H1, J.kept kp, rfl, ?_⟩
      rw [en] at fin
      exact fin
    · obtain ⟨as, rd⟩ := holds
      obtain ⟨h1, h2⟩ := minOf_is ys y
      have rd' : Reads h' v (.int (PySem.W.minOf y ys)) as := rd
      cases rd'
      refine ⟨.int _, H1, J.kept kp, ⟨_, rfl⟩, ?_⟩
      rw [en, List.min?_eq_some_iff.mpr ⟨h1, h2⟩] at fin
      exact fin
theorem pe_maxDef (calm : X.calm = true) (room : X.A.units + 1 < cLine) (glob : Gl X "max") (unset : X.mg "max" = none) (he : PE X e te) (nostar : starEach [e] X.env = (false, eval e X.env) :: starEach [] X.env := by rfl) :
    PE X (.Call (.Name "max" p) [e] [⟨some "default", .Constant .none j cpos, kpos⟩] pos) (tMaxDef X.K te) := by
  constructor
  intro pins s σ H Q I read
  refine wpAny_Call_Name_kw (ld_blt I glob unset boot_max (callWith_kw (thn ((pa_cons he pa_nil nostar).run pos pins s σ H (fun vs H1 => ∃ (l : Addr) (ns : List Int), vs = [.ref l] ∧ SqL X.K H1 l (ns.map V.int) ∧ Q (vO ns.max?) H1) I ?_) fun us s1 come => ?_) (by rw [nostar]; rfl) (by rw [nostar]; rfl) rfl rfl))
  · have ext : (fun x H1 => ∃ (l : Addr) (ns : List Int), x = V.ref l ∧ SqL X.K H1 l (ns.map V.int) ∧ Q (vO ns.max?) H1) = fun x H1 => tNil σ H1 (fun xs H2 => ∃ (l : Addr) (ns : List Int), x :: xs = [.ref l] ∧ SqL X.K H2 l (ns.map V.int) ∧ Q (vO ns.max?) H2) := by
      funext x H1
      refine propext ⟨fun h => ?_, fun h => ?_⟩
      · obtain ⟨l, ns, ex, r⟩ := h
        exact ⟨l, ns, by rw [ex], r⟩
      · obtain ⟨l, ns, ex, r⟩ := h
        exact ⟨l, ns, (List.cons.inj ex).1, r⟩
    show te σ H (fun x H1 => tNil σ H1 _)
    rw [← ext]
    exact read
  · obtain ⟨_, H1, J, rel, l, ns, rfl, hl, fin⟩ := come
    rw [Vals.ref1 rel]
    obtain ⟨its, rv, isl, _⟩ := J.list hl
    have areI : IntsAre its ns := intsAre_of rv
    refine evalAll_cons (wpAny_bind (wpAny_Constant_none (wpAny_bind (wpAny_standAt (wpAny_pure (evalAll_nil ?_))))))
    refine PySem.W.max_list_datum_default (α := Int) (xs := ns) (J.ok.hd calm) isl.isList ⟨[], areI.reads s1.heap⟩ room (fun en h' tk kp => ?_) fun y ys i v h' tk en at_i holds kp => ?_
    · refine ⟨.non, H1, J.kept kp, rfl, ?_⟩
      rw [en] at fin
      exact fin
    · obtain ⟨as, rd⟩ := holds
      obtain ⟨h1, h2⟩ := maxOf_is ys y
      have rd' : Reads h' v (.int (PySem.W.maxOf y ys)) as := rd
      cases rd'
      refine ⟨.int _, H1, J.kept kp, ⟨_, rfl⟩, ?_⟩
      rw [en, List.max?_eq_some_iff.mpr ⟨h1, h2⟩] at fin
      exact fin
end
end Tg

/-! a != b of an own class with an own __eq__ and no __ne__, where the own == says True -/
namespace Tg
open PySem PySem.Spec PyProof.Rows L2
/-- what stands of such a class -/
structure NeC (K : PySem.W.Frag) (C f : Addr) : Prop where
  cls : ∃ (nm q : Str) (N : Addr) (bs : List Value) (hd : Bool) (sn : List Str) (sub : List Value) (ab : Bool) (col : Option Bool) (dd : Option Addr) (k0 k1 k2 k3 k5 : Option Value) (id : String),
    K.lookup C = some (excClassObj nm q C N bs [.type "object"] hd sn sub ab col dd k0 k1 k2 k3 k5 id) ∧ PySem.W.nsOkIn K N = true ∧ PySem.W.nsIn K N "__eq__" = some (some (.ref f)) ∧ PySem.W.nsIn K N "__ne__" = some none
  fn : ∃ o, K.lookup f = some o ∧ o.cls = .type "function"
/-- a name that stands in a written namespace -/
theorem ns_has {K : PySem.W.Frag} {h : Heap} {N : Addr} {x : Str} {v : Value} (inK : K.In h) (okN : PySem.W.nsOkIn K N = true) (e : PySem.W.nsIn K N x = some (some v)) : h.nsMap N x = some v := by
  obtain ⟨ob, es, ep, stands, isD, _, tells⟩ : h.Ns N (h.nsMap N) := .of_isNs (PySem.W.isNs_of_in inK okN)
  rw [← tells]
  unfold PySem.W.nsIn at e
  cases lk : K.lookup N with
  | none =>
    rw [lk] at e
    cases e
  | some ob2 =>
    have same := (inK N ob2 lk).symm.trans stands
    cases same
    obtain ⟨c, d, dt, sl⟩ := ob
    obtain rfl : dt = .dict es ep := isD
    rw [lk] at e
    dsimp only at e
    unfold nsFind findBy
    rw [← Array.find?_toList]
    cases fnd : es.toList.find? (·.key.isStr x) with
    | none =>
      rw [fnd] at e
      dsimp only at e
      split at e <;> cases e
    | some en =>
      rw [fnd] at e
      cases e
      rfl
section
variable {X : Cx} {n : Nat}
def rNeG (C : Addr) (R : Addr → Addr → Hp → Prop) : R2 := fun x y H Q => DIns C R x y H ∧ ∀ H', Ext H H' → Q (.bl false) H'
theorem op_neG {CX : CXT} {C f : Addr} {fd : FuncData} {ps : List Str} {R : Addr → Addr → Hp → Prop} {E : XK} (F : FnOk X.prog X.w X.K X.mg X.base CX n f fd ps (spEq R)) (N : NeC X.K C f) (hb : Binds X.K fd ps []) (hx : Passes CX X E) (hr : Room (n + 1) X.A) :
    OpR X (compareOp .NotEq) (rNeG C R) := by
  rintro pins s σ H x y v u Q I rx ry ⟨⟨a, b, dx, dy, fs, gs, rfl, rfl, ha, hb', holds⟩, q⟩
  cases rx
  cases ry
  obtain ⟨atA, J, _⟩ := ins_get I.hok ha
  obtain ⟨atB, J', _⟩ := ins_get I.hok hb'
  obtain ⟨od, J, _⟩ := J.look
  obtain ⟨odB, J', _⟩ := J'.look
  have there : ∀ p o, X.K.lookup p = some o → s.heap.get? p = some o := fun p o h => I.kIn p o h
  obtain ⟨nm, qn, Ns, bs, hd, sn, sub, ab, col, dd, k0, k1, k2, k3, k5, id_, eC, okN, eE, eN⟩ := N.cls
  obtain ⟨of, eF, cF⟩ := N.fn
  have own : s.heap.OwnEqNoNe a C f "object" [.type "object"] := by
    refine ⟨_, of, nm, qn, Ns, bs, hd, sn, sub, ab, col, dd, k0, k1, k2, k3, k5, id_, s.heap.nsMap Ns, _, J.at_, J.cls, there _ _ eC, .of_isNs (PySem.W.isNs_of_in I.kIn okN), ?_, there _ _ eF, cF, PySem.F.cmp_object.mro, PySem.F.cmp_object.eq.lookup, PySem.W.nsMap_none_of_in I.kIn okN eN⟩
    exact ns_has I.kIn okN eE
  have sb : Sub X n X.A.in1 := Sub.in1 ⟨hr, rfl⟩
  refine compareOp_ne_ownEq PySem.F.cmp_object own J'.at_ J'.cls (by have := hr.units; omega) ?_
  have hsp : spEq R [.ref a, .ref b] H (fun v H' => v = .bl true ∧ Ext H H') E := ⟨a, b, rfl, holds, fun H' e => ⟨rfl, e⟩⟩
  have e0 : Env0 X.prog X.w X.K X.mg X.base X.A.in1 X.stack s H := by
    have env := I.env0
    exact ⟨sb.fr.symm ▸ env.frames, env.mod, env.bs, env.bsz, env.funs, env.frf, env.hok, env.bare⟩
  have len2 := F.len _ _ _ _ hsp
  refine wpAny_call (codeAny_mono (F.run X.A.in1 X.stack s H ⟨[.ref a, .ref b], []⟩ [.ref a, .ref b] [.ref a, .ref b] _ E sb.room e0 (by
    have z := hb s [.ref a, .ref b] I.kIn (by simpa using len2)
    simpa using z) (.cons rfl (.cons rfl .nil)) hsp) fun r s' told => ?_)
  cases r with
  | error e => exact hx pins σ H s e s' I told
  | ok fl =>
    cases fl with
    | ret w =>
      obtain ⟨z, H', I', rz, ez, ex⟩ := I.after told
      subst ez
      cases rz
      exact ⟨true, rfl, .bl false, H', I', rfl, q H' ex⟩
    | next => exact False.elim told
    | brk => exact False.elim told
    | cont => exact False.elim told
end
end Tg

/-! a derivation with a told precondition in the place of the one that is read off -/
namespace Tg
open PySem PySem.Spec PyProof.Rows L2
theorem pss_by {X : Cx} {rest : List Stmt} {u R : TS} (h : PSs X rest u) (hr : ∀ D σ H, R D σ H → u D σ H) : PSs X rest R := ⟨fun pins s σ H D I hw => h.run pins s σ H D I (hr D σ H hw)⟩
theorem pe_by {X : Cx} {e : Expr} {u R : TE} (h : PE X e u) (hr : ∀ σ H Q, R σ H Q → u σ H Q) : PE X e R := ⟨fun pins s σ H Q I hw => h.run pins s σ H Q I (hr σ H Q hw)⟩
theorem pt_by {X : Cx} {e : Expr} {u R : TT} (h : PT X e u) (hr : ∀ σ H Q, R σ H Q → u σ H Q) : PT X e R := ⟨fun pins s σ H Q I hw => h.run pins s σ H Q I (hr σ H Q hw)⟩
end Tg

namespace Tg
open PySem PySem.Spec PyProof.Rows L2
/-! ### promises of defs that are called where no repr is under way (str and repr of lists ask for it) -/
section
variable {P : Program} {w : World} {K : PySem.W.Frag} {mg : Str → Option Value} {base : Heap} {CX : CXT} {k : Nat} {f : Addr} {fd : FuncData} {ps : List Str} {sp : Sp}
/-- FnOk's promise, asked only where no repr is under way -/
structure FnG (P : Program) (w : World) (K : PySem.W.Frag) (mg : Str → Option Value) (base : Heap) (CX : CXT) (k : Nat) (f : Addr) (fd : FuncData) (ps : List Str) (sp : Sp) : Prop where
  arity : ∀ {zs : List V} {H : Hp} {Q : VK} {E : XK}, sp zs H Q E → zs.length = ps.length
  runs : ∀ {A : Around} {outer : List Env} {s : Shared} {H : Hp} {given : Args} {us : List Value} {zs : List V} {Q : VK} {E : XK}, A.guards = some [] → Room k A →
    Env0 P w K mg base A outer s H → BindsTo s fd given (ps.zip us) → Vals zs us → sp zs H Q E → codeAny (model P w) A (.call (.ref f) given) (CR CX outer P w H s Q E) s
theorem FnG.of (F : FnOk P w K mg base CX k f fd ps sp) : FnG P w K mg base CX k f fd ps sp := ⟨fun h => F.len _ _ _ _ h, fun _ r e b v h => F.run _ _ _ _ _ _ _ _ _ r e b v h⟩
end
section
variable {P : Program} {w : World} {K : PySem.W.Frag} {mg : Str → Option Value} {base : Heap}
/-- where a body ends: what its call hands back -/
theorem body_end {CX : CXT} {N : List Str} {qual : Str} {scope : Scope} {f : Addr} {cdv : Value} {A : Around} {outer : List Env} {s s' : Shared} {H : Hp} {Q : VK} {E : XK} {fl : Flow}
    (h : SP (cxOf CX P w K mg base N qual scope f cdv A outer s H E) [] { nx := fun _ H' => Q .non H', rt := Q } fl s') :
    CR CX outer P w H s Q E (match fl with | .ret u => .ok (.ret u) | .next => .ok (.ret .none) | x => .ok x) s' := by
  cases fl with
  | ret u =>
    obtain ⟨v, _, Hx, J, rv, z⟩ := h
    exact ⟨v, Hx, J.os, J.bare, J.base, J.hok, rv, z⟩
  | next =>
    obtain ⟨_, Hx, J, z⟩ := h
    exact ⟨V.non, Hx, J.os, J.bare, J.base, J.hok, rfl, z⟩
  | brk => exact h.elim fun _ z => z.elim fun _ y => y.2.elim
  | cont => exact h.elim fun _ z => z.elim fun _ y => y.2.elim
/-- a def by its body, where no repr is under way -/
theorem okG {x qual : Str} {st : Stmt} {f : Addr} {fd : FuncData} {N ps : List Str} {k : Nat} {sp : Sp} (F : Fun K x qual st f fd) (S : FnScope N ps (defScope st))
    (many : ∀ zs H Q E, sp zs H Q E → zs.length = ps.length)
    (bodies : ∀ (cdv : Value) (A : Around) (outer : List Env) (s : Shared) (H : Hp) (zs : List V) (Q : VK) (E : XK), A.guards = some [] → Room k (A.deeper (envOfC qual (defScope st) s.heap.objs.size f cdv)) → sp zs H Q E →
      ∃ t, PSs (cxOf CX0 P w K mg base N qual (defScope st) f cdv A outer s H E).nox (defBody st) t ∧ t { nx := fun _ H' => Q .non H', rt := Q } (start N zs) H) : FnG P w K mg base CX0 (k + 1) f fd ps sp := by
  obtain ⟨_, _, _, _, _, _, cdv, _, _, rfl, at_f, code⟩ := F.ex
  refine ⟨fun h => many _ _ _ _ h, fun {A outer s H given us zs Q E} hg room e0 binds rel h => ?_⟩
  have stays : ∀ b o, base.get? b = some o → s.heap.get? b = some o := fun b o z => (e0.bs b o z).1
  have written := e0.mod.kin.keeps stays
  have endless := e0.mod.nolimit.keeps stays
  have slots : ∀ y ∈ ps.zip us, (defScope st).names.lookup y.1 = some .local ∨ ((defScope st).names.lookup y.1 = some .cell ∧ ((cellsFrom (s.heap.objs.size + 1) (defScope st).names []).lookup y.1).isSome = true) := fun y hy =>
    (S.par y.1 (List.of_mem_zip hy).1).imp id fun z => ⟨z, PySem.W.cellsFrom_some _ _ _ (.inl z)⟩
  refine codeAny_call_function room.depth (written _ _ at_f) rfl S.co S.gen rfl (PySem.W.codeRec_of written code) (binds _ _ _ _ (wpAny_newFunctionEnv_cells S.kind slots fun env he s1 fresh => ?_))
  subst he
  obtain ⟨t, ht, read⟩ := bodies cdv A outer s H zs Q E hg (room.deeper _) h
  have I := inv_start (CX := CX0) (P := P) (w := w) (E := E) S room.hd e0 (many _ _ _ _ h) rel fresh
  refine ⟨endless.keeps fresh.toInCall.keep, codeAny_func (wpAny_mono (ht.nox.run [] s1 (start N zs) H _ I read) (fun fl s' z => ?_) fun _ _ z => z)⟩
  have told := body_end z
  cases fl with
  | ret u => exact told
  | next => exact told
  | brk => exact False.elim told
  | cont => exact False.elim told
end
section
variable {X : Cx} {CX : CXT} {k : Nat} {f : Addr} {fd : FuncData} {ps : List Str} {sp : Sp} {E : XK} {x : Str} {p pos : Pos} {e : Expr} {es : List Expr} {t : TA}
/-- the reading of f(e, ..) for such a def -/
abbrev tCallG (sp : Sp) (E : XK) (t : TA) : TE := fun σ H Q => t σ H fun zs H1 => sp zs H1 Q E
theorem pe_callG (F : FnG X.prog X.w X.K X.mg X.base CX k f fd ps sp) (quiet : X.A.guards = some []) (room : Room k X.A) (gl : Gl X x) (at_x : X.mg x = some (.ref f)) (kept : PySem.W.keepIn X.K (.ref f) = true)
    (binds : Binds X.K fd ps []) (lets : Passes CX X E) (args : PA X (e :: es) t) (nodebug : (x == ("__debug__" : Str)) = false := by decide)
    (one : starEach (e :: es) X.env = (false, eval e X.env) :: starEach es X.env := by rfl) (nostar : (backTo pos (starEach es X.env)).any (·.1) = false := by rfl) : PE X (.Call (.Name x p) (e :: es) [] pos) (tCallG sp E t) := by
  constructor
  intro pins s σ H Q I read
  refine wpAny_Call_Name_kw (ld_glob I gl at_x (PySem.W.callWith_K (h₀ := X.base) I.ok.mod.kin kept (thn (args.run pos pins s σ H _ I read) fun us s1 y => ?_) one nostar) nodebug)
  obtain ⟨zs, H1, J, rel, h⟩ := y
  have len : (us ++ []).length = ps.length := by
    rw [List.append_nil, ← rel.length]
    exact F.arity h
  have bound := binds s1 us J.kIn len
  rw [List.append_nil] at bound
  refine ⟨J.kIn, wpAny_call (codeAny_mono (F.runs (given := ⟨us, []⟩) quiet room J.env0 bound rel h) fun a s' z => ?_)⟩
  match a, z with
  | .error er, z => exact lets pins σ H1 s1 er s' J z
  | .ok (.ret u), z => exact J.after z
/-! ### str(x) of data -/
def rShow (K : PySem.W.Frag) : List V → Hp → VK → Prop := fun xs H Q => ∃ (a : Addr) (d : PyData), xs = [.ref a] ∧ Dp K H (.ref a) d ∧ d.showable = true ∧ d.hasDict = false ∧ d.depth ≤ 60 ∧ d.shown.length ≤ sizeLine ∧ Q (.str d.shown) H
theorem call_strD (deep : X.A.units + 64 < cLine) (quiet : X.A.guards = some []) : CallR X (.type "str") (rShow X.K) := by
  rintro pins s σ H _ _ Q I (_ | ⟨ra, rb⟩) ⟨a, d, e, dp, h1, h2, h3, h4, h⟩
  · exact nomatch e
  · obtain ⟨rfl, rfl⟩ := List.cons.inj e
    cases rb
    obtain ⟨as, rd⟩ := Dp.reads I d _ _ dp ra
    cases (show _ = Value.ref a from ra)
    exact str_of_reads rd h1 (fun z => absurd (h2.symm.trans z) (by decide)) quiet (by omega) (fun _ _ z => z) (fun hx u tk kp => ⟨.str d.shown, H, I.kept kp, ⟨u, rfl⟩, h⟩) h4
end
/-! ### the law's own head, for such a def -/
/-- a law's promise: of a list of at most 63 ints it gives True -/
def spScript (K : PySem.W.Frag) : Sp := fun zs H Q _ => ∃ (a : Addr) (ns : List Int), zs = [.ref a] ∧ SqL K H a (ns.map V.int) ∧ ns.length ≤ 63 ∧ ∀ Hx, Q (.bl true) Hx
section
variable {P : Program} {w : World} {K : PySem.W.Frag} {mg mb : Str → Option Value} {k : Nat} {fa a : Addr} {fd : FuncData} {x : Str} {s1 : Shared} {vs : List Value} {ns : List Int}
theorem law_from (KX : K.In s1.heap) (globals : s1.heap.Ns mainGlobals mg) (builtins : s1.heap.Ns builtinsNs mb) (boot : ∀ y : Str, y ≠ "__name__" → mb y = bootBuiltins y) (lim : s1.heap.NoLimit) (nogens : s1.gens = #[])
    (script : s1.heap.get? a = some { cls := .type "list", data := .seq vs.toArray }) (room : Room k callerA) (F : ∀ B : Heap, K.In B → B.Ns mainGlobals mg → FnG P w K mg B CX0 k fa fd [x] (spScript K))
    (bind : ∀ (s : Shared) (u : Value), BindsTo s fd ⟨[u], []⟩ [(x, u)]) (H : Hp) (only : Only H) (here : SqL K H a (ns.map V.int)) (few : ns.length ≤ 63) (fine : HOk P w H s1.heap) (alone : ∀ b, H b ≠ none → b = a ∧ K.lookup a = none) :
    codeAny (model P w) callerA (.call (.ref fa) ⟨[.ref a], []⟩) (fun r s' => r = .ok (.ret (.bool true)) ∧ OldK s1.heap s'.heap ∧ s'.os = s1.os ∧ AllBare s'.gens) s1 := by
  have free : ∀ {b : Addr}, (b = a → K.lookup a = none → False) → H b = none := fun {b} z => by
    cases hb : H b with
    | none => rfl
    | some u => exact ((fun y => z y.1 y.2) (alone b (by rw [hb]; exact fun e => nomatch e))).elim
  have dicts : ∀ {b : Addr} {m : Str → Option Value}, s1.heap.Ns b m → (hidT s1.heap H).Ns b m := fun {b m} y => by
    obtain ⟨o, es, ep, e, dd, r⟩ := y
    refine ⟨o, es, ep, hidT_get e (free fun z _ => ?_), dd, r⟩
    rw [z, script] at e
    cases e
    exact nomatch dd
  have kin : K.In (hidT s1.heap H) := fun b o e => hidT_get (KX b o e) (free fun z y => by
    rw [z, y] at e
    exact nomatch e)
  obtain ⟨mc, c1, c2⟩ := lim
  have e0 : Env0 P w K mg (hidT s1.heap H) callerA [] s1 H := {
    frames := rfl
    mod := ⟨kin, dicts globals, ⟨mb, dicts builtins, boot⟩, ⟨mc, dicts c1, c2⟩⟩
    bs := fun _ _ z => of_hidT z
    bsz := Nat.le_of_eq (hidT_size _ _)
    funs := trivial
    frf := fun b z => nomatch (show b ∈ ([] : List Addr) from z)
    hok := fine
    bare := .of_eq nogens }
  have run := (F _ kin (dicts globals)).runs (given := ⟨[.ref a], []⟩) (us := [.ref a]) (zs := [.ref a]) (Q := fun v _ => v = .bl true) (E := fun _ _ _ => False) rfl room e0 (bind s1 (.ref a)) (.cons rfl .nil) ⟨a, ns, rfl, here, few, fun _ => rfl⟩
  refine codeAny_mono run fun r s' told => ?_
  match r, told with
  | .error er, told => exact told.elim
  | .ok (.ret u), told =>
    obtain ⟨v, Hx, os, bare, un, fine2, rel, is_true⟩ := told
    cases (show v = .bl true from is_true)
    cases (show u = Value.bool true from rel)
    refine ⟨rfl, .of_keep fun b o e => ?_, os, bare⟩
    rcases only b with z | ⟨og, _, z⟩
    · exact un.keep b o e z (fun y => nomatch (show b ∈ ([] : List Addr) from y)) (by simp)
    · have still := (fine2 b _ (un.frzs b og _ z)).1
      cases e.symm.trans (fine b _ z).1
      exact still
end
theorem walk_g {l : PySem.W.OpenLaw} {k : Nat} {q : Program} {loose : List Str} {XP : (Str → Option Value) → Heap → Prop} {YP : World → Heap → Prop} {d : DefRec} {K : Params → PySem.W.Frag} {x : Str} (most : l.most = some 63) (plain : d.params.defaults = [])
    (room : Room k callerA) (inK : ∀ w h, YP w h → (K w.params).In h)
    (law : ∀ w mg fa h, (K w.params).In h → h.Ns mainGlobals mg → mg d.name = some (.ref fa) → ∃ fd : FuncData, (∀ (s : Shared) (v : Value), BindsTo s fd ⟨[v], []⟩ [(x, v)]) ∧ ∀ B : Heap, (K w.params).In B → B.Ns mainGlobals mg → FnG l.prog w (K w.params) mg B CX0 k fa fd [x] (spScript (K w.params))) :
    PySem.W.WalkO q loose XP YP l.row.toRowW d [] (fun f zs => PySem.call f zs) := by
  refine Att.attach_call most plain fun w _ s1 mg mb fa _ _ _ _ a vs ns G Y _ _ _ at_law script these few nogens => ?_
  have KX := inK w _ Y
  obtain ⟨fd, bind, F⟩ := law w mg fa _ KX G.T.g at_law
  have rel := vals_ints these
  have line : ns.length ≤ sizeLine := Nat.le_trans few (by decide)
  have go := law_from (ns := ns) KX G.T.g G.T.b G.T.builtins G.T.nolimit nogens script room F bind
  cases look : (K w.params).lookup a with
  | some o =>
    cases script.symm.trans (KX a o look)
    refine go (fun _ => none) (fun _ => .inl rfl) (.inr ⟨_, vs.toArray, _, look, rfl, rfl, rfl, ?_, ?_⟩) few (fun b u z => ((nomatch z : (none : Option HO) = some u → False) z).elim) (fun b z => absurd rfl z)
    · rw [List.size_toArray, these.length]
      exact line
    · rw [List.toList_toArray]
      exact rel
  | none =>
    obtain ⟨o, eo⟩ : ∃ o : HO, o = .frz { cls := .type "list", data := .seq vs.toArray } (.lst (ns.map V.int)) := ⟨_, rfl⟩
    have at_a : ∀ b, (if b = a then some o else none) = none ∨ (b = a ∧ (if b = a then some o else none) = some o) := fun b => by
      by_cases z : b = a
      · exact .inr ⟨z, if_pos z⟩
      · exact .inl (if_neg z)
    refine go (fun b => if b = a then some o else none) (fun b => ?_) (.inl (.inr ⟨_, (if_pos rfl).trans (congrArg some eo)⟩)) few (fun b u z => ?_) (fun b z => ?_)
    · rcases at_a b with z | ⟨_, z⟩
      · exact .inl z
      · exact .inr ⟨_, _, z.trans (congrArg some eo)⟩
    · rcases at_a b with y | ⟨e, y⟩
      · exact nomatch y.symm.trans z
      · cases y.symm.trans z
        subst e
        rw [eo]
        exact ⟨script, by rw [List.length_map]; exact line, vs, _, rel, script⟩
    · rcases at_a b with y | ⟨e, _⟩
      · exact absurd y z
      · exact ⟨e, look⟩
end Tg

/-! repr of own objects by their own __repr__, and {x!r} of data, where no repr is under way -/
namespace Tg
open PySem PySem.Spec PyProof.Rows L2
section
variable {prog : Program} {w : World} {A : Around} {E : Value → Shared → Prop} {s : Shared} {K : PySem.W.Frag} {x C f : Addr} {ox : Obj} {dx : Option Obj}
theorem repr_in {Q : Value → Shared → Prop} (room : A.in1.units < cLine) (inK : K.In s.heap) (I : PySem.W.InstAt s.heap x ox C dx) (at_ : PySem.W.findIn K (.ref C) "__repr__" = some (some (.ref f))) (fn : PySem.W.isFn K (.ref f) = true)
    (h : wpAny (model prog w) A.in1 (call (.ref f) [.ref x]) (fun r s' => ∃ y t, r = .str y t ∧ Q r s') E s) : wpAny (model prog w) A (call (.builtin "repr") [.ref x]) Q E s := by
  refine Calls.call_function_entry (id := "repr") PySem.F.kind_repr PySem.F.plain_repr PySem.F.entry_repr (PySem.F.args_repr1 (.ref x)) ?_
  unfold Builtin.«repr»
  refine wpAny_bind (m := oneArg "repr" _) (wpAny_pure (wpAny_bind (wpAny_cRoomFor room (wpAny_bind (wpAny_bind (I.type.here ((PySem.W.looks_findIn inK at_).here ?_)))))))
  show wpAny _ A.in1 (if (some (Value.ref f)).isNone = true then _ else _) _ E s
  rw [if_neg (fun z => nomatch z)]
  refine wpAny_bind (m := callSpecialIfBound? (.ref x) (Str.ofString "__repr__") _) (PySem.W.ifBound_K inK I at_ fn (wpAny_mono h (fun r s' told => ?_) fun _ _ y => y))
  obtain ⟨y, t, rfl, q⟩ := told
  refine wpAny_bind (m := isInstance (.str y t) (.type "str")) (wpAny_isInstance (T := "str") (typeIs_str _ y t) isSubtype_str_str ?_)
  first
    | exact wpAny_pure ⟨_, rfl, q⟩
    | (rw [if_pos rfl]; exact wpAny_pure ⟨_, rfl, q⟩)
    | (simp only [if_true]; exact wpAny_pure ⟨_, rfl, q⟩)
end
section
variable {X : Cx} {n : Nat}
def rReprO (C : Addr) (sp : Sp) (E : XK) : List V → Hp → VK → Prop := fun vs H Q => ∃ a dx fs, vs = [.ref a] ∧ H a = some (.ins C dx fs) ∧ sp [.ref a] H (fun v H' => ∃ y : Str, v = .str y ∧ Q v H') E
theorem cr_reprO {CX : CXT} {C f : Addr} {fd : FuncData} {sp : Sp} {E : XK} (F : FnG X.prog X.w X.K X.mg X.base CX n f fd ["self"] sp) (at_ : PySem.W.findIn X.K (.ref C) "__repr__" = some (some (.ref f))) (fn : PySem.W.isFn X.K (.ref f) = true) (hb : Binds X.K fd ["self"] []) (hx : Passes CX X E) (hr : Room (n + 1) X.A) (quiet : X.A.guards = some []) :
    CallR X (.builtin "repr") (rReprO C sp E) := by
  rintro pins s σ H vs us Q I r ⟨a, dx, fs, rfl, ha, told⟩
  obtain rfl : us = [.ref a] := by
    cases r with
    | cons p t => cases t; cases p; rfl
  obtain ⟨atA, J, _⟩ := ins_get I.hok ha
  obtain ⟨od, J, _⟩ := J.look
  have sb : Sub X n X.A.in1 := Sub.in1 ⟨hr, rfl⟩
  refine repr_in (by have := hr.units; show X.A.units + 1 < cLine; omega) I.kIn J at_ fn ?_
  have e0 : Env0 X.prog X.w X.K X.mg X.base X.A.in1 X.stack s H := by
    have env := I.env0
    exact ⟨sb.fr.symm ▸ env.frames, env.mod, env.bs, env.bsz, env.funs, env.frf, env.hok, env.bare⟩
  refine wpAny_call (codeAny_mono (F.runs (A := X.A.in1) (outer := X.stack) (s := s) (given := ⟨[.ref a], []⟩) (us := [.ref a]) (zs := [.ref a]) quiet sb.room e0 (by
    have z := hb s [.ref a] I.kIn rfl
    simpa using z) (.cons rfl .nil) told) fun r s' done => ?_)
  cases r with
  | error e => exact hx pins σ H s e s' I done
  | ok fl =>
    cases fl with
    | ret w =>
      obtain ⟨z, H', I', rz, y, ez, q⟩ := I.after done
      subst ez
      obtain ⟨t, rfl⟩ := rz
      exact ⟨y, t, rfl, .str y, H', I', ⟨t, rfl⟩, q⟩
    | next => exact False.elim done
    | brk => exact False.elim done
    | cont => exact False.elim done
/-- f'..' of two parts or more, by a name -/
def tJn (ts : List TE) : TE := fun σ H Q => tJs ts Str.empty σ H fun out H1 => Q (.str out) H1
theorem pe_jn {v1 v2 : Expr} {rest : List Expr} {ts : List TE} {pos : Pos} (h : PJ X (v1 :: v2 :: rest) ts) : PE X (.JoinedStr (v1 :: v2 :: rest) pos) (tJn ts) := pe_joined h
/-! ### {x!r} of data -/
def tFmtRD (K : PySem.W.Frag) (te : TE) : TE := fun σ H Q => te σ H fun x H1 => ∃ d : PyData, Dp K H1 x d ∧ d.showable = true ∧ d.hasDict = false ∧ d.depth ≤ 60 ∧ d.shown.length ≤ sizeLine ∧ Q (.str d.shown) H1
theorem pe_fmtRD {e : Expr} {te : TE} {pos : Pos} (deep : X.A.units + 64 < cLine) (quiet : X.A.guards = some []) (he : PE X e te) : PE X (.FormattedValue e 114 none pos) (tFmtRD X.K te) := by
  refine ⟨fun pins s σ H Q I h => ?_⟩
  refine wpAny_FormattedValue_repr (thn (he.run pins s σ H _ I h) fun v s1 ⟨x, H1, I1, r1, d, dp, h1, h2, h3, h4, q⟩ => ?_)
  obtain ⟨as, rd⟩ := Dp.reads I1 d x v dp r1
  cases dp with
  | non =>
    cases r1
    exact pyReprObj_none (wpAny_formatField_str ⟨.str "None", H1, I1.tok _, ⟨_, rfl⟩, q⟩ ⟨.str "None", H1, I1.tok _, ⟨_, rfl⟩, q⟩ h4)
  | bl b =>
    cases r1
    exact pyReprObj_bool (wpAny_formatField_str ⟨.str _, H1, I1.tok _, ⟨_, rfl⟩, q⟩ ⟨.str _, H1, I1.tok _, ⟨_, rfl⟩, q⟩ h4)
  | int i =>
    obtain ⟨t, rfl⟩ := r1
    exact pyReprObj_int (of_decide_eq_true h1) (wpAny_formatField_str ⟨.str _, H1, I1.tok _, ⟨_, rfl⟩, q⟩ ⟨.str _, H1, I1.tok _, ⟨_, rfl⟩, q⟩ h4)
  | str y =>
    obtain ⟨t, rfl⟩ := r1
    exact pyReprObj_str (wpAny_formatField_str ⟨.str _, H1, I1.tok _, ⟨_, rfl⟩, q⟩ ⟨.str _, H1, I1.tok _, ⟨_, rfl⟩, q⟩ h4) h4
  | lst _ _ =>
    cases r1
    exact pyReprObj_of_reads rd h1 (fun z => absurd (h2.symm.trans z) (by decide)) quiet (by omega) (fun _ _ z => z) (fun hx u tk kp => wpAny_formatField_str ⟨.str _, H1, I1.kept kp, ⟨_, rfl⟩, q⟩ ⟨.str _, H1, (I1.kept (t' := tk) kp).tok _, ⟨_, rfl⟩, q⟩ h4) h4
  | tup _ _ =>
    cases r1
    exact pyReprObj_of_reads rd h1 (fun z => absurd (h2.symm.trans z) (by decide)) quiet (by omega) (fun _ _ z => z) (fun hx u tk kp => wpAny_formatField_str ⟨.str _, H1, I1.kept kp, ⟨_, rfl⟩, q⟩ ⟨.str _, H1, (I1.kept (t' := tk) kp).tok _, ⟨_, rfl⟩, q⟩ h4) h4
end
theorem pe_fmtRDK {X : Cx} {e : Expr} {te : TE} {pos : Pos} (K : PySem.W.Frag) (deep : X.A.units + 64 < cLine) (quiet : X.A.guards = some []) (he : PE X e te) (hK : X.K = K := by rfl) : PE X (.FormattedValue e 114 none pos) (tFmtRD K te) := by
  subst hK
  exact pe_fmtRD deep quiet he
section
variable {P : Program} {w : World} {K : PySem.W.Frag} {mg : Str → Option Value} {base : Heap}
/-- a def that is called where no repr is under way -/
def CalG (P : Program) (w : World) (K : PySem.W.Frag) (mg : Str → Option Value) (base : Heap) (k : Nat) (x : Str) (ps : List Str) (sp : Sp) : Prop := ∃ f fd, FnG P w K mg base CX0 k f fd ps sp ∧ mg x = some (.ref f) ∧ PySem.W.keepIn K (.ref f) = true ∧ Binds K fd ps []
theorem pe_calG {X : Cx} {k : Nat} {x : Str} {ps : List Str} {sp : Sp} {e : Expr} {es : List Expr} {t : TA} {p pos : Pos} (c : CalG X.prog X.w X.K X.mg X.base k x ps sp) (quiet : X.A.guards = some []) (hr : Room k X.A) (gl : Gl X x) (ha : PA X (e :: es) t) (nodebug : (x == ("__debug__" : Str)) = false := by decide)
    (one : starEach (e :: es) X.env = (false, eval e X.env) :: starEach es X.env := by rfl) (nostar : (backTo pos (starEach es X.env)).any (·.1) = false := by rfl) : PE X (.Call (.Name x p) (e :: es) [] pos) (tCallG sp E0 t) := by
  obtain ⟨f, fd, F, hm, hk, hb⟩ := c
  exact pe_callG F quiet hr gl hm hk hb pass0 ha nodebug one nostar
end
end Tg

/-! an own == that may say True or False, of an instance and anything; an instance looked for in a list of None and texts -/
namespace Tg
open PySem PySem.Spec PyProof.Rows L2
/-- what such an own == promises: R tells what it says -/
def spEqB (R : Addr → V → Bool → Hp → Prop) : Sp := fun vs H Q _ => ∃ (a : Addr) (y : V) (b : Bool), vs = [.ref a, y] ∧ R a y b H ∧ ∀ H', Ext H H' → Q (.bl b) H'
section
variable {X : Cx} {n : Nat} {CX : CXT} {C f : Addr} {fd : FuncData} {ps : List Str} {R : Addr → V → Bool → Hp → Prop} {E : XK}
/-- the own == called with an instance and a thing, somewhere below the running body -/
theorem own_said (F : FnOk X.prog X.w X.K X.mg X.base CX n f fd ps (spEqB R)) (hb : Binds X.K fd ps []) (hx : Passes CX X E) {A : Around} {pins : List (Addr × Obj)} {s : Shared} {σ : L2.St} {H : Hp} {a : Addr} {y : V} {u : Value} {b : Bool}
    (sb : Sub X n A) (I : Inv X pins σ H s) (ry : RelV y u) (r : R a y b H) :
    wpAny (model X.prog X.w) A (call (.ref f) [.ref a, u]) (fun v s' => v = .bool b ∧ ∃ H', Inv X pins σ H' s' ∧ Ext H H') X.xe s := by
  have hsp : spEqB R [.ref a, y] H (fun v H' => v = .bl b ∧ Ext H H') E := ⟨a, y, b, rfl, r, fun H' e => ⟨rfl, e⟩⟩
  have env := I.env0
  have e0 : Env0 X.prog X.w X.K X.mg X.base A X.stack s H := ⟨sb.fr.symm ▸ env.frames, env.mod, env.bs, env.bsz, env.funs, env.frf, env.hok, env.bare⟩
  have two := F.len _ _ _ _ hsp
  have bound := hb s [.ref a, u] I.kIn (by simpa using two)
  rw [List.append_nil] at bound
  refine wpAny_call (codeAny_mono (F.run A X.stack s H ⟨[.ref a, u], []⟩ [.ref a, u] [.ref a, y] _ E sb.room e0 bound (.cons rfl (.cons ry .nil)) hsp) fun o s' told => ?_)
  match o, told with
  | .error er, told => exact hx pins σ H s er s' I told
  | .ok (.ret v), told =>
    obtain ⟨z, H', J, rz, ez, ex⟩ := I.after told
    subst ez
    exact ⟨rz, H', J, ex⟩
/-- a == y -/
def rEqB (K : PySem.W.Frag) (C : Addr) (R : Addr → V → Bool → Hp → Prop) : R2 := fun x y H Q => ∃ (a dx : Addr) (fs : List (Str × V)) (t : Value) (b : Bool), x = .ref a ∧ H a = some (.ins C dx fs) ∧ TyX K H y t ∧ PySem.W.notFirst K C t = true ∧ R a y b H ∧ ∀ H', Ext H H' → Q (.bl b) H'
theorem op_eqB (F : FnOk X.prog X.w X.K X.mg X.base CX n f fd ps (spEqB R)) (hs : PySem.W.findIn X.K (.ref C) "__eq__" = some (some (.ref f))) (hf : PySem.W.isFn X.K (.ref f) = true) (hb : Binds X.K fd ps []) (hx : Passes CX X E) (hr : Room n X.A) : OpR X (compareOp .Eq) (rEqB X.K C R) := by
  rintro pins s σ H x y v u Q I rx ry ⟨a, dx, fs, t, b, rfl, ha, ty, nf, r, q⟩
  cases rx
  obtain ⟨mI, J0, _⟩ := ins_get I.hok ha
  obtain ⟨od, J, _⟩ := J0.look
  obtain ⟨m, hF⟩ := I.fr
  obtain ⟨P, Z, p, _⟩ := kit_of I ry ty
  show wpAny (model X.prog X.w) X.A (richCompare .Eq (.ref a) u) (EP X pins σ Q) X.xe s
  refine PySem.W.cmp_K (op := .Eq) hr.units0 hF I.ok.mod.kin J (Z.ty _ _ I.kIn p) nf hs hf (wpAny_mono (own_said F hb hx ⟨hr, rfl⟩ I ry r) (fun w s' told => ?_) fun _ _ z => z)
  obtain ⟨rfl, H', I', ex⟩ := told
  exact ⟨.bl b, H', I', rfl, q H' ex⟩
/-- None and texts: what stands ahead of == -/
theorem eq_back {T id : String} {A : Around} {pins : List (Addr × Obj)} {s : Shared} {σ : L2.St} {H : Hp} {a dx : Addr} {fs : List (Str × V)} {y : V} {u : Value} {b : Bool} (F : FnOk X.prog X.w X.K X.mg X.base CX n f fd ps (spEqB R))
    (hs : PySem.W.findIn X.K (.ref C) "__eq__" = some (some (.ref f))) (hf : PySem.W.isFn X.K (.ref f) = true) (hb : Binds X.K fd ps []) (hx : Passes CX X E) (sb : Sub X n A) (I : Inv X pins σ H s) (ry : RelV y u)
    (ha : H a = some (.ins C dx fs)) (r : R a y b H) (ty : s.TypeIs u T) (nos : PySem.W.subIn X.K (.ref C) (.type T) = some false) (slot : Slot T (cmpInfo .Eq).2.1 id)
    (dec : ∀ Q' : Value → Shared → Prop, Q' .notImplemented s → wpAny (model X.prog X.w) A (call (.builtin id) [u, .ref a]) Q' X.xe s) :
    wpAny (model X.prog X.w) A (richCompare .Eq u (.ref a)) (fun v s' => v = .bool b ∧ ∃ H', Inv X pins σ H' s' ∧ Ext H H') X.xe s := by
  obtain ⟨mI, J0, _⟩ := ins_get I.hok ha
  obtain ⟨od, J, _⟩ := J0.look
  have two : wpAny (model X.prog X.w) A (tryCompare (.ref a) "__eq__" u) (fun w s' => ∃ v, w = some v ∧ v = .bool b ∧ ∃ H', Inv X pins σ H' s' ∧ Ext H H') X.xe s := by
    unfold tryCompare
    refine wpAny_bind (PySem.W.ifBound_K I.kIn J hs hf (wpAny_mono (own_said F hb hx sb I ry r) (fun v s' told => ?_) fun _ _ z => z))
    obtain ⟨rfl, more⟩ := told
    exact wpAny_pure ⟨_, rfl, rfl, more⟩
  rcases hi : cmpInfo CmpOp.Eq with ⟨sym, nm, rn⟩
  obtain ⟨_, rfl, rfl⟩ : sym = "==" ∧ nm = "__eq__" ∧ rn = "__eq__" := by
    cases hi
    exact ⟨rfl, rfl, rfl⟩
  rw [hi] at slot
  simp only [richCompare, hi, ty.oneThing_none]
  refine wpAny_holding (wpAny_bind (wpAny_cRoomFor sb.room.units0 ?_))
  refine wpAny_bind (wpAny_typeOf ty (wpAny_bind (J.type.here ?_)))
  rw [show (Value.type T != Value.ref C) = true from by simp]
  simp only [if_true]
  refine wpAny_bind ((PySem.W.looks_subIn I.kIn nos).here ?_)
  simp only [if_true, if_false, Bool.not_false, Bool.false_eq_true]
  refine wpAny_bind (m := tryCompare u _ (.ref a)) (wpAny_tryCompare_declines ty slot (dec _ ⟨rfl, ?_⟩))
  refine wpAny_bind (m := tryCompare (.ref a) _ u) (wpAny_mono two (fun w s' told => ?_) fun _ _ z => z)
  obtain ⟨v, rfl, more⟩ := told
  exact wpAny_pure more
end
section
open MeetsSeq MeetsSeq2 MeetsSeq3 SeqRoads2 SeqAt
open AutoSeq1 (wpAny_loadPart')
theorem str_no_own (z : Str) (u : Tok) (l C dx : Addr) : Meets (Builtin.«str.__eq__» ⟨[.str z u, .ref l], []⟩) (fun _ R s => s.heap.get? l = some (PySem.W.instObj C dx) ∧ R (.ok (.ret .notImplemented)) s) :=
  .of_wp fun pr wd A0 R0 s0 told => by
    obtain ⟨hp, gn, dr, tk, os⟩ := s0
    obtain ⟨hl, h⟩ := told
    unfold PySem.W.instObj at hl
    wp_walk using wpAny_loadPart' hl, wpAny_load hl
    exact ⟨_, rfl, h⟩
variable {A : Around} {prog : Program} {w : World} {R : Result → Shared → Prop}
/-- looked for in a list, item by item, and not found -/
theorem seek_loop {l : Addr} {x : Value} (N : Nat) (I : Nat → Shared → Prop)
    (turn : ∀ i s, I i s → ∃ (items : Array Value) (n : Nat), s.heap.get? l = some { cls := .type "list", data := .seq items n } ∧ items.size = N ∧ ∀ h : i < items.size, wpAny (model prog w) A.in1 (eqBool items[i] x) (fun r s' => r = false ∧ I (i + 1) s') (fun e s' => R (.error e) s') s)
    (fin : ∀ s, I N s → R (.ok (.ret (.bool false))) s) (k : Nat) : ∀ i : Nat, N - i = k → i ≤ N → ∀ s, I i s →
      wpAny (model prog w) A.in1 (Builtin.«list.__contains__.loop» ⟨[.ref l, x, rawInt i], []⟩) (GQ.FinOf prog w A R) (fun e s' => R (.error e) s') s := by
  induction k with
  | zero =>
    intro i hk hi s h
    obtain ⟨items, n, at_l, size, _⟩ := turn _ _ h
    obtain rfl : i = N := by omega
    have done := fin s h
    obtain ⟨hp, gn, dr, tk, os⟩ := s
    wp_walk using wpAny_loadPart' at_l
    have none_there : items[((i : Nat) : Int).toNat]? = none := by simp; omega
    rw [none_there]
    wp_walk
    exact done
  | succ k ih =>
    intro i hk hi s h
    obtain ⟨items, n, at_l, size, step⟩ := turn _ _ h
    have lt : i < items.size := by omega
    have said := step lt
    obtain ⟨hp, gn, dr, tk, os⟩ := s
    wp_walk using wpAny_loadPart' at_l
    have there : items[((i : Nat) : Int).toNat]? = some items[i] := by simp [lt]
    have next : ((i : Int) + 1) = ((i + 1 : Nat) : Int) := by omega
    rw [there]
    refine wpAny_bind (wpAny_mono said (fun r s2 h2 => ?_) fun _ _ z => z)
    obtain ⟨rfl, h2⟩ := h2
    have more := ih (i + 1) (by omega) (by omega) s2 h2
    obtain ⟨hp2, gn2, dr2, tk2, os2⟩ := s2
    wp_walk
    rw [next]
    refine ⟨plainId_quiet plain_contains_loop _, codeAny_builtin entry_contains_loop ?_⟩
    rw [A.under_plainId plain_contains_loop _]
    exact more
theorem seek_none {E : Value → Shared → Prop} {s : Shared} {Q : Value → Shared → Prop} {l : Addr} {x : Value} (N : Nat) (I : Nat → Shared → Prop)
    (turn : ∀ i s, I i s → ∃ (items : Array Value) (n : Nat), s.heap.get? l = some { cls := .type "list", data := .seq items n } ∧ items.size = N ∧ ∀ h : i < items.size, wpAny (model prog w) A.in1 (eqBool items[i] x) (fun r s' => r = false ∧ I (i + 1) s') E s)
    (fin : ∀ s, I N s → Q (.bool false) s) (h : I 0 s) : wpAny (model prog w) A (compareOp .In x (.ref l)) Q E s := by
  obtain ⟨items, n, at_l, _, _⟩ := turn _ _ h
  show wpAny _ A (do return .bool (← contains (.ref l) x)) Q E s
  refine wpAny_bind (wpAny_contains_slot (T := "list") ⟨_, at_l, rfl⟩ PySem.F.slot_list_contains (GQ.call_here PySem.F.slot_list_contains ⟨_, at_l, rfl⟩ PySem.F.entry_list_contains (PySem.F.args_list_contains_2 _ _) ?_))
  have loop := seek_loop (R := wants (fun v s' => wpAny (model prog w) A (truthy v) (fun r s'' => wpAny (model prog w) A (pure (Value.bool r)) Q E s'') E s') E) N I turn (fun s' q => wpAny_truthy_bool (wpAny_pure (fin s' q))) _ 0 rfl (Nat.zero_le _) s h
  obtain ⟨hp, gn, dr, tk, os⟩ := s
  wp_walk using wpAny_loadPart' at_l
  refine ⟨plainId_quiet plain_contains_loop _, codeAny_builtin entry_contains_loop ?_⟩
  rw [A.under_plainId plain_contains_loop _]
  exact loop
end
section
variable {X : Cx} {n : Nat} {CX : CXT} {C f : Addr} {fd : FuncData} {ps : List Str} {R : Addr → V → Bool → Hp → Prop} {E : XK}
/-- a in [None, 'text'], of which it is neither -/
def rSeek (C : Addr) (R : Addr → V → Bool → Hp → Prop) : R2 := fun x y H Q => ∃ (a dx l : Addr) (fs : List (Str × V)) (z : Str), x = .ref a ∧ y = .ref l ∧ H a = some (.ins C dx fs) ∧ H l = some (.lst [.non, .str z]) ∧
  (∀ H', Ext H H' → R a .non false H' ∧ R a (.str z) false H') ∧ ∀ H', Ext H H' → Q (.bl false) H'
theorem op_seek (F : FnOk X.prog X.w X.K X.mg X.base CX n f fd ps (spEqB R)) (hs : PySem.W.findIn X.K (.ref C) "__eq__" = some (some (.ref f))) (hf : PySem.W.isFn X.K (.ref f) = true) (hb : Binds X.K fd ps []) (hx : Passes CX X E) (hr : Room (n + 1) X.A)
    (no1 : PySem.W.subIn X.K (.ref C) (.type "NoneType") = some false) (no2 : PySem.W.subIn X.K (.ref C) (.type "str") = some false) : OpR X (compareOp .In) (rSeek C R) := by
  rintro pins s σ H x y v u Q I rx ry ⟨a, dx, l, fs, z, rfl, rfl, ha, hl, r, q⟩
  cases rx
  cases ry
  have sb : Sub X n X.A.in1 := Sub.in1 ⟨hr, rfl⟩
  refine seek_none 2 (fun _ s' => ∃ H', Inv X pins σ H' s' ∧ Ext H H') (fun i s' told => ?_) (fun s' ⟨H', I', ex⟩ => ⟨.bl false, H', I', rfl, q H' ex⟩) ⟨H, I, Ext.rfl'⟩
  obtain ⟨H', I', ex⟩ := told
  obtain ⟨_, its, k, rel, at_l⟩ := (show ObjOk X.prog X.w H' s'.heap l (.lst [.non, .str z]) from I'.hok l _ (ex _ _ hl))
  obtain ⟨u1, u2, rfl, r1, r2⟩ := vals2 rel
  cases (show u1 = Value.none from r1)
  obtain ⟨tz, rfl⟩ := (show ∃ t, u2 = Value.str z t from r2)
  obtain ⟨mA, J, _⟩ := ins_get I'.hok (ex _ _ ha)
  obtain ⟨od, J, _⟩ := J.look
  refine ⟨_, k, at_l, rfl, fun lt => ?_⟩
  have truth : ∀ (u : Value), (u == Value.ref a) = false → (∀ q w, u ≠ .float q w) → wpAny (model X.prog X.w) X.A.in1 (richCompare .Eq u (.ref a)) (fun v s2 => v = .bool false ∧ ∃ H2, Inv X pins σ H2 s2 ∧ Ext H' H2) X.xe s' →
      wpAny (model X.prog X.w) X.A.in1 (eqBool u (.ref a)) (fun r s2 => r = false ∧ ∃ H2, Inv X pins σ H2 s2 ∧ Ext H H2) X.xe s' := fun u ne nf h => by
    unfold eqBool
    refine wpAny_holding (wpAny_ite_split (fun z => absurd (ne.symm.trans z) (by decide)) fun _ => ?_)
    cases u <;> first | exact absurd rfl (nf _ _) | (refine wpAny_bind (wpAny_mono h (fun v s2 told => ?_) fun _ _ z => z); obtain ⟨rfl, H2, I2, e2⟩ := told; exact wpAny_truthy_bool ⟨rfl, H2, I2, ex.trans e2⟩)
  match i, lt with
  | 0, _ =>
    refine truth .none rfl (fun _ _ z => nomatch z) (eq_back F hs hf hb hx sb I' (y := .non) rfl (ex _ _ ha) (r H' ex).1 (T := "NoneType") rfl no1 PySem.F.slot_NoneType_eq fun Q' hq => ?_)
    exact call_gives PySem.F.slot_NoneType_eq rfl PySem.F.entry_NoneType_eq (PySem.F.args_NoneType_eq_2 _ _) (SeqAt.NoneType___eq___none_ref_0 a) hq
  | 1, _ =>
    refine truth (.str z tz) rfl (fun _ _ z => nomatch z) (eq_back F hs hf hb hx sb I' (y := .str z) ⟨tz, rfl⟩ (ex _ _ ha) (r H' ex).2 (T := "str") (typeIs_str _ _ _) no2 PySem.F.slot_str_eq fun Q' hq => ?_)
    exact call_meets PySem.F.slot_str_eq (typeIs_str _ _ _) PySem.F.entry_str_eq (PySem.F.args_str_eq_2 _ _) (str_no_own z tz a C dx) ⟨J.at_, hq⟩
end
end Tg

/-! zip of a list and a tuple; repr(x) of data -/
namespace Tg
open PySem PySem.Spec PyProof.Rows L2
def ItzM (K : PySem.W.Frag) (a b : Addr) : It :=
  ⟨fun i H => ∃ (xs ys : List V) (x y : V), SqL K H a xs ∧ SqT K H b ys ∧ xs[i]? = some x ∧ ys[i]? = some y,
    fun i H v H' => ∃ T x y, v = .ref T ∧ H T = none ∧ H' = upd H T (.tup [x, y]) ∧ (∀ xs, SqL K H a xs → xs[i]? = some x) ∧ ∀ ys, SqT K H b ys → ys[i]? = some y,
    fun i H => ∃ xs ys : List V, SqL K H a xs ∧ SqT K H b ys ∧ min xs.length ys.length = i⟩
theorem mem45 {z TI TO i1 i2 e : Addr} (h : e ∈ [z, TO, i1, i2]) : e ∈ [z, TI, TO, i1, i2] := by
  rw [List.mem_cons] at h ⊢
  exact h.imp id fun q => List.mem_cons_of_mem _ q
theorem turn_zipM {P : Program} {w : World} {K : PySem.W.Frag} {elts : List Expr} {kk : Nat} {tpos : Pos} {z TI TO i1 i2 a b : Addr} (S : ZipSep2 z TI TO i1 i2 [i1, a] [i2, b]) (n1 : a ≠ i1) (n2 : b ≠ i2) :
    Turn P w K (.Tuple elts kk tpos) (ItzM K a b) [z, TI, TO, i1, i2] z (fun i h => IsZip h z TI TO .none ∧ IsTupOf2 h TI (.ref i1) (.ref i2) ∧ (∃ a1 a2, IsTupOf2 h TO a1 a2) ∧ h.IsListIter i1 a i ∧ h.IsTupleIter i2 b i) where
  mem := List.mem_cons_self
  obj := fun i h st e he => by
    obtain ⟨hz, hTI, ⟨_, _, hTO⟩, ⟨o1, e1, _, d1⟩, ⟨o2, e2, _, d2⟩⟩ := st
    simp only [List.mem_cons, List.not_mem_nil, or_false] at he
    rcases he with rfl | rfl | rfl | rfl | rfl
    · exact ⟨_, hz, fun _ z => nomatch z⟩
    · exact ⟨_, hTI, fun _ z => nomatch z⟩
    · exact ⟨_, hTO, fun _ z => nomatch z⟩
    · exact ⟨o1, e1, fun _ z => by rw [d1] at z; cases z⟩
    · exact ⟨o2, e2, fun _ z => by rw [d2] at z; cases z⟩
  keep := fun i h h' st k => by
    obtain ⟨hz, hTI, ⟨a1, a2, hTO⟩, h1, h2⟩ := st
    exact ⟨k z (by simp) _ hz, k TI (by simp) _ hTI, ⟨a1, a2, k TO (by simp) _ hTO⟩, h1.at fun _ q => k i1 (by simp) _ q, h2.at fun _ q => k i2 (by simp) _ q⟩
  item := by
    rintro X rfl rfl rfl hc i pins s σ H E I hf ⟨hz, hTI, hTO, h1, h2⟩ ⟨xs, ys, x, y, hqx, hqy, hx, hy⟩
    obtain ⟨l1, rv1, p1, _⟩ := I.list hqx
    obtain ⟨l2, rv2, p2, _⟩ := I.tuple hqy
    obtain ⟨u1, hu1, ru1⟩ := rv1.get hx
    obtain ⟨u2, hu2, ru2⟩ := Vals.get rv2 hy
    have q1 : s.heap.IsList a l1.toArray := p1.isList
    have q2 : s.heap.IsTuple b l2.toArray := p2
    have g1 := (List.getElem?_eq_some_iff.mp hu1).1
    have g2 := (List.getElem?_eq_some_iff.mp hu2).1
    have calm : X.A.in1.handled = none := by
      have := I.ok.hd hc
      simp [this]
    have G := GoesN.zip2 (prog := X.prog) (w := X.w) (A := X.A) (elts := elts) (x1 := kk) (pos := tpos) S (Draws.list (prog := X.prog) (w := X.w) calm i1 a n1 l1.toArray) (Draws.tuple (prog := X.prog) (w := X.w) calm i2 b n2 l2.toArray)
    refine G.goes i s _ E (by simp only [List.size_toArray]; omega) ⟨hz, hTI, hTO, ⟨h1, q1⟩, ⟨h2, q2⟩⟩ fun v h' tk hyl st' hk _ => ?_
    obtain ⟨T, v1, v2, ev, hT, w1, w2, isp⟩ := hyl
    obtain rfl : v1 = u1 := by
      have w1' : l1.toArray[i]? = some v1 := w1
      rw [List.getElem?_toArray, hu1] at w1'
      exact (Option.some.inj w1').symm
    obtain rfl : v2 = u2 := by
      have w2' : l2.toArray[i]? = some v2 := w2
      rw [List.getElem?_toArray, hu2] at w2'
      exact (Option.some.inj w2').symm
    have new : ObjOk X.prog X.w (upd H T (.tup [x, y])) h' T (.tup [x, y]) :=
      ⟨Nat.le_trans (show 2 ≤ 1000 by decide) (by decide), [v1, v2], .cons ru1 (.cons ru2 .nil), isp⟩
    have J : Inv X pins σ (upd H T (.tup [x, y])) { s with heap := h', toks := tk } := I.turnedNew (ch := [z, TI, TO, i1, i2]) (fun e ob hb q => hk e ob (fun hm => hb (mem45 hm)) q) hf hT new
    obtain ⟨sz, sTI, sTO, s1, s2⟩ := st'
    refine ⟨.ref T, _, J, by rw [ev]; rfl, ⟨T, x, y, rfl, I.hok.fresh hT, rfl, fun l hl => by rw [I.list_inj hl hqx]; exact hx, fun l hl => by rw [I.tuple_inj hl hqy]; exact hy⟩, ⟨sz, sTI, sTO, s1.1, s2.1⟩, fun e he => ?_⟩
    have lt : e < s.heap.objs.size := by
      obtain ⟨_, _, hTO⟩ := hTO
      obtain ⟨_, e1, _⟩ := h1
      obtain ⟨_, e2, _⟩ := h2
      simp only [List.mem_cons, List.not_mem_nil, or_false] at he
      rcases he with rfl | rfl | rfl | rfl | rfl
      · exact Heap.lt_size hz
      · exact Heap.lt_size hTI
      · exact Heap.lt_size hTO
      · exact Heap.lt_size e1
      · exact Heap.lt_size e2
    rw [upd_ne (Nat.ne_of_lt (Nat.lt_of_lt_of_le lt hT))]
    exact (hf e he).1
  done := by
    rintro X rfl rfl rfl hc i pins s σ H E I hf ⟨hz, hTI, hTO, h1, h2⟩ ⟨xs, ys, hqx, hqy, hn⟩
    obtain ⟨l1, rv1, p1, _⟩ := I.list hqx
    obtain ⟨l2, rv2, p2, _⟩ := I.tuple hqy
    have q1 : s.heap.IsList a l1.toArray := p1.isList
    have q2 : s.heap.IsTuple b l2.toArray := p2
    have calm : X.A.in1.handled = none := by
      have := I.ok.hd hc
      simp [this]
    have G := GoesN.zip2 (prog := X.prog) (w := X.w) (A := X.A) (elts := elts) (x1 := kk) (pos := tpos) S (Draws.list (prog := X.prog) (w := X.w) calm i1 a n1 l1.toArray) (Draws.tuple (prog := X.prog) (w := X.w) calm i2 b n2 l2.toArray)
    have ei : min l1.toArray.size l2.toArray.size = i := by
      rw [← hn, rv1.length, rv2.length]
      simp
    refine G.stops s _ E (by rw [ei]; exact ⟨hz, hTI, hTO, ⟨h1, q1⟩, ⟨h2, q2⟩⟩) fun h' tk hk _ => ?_
    exact I.turnedL (t' := tk) (ch := [z, TI, TO, i1, i2]) (fun e ob hb q => hk e ob (fun hm => hb (mem45 hm)) q) hf
  self := fun _ _ _ _ _ st => wpAny_pyIter_zip st.1
def iZipM (K : PySem.W.Frag) (ta : TA) : TI := fun σ H R => ta σ H fun vs H1 => ∃ a b xs ys, vs = [.ref a, .ref b] ∧ SqL K H1 a xs ∧ SqT K H1 b ys ∧ R (ItzM K a b) H1
theorem pi_zipM {X : Cx} {e e2 : Expr} {ta : TA} {p pos tpos : Pos} {elts : List Expr} {kk : Nat} (gl : Gl X "zip") (none_there : X.mg "zip" = none) (args : PA X [e, e2] ta)
    (star : starEach [e, e2] X.env = (false, eval e X.env) :: starEach [e2] X.env := by rfl) (plain : (backTo pos (starEach [e2] X.env)).any (·.1) = false := by rfl) :
    PI X (.Tuple elts kk tpos) (.Call (.Name "zip" p) [e, e2] [] pos) (iZipM X.K ta) := by
  constructor
  intro pins s σ H R I told
  refine Call_ (ld_blt I gl none_there boot_zip (callWith_type1 (thn (args.run pos pins s σ H _ I told) fun us s1 come => ?_) star plain))
  obtain ⟨_, H1, I1, r1, a, b, xs, ys, rfl, hqx, hqy, q⟩ := come
  obtain ⟨u1, u2, rfl, ra, rb⟩ := vals2 r1
  cases ra
  cases rb
  obtain ⟨l1, rv1, p1, _⟩ := I1.list hqx
  obtain ⟨l2, rv2, p2, _⟩ := I1.tuple hqy
  have q1 : s1.heap.IsList a l1.toArray := p1.isList
  have q2 : s1.heap.IsTuple b l2.toArray := p2
  obtain ⟨o2, e2, _⟩ := id q2
  have la := p1.lt
  have lb : b < s1.heap.objs.size := Heap.lt_size e2
  refine zip_begins2 (begins_list a l1.toArray) (begins_tuple b l2.toArray) q1 q2 fun h' hz hTI hTO t1 t2 _ hk => wpAny_pyIter_zip hz ?_
  have I2 := I1.kept (t' := s1.toks) hk
  refine ⟨s1.heap.objs.size + 4, [s1.heap.objs.size + 4, s1.heap.objs.size + 2, s1.heap.objs.size + 3, s1.heap.objs.size, s1.heap.objs.size + 1], _, _, H1, rfl, I2,
    turn_zipM (zip_sep2 (N := s1.heap.objs.size) (fp1 := [a]) (fp2 := [b]) (fun d hd => by simp at hd; rw [hd]; exact la) (fun d hd => by simp at hd; rw [hd]; exact lb)) (Nat.ne_of_lt la) (Nat.ne_of_lt (Nat.lt_succ_of_lt lb)),
    ⟨hz, hTI, ⟨_, _, hTO⟩, ⟨_, t1, rfl, rfl⟩, ⟨_, t2, rfl, rfl⟩⟩, fun d hd => ?_, q⟩
  have late : s1.heap.objs.size ≤ d := by
    simp only [List.mem_cons, List.not_mem_nil, or_false] at hd
    rcases hd with rfl | rfl | rfl | rfl | rfl
    · exact Nat.le_add_right _ _
    · exact Nat.le_add_right _ _
    · exact Nat.le_add_right _ _
    · exact Nat.le_refl _
    · exact Nat.le_add_right _ _
  exact I1.fpOk late (I1.hok.fresh late)
theorem walk_zipM {K : PySem.W.Frag} {a b : Addr} {xs ys : List V} (hl : xs.length = ys.length) : Walk (ItzM K a b) xs.length (fun H => SqL K H a xs ∧ SqT K H b ys) (YPair (fun i => xs[i]?) (fun i => ys[i]?)) := by
  refine ⟨fun i _ hi q => ⟨xs, ys, xs[i], ys[i]'(hl ▸ hi), q.1, q.2, by simp [hi], by simp [hl ▸ hi]⟩, fun _ q => ⟨xs, ys, q.1, q.2, by omega⟩, fun i _ _ _ _ q ⟨T, x, z, e, n, l, one, two⟩ => ?_⟩
  exact ⟨T, x, z, e, n, l, one xs q.1, two ys q.2⟩
/-- repr(x) of data -/
def rReprD (K : PySem.W.Frag) : List V → Hp → VK → Prop := fun xs H Q => ∃ (x : V) (d : PyData), xs = [x] ∧ Dp K H x d ∧ d.showable = true ∧ d.hasDict = false ∧ d.depth ≤ 60 ∧ d.shown.length ≤ sizeLine ∧ Q (.str d.shown) H
theorem cr_reprD {X : Cx} (K : PySem.W.Frag) (deep : X.A.units + 64 < cLine) (quiet : X.A.guards = some []) (hK : X.K = K := by rfl) : CallR X (.builtin "repr") (rReprD K) := by
  subst hK
  rintro pins s σ H _ us Q I r ⟨x, d, rfl, dp, h1, h2, h3, h4, q⟩
  cases r with
  | cons r1 rr =>
  cases rr
  rename_i v
  obtain ⟨as, rd⟩ := Dp.reads I d x v dp r1
  cases dp with
  | non =>
    cases r1
    exact PySem.P.repr_of_none ⟨.str "None", H, I.tok _, ⟨_, rfl⟩, q⟩
  | bl b =>
    cases r1
    exact PySem.P.repr_of_bool ⟨.str _, H, I.tok _, ⟨_, rfl⟩, q⟩
  | int i =>
    obtain ⟨t, rfl⟩ := r1
    exact PySem.P.repr_of_int (of_decide_eq_true h1) ⟨.str _, H, I.tok _, ⟨_, rfl⟩, q⟩
  | str y =>
    obtain ⟨t, rfl⟩ := r1
    exact PySem.P.repr_of_str ⟨.str _, H, I.tok _, ⟨_, rfl⟩, q⟩ h4
  | lst _ _ =>
    cases r1
    exact repr_of_reads' rd h1 (fun z => absurd (h2.symm.trans z) (by decide)) quiet (by omega) (fun _ _ z => z) (fun hx u tk kp => ⟨.str _, H, I.kept kp, ⟨_, rfl⟩, q⟩) h4
  | tup _ _ =>
    cases r1
    exact repr_of_reads' rd h1 (fun z => absurd (h2.symm.trans z) (by decide)) quiet (by omega) (fun _ _ z => z) (fun hx u tk kp => ⟨.str _, H, I.kept kp, ⟨_, rfl⟩, q⟩) h4
end Tg

namespace Tg
open PySem PySem.Spec PyProof.Rows L2
/-! ### the text -/
def topS (i : Nat) : Stmt := PySem.Challenge.pw_timegranary_k06_folds.main.body.getD i (.Pass ⟨0, 0, 0, 0⟩)
abbrev sDraws : Stmt := topS 11
abbrev sNext : Stmt := topS 12
theorem scDraws : FnScope ["_law_cell", "_law_cut", "_law_k"] ["_law_cell"] (defScope sDraws) := ⟨rfl, rfl, rfl, by decide +kernel, rfl, by decide +kernel, by decide +kernel⟩
theorem scNext : FnScope ["_law_draws_here", "_law_k", "_law_number"] ["_law_draws_here"] (defScope sNext) := ⟨rfl, rfl, rfl, by decide +kernel, rfl, by decide +kernel, by decide +kernel⟩
section
variable {P : Program} {w : World} {K : PySem.W.Frag} {mg : Str → Option Value} {base : Heap}
/-! ### _law_draws -/
/-- the draws at p, of which at most n were taken -/
def Dr (H : Hp) (p : Addr) (n : Nat) : Prop := ∃ (a k : Int) (b : Bool), H p = some (.lst [.int a, .int k, .bl b]) ∧ 0 ≤ k ∧ k ≤ n
theorem Dr.same {H H' : Hp} {p : Addr} {n : Nat} (s : Same H H') (d : Dr H p n) : Dr H' p n := by
  obtain ⟨a, k, b, h, r⟩ := d
  exact ⟨a, k, b, s _ _ h, r⟩
theorem Dr.ne {H : Hp} {p l : Addr} {n : Nat} (d : Dr H p n) (h : H l = none) : l ≠ p := fun z => by
  obtain ⟨_, _, _, z2, _⟩ := d
  rw [z, z2] at h
  cases h
def spDraws : Sp := fun vs H Q _ => ∃ c : Int, vs = [.int c] ∧ ∀ (p : Addr) (a : Int) (b : Bool), H p = none → Q (.ref p) (upd H p (.lst [.int a, .int 0, .bl b]))
theorem ok_draws {f : Addr} {fd : FuncData} {k : Nat} (F : Fun K "_law_draws" "_law_draws" sDraws f fd) (mr : mg "range" = none) : FnOk P w K mg base CX0 (k + 1) f fd ["_law_cell"] spDraws := by
  refine F.ok scDraws (fun vs H Q E h => ?_) (fun cdv A outer s H vs Q E hr h => ?_)
  · obtain ⟨c, rfl, _⟩ := h
    rfl
  · obtain ⟨c, rfl, q⟩ := h
    refine ⟨_, pss_cons (ps_set (i := 1) scDraws.nd rfl (.inl rfl) (pe_op op_pow pe_int pe_int))
      (pss_cons (ps_for PassesOwn.never rfl (pi_range1 (by rfl) mr (pa_cons pe_int pa_nil)) (pg_name (i := 2) scDraws.nd rfl (.inl rfl))
        (pss_one (ps_set (i := 1) scDraws.nd rfl (.inl rfl) (pe_op op_mulW (pv 1) (pv 1)))))
      (pss_one (ps_ret (pe_lst (pa_cons (pe_op op_mod (pv 0) (pv 1)) (pa_cons pe_int (pa_cons (pe_cmpR op_ge (pv 0) (pe_op op_pow pe_int pe_int) (nomark _)) pa_nil))))))), ?_⟩
    refine ⟨10, 60, rfl, rfl, ⟨by decide, by decide, by decide⟩, ?_⟩
    refine ⟨7, rfl, by decide, by decide, for_range (n := 7) (fun i σ H2 => ∃ (x : Int) (y : Option V), σ = [some (.int c), some (.int x), y] ∧ H2 = H ∧ 0 < x ∧ x.natAbs < 2 ^ (200 * 2 ^ i)) ?_ ?_ ?_⟩
    · exact ⟨_, none, rfl, rfl, by decide, by decide⟩
    · rintro i σ H2 hi ⟨x, y, rfl, rfl, hx, hb⟩
      refine ⟨_, rfl, _, rfl, x, x, rfl, rfl, ?_, x * x, _, rfl, rfl, Int.mul_pos hx hx, ?_⟩
      · have h7 : 2 ^ i ≤ 2 ^ 6 := Nat.pow_le_pow_right (by decide) (by omega)
        have h0 : 0 < 2 ^ i := Nat.pow_pos (by decide)
        exact wide_mul hb hb (by omega) (by omega) (by omega)
      · have e := wide_lt hb hb
        rw [show 200 * 2 ^ (i + 1) = 200 * 2 ^ i + 200 * 2 ^ i by rw [Nat.pow_succ]; omega]
        exact e
    · rintro σ H2 ⟨x, y, rfl, rfl, hx, _⟩
      refine ⟨_, rfl, _, rfl, c, x, rfl, rfl, hx, _, rfl, 10, 18, rfl, rfl, ⟨by decide, by decide, by decide⟩, c, _, rfl, rfl, ?_, fun p hp => ?_⟩
      · show 3 ≤ sizeLine
        decide
      · exact q p _ _ hp
/-! ### _law_next -/
def spNext : Sp := fun vs H Q _ => ∃ (p : Addr) (n : Nat), vs = [.ref p] ∧ Dr H p n ∧ n < 1000000 ∧
  ∀ (v : Int) (H' : Hp), Kp p H H' → Dr H' p (n + 1) → 0 ≤ v → v < 1000000000 → Q (.int v) H'
theorem ok_next {f : Addr} {fd : FuncData} {k : Nat} (F : Fun K "_law_next" "_law_next" sNext f fd) : FnOk P w K mg base CX0 (k + 1) f fd ["_law_draws_here"] spNext := by
  refine F.ok scNext (fun vs H Q E h => ?_) (fun cdv A outer s H vs Q E hr h => ?_)
  · obtain ⟨p, n, rfl, _⟩ := h
    rfl
  · obtain ⟨p, n, rfl, ⟨a, k, b, hp, k0, kn⟩, hn, q⟩ := h
    refine ⟨_, pss_cons (ps_asg (pe_op op_add (pe_ix ix_list (pv 0) pe_int (fun _ _ => rfl)) pe_int) (pg_sub (pv 0) pe_int set_list))
      (pss_cons (ps_set (i := 1) scNext.nd rfl (.inl rfl) (pe_ix ix_list (pv 0) pe_int (fun _ _ => rfl)))
      (pss_cons (ps_if (pt_val (pe_ix ix_list (pv 0) pe_int (fun _ _ => rfl)))
        (pss_cons (ps_set (i := 2) scNext.nd rfl (.inl rfl) (pe_op op_mod (pe_ix ix_list (pv 0) pe_int (fun _ _ => rfl)) (pe_op op_pow pe_int pe_int)))
        (pss_cons (ps_asg (pe_op op_fdiv (pe_ix ix_list (pv 0) pe_int (fun _ _ => rfl)) (pe_op op_pow pe_int pe_int)) (pg_sub (pv 0) pe_int set_list))
        (pss_one (ps_ret (pv 2))))) pss_nil)
      (pss_cons (ps_set (i := 2) scNext.nd rfl (.inl rfl) (pe_op op_mod (pe_op op_mul (pe_op op_add (pe_op op_add (pe_op op_mod (pe_ix ix_list (pv 0) pe_int (fun _ _ => rfl)) pe_int) (pe_op op_mul (pe_op op_mul (pv 1) (pv 1)) pe_int)) (pv 1)) pe_int) pe_int))
      (pss_cons (ps_set (i := 2) scNext.nd rfl (.inl rfl) (pe_op op_mod (pe_op op_mul (pv 2) (pv 2)) pe_int))
      (pss_one (ps_ret (pe_op op_fdiv (pe_op op_mod (pe_op op_mul (pv 2) (pe_op op_add (pv 2) pe_int)) pe_int) pe_int))))))), ?_⟩
    have h1 : (upd H p (.lst [.int a, .int (k + 1), .bl b])) p = some (.lst [.int a, .int (k + 1), .bl b]) := upd_same
    refine ⟨_, rfl, p, _, 1, .int k, rfl, rfl, SqL.of hp, rfl, k, 1, rfl, rfl, _, rfl, p, _, 1, 1, rfl, rfl, hp, rfl, ?_⟩
    refine ⟨_, rfl, p, _, 1, .int (k + 1), rfl, rfl, SqL.of h1, rfl, ?_⟩
    refine ⟨_, rfl, p, _, 2, .bl b, rfl, rfl, SqL.of h1, rfl, b, rfl, ?_⟩
    cases b with
    | true =>
      refine ⟨_, rfl, p, _, 0, .int a, rfl, rfl, SqL.of h1, rfl, 10, 6, rfl, rfl, ⟨by decide, by decide, by decide⟩, a, 1000000, rfl, rfl, (by show (0 : Int) < 1000000; decide), ?_⟩
      refine ⟨_, rfl, p, _, 0, .int a, rfl, rfl, SqL.of h1, rfl, 10, 6, rfl, rfl, ⟨by decide, by decide, by decide⟩, a, 1000000, rfl, rfl, ⟨by decide, by decide⟩, _, rfl, p, _, 0, 0, rfl, rfl, h1, rfl, ?_⟩
      refine ⟨_, rfl, ?_⟩
      rw [upd_upd]
      exact q _ _ Kp.put ⟨_, _, _, upd_same, by omega, by omega⟩ (Int.emod_nonneg _ (by decide)) (Int.lt_of_lt_of_le (Int.emod_lt_of_pos _ (by decide)) (by decide))
    | false =>
      refine ⟨_, rfl, p, _, 0, .int a, rfl, rfl, SqL.of h1, rfl, a, 1000003, rfl, rfl, (by show (0 : Int) < 1000003; decide), _, rfl, _, rfl, k + 1, k + 1, rfl, rfl, .inl ⟨by omega, by omega⟩, _, 7919, rfl, rfl, .inr ⟨by decide, by decide⟩,
        _, _, rfl, rfl, _, rfl, _, k + 1, rfl, rfl, _, 48271, rfl, rfl, .inr ⟨by decide, by decide⟩, _, 2147483629, rfl, rfl, (by show (0 : Int) < 2147483629; decide), ?_⟩
      obtain ⟨x, ex⟩ : ∃ x : Int, (a % 1000003 + (k + 1) * (k + 1) * 7919 + (k + 1)) * 48271 % 2147483629 = x := ⟨_, rfl⟩
      have x0 : 0 ≤ x := by
        rw [← ex]
        exact Int.emod_nonneg _ (by decide)
      have x1 : x < 2147483629 := by
        rw [← ex]
        exact Int.emod_lt_of_pos _ (by decide)
      refine ⟨_, rfl, _, rfl, x, x, congrArg V.int ex, congrArg V.int ex, .inl ⟨by omega, by omega⟩, _, 2147483587, rfl, rfl, (by show (0 : Int) < 2147483587; decide), ?_⟩
      obtain ⟨y, ey⟩ : ∃ y : Int, x * x % 2147483587 = y := ⟨_, rfl⟩
      have y0 : 0 ≤ y := by
        rw [← ey]
        exact Int.emod_nonneg _ (by decide)
      have y1 : y < 2147483587 := by
        rw [← ey]
        exact Int.emod_lt_of_pos _ (by decide)
      refine ⟨_, rfl, _, rfl, y, 2, congrArg V.int ey, rfl, y, _, congrArg V.int ey, rfl, .inl ⟨by omega, by omega⟩, _, 2147483579, rfl, rfl, (by show (0 : Int) < 2147483579; decide), _, 7, rfl, rfl, ⟨by decide, by decide⟩, ?_⟩
      have z0 : 0 ≤ y * (y + 2) % 2147483579 := Int.emod_nonneg _ (by decide)
      have z1 : y * (y + 2) % 2147483579 < 2147483579 := Int.emod_lt_of_pos _ (by decide)
      exact q _ _ Kp.put ⟨_, _, _, upd_same, by omega, by omega⟩ (by omega) (by omega)
end
end Tg

namespace Tg
open PySem PySem.Spec PyProof.Rows L2
abbrev sFI : Stmt := inCls (topS 4) 0
abbrev sRisen : Stmt := topS 6
abbrev sHB : Stmt := topS 7
abbrev sCkR : Stmt := topS 8
abbrev NFI : List Str := ["self", "count", "total", "squares", "least", "greatest", "first", "last", "rise", "held"]
theorem scFI : FnScope NFI NFI (defScope sFI) := ⟨rfl, rfl, rfl, by decide +kernel, rfl, by decide +kernel, by decide +kernel⟩
theorem scRisen : FnScope ["ahead", "behind"] ["ahead", "behind"] (defScope sRisen) := ⟨rfl, rfl, rfl, by decide +kernel, rfl, by decide +kernel, by decide +kernel⟩
theorem scHB : FnScope ["ahead", "behind"] ["ahead", "behind"] (defScope sHB) := ⟨rfl, rfl, rfl, by decide +kernel, rfl, by decide +kernel, by decide +kernel⟩
theorem scCkR : FnScope ["points", "at"] ["points"] (defScope sCkR) := ⟨rfl, rfl, rfl, by decide +kernel, rfl, by decide +kernel, by decide +kernel⟩
theorem if_n {c : Bool} {A B : Prop} (h : c = false) (b : B) : if c = true then A else B := by
  subst h
  exact if_f b
theorem if_y {c : Bool} {A B : Prop} (h : c = true) (a : A) : if c = true then A else B := by
  subst h
  exact if_t a
/-! ### points and their folds -/
abbrev Pt := Int × Int
def stp (a b : Int) : Int := if b ≥ a then b - a else if 0 > b then 0 else b
def hld (p q : Pt) : Int := p.2 * (q.1 - p.1)
def wts (ps : List Pt) : List Int := ps.map (·.2)
structure FD where
  cnt : Int
  tot : Int
  sq : Int
  lo : Option Int
  hi : Option Int
  fst : Option Pt
  lst : Option Pt
  ris : Int
  hel : Int
def fOf (ps : List Pt) : FD := ⟨ps.length, (wts ps).sum, ((wts ps).map fun w => w * w).sum, (wts ps).min?, (wts ps).max?, ps.head?, ps.getLast?, (List.zipWith stp (wts ps) ((wts ps).drop 1)).sum, (List.zipWith hld ps (ps.drop 1)).sum⟩
theorem min_is {ns : List Int} {m : Int} (h : m ∈ ns) (le : ∀ y, y ∈ ns → m ≤ y) : ns.min? = some m := List.min?_eq_some_iff.mpr ⟨h, le⟩
theorem max_is {ns : List Int} {m : Int} (h : m ∈ ns) (le : ∀ y, y ∈ ns → y ≤ m) : ns.max? = some m := List.max?_eq_some_iff.mpr ⟨h, le⟩
/-- points whose times rise, of some size -/
structure POk (ps : List Pt) : Prop where
  len : ps.length < 40
  up : ∀ (i : Nat) (p q : Pt), ps[i]? = some p → ps[i + 1]? = some q → p.1 < q.1
  sz : ∀ p, p ∈ ps → p.2.natAbs < 2 ^ 60
section
variable {K : PySem.W.Frag} {H H' : Hp}
/-- a point or None -/
def PO (K : PySem.W.Frag) (H : Hp) (v : V) : Option Pt → Prop
  | none => v = .non
  | some p => ∃ t, v = .ref t ∧ SqT K H t [.int p.1, .int p.2]
theorem PO.same {v : V} (s : Same H H') : ∀ {o : Option Pt}, PO K H v o → PO K H' v o
  | none, h => h
  | some p, ⟨t, e, h⟩ => ⟨t, e, sqT_same s h⟩
theorem dp_pd {v : V} {x : Pt} (h : Dp K H v (pd x)) : ∃ a, v = .ref a ∧ SqT K H a [.int x.1, .int x.2] := by
  cases h with
  | tup a b =>
    cases b with
    | cons h1 b =>
      cases b with
      | cons h2 b =>
        cases b
        cases h1
        cases h2
        exact ⟨_, rfl, a⟩
def flds (F : FD) (vf vl : V) : List (Str × V) := [("count", .int F.cnt), ("total", .int F.tot), ("squares", .int F.sq), ("least", vw F.lo), ("greatest", vw F.hi), ("first", vf), ("last", vl), ("rise", .int F.ris), ("held", .int F.hel)]
/-- a Fold in the heap -/
def FdO (K : PySem.W.Frag) (C : Addr) (H : Hp) (a : Addr) (F : FD) : Prop := ∃ dx vf vl, H a = some (.ins C dx (flds F vf vl)) ∧ PO K H vf F.fst ∧ PO K H vl F.lst
theorem FdO.same {C a : Addr} {F : FD} (s : Same H H') (h : FdO K C H a F) : FdO K C H' a F := by
  obtain ⟨dx, vf, vl, e, h1, h2⟩ := h
  exact ⟨dx, vf, vl, s _ _ e, h1.same s, h2.same s⟩
/-- points in a list -/
def PtL (K : PySem.W.Frag) (H : Hp) (l : Addr) (ps : List Pt) : Prop := ∃ xs, SqL K H l xs ∧ DpAll K H xs (ps.map pd)
theorem PtL.same {l : Addr} {ps : List Pt} (s : Same H H') (h : PtL K H l ps) : PtL K H' l ps := by
  obtain ⟨xs, h1, h2⟩ := h
  exact ⟨xs, sqL_same s h1, dpAll_same s h2⟩
structure TFold (K : PySem.W.Frag) (C : Addr) : Prop where
  cl : Cls K C
  no : ∀ n, n ∈ ["count", "total", "squares", "least", "greatest", "first", "last", "rise", "held"] → PySem.W.findIn K (.ref C) n = some none
end
section
variable {P : Program} {w : World} {K : PySem.W.Frag} {mg : Str → Option Value} {base : Heap} {C : Addr}
/-- C(k = v, ..), keywords alone -/
def CalCK (P : Program) (w : World) (K : PySem.W.Frag) (mg : Str → Option Value) (base : Heap) (k : Nat) (x : Str) (C : Addr) (ps ks : List Str) (gV : List V → List V → List V) (sp : Sp) : Prop := ∃ f fd g, FnOk P w K mg base CX0 k f fd ps sp ∧ mg x = some (.ref C) ∧ Mk K C f ∧ KBn K fd ps 1 ks g gV
theorem pe_calCK {X : Cx} {k : Nat} {x : Str} {ps ks : List Str} {gV : List V → List V → List V} {sp : Sp} {kws : List Keyword} {tk : TA} {p pos : Pos} (c : CalCK X.prog X.w X.K X.mg X.base k x C ps ks gV sp) (hr : Room (k + 1) X.A) (gl : Gl X x) (vals : PK X kws tk)
    (named : (backToKw pos (keywordEach kws X.env)).all (·.1.isSome) = true := by rfl) (names : (backToKw pos (keywordEach kws X.env)).filterMap (·.1) = ks := by rfl) (nodebug : (x == ("__debug__" : Str)) = false := by decide)
    (nostar : ((backTo pos (starEach [] X.env)).any (·.1) || (backToKw pos (keywordEach kws X.env)).any (·.1.isNone)) = false := by rfl) :
    PE X (.Call (.Name x p) [] kws pos) (tMakeK C 0 ks.length sp gV E0 tNil tk) := by
  obtain ⟨f, fd, g, F, hm, M, hb⟩ := c
  exact pe_makeK0 M F hr gl hm hb pass0 vals named names nodebug nostar
/-! ### Fold.__init__ -/
def spFI (C : Addr) : Sp := fun vs H Q _ => ∃ (p dx : Addr) (a b c d e f g h i : V), vs = [.ref p, a, b, c, d, e, f, g, h, i] ∧ H p = some (.ins C dx []) ∧
  Q .non (upd H p (.ins C dx [("count", a), ("total", b), ("squares", c), ("least", d), ("greatest", e), ("first", f), ("last", g), ("rise", h), ("held", i)]))
theorem ok_fi {f : Addr} {fd : FuncData} {kws : List (Str × V)} {k : Nat} (F : FunD K "__init__" "Fold.__init__" (defArgs sFI) (defBody sFI) (defScope sFI) [] kws f fd) (T : TFold K C) : FnOk P w K mg base CX0 (k + 1) f fd NFI (spFI C) := by
  refine F.ok scFI (fun vs H Q E h => ?_) (fun cdv A outer s H vs Q E hr h => ?_)
  · obtain ⟨p, dx, a, b, c, d, e, f, g, h, i, rfl, _⟩ := h
    rfl
  · obtain ⟨p, dx, a, b, c, d, e, f, g, h, i, rfl, hp, q⟩ := h
    refine ⟨_, pss_cons (ps_fld (pv 0) (pv 1) rfl) (pss_cons (ps_fld (pv 0) (pv 2) rfl) (pss_cons (ps_fld (pv 0) (pv 3) rfl) (pss_cons (ps_fld (pv 0) (pv 4) rfl) (pss_cons (ps_fld (pv 0) (pv 5) rfl)
      (pss_cons (ps_fld (pv 0) (pv 6) rfl) (pss_cons (ps_fld (pv 0) (pv 7) rfl) (pss_cons (ps_fld (pv 0) (pv 8) rfl) (pss_one (ps_fld (pv 0) (pv 9) rfl))))))))), ?_⟩
    refine ⟨_, rfl, _, rfl, p, C, dx, _, rfl, hp, T.cl, T.no _ (by decide), (by show 0 < 1000; decide), ?_⟩
    refine ⟨_, rfl, _, rfl, p, C, dx, _, rfl, upd_same, T.cl, T.no _ (by decide), (by show 1 < 1000; decide), ?_⟩
    rw [upd_upd]
    refine ⟨_, rfl, _, rfl, p, C, dx, _, rfl, upd_same, T.cl, T.no _ (by decide), (by show 2 < 1000; decide), ?_⟩
    rw [upd_upd]
    refine ⟨_, rfl, _, rfl, p, C, dx, _, rfl, upd_same, T.cl, T.no _ (by decide), (by show 3 < 1000; decide), ?_⟩
    rw [upd_upd]
    refine ⟨_, rfl, _, rfl, p, C, dx, _, rfl, upd_same, T.cl, T.no _ (by decide), (by show 4 < 1000; decide), ?_⟩
    rw [upd_upd]
    refine ⟨_, rfl, _, rfl, p, C, dx, _, rfl, upd_same, T.cl, T.no _ (by decide), (by show 5 < 1000; decide), ?_⟩
    rw [upd_upd]
    refine ⟨_, rfl, _, rfl, p, C, dx, _, rfl, upd_same, T.cl, T.no _ (by decide), (by show 6 < 1000; decide), ?_⟩
    rw [upd_upd]
    refine ⟨_, rfl, _, rfl, p, C, dx, _, rfl, upd_same, T.cl, T.no _ (by decide), (by show 7 < 1000; decide), ?_⟩
    rw [upd_upd]
    refine ⟨_, rfl, _, rfl, p, C, dx, _, rfl, upd_same, T.cl, T.no _ (by decide), (by show 8 < 1000; decide), ?_⟩
    rw [upd_upd]
    exact q
/-! ### risen, held_between, check_rising -/
def spRisen : Sp := fun vs H Q _ => ∃ a b : Int, vs = [.int a, .int b] ∧ Q (.int (stp a b)) H
theorem ok_risen {f : Addr} {fd : FuncData} {k : Nat} (F : Fun K "risen" "risen" sRisen f fd) (m_max : mg "max" = none) : FnOk P w K mg base CX0 (k + 1) f fd ["ahead", "behind"] spRisen := by
  refine F.ok scRisen (fun vs H Q E h => ?_) (fun cdv A outer s H vs Q E hr h => ?_)
  · obtain ⟨a, b, rfl, _⟩ := h
    rfl
  · obtain ⟨a, b, rfl, q⟩ := h
    refine ⟨_, pss_cons (ps_if (pt_cmpR op_ge (pv 1) (pv 0) (nomark _))
        (pss_one (ps_ret (pe_op op_sub (pv 1) (pv 0))))
        pss_nil)
      (pss_one (ps_ret (pe_callB (call_max2 rfl) (by rfl) m_max (by decide +kernel) (pa_cons (pv 1) (pa_cons pe_int pa_nil))))), ?_⟩
    unfold stp at q
    refine ⟨_, rfl, _, rfl, _, _, rfl, rfl, _, rfl, ite2 (fun g => ?_) (fun g => ?_)⟩
    · rw [if_pos (of_decide_eq_true g)] at q
      exact ⟨_, rfl, _, rfl, _, _, rfl, rfl, q⟩
    · rw [if_neg (fun z => g (decide_eq_true z))] at q
      exact ⟨_, rfl, _, _, rfl, q⟩
def spHB (K : PySem.W.Frag) : Sp := fun vs H Q _ => ∃ (a b : Addr) (p q : Pt), vs = [.ref a, .ref b] ∧ SqT K H a [.int p.1, .int p.2] ∧ SqT K H b [.int q.1, .int q.2] ∧ p.2.natAbs < 2 ^ 60 ∧ Q (.int (hld p q)) H
theorem small_mul {i j : Int} (h : i.natAbs < 2 ^ 60) : CMul i j := .inl ⟨by omega, by omega⟩
theorem ok_hb {f : Addr} {fd : FuncData} {k : Nat} (F : Fun K "held_between" "held_between" sHB f fd) : FnOk P w K mg base CX0 (k + 1) f fd ["ahead", "behind"] (spHB K) := by
  refine F.ok scHB (fun vs H Q E h => ?_) (fun cdv A outer s H vs Q E hr h => ?_)
  · obtain ⟨a, b, p, q, rfl, _⟩ := h
    rfl
  · obtain ⟨a, b, p, q, rfl, ha, hb, hs, fin⟩ := h
    refine ⟨_, pss_one (ps_ret (pe_op op_mul (pe_ix ix_tup (pv 0) pe_int (fun _ _ => rfl)) (pe_op op_sub (pe_ix ix_tup (pv 1) pe_int (fun _ _ => rfl)) (pe_ix ix_tup (pv 0) pe_int (fun _ _ => rfl))))), ?_⟩
    exact ⟨_, rfl, a, _, _, _, rfl, rfl, ha, rfl, _, rfl, b, _, _, _, rfl, rfl, hb, rfl, _, rfl, a, _, _, _, rfl, rfl, ha, rfl, _, _, rfl, rfl, _, _, rfl, rfl, small_mul hs, fin⟩
def spCkR (K : PySem.W.Frag) : Sp := fun vs H Q _ => ∃ (l : Addr) (ps : List Pt), vs = [.ref l] ∧ PtL K H l ps ∧ POk ps ∧ Q .non H
theorem ok_ckR {f : Addr} {fd : FuncData} {k : Nat} (F : Fun K "check_rising" "check_rising" sCkR f fd) (m_range : mg "range" = none) (m_len : mg "len" = none) : FnOk P w K mg base CX0 (k + 1) f fd ["points"] (spCkR K) := by
  refine F.ok scCkR (fun vs H Q E h => ?_) (fun cdv A outer s H vs Q E hr h => ?_)
  · obtain ⟨l, ps, rfl, _⟩ := h
    rfl
  · obtain ⟨l, ps, rfl, ⟨xs, hl, hd⟩, ok, q⟩ := h
    refine ⟨_, pss_one (ps_for PassesOwn.never rfl (pi_range2 (by rfl) m_range (pa_cons pe_int (pa_cons (pe_callB call_len_seq (by rfl) m_len (by decide +kernel) (pa_cons (pv 0) pa_nil)) pa_nil))) (pg_name (i := 1) scCkR.nd rfl (.inl rfl))
        (pss_one (ps_if (pt_cmpR op_le (pe_ix ix_tup (pe_ix ix_list (pv 0) (pv 1) (fun _ _ => rfl)) pe_int (fun _ _ => rfl)) (pe_ix ix_tup (pe_ix ix_list (pv 0) (pe_op op_sub (pv 1) pe_int) (fun _ _ => rfl)) pe_int (fun _ _ => rfl)) (nomark _))
          (pss_one ps_dead)
          pss_nil))), ?_⟩
    have ll := dl_len hd
    have l40 := ok.len
    refine ⟨_, rfl, l, xs, rfl, .inl hl, 1, _, rfl, ⟨by decide, by decide, by omega, by omega⟩, ?_⟩
    rw [show (((xs.length : Nat) : Int) - 1).toNat = xs.length - 1 by omega]
    refine for_range (n := xs.length - 1) (fun i σ H2 => ∃ z : Option V, σ = [some (.ref l), z] ∧ H2 = H) ⟨none, rfl, rfl⟩ ?_ ?_
    · rintro i σ H2 hi ⟨z, rfl, rfl⟩
      obtain ⟨p, hp⟩ : ∃ p, ps[i]? = some p := ⟨_, List.getElem?_eq_getElem (by omega)⟩
      obtain ⟨r, hr2⟩ : ∃ r, ps[i + 1]? = some r := ⟨_, List.getElem?_eq_getElem (by omega)⟩
      obtain ⟨v1, e1, d1⟩ := dl_get hd hp
      obtain ⟨v2, e2, d2⟩ := dl_get hd hr2
      obtain ⟨t1, rfl, h1⟩ := dp_pd d1
      obtain ⟨t2, rfl, h2⟩ := dp_pd d2
      have lt := ok.up i p r hp hr2
      refine ⟨_, rfl, _, rfl, l, xs, _, .ref t2, rfl, rfl, hl, ?_, t2, _, _, _, rfl, rfl, h2, rfl, _, rfl, _, rfl, _, _, rfl, rfl, l, xs, _, .ref t1, rfl, rfl, hl, ?_, t1, _, _, _, rfl, rfl, h1, rfl, _, _, rfl, rfl, _, rfl, if_n ?_ ⟨_, rfl, rfl⟩⟩
      · rw [show (1 + ((i : Nat) : Int)) = ((i + 1 : Nat) : Int) by omega]
        exact atI_nat e2
      · rw [show (1 + ((i : Nat) : Int)) - 1 = ((i : Nat) : Int) by omega]
        exact atI_nat e1
      · exact decide_eq_false (by omega)
    · rintro σ H2 ⟨z, rfl, rfl⟩
      exact q
end
end Tg

namespace Tg
open PySem PySem.Spec PyProof.Rows L2
abbrev sFO : Stmt := topS 9
abbrev NFO : List Str := ["points", "told", "worths", "time", "worth", "ahead", "behind"]
theorem scFO : FnScope NFO ["points"] (defScope sFO) := ⟨rfl, rfl, rfl, by decide +kernel, rfl, by decide +kernel, by decide +kernel⟩
theorem cut_from (xs : List V) (a : Nat) : cutV xs (some (a : Int)) none = xs.drop a := by
  unfold cutV
  rw [HT.sIx_none, HT.sIx_nat]
  rcases Nat.le_total a xs.length with h | h
  · rw [Nat.min_eq_left h]
    exact List.take_of_length_le (by rw [List.length_drop]; exact Nat.le_refl _)
  · rw [Nat.min_eq_right h, List.drop_length, List.drop_of_length_le h, List.take_nil]
theorem cut_1 (xs : List V) : cutV xs (some 1) none = xs.drop 1 := cut_from xs 1
theorem fd_made {K : PySem.W.Frag} {C x dx : Addr} {H : Hp} (nx : H x = none) (nd : H dx = none) (ne : dx ≠ x) {F : FD} {vf vl : V} (h1 : PO K H vf F.fst) (h2 : PO K H vl F.lst) :
    Same H (upd (upd (upd H dx (.own x)) x (.ins C dx [])) x (.ins C dx (flds F vf vl))) ∧ FdO K C (upd (upd (upd H dx (.own x)) x (.ins C dx [])) x (.ins C dx (flds F vf vl))) x F := by
  have sm : Same H (upd (upd (upd H dx (.own x)) x (.ins C dx [])) x (.ins C dx (flds F vf vl))) := same_put nx (same_put nx (same_new nd))
  exact ⟨sm, dx, vf, vl, upd_same, h1.same sm, h2.same sm⟩
theorem fOf_nil : fOf [] = ⟨0, 0, 0, none, none, none, none, 0, 0⟩ := rfl
theorem wts_at {ps : List Pt} {i : Nat} {p : Pt} (h : ps[i]? = some p) : (wts ps)[i]? = some p.2 := by
  unfold wts
  rw [List.getElem?_map, h]
  rfl
theorem wts_len (ps : List Pt) : (wts ps).length = ps.length := List.length_map ..
theorem zw_at {α β γ : Type} {f : α → β → γ} {xs : List α} {ys : List β} {i : Nat} {a : α} {b : β} (h1 : xs[i]? = some a) (h2 : ys[i]? = some b) : (List.zipWith f xs ys)[i]? = some (f a b) := by
  rw [List.getElem?_zipWith, h1, h2]
theorem mapi_at {ns : List Int} {i : Nat} {v : V} (h : (ns.map V.int)[i]? = some v) : ∃ a, ns[i]? = some a ∧ v = .int a := by
  rw [List.getElem?_map] at h
  obtain ⟨a, h1, rfl⟩ := Option.map_eq_some_iff.mp h
  exact ⟨a, h1, rfl⟩
theorem atI_end {xs : List V} {v : V} (h : xs.getLast? = some v) : atI xs (-1) = some v := by
  obtain ⟨ys, rfl⟩ := List.getLast?_eq_some_iff.mp h
  exact atI_last ys v
theorem pt_ends {K : PySem.W.Frag} {H : Hp} {xs : List V} {ps : List Pt} (hd : DpAll K H xs (ps.map pd)) (ne : ps ≠ []) :
    (∃ t p, atI xs 0 = some (.ref t) ∧ ps.head? = some p ∧ SqT K H t [.int p.1, .int p.2]) ∧ ∃ t p, atI xs (-1) = some (.ref t) ∧ ps.getLast? = some p ∧ SqT K H t [.int p.1, .int p.2] := by
  have l0 : 0 < ps.length := List.length_pos_iff.mpr ne
  have ll := dl_len hd
  constructor
  · obtain ⟨p, hp⟩ : ∃ p, ps[0]? = some p := ⟨_, List.getElem?_eq_getElem l0⟩
    obtain ⟨v, e, d⟩ := dl_get hd hp
    obtain ⟨t, rfl, h⟩ := dp_pd d
    exact ⟨t, p, atI_nat e, by rw [List.head?_eq_getElem?]; exact hp, h⟩
  · obtain ⟨p, hp⟩ : ∃ p, ps[ps.length - 1]? = some p := ⟨_, List.getElem?_eq_getElem (by omega)⟩
    obtain ⟨v, e, d⟩ := dl_get hd hp
    obtain ⟨t, rfl, h⟩ := dp_pd d
    exact ⟨t, p, atI_end (by rw [List.getLast?_eq_getElem?, ll]; exact e), by rw [List.getLast?_eq_getElem?]; exact hp, h⟩
abbrev kFold : List Str := ["count", "total", "squares", "least", "greatest", "first", "last", "rise", "held"]
section
variable {P : Program} {w : World} {K : PySem.W.Frag} {mg : Str → Option Value} {base : Heap} {C : Addr}
abbrev KF9 (P : Program) (w : World) (K : PySem.W.Frag) (mg : Str → Option Value) (base : Heap) (C : Addr) (k : Nat) : Prop := CalCK P w K mg base k "Fold" C NFI kFold (fun vs zs => vs ++ zs) (spFI C)
abbrev KF0 (P : Program) (w : World) (K : PySem.W.Frag) (mg : Str → Option Value) (base : Heap) (C : Addr) (k : Nat) : Prop := CalCK P w K mg base k "Fold" C NFI [] (fun vs _ => vs ++ [.int 0, .int 0, .int 0, .non, .non, .non, .non, .int 0, .int 0]) (spFI C)
def spFO (K : PySem.W.Frag) (C : Addr) : Sp := fun vs H Q _ => ∃ (l : Addr) (ps : List Pt), vs = [.ref l] ∧ PtL K H l ps ∧ POk ps ∧ ∀ a H', Same H H' → FdO K C H' a (fOf ps) → Q (.ref a) H'
theorem ok_fo {f : Addr} {fd : FuncData} {k : Nat} (F : Fun K "fold_of" "fold_of" sFO f fd) (C_check_rising : Cal P w K mg base k "check_rising" ["points"] (spCkR K)) (K_Fold0 : KF0 P w K mg base C k) (K_Fold9 : KF9 P w K mg base C k) (C_risen : Cal P w K mg base k "risen" ["ahead", "behind"] spRisen) (C_held_between : Cal P w K mg base k "held_between" ["ahead", "behind"] (spHB K))
    (m_list : mg "list" = none) (m_len : mg "len" = none) (m_sum : mg "sum" = none) (m_min : mg "min" = none) (m_max : mg "max" = none) (m_zip : mg "zip" = none) : FnOk P w K mg base CX0 (k + 2) f fd ["points"] (spFO K C) := by
  refine F.ok scFO (fun vs H Q E h => ?_) (fun cdv A outer s H vs Q E hr h => ?_)
  · obtain ⟨l, ps, rfl, _⟩ := h
    rfl
  · obtain ⟨l, ps, rfl, ⟨xs, hl, hd⟩, ok, q⟩ := h
    refine ⟨_, pss_cons (ps_set (i := 1) scFO.nd rfl (.inl rfl) (pe_callTy call_list_of (by rfl) m_list (by decide +kernel) (pa_cons (pv 0) pa_nil)))
      (pss_cons (ps_expr (pe_cal C_check_rising (hr.mono (by omega)) (by rfl) (pa_cons (pv 1) pa_nil)))
      (pss_cons (ps_if (pt_not (pt_truth (pv 1) (fun _ => rfl)))
        (pss_one (ps_ret (pe_calCK K_Fold0 (hr.mono (by omega)) (by rfl) pk_nil)))
        pss_nil)
      (pss_cons (ps_setLc (i := 2) (own := [("time", 3), ("worth", 4)]) (g := gTup K 2 _) (tt := tYes) rfl scFO.nd rfl rfl (sw_true rfl rfl rfl (by decide +kernel)) (pi_list (pv 1)) (blkOk_by (own := [("time", 3), ("worth", 4)]) (N := NFO) (sc := defScope sFO) (by decide +kernel)) (fun _ _ _ _ _ => (pg_tup rfl (pgs_cons (pg_name (i := 3) scFO.nd rfl (.inl rfl)) (pgs_cons (pg_name (i := 4) scFO.nd rfl (.inl rfl)) pgs_nil)))) (fun _ _ _ _ _ => pts_nil) (fun _ _ _ _ _ => (pv 4)))
      (pss_one (ps_ret (pe_calCK K_Fold9 (hr.mono (by omega)) (by rfl) (pk_cons (pe_callB call_len_seq (by rfl) m_len (by decide +kernel) (pa_cons (pv 1) pa_nil)) (pk_cons (pe_callB (cr_sum rfl) (by rfl) m_sum (by decide +kernel) (pa_cons (pv 2) pa_nil)) (pk_cons (pe_callB (cr_sum rfl) (by rfl) m_sum (by decide +kernel) (pa_cons (pe_lc (own := [("worth", 4)]) (g := (gName 4)) (tt := tYes) rfl scFO.nd (pi_list (pv 2)) (blkOk_by (own := [("worth", 4)]) (N := NFO) (sc := defScope sFO) (by decide +kernel)) (fun _ _ _ _ _ => (pg_name (i := 4) scFO.nd rfl (.inl rfl))) (fun _ _ _ _ _ => pts_nil) (fun _ _ _ _ _ => (pe_op op_mul (pv 4) (pv 4)))) pa_nil)) (pk_cons (pe_callB (cr_min rfl) (by rfl) m_min (by decide +kernel) (pa_cons (pv 2) pa_nil)) (pk_cons (pe_callB (cr_max rfl) (by rfl) m_max (by decide +kernel) (pa_cons (pv 2) pa_nil)) (pk_cons (pe_ix ix_list (pv 1) pe_int (fun _ _ => rfl)) (pk_cons (pe_ix ix_list (pv 1) (pe_un un_neg pe_int) (fun _ _ => rfl)) (pk_cons (pe_callB (cr_sum rfl) (by rfl) m_sum (by decide +kernel) (pa_cons (pe_lc (own := [("ahead", 5), ("behind", 6)]) (g := gTup K 2 _) (tt := tYes) rfl scFO.nd (pi_zip (by rfl) m_zip (pa_cons (pv 2) (pa_cons (pe_slice sl_list (pv 2) (po_some pe_int) po_none) pa_nil))) (blkOk_by (own := [("ahead", 5), ("behind", 6)]) (N := NFO) (sc := defScope sFO) (by decide +kernel)) (fun _ _ _ _ _ => (pg_tup rfl (pgs_cons (pg_name (i := 5) scFO.nd rfl (.inl rfl)) (pgs_cons (pg_name (i := 6) scFO.nd rfl (.inl rfl)) pgs_nil)))) (fun _ _ _ _ _ => pts_nil) (fun _ _ _ _ _ => (pe_cal C_risen (hr.mono (by omega)) (by rfl) (pa_cons (pv 5) (pa_cons (pv 6) pa_nil))))) pa_nil)) (pk_cons (pe_callB (cr_sum rfl) (by rfl) m_sum (by decide +kernel) (pa_cons (pe_lc (own := [("ahead", 5), ("behind", 6)]) (g := gTup K 2 _) (tt := tYes) rfl scFO.nd (pi_zip (by rfl) m_zip (pa_cons (pv 1) (pa_cons (pe_slice sl_list (pv 1) (po_some pe_int) po_none) pa_nil))) (blkOk_by (own := [("ahead", 5), ("behind", 6)]) (N := NFO) (sc := defScope sFO) (by decide +kernel)) (fun _ _ _ _ _ => (pg_tup rfl (pgs_cons (pg_name (i := 5) scFO.nd rfl (.inl rfl)) (pgs_cons (pg_name (i := 6) scFO.nd rfl (.inl rfl)) pgs_nil)))) (fun _ _ _ _ _ => pts_nil) (fun _ _ _ _ _ => (pe_cal C_held_between (hr.mono (by omega)) (by rfl) (pa_cons (pv 5) (pa_cons (pv 6) pa_nil))))) pa_nil)) pk_nil))))))))))))))), ?_⟩
    have ll := dl_len hd
    have l40 := ok.len
    refine ⟨_, rfl, l, xs, rfl, .inl hl, fun t nt => ?_⟩
    have s1 : Same H (upd H t (.lst xs)) := same_new nt
    obtain ⟨H1, e1⟩ : ∃ H1, upd H t (.lst xs) = H1 := ⟨_, rfl⟩
    have ht1 : H1 t = some (.lst xs) := by
      rw [← e1]
      exact upd_same
    rw [e1] at s1
    rw [e1]
    have hd1 := dpAll_same s1 hd
    refine ⟨_, rfl, t, ps, rfl, ⟨xs, SqL.of ht1, hd1⟩, ok, ?_⟩
    refine ⟨_, rfl, !xs.isEmpty, .inl ⟨xs, SqL.of ht1, rfl⟩, ?_⟩
    cases ps with
    | nil =>
      obtain rfl : xs = [] := List.length_eq_zero_iff.mp ll
      refine if_t ⟨rfl, rfl, fun x dx nx nd ne => ⟨x, dx, _, _, _, _, _, _, _, _, _, rfl, upd_same, rfl, ?_⟩⟩
      have z := fd_made (K := K) (C := C) nx nd ne (F := fOf []) (vf := .non) (vl := .non) rfl rfl
      exact q x _ (s1.trans z.1) z.2
    | cons p0 pr =>
      obtain ⟨ps, eps⟩ : ∃ ps, p0 :: pr = ps := ⟨_, rfl⟩
      have h0 : ps[0]? = some p0 := by
        rw [← eps]
        rfl
      have hne : ps ≠ [] := by
        rw [← eps]
        exact List.cons_ne_nil _ _
      rw [eps] at hd hd1 ok ll l40 q
      have l0 : 0 < ps.length := List.length_pos_iff.mpr hne
      have xe : xs.isEmpty = false := by
        cases xs with
        | nil => rw [← ll] at l0; cases l0
        | cons a b => rfl
      rw [xe]
      refine if_f ⟨_, rfl, t, rfl, ⟨_, SqL.of ht1⟩, fun D1 nD1 => lc_list (K := K) (a := t) (xs := xs) (fun j Hc => Same H1 Hc ∧ Hc D1 = some (.lst (((wts ps).take j).map V.int))) ⟨same_new nD1, upd_same⟩ (fun j Hc _ h => SqL.of (h.1 _ _ ht1)) ?_ ?_⟩
      · rintro j v Hc hj ⟨sc, hD⟩
        obtain ⟨r, hr1, dr⟩ := dl_at hd1 hj
        obtain ⟨a, rfl, ha⟩ := dp_pd (dp_same sc dr)
        refine ⟨a, _, rfl, ha, rfl, _, _, rfl, _, [], rfl, rfl, rfl, ?_⟩
        unfold tYes
        dsimp only
        rw [if_pos rfl]
        refine ⟨_, rfl, _, hD, ?_, same_put nD1 sc, ?_⟩
        · rw [List.length_map, List.length_take, wts_len]
          exact small1000 (by omega)
        · rw [upd_same, take_snoc (wts_at hr1), List.map_append]
          rfl
      · rintro H2 ⟨s2, hD1⟩
        rw [ll, ← wts_len, List.take_length] at hD1
        have hd2 := dpAll_same s2 hd1
        have ht2 := s2 _ _ ht1
        have lw0 : 0 < (wts ps).length := by
          rw [wts_len]
          exact l0
        -- the squares
        refine ⟨_, rfl, t, xs, rfl, .inl (SqL.of ht2), _, rfl, D1, wts ps, rfl, SqL.of hD1, _, rfl, D1, rfl, ⟨_, SqL.of hD1⟩, fun D3 nD3 => lc_list (K := K) (a := D1) (xs := (wts ps).map V.int) (fun j Hc => Same H2 Hc ∧ Hc D3 = some (.lst ((((wts ps).map fun w => w * w).take j).map V.int))) ⟨same_new nD3, upd_same⟩ (fun j Hc _ h => SqL.of (h.1 _ _ hD1)) ?_ ?_⟩
        · rintro j v Hc hj ⟨sc, hD⟩
          obtain ⟨a, ha, rfl⟩ := mapi_at hj
          refine ⟨rfl, ?_⟩
          unfold tYes
          dsimp only
          rw [if_pos rfl]
          have sz : a.natAbs < 2 ^ 60 := by
            obtain ⟨p, hp, rfl⟩ := List.mem_map.mp (List.mem_of_getElem? ha)
            exact ok.sz p hp
          have e2 : ((wts ps).map fun w => w * w)[j]? = some (a * a) := by rw [List.getElem?_map, ha]; rfl
          refine ⟨_, rfl, _, rfl, _, _, rfl, rfl, small_mul sz, _, hD, ?_, same_put nD3 sc, ?_⟩
          · rw [List.length_map, List.length_take, List.length_map, wts_len]
            exact small1000 (by omega)
          · rw [upd_same, take_snoc e2, List.map_append]
            rfl
        · rintro H3 ⟨s3, hD3⟩
          rw [List.length_map, ← List.length_map (as := wts ps) (f := fun w => w * w), List.take_length] at hD3
          have hD1' := s3 _ _ hD1
          have ht3 := s3 _ _ ht2
          have hd3 := dpAll_same s3 hd2
          obtain ⟨⟨ta, pa, ea, eA, hA⟩, ⟨tz, pz, ez, eZ, hZ⟩⟩ := pt_ends hd3 hne
          refine ⟨D3, _, rfl, SqL.of hD3, _, rfl, D1, wts ps, rfl, SqL.of hD1', lw0, fun mn mn1 mn2 => ⟨_, rfl, D1, wts ps, rfl, SqL.of hD1', lw0, fun mx mx1 mx2 => ?_⟩⟩
          refine ⟨_, rfl, t, xs, _, _, rfl, rfl, SqL.of ht3, ea, _, rfl, 1, rfl, t, xs, _, _, rfl, rfl, SqL.of ht3, ez, ?_⟩
          -- the rises
          refine ⟨_, rfl, _, rfl, 1, rfl, D1, _, rfl, SqL.of hD1', fun S4 nS4 => ?_⟩
          rw [cut_1, ← List.map_drop]
          have s4 : Same H3 (upd H3 S4 (.lst (((wts ps).drop 1).map V.int))) := same_new nS4
          obtain ⟨H4, e4⟩ : ∃ H4, upd H3 S4 (.lst (((wts ps).drop 1).map V.int)) = H4 := ⟨_, rfl⟩
          have hS4 : H4 S4 = some (.lst (((wts ps).drop 1).map V.int)) := by
            rw [← e4]
            exact upd_same
          rw [e4] at s4
          rw [e4]
          have hD4 := s4 _ _ hD1'
          have ln : (List.zipWith stp (wts ps) ((wts ps).drop 1)).length = min ((wts ps).map V.int).length (((wts ps).drop 1).map V.int).length := by rw [List.length_zipWith, List.length_map, List.length_map]
          have lz : (List.zipWith stp (wts ps) ((wts ps).drop 1)).length ≤ ps.length := by
            rw [List.length_zipWith, wts_len]
            omega
          refine ⟨D1, S4, _, _, rfl, SqL.of hD4, SqL.of hS4, fun D5 nD5 => lc_it (walk_zip ln) (fun j Hc => Same H4 Hc ∧ Hc D5 = some (.lst (((List.zipWith stp (wts ps) ((wts ps).drop 1)).take j).map V.int))) ⟨same_new nD5, upd_same⟩ (fun j Hc _ h => ⟨SqL.of (h.1 _ _ hD4), SqL.of (h.1 _ _ hS4)⟩) ?_ ?_⟩
          · rintro j v Hc Hc' hj ⟨sc, hD⟩ ⟨T, x, y, rfl, nT, rfl, ex, ey⟩
            dsimp only at ex ey
            obtain ⟨a, ha, rfl⟩ := mapi_at ex
            obtain ⟨b, hb, rfl⟩ := mapi_at ey
            have sT : Same Hc (upd Hc T (.tup [.int a, .int b])) := same_new nT
            refine ⟨T, _, rfl, SqT.of upd_same, rfl, _, _, rfl, _, [], rfl, rfl, rfl, ?_⟩
            unfold tYes
            dsimp only
            rw [if_pos rfl]
            refine ⟨_, rfl, _, rfl, a, b, rfl, _, sT _ _ hD, ?_, same_put nD5 (sc.trans sT), ?_⟩
            · rw [List.length_map, List.length_take]
              exact small1000 (by omega)
            · rw [upd_same, take_snoc (zw_at ha hb), List.map_append]
              rfl
          · rintro H5 ⟨s5, hD5⟩
            rw [List.take_length] at hD5
            have s35 := s4.trans s5
            have ht5 := s35 _ _ ht3
            have hd5 := dpAll_same s35 hd3
            refine ⟨D5, _, rfl, SqL.of hD5, ?_⟩
            -- what was held
            refine ⟨_, rfl, _, rfl, 1, rfl, t, _, rfl, SqL.of ht5, fun S6 nS6 => ?_⟩
            rw [cut_1]
            have s6 : Same H5 (upd H5 S6 (.lst (xs.drop 1))) := same_new nS6
            obtain ⟨H6, e6⟩ : ∃ H6, upd H5 S6 (.lst (xs.drop 1)) = H6 := ⟨_, rfl⟩
            have hS6 : H6 S6 = some (.lst (xs.drop 1)) := by
              rw [← e6]
              exact upd_same
            rw [e6] at s6
            rw [e6]
            have ht6 := s6 _ _ ht5
            have hd6 := dpAll_same s6 hd5
            have ln6 : (List.zipWith hld ps (ps.drop 1)).length = min xs.length (xs.drop 1).length := by rw [List.length_zipWith, List.length_drop, List.length_drop, ll]
            have lz6 : (List.zipWith hld ps (ps.drop 1)).length ≤ ps.length := by
              rw [List.length_zipWith]
              omega
            refine ⟨t, S6, _, _, rfl, SqL.of ht6, SqL.of hS6, fun D7 nD7 => lc_it (walk_zip ln6) (fun j Hc => Same H6 Hc ∧ Hc D7 = some (.lst (((List.zipWith hld ps (ps.drop 1)).take j).map V.int))) ⟨same_new nD7, upd_same⟩ (fun j Hc _ h => ⟨SqL.of (h.1 _ _ ht6), SqL.of (h.1 _ _ hS6)⟩) ?_ ?_⟩
            · rintro j v Hc Hc' hj ⟨sc, hD⟩ ⟨T, x, y, rfl, nT, rfl, ex, ey⟩
              dsimp only at ex ey
              rw [List.getElem?_drop] at ey
              obtain ⟨pa1, ha, da⟩ := dl_at hd6 ex
              obtain ⟨pb1, hb, db⟩ := dl_at hd6 ey
              have sT : Same Hc (upd Hc T (.tup [x, y])) := same_new nT
              obtain ⟨ra, rfl, sa⟩ := dp_pd (dp_same (sc.trans sT) da)
              obtain ⟨rb, rfl, sb⟩ := dp_pd (dp_same (sc.trans sT) db)
              refine ⟨T, _, rfl, SqT.of upd_same, rfl, _, _, rfl, _, [], rfl, rfl, rfl, ?_⟩
              unfold tYes
              dsimp only
              rw [if_pos rfl]
              have hb2 : (ps.drop 1)[j]? = some pb1 := by
                rw [List.getElem?_drop]
                exact hb
              refine ⟨_, rfl, _, rfl, ra, rb, pa1, pb1, rfl, sa, sb, ok.sz _ (List.mem_of_getElem? ha), _, sT _ _ hD, ?_, same_put nD7 (sc.trans sT), ?_⟩
              · rw [List.length_map, List.length_take]
                exact small1000 (by omega)
              · rw [upd_same, take_snoc (zw_at ha hb2), List.map_append]
                rfl
            · rintro H7 ⟨s7, hD7⟩
              rw [List.take_length] at hD7
              have s37 := (s35.trans s6).trans s7
              refine ⟨D7, _, rfl, SqL.of hD7, rfl, rfl, fun x dx nx nd ne => ⟨x, dx, _, _, _, _, _, _, _, _, _, rfl, upd_same, rfl, ?_⟩⟩
              have z := fd_made (K := K) (C := C) nx nd ne (F := fOf ps) (vf := .ref ta) (vl := .ref tz) (by show PO K H7 _ ps.head?; rw [eA]; exact ⟨ta, rfl, sqT_same s37 hA⟩) (by show PO K H7 _ ps.getLast?; rw [eZ]; exact ⟨tz, rfl, sqT_same s37 hZ⟩)
              have efl : flds (fOf ps) (.ref ta) (.ref tz) = ([("count", .int ((xs.length : Nat) : Int)), ("total", .int (wts ps).sum), ("squares", .int ((wts ps).map fun w => w * w).sum), ("least", .int mn), ("greatest", .int mx), ("first", .ref ta), ("last", .ref tz), ("rise", .int (List.zipWith stp (wts ps) ((wts ps).drop 1)).sum), ("held", .int (List.zipWith hld ps (ps.drop 1)).sum)] : List (Str × V)) := by
                unfold flds fOf
                rw [min_is mn1 mn2, max_is mx1 mx2, ll]
                rfl
              rw [efl] at z
              exact q x _ ((((s1.trans s2).trans s3).trans s37).trans z.1) z.2
end
end Tg

namespace Tg
open PySem PySem.Spec PyProof.Rows L2
section
variable {P : Program} {w : World} {K : PySem.W.Frag} {mg : Str → Option Value} {base : Heap} {C : Addr}
end
theorem vi_z (n : Int) : decide (V.int n = V.int 0) = decide (n = 0) := by
  rw [dec_int]
  rfl
theorem pss_dead {X : Cx} {b : List Stmt} : PSs X b (fun _ _ _ => False) := ⟨fun _ _ _ _ _ _ h => h.elim⟩
section
variable {P : Program} {w : World} {K : PySem.W.Frag} {mg : Str → Option Value} {base : Heap} {C CW TW : Addr}
end
abbrev sEq : Stmt := inCls (topS 4) 1
theorem scEq : FnScope ["self", "other"] ["self", "other"] (defScope sEq) := ⟨rfl, rfl, rfl, by decide +kernel, rfl, by decide +kernel, by decide +kernel⟩
/-- what isinstance asks of the class -/
structure TIns (K : PySem.W.Frag) (C : Addr) : Prop where
  cc : PySem.W.findIn K (.ref C) "__class__" = some (some (.builtin "object.__class__"))
  get : PySem.W.specialIn K (.builtin "object.__class__") "__get__" = some (some (.builtin "getset_descriptor.__get__"))
  takes : PySem.W.takesIn K (.builtin "object.__class__") = some true
  obj : PySem.W.mroIn K C (.type "object") = some true
  kit : PySem.W.kitOne K (.ref C) (.ref C) = some true
def od : Option Pt → PyData
  | none => .none
  | some p => pd p
theorem PO.dp {K : PySem.W.Frag} {H : Hp} {v : V} : ∀ {o : Option Pt}, PO K H v o → Dp K H v (od o)
  | none, h => by
    obtain rfl : v = .non := h
    exact .non
  | some p, ⟨t, e, h⟩ => by
    subst e
    exact .tup h (.cons (.int _) (.cons (.int _) .nil))
theorem od_form : ∀ o : Option Pt, SeqAt.shaped (od o) = true ∧ PyData.eqv (od o) (od o) = true
  | none => ⟨by decide +kernel, rfl⟩
  | some p => ⟨shaped_of rfl (by show 1 ≤ 64; decide), ref_pd p⟩
theorem dw_form : ∀ o : Option Int, SeqAt.shaped (dw o) = true ∧ PyData.eqv (dw o) (dw o) = true := fun o => ⟨shaped_of (lay_dw o) (by rw [dep_dw]; decide), by rw [eq_dw]; exact decide_eq_true rfl⟩
section
variable {P : Program} {w : World} {K : PySem.W.Frag} {mg : Str → Option Value} {base : Heap} {C : Addr}
end
/-! ### folds of points behind points -/
section
variable {P : Program} {w : World} {K : PySem.W.Frag} {mg : Str → Option Value} {base : Heap} {C : Addr}
end
abbrev sSome : Stmt := topS 16
theorem scSome : FnScope ["_law_draws_here", "_law_pick", "_law_many", "_law_time", "_law_told", "_law_k", "_law_one", "_law_worth", "_law_far"] ["_law_draws_here"] (defScope sSome) := ⟨rfl, rfl, rfl, by decide +kernel, rfl, by decide +kernel, by decide +kernel⟩
section
variable {P : Program} {w : World} {K : PySem.W.Frag} {mg : Str → Option Value} {base : Heap} {C : Addr}
def TB (ps : List Pt) : Prop := ∀ r, r ∈ ps → r.1.natAbs < 2 ^ 60
def spSome (K : PySem.W.Frag) : Sp := fun vs H Q _ => ∃ (p : Addr) (n : Nat), vs = [.ref p] ∧ Dr H p n ∧ n < 900000 ∧ ∀ (l : Addr) (ps : List Pt) (H' : Hp), Kp p H H' → Dr H' p (n + 43) → H l = none → LD K H' l (ps.map pd) → POk ps → TB ps → Q (.ref l) H'
theorem ok_some {f : Addr} {fd : FuncData} {k : Nat} (F : Fun K "_law_some_points" "_law_some_points" sSome f fd) (L_next : Cal P w K mg base k "_law_next" ["_law_draws_here"] spNext) (m_range : mg "range" = none) : FnOk P w K mg base CX0 (k + 1) f fd ["_law_draws_here"] (spSome K) := by
  refine F.ok scSome (fun vs H Q E h => ?_) (fun cdv A outer s H vs Q E hr h => ?_)
  · obtain ⟨p, n, rfl, _⟩ := h
    rfl
  · obtain ⟨p, n, rfl, dr, n9, q⟩ := h
    refine ⟨_, pss_cons (ps_set (i := 1) scSome.nd rfl (.inl rfl) (pe_cal L_next (hr.mono (by omega)) (by rfl) (pa_cons (pv 0) pa_nil)))
      (pss_cons (ps_set (i := 2) scSome.nd rfl (.inl rfl) (pe_ix ix_list (pe_lst (pa_cons (pe_op op_mod (pe_op op_fdiv (pv 1) pe_int) pe_int) (pa_cons (pe_op op_mod (pe_op op_fdiv (pv 1) pe_int) pe_int) (pa_cons (pe_op op_mod (pe_op op_fdiv (pv 1) pe_int) pe_int) (pa_cons (pe_op op_mod (pe_op op_fdiv (pv 1) pe_int) pe_int) pa_nil))))) (pe_op op_mod (pv 1) pe_int) (fun _ _ => rfl)))
      (pss_cons (ps_set (i := 3) scSome.nd rfl (.inl rfl) (pe_ix ix_list (pe_lst (pa_cons pe_int (pa_cons (pe_op op_sub pe_int (pe_op op_pow pe_int pe_int)) (pa_cons (pe_op op_sub (pe_op op_mod (pe_cal L_next (hr.mono (by omega)) (by rfl) (pa_cons (pv 0) pa_nil)) pe_int) pe_int) (pa_cons (pe_op op_pow pe_int pe_int) pa_nil))))) (pe_op op_mod (pe_cal L_next (hr.mono (by omega)) (by rfl) (pa_cons (pv 0) pa_nil)) pe_int) (fun _ _ => rfl)))
      (pss_cons (ps_set (i := 4) scSome.nd rfl (.inl rfl) (pe_lst pa_nil))
      (pss_cons (ps_for PassesOwn.never rfl (pi_range1 (by rfl) m_range (pa_cons (pv 2) pa_nil)) (pg_name (i := 5) scSome.nd rfl (.inl rfl))
        (pss_cons (ps_set (i := 6) scSome.nd rfl (.inl rfl) (pe_cal L_next (hr.mono (by omega)) (by rfl) (pa_cons (pv 0) pa_nil)))
        (pss_cons (ps_set (i := 3) scSome.nd rfl (.inl rfl) (pe_op op_add (pe_op op_add (pv 3) pe_int) (pe_ix ix_list (pe_lst (pa_cons pe_int (pa_cons (pe_op op_mod (pe_op op_fdiv (pv 6) pe_int) pe_int) (pa_cons (pe_op op_mod (pe_op op_fdiv (pv 6) pe_int) pe_int) (pa_cons (pe_op op_mul (pv 6) pe_int) pa_nil))))) (pe_op op_mod (pv 6) pe_int) (fun _ _ => rfl))))
        (pss_cons (ps_set (i := 7) scSome.nd rfl (.inl rfl) (pe_op op_fdiv (pv 6) pe_int))
        (pss_cons (ps_set (i := 8) scSome.nd rfl (.inl rfl) (pe_ix ix_list (pe_lst (pa_cons (pe_op op_mod (pv 7) pe_int) (pa_cons (pe_op op_sub pe_int (pe_op op_mod (pv 7) pe_int)) (pa_cons (pe_op op_mul (pv 7) (pe_op op_pow pe_int pe_int)) (pa_cons (pe_op op_sub pe_int (pe_op op_mul (pv 7) (pe_op op_pow pe_int pe_int))) (pa_cons pe_int pa_nil)))))) (pe_op op_mod (pe_op op_fdiv (pv 6) pe_int) pe_int) (fun _ _ => rfl)))
        (pss_one (ps_expr (pe_bm PySem.F.plainAttrs_list PySem.F.slot_list_append PySem.F.type_list_append mt_append (pv 4) (pa_cons (pe_tup (pa_cons (pv 3) (pa_cons (pv 8) pa_nil))) pa_nil)))))))))
      (pss_one (ps_ret (pv 4))))))), ?_⟩
    refine ⟨_, rfl, p, n, rfl, dr, by omega, fun pick H1 k1 d1 p0 p1 => ?_⟩
    -- how many
    obtain ⟨mv, mm, me⟩ := atI_mem (xs := [pick / 6 % 4, pick / 6 % 12, pick / 6 % 12, pick / 6 % 40]) (i := pick % 4) (by omega) (by show pick % 4 < ((4 : Nat) : Int); omega)
    have mb : 0 ≤ mv ∧ mv < 40 := by
      simp only [List.mem_cons, List.not_mem_nil, or_false] at mm
      omega
    refine ⟨_, rfl, _, _, rfl, rfl, ⟨by decide, by decide⟩, _, _, rfl, rfl, (by show (0 : Int) < 4; decide), _, rfl, _, _, rfl, rfl, ⟨by decide, by decide⟩, _, _, rfl, rfl, (by show (0 : Int) < 12; decide), _, rfl, _, _, rfl, rfl, ⟨by decide, by decide⟩, _, _, rfl, rfl, (by show (0 : Int) < 12; decide), _, rfl, _, _, rfl, rfl, ⟨by decide, by decide⟩, _, _, rfl, rfl, (by show (0 : Int) < 40; decide), (by show 4 ≤ sizeLine; decide), fun u nu => ?_⟩
    refine ⟨_, rfl, _, _, rfl, rfl, (by show (0 : Int) < 4; decide), u, _, _, _, rfl, rfl, SqL.of upd_same, me, ?_⟩
    -- where the times begin
    have d1u := d1.same (same_new (o := .lst [.int (pick / 6 % 4), .int (pick / 6 % 12), .int (pick / 6 % 12), .int (pick / 6 % 40)]) nu)
    refine ⟨_, _, rfl, rfl, ⟨by decide, by decide, by decide⟩, _, _, rfl, rfl, _, rfl, p, n + 1, rfl, d1u, by omega, fun v2 H2 k2 d2 _ _ => ?_⟩
    refine ⟨_, _, rfl, rfl, (by show (0 : Int) < 1000; decide), _, _, rfl, rfl, _, _, rfl, rfl, ⟨by decide, by decide, by decide⟩, (by show 4 ≤ sizeLine; decide), fun u2 nu2 => ?_⟩
    have s2u : Same H2 (upd H2 u2 (.lst [.int 0, .int (0 - 10 ^ 14), .int (v2 % 1000 - 500), .int (10 ^ 14)])) := same_new nu2
    refine ⟨_, rfl, p, n + 2, rfl, d2.same s2u, by omega, fun v3 H3 k3 d3 v30 _ => ?_⟩
    obtain ⟨tm, tmm, tme⟩ := atI_mem (xs := [0, 0 - 10 ^ 14, v2 % 1000 - 500, 10 ^ 14]) (i := v3 % 4) (by omega) (by show v3 % 4 < ((4 : Nat) : Int); omega)
    have tmb : tm.natAbs ≤ 200000000000000 + 200000000000 * 0 := by
      simp only [List.mem_cons, List.not_mem_nil, or_false] at tmm
      omega
    have u2p : u2 ≠ p := d2.ne nu2
    refine ⟨_, _, rfl, rfl, (by show (0 : Int) < 4; decide), u2, _, _, _, rfl, rfl, SqL.of (k3 _ _ u2p upd_same), tme, ?_⟩
    refine ⟨(by show 0 ≤ sizeLine; decide), fun l nl3 => ?_⟩
    have k03 : Kp p H H3 := ((k1.trans (Kp.of (same_new nu))).trans k2).trans ((Kp.of s2u).trans k3)
    have lp : l ≠ p := d3.ne nl3
    have nl : H l = none := by
      cases e : H l with
      | none => rfl
      | some o =>
        rw [k03 l o lp e] at nl3
        cases nl3
    refine ⟨_, rfl, mv, rfl, by omega, by omega, for_range (n := mv.toNat) (fun i σ Hc => ∃ (t : Int) (ps : List Pt) (z5 z6 z7 z8 : Option V), σ = [some (.ref p), some (.int pick), some (.int mv), some (.int t), some (.ref l), z5, z6, z7, z8] ∧ Kp p H Hc ∧ Dr Hc p (n + 3 + i) ∧ LD K Hc l (ps.map pd) ∧ ps.length = i ∧ (∀ r, r ∈ ps → r.1 ≤ t) ∧ ps.Pairwise (fun a b => a.1 < b.1) ∧ (∀ r, r ∈ ps → r.2.natAbs < 2 ^ 60) ∧ t.natAbs ≤ 200000000000000 + 200000000000 * i ∧ TB ps) ?_ ?_ ?_⟩
    · exact ⟨tm, [], none, none, none, none, rfl, k03.trans (Kp.of (same_new nl3)), d3.same (same_new nl3), ⟨[], upd_same, .nil⟩, rfl, (fun _ z => nomatch z), .nil, (fun _ z => nomatch z), tmb, (fun _ z => nomatch z)⟩
    · rintro i σ Hc hi ⟨t, ps, z5, z6, z7, z8, rfl, kc, dc, ld, len, tle, up, sz, tb, tB⟩
      refine ⟨_, rfl, p, n + 3 + i, rfl, dc, by omega, fun o Ho ko do_ o0 o1 => ?_⟩
      have ldo : LD K Ho l (ps.map pd) := by
        obtain ⟨_, _, _, hp, _⟩ := id dc
        exact LD.kp ko hp nfix_lst lp (td_pds ps) ld
      obtain ⟨v, vm, ve⟩ := atI_mem (xs := [0, o / 16 % 5, o / 16 % 5000, o * 100]) (i := o % 4) (by omega) (by show o % 4 < ((4 : Nat) : Int); omega)
      have v1 : v ≤ 100000000000 := by
        simp only [List.mem_cons, List.not_mem_nil, or_false] at vm
        omega
      have v0 : 0 ≤ v := by
        simp only [List.mem_cons, List.not_mem_nil, or_false] at vm
        omega
      refine ⟨_, rfl, _, _, rfl, rfl, _, rfl, _, _, rfl, rfl, ⟨by decide, by decide⟩, _, _, rfl, rfl, (by show (0 : Int) < 5; decide), _, rfl, _, _, rfl, rfl, ⟨by decide, by decide⟩, _, _, rfl, rfl, (by show (0 : Int) < 5000; decide), _, rfl, _, _, rfl, rfl, .inr ⟨by decide, by decide⟩, (by show 4 ≤ sizeLine; decide), fun u nu => ?_⟩
      have su : Same Ho (upd Ho u (.lst [.int 0, .int (o / 16 % 5), .int (o / 16 % 5000), .int (o * 100)])) := same_new nu
      refine ⟨_, rfl, _, _, rfl, rfl, (by show (0 : Int) < 4; decide), u, _, _, _, rfl, rfl, SqL.of upd_same, ve, _, _, rfl, rfl, ?_⟩
      refine ⟨_, rfl, _, _, rfl, rfl, ⟨by decide, by decide⟩, ?_⟩
      obtain ⟨g, gm, ge⟩ := atI_mem (xs := [o / 64 % 10, 0 - o / 64 % 10, o / 64 * 10 ^ 8, 0 - o / 64 * 10 ^ 8, 0]) (i := o / 4 % 5) (by omega) (by show o / 4 % 5 < ((5 : Nat) : Int); omega)
      have g0 : g.natAbs < 2 ^ 60 := by
        simp only [List.mem_cons, List.not_mem_nil, or_false] at gm
        omega
      refine ⟨_, rfl, _, _, rfl, rfl, (by show (0 : Int) < 10; decide), _, rfl, _, _, rfl, rfl, (by show (0 : Int) < 10; decide), _, _, rfl, rfl, _, rfl, _, _, rfl, rfl, ⟨by decide, by decide, by decide⟩, _, _, rfl, rfl, .inr ⟨by decide, by decide⟩, _, rfl, _, _, rfl, rfl, ⟨by decide, by decide, by decide⟩, _, _, rfl, rfl, .inr ⟨by decide, by decide⟩, _, _, rfl, rfl, (by show 5 ≤ sizeLine; decide), fun u5 nu5 => ?_⟩
      have su5 : Same (upd Ho u (.lst [.int 0, .int (o / 16 % 5), .int (o / 16 % 5000), .int (o * 100)])) (upd (upd Ho u (.lst [.int 0, .int (o / 16 % 5), .int (o / 16 % 5000), .int (o * 100)])) u5 (.lst [.int (o / 64 % 10), .int (0 - o / 64 % 10), .int (o / 64 * 10 ^ 8), .int (0 - o / 64 * 10 ^ 8), .int 0])) := same_new nu5
      refine ⟨_, rfl, _, _, rfl, rfl, ⟨by decide, by decide⟩, _, _, rfl, rfl, (by show (0 : Int) < 5; decide), u5, _, _, _, rfl, rfl, SqL.of upd_same, ge, ?_⟩
      obtain ⟨Hw, ew⟩ : ∃ Hw, upd (upd Ho u (.lst [.int 0, .int (o / 16 % 5), .int (o / 16 % 5000), .int (o * 100)])) u5 (.lst [.int (o / 64 % 10), .int (0 - o / 64 % 10), .int (o / 64 * 10 ^ 8), .int (0 - o / 64 * 10 ^ 8), .int 0]) = Hw := ⟨_, rfl⟩
      rw [ew] at su5
      have sw := su.trans su5
      obtain ⟨xs, hx, hdx⟩ := ldo.same sw
      have lx := dl_len hdx
      have fin : ∀ T, Hw T = none → (upd Hw T (.tup [.int (t + 1 + v), .int g])) l = some (.lst xs) ∧ Kp p H (upd (upd Hw T (.tup [.int (t + 1 + v), .int g])) l (.lst (xs ++ [.ref T]))) ∧
          Dr (upd (upd Hw T (.tup [.int (t + 1 + v), .int g])) l (.lst (xs ++ [.ref T]))) p (n + 3 + (i + 1)) ∧ LD K (upd (upd Hw T (.tup [.int (t + 1 + v), .int g])) l (.lst (xs ++ [.ref T]))) l ((ps ++ [(t + 1 + v, g)]).map pd) := fun T nT => by
        have sT : Same Hw (upd Hw T (.tup [.int (t + 1 + v), .int g])) := same_new nT
        refine ⟨sT _ _ hx, fun b u hb e => ?_, ?_, ?_⟩
        · rw [upd_ne (ne_of_none e nl)]
          exact (sw.trans sT) _ _ (ko _ _ hb (kc _ _ hb e))
        · obtain ⟨a, k, b, h, r⟩ := do_
          exact ⟨a, k, b, by rw [upd_ne lp.symm]; exact (sw.trans sT) _ _ h, r⟩
        · rw [List.map_append]
          exact LD.snoc (KT.of sT) (sT _ _ hx) hdx (td_pds ps) (pd_new (x := (t + 1 + v, g)) upd_same) (td_pd _)
      subst ew
      refine ⟨_, rfl, .inl ⟨rfl, _, SqL.of hx⟩, _, rfl, _, rfl, (by show 2 ≤ sizeLine; decide), fun T nT => ?_⟩
      obtain ⟨f1, f2, f3, f4⟩ := fin T nT
      refine ⟨l, xs, _, rfl, rfl, f1, small1000 (by omega), t + 1 + v, ps ++ [(t + 1 + v, g)], _, _, _, _, rfl, f2, f3, f4, ?_, ?_, ?_, ?_, by omega, ?_⟩
      · rw [List.length_append, len]
        rfl
      · intro r hr
        rcases List.mem_append.mp hr with h | h
        · have := tle r h
          omega
        · obtain rfl := List.mem_singleton.mp h
          exact Int.le_refl _
      · refine List.pairwise_append.mpr ⟨up, List.pairwise_singleton _ _, fun a ha b hb => ?_⟩
        obtain rfl := List.mem_singleton.mp hb
        have := tle a ha
        show a.1 < t + 1 + v
        omega
      · intro r hr
        rcases List.mem_append.mp hr with h | h
        · exact sz r h
        · obtain rfl := List.mem_singleton.mp h
          exact g0
      · intro r hr
        rcases List.mem_append.mp hr with h | h
        · exact tB r h
        · obtain rfl := List.mem_singleton.mp h
          show (t + 1 + v).natAbs < 2 ^ 60
          omega
    · rintro σ Hc ⟨t, ps, z5, z6, z7, z8, rfl, kc, dc, ld, len, tle, up, sz, tb, tB⟩
      refine ⟨_, rfl, q l ps Hc kc ?_ nl ld ⟨by omega, fun i a b ha hb => ?_, sz⟩ tB⟩
      · obtain ⟨a, k, b, h, r0, r1⟩ := dc
        exact ⟨a, k, b, h, r0, by omega⟩
      · obtain ⟨i1, rfl⟩ := List.getElem?_eq_some_iff.mp ha
        obtain ⟨i2, rfl⟩ := List.getElem?_eq_some_iff.mp hb
        exact List.pairwise_iff_getElem.mp up i (i + 1) i1 i2 (Nat.lt_succ_self i)
end
section
variable {P : Program} {w : World} {K : PySem.W.Frag} {mg : Str → Option Value} {base : Heap} {C : Addr} {α : Type}
end
/-! ### a list cut at places -/
section
variable {P : Program} {w : World} {K : PySem.W.Frag} {mg : Str → Option Value} {base : Heap} {C : Addr}
end
/-! ### points moved -/
section
variable {P : Program} {w : World} {K : PySem.W.Frag} {mg : Str → Option Value} {base : Heap} {C : Addr}
end
section
variable {P : Program} {w : World} {K : PySem.W.Frag} {mg : Str → Option Value} {base : Heap} {C : Addr} {k : Nat} {f : Addr} {cdv : Value} {A : Around} {outer : List Env} {s : Shared} {H0 : Hp} {E : XK}
end
section
variable {P : Program} {w : World} {K : PySem.W.Frag} {mg : Str → Option Value} {base : Heap} {C : Addr} {k : Nat} {f : Addr} {cdv : Value} {A : Around} {outer : List Env} {s : Shared} {H0 : Hp} {E : XK}
end
section
variable {P : Program} {w : World} {K : PySem.W.Frag} {mg : Str → Option Value} {base : Heap} {C : Addr}
end
section
variable {P : Program} {w : World} {K : PySem.W.Frag} {mg : Str → Option Value} {base : Heap} {C ft : Addr} {f : Addr} {k : Nat}
end
section
variable {P : Program} {w : World} {K : PySem.W.Frag} {mg : Str → Option Value} {base : Heap} {C : Addr}
end
section
variable {P : Program} {w : World} {K : PySem.W.Frag} {mg : Str → Option Value} {base : Heap} {C : Addr}
end
theorem cut_to (xs : List V) (a : Nat) : cutV xs none (some (a : Int)) = xs.take a := by
  unfold cutV
  rw [HT.sIx_none, HT.sIx_nat, List.drop_zero, Nat.sub_zero]
  rcases Nat.le_total a xs.length with h | h
  · rw [Nat.min_eq_left h]
  · rw [Nat.min_eq_right h, List.take_length, List.take_of_length_le h]
theorem Dr.kt {H H' : Hp} {p : Addr} {n : Nat} (d : Dr H p n) (k : Kp p H H') : KT H H' := by
  obtain ⟨_, _, _, hp, _⟩ := d
  exact KT.kp k hp nfix_lst
section
variable {P : Program} {w : World} {K : PySem.W.Frag} {mg : Str → Option Value} {base : Heap} {C : Addr} {α : Type}
end
/-! ### a list cut at places -/
theorem cut_mid (xs : List V) {a b : Nat} (ab : a ≤ b) (bl : b ≤ xs.length) : cutV xs (some (a : Int)) (some (b : Int)) = (xs.drop a).take (b - a) := by
  unfold cutV
  rw [HT.sIx_nat, HT.sIx_nat, Nat.min_eq_left bl, Nat.min_eq_left (Nat.le_trans ab bl)]
theorem dpAll_drop {K : PySem.W.Frag} {H : Hp} : ∀ (n : Nat) {xs : List V} {ds : List PyData}, DpAll K H xs ds → DpAll K H (xs.drop n) (ds.drop n)
  | 0, _, _, h => h
  | n + 1, _, _, .nil => .nil
  | n + 1, _, _, .cons _ t => dpAll_drop n t
theorem dpAll_take {K : PySem.W.Frag} {H : Hp} : ∀ (n : Nat) {xs : List V} {ds : List PyData}, DpAll K H xs ds → DpAll K H (xs.take n) (ds.take n)
  | 0, _, _, _ => .nil
  | n + 1, _, _, .nil => .nil
  | n + 1, _, _, .cons a t => .cons a (dpAll_take n t)
def rLenQ (K : PySem.W.Frag) : List V → Hp → VK → Prop := fun xs H Q => ∃ p ys, xs = [.ref p] ∧ (SqL K H p ys ∨ SqT K H p ys) ∧ Q (.int ys.length) H
section
variable {P : Program} {w : World} {K : PySem.W.Frag} {mg : Str → Option Value} {base : Heap} {C : Addr}
end
abbrev sFlds : Stmt := topS 15
theorem scFlds : FnScope ["_law_fold_here", "_law_told"] ["_law_fold_here"] (defScope sFlds) := ⟨rfl, rfl, rfl, by decide +kernel, rfl, by decide +kernel, by decide +kernel⟩
/-- a fold as a row of things -/
def due (F : FD) (vf vl : V) : List V := [.int F.cnt, .int F.tot, .int F.sq, vw F.lo, vw F.hi, vf, vl, .int F.ris, .int F.hel]
theorem eq_nil (ps : List Pt) : PyData.eqv (.list (ps.map pd)) (.list []) = ps.isEmpty := by
  cases ps <;> rfl
/-! ### points moved -/
section
variable {P : Program} {w : World} {K : PySem.W.Frag} {mg : Str → Option Value} {base : Heap} {C : Addr}
def spFlds (K : PySem.W.Frag) (C : Addr) : Sp := fun vs H Q _ => ∃ (a : Addr) (F : FD), vs = [.ref a] ∧ FdO K C H a F ∧ ∀ t vf vl H', Same H H' → SqT K H' t (due F vf vl) → PO K H' vf F.fst → PO K H' vl F.lst → Q (.ref t) H'
theorem ok_flds {f : Addr} {fd : FuncData} {k : Nat} (F : Fun K "_law_fields" "_law_fields" sFlds f fd) (T : TFold K C) : FnOk P w K mg base CX0 (k + 1) f fd ["_law_fold_here"] (spFlds K C) := by
  refine F.ok scFlds (fun vs H Q E h => ?_) (fun cdv A outer s H vs Q E hr h => ?_)
  · obtain ⟨a, F, rfl, _⟩ := h
    rfl
  · obtain ⟨a, F, rfl, ⟨dA, fA, lA, eA, pA, zA⟩, q⟩ := h
    refine ⟨_, pss_cons (ps_set (i := 1) scFlds.nd rfl (.inl rfl) (pe_tup (pa_cons (pe_fld (pv 0) rfl) (pa_cons (pe_fld (pv 0) rfl) (pa_cons (pe_fld (pv 0) rfl) (pa_cons (pe_fld (pv 0) rfl) (pa_cons (pe_fld (pv 0) rfl) pa_nil)))))))
      (pss_one (ps_ret (pe_op op_catA (pv 1) (pe_tup (pa_cons (pe_fld (pv 0) rfl) (pa_cons (pe_fld (pv 0) rfl) (pa_cons (pe_fld (pv 0) rfl) (pa_cons (pe_fld (pv 0) rfl) pa_nil)))))))), ?_⟩
    refine ⟨_, rfl, a, C, dA, _, _, rfl, eA, T.cl, T.no _ (by decide), rfl, _, rfl, a, C, dA, _, _, rfl, eA, T.cl, T.no _ (by decide), rfl, _, rfl, a, C, dA, _, _, rfl, eA, T.cl, T.no _ (by decide), rfl, _, rfl, a, C, dA, _, _, rfl, eA, T.cl, T.no _ (by decide), rfl, _, rfl, a, C, dA, _, _, rfl, eA, T.cl, T.no _ (by decide), rfl, (by show 5 ≤ sizeLine; decide), fun t nt => ?_⟩
    have s1 : Same H (upd H t (.tup [.int F.cnt, .int F.tot, .int F.sq, vw F.lo, vw F.hi])) := same_new nt
    have eA1 := s1 _ _ eA
    refine ⟨_, rfl, _, rfl, a, C, dA, _, _, rfl, eA1, T.cl, T.no _ (by decide), rfl, _, rfl, a, C, dA, _, _, rfl, eA1, T.cl, T.no _ (by decide), rfl, _, rfl, a, C, dA, _, _, rfl, eA1, T.cl, T.no _ (by decide), rfl, _, rfl, a, C, dA, _, _, rfl, eA1, T.cl, T.no _ (by decide), rfl, (by show 4 ≤ sizeLine; decide), fun u nu => ?_⟩
    have s2 : Same (upd H t (.tup [.int F.cnt, .int F.tot, .int F.sq, vw F.lo, vw F.hi])) (upd (upd H t (.tup [.int F.cnt, .int F.tot, .int F.sq, vw F.lo, vw F.hi])) u (.tup [fA, lA, .int F.ris, .int F.hel])) := same_new nu
    refine ⟨t, u, _, _, rfl, rfl, SqT.of (s2 _ _ upd_same), SqT.of upd_same, (by show 5 + 4 ≤ sizeLine; decide), (fun z => nomatch z), (fun _ z => nomatch z), fun _ _ r nr => ?_⟩
    have s3 := (s1.trans s2).trans (same_new (o := .tup (due F fA lA)) nr)
    exact q r fA lA _ s3 (SqT.of upd_same) (pA.same s3) (zA.same s3)
end
theorem sum_le {B : Nat} : ∀ {ns : List Int}, (∀ x, x ∈ ns → x.natAbs ≤ B) → ns.sum.natAbs ≤ ns.length * B
  | [], _ => Nat.zero_le _
  | a :: r, h => by
    have h1 := sum_le (ns := r) fun x hx => h x (List.mem_cons_of_mem _ hx)
    have h2 : a.natAbs ≤ B := h a (.head _)
    rw [List.sum_cons, List.length_cons, Nat.succ_mul]
    omega
section
variable {P : Program} {w : World} {K : PySem.W.Frag} {mg : Str → Option Value} {base : Heap} {C : Addr} {k : Nat} {f : Addr} {cdv : Value} {A : Around} {outer : List Env} {s : Shared} {H0 : Hp} {E : XK}
end
theorem yes_i {σ : L2.St} {H : Hp} {Q : Bool → Hp → Prop} (h : Q true H) : tYes σ H Q := h
section
variable {P : Program} {w : World} {K : PySem.W.Frag} {mg : Str → Option Value} {base : Heap} {C : Addr} {k : Nat} {f : Addr} {cdv : Value} {A : Around} {outer : List Env} {s : Shared} {H0 : Hp} {E : XK}
end
section
variable {P : Program} {w : World} {K : PySem.W.Frag} {mg : Str → Option Value} {base : Heap} {C : Addr}
end
section
variable {P : Program} {w : World} {K : PySem.W.Frag} {mg : Str → Option Value} {base : Heap} {C ft : Addr} {f : Addr} {k : Nat}
end
abbrev sStep : Stmt := topS 13
theorem scStep : FnScope ["_law_one", "_law_two"] ["_law_one", "_law_two"] (defScope sStep) := ⟨rfl, rfl, rfl, by decide +kernel, rfl, by decide +kernel, by decide +kernel⟩
section
variable {P : Program} {w : World} {K : PySem.W.Frag} {mg : Str → Option Value} {base : Heap} {C : Addr}
theorem ok_step {f : Addr} {fd : FuncData} {k : Nat} (F : Fun K "_law_step" "_law_step" sStep f fd) (m_max : mg "max" = none) : FnOk P w K mg base CX0 (k + 1) f fd ["_law_one", "_law_two"] spRisen := by
  refine F.ok scStep (fun vs H Q E h => ?_) (fun cdv A outer s H vs Q E hr h => ?_)
  · obtain ⟨a, b, rfl, _⟩ := h
    rfl
  · obtain ⟨a, b, rfl, q⟩ := h
    refine ⟨_, pss_cons (ps_if (pt_cmpR op_ge (pv 1) (pv 0) (nomark _))
        (pss_one (ps_ret (pe_op op_sub (pv 1) (pv 0))))
        pss_nil)
      (pss_one (ps_ret (pe_callB (call_max2 rfl) (by rfl) m_max (by decide +kernel) (pa_cons (pv 1) (pa_cons pe_int pa_nil))))), ?_⟩
    unfold stp at q
    refine ⟨_, rfl, _, rfl, _, _, rfl, rfl, _, rfl, ite2 (fun g => ?_) (fun g => ?_)⟩
    · rw [if_pos (of_decide_eq_true g)] at q
      exact ⟨_, rfl, _, rfl, _, _, rfl, rfl, q⟩
    · rw [if_neg (fun z => g (decide_eq_true z))] at q
      exact ⟨_, rfl, _, _, rfl, q⟩
end
section
variable {P : Program} {w : World} {K : PySem.W.Frag} {mg : Str → Option Value} {base : Heap} {C : Addr}
end
section
variable {P : Program} {w : World} {K : PySem.W.Frag} {mg : Str → Option Value} {base : Heap} {C TW : Addr}
end
section
variable {P : Program} {w : World} {K : PySem.W.Frag} {mg : Str → Option Value} {base : Heap} {C : Addr}
end
abbrev sFold : Stmt := topS 14
abbrev NFd : List Str := ["_law_a_points", "_law_worths", "_law_time", "_law_worth", "_law_a_rise", "_law_a_held", "_law_k", "_law_a_squares", "_law_ends"]
theorem scFold : FnScope NFd ["_law_a_points"] (defScope sFold) := ⟨rfl, rfl, rfl, by decide +kernel, rfl, by decide +kernel, by decide +kernel⟩
section
variable {P : Program} {w : World} {K : PySem.W.Frag} {mg : Str → Option Value} {base : Heap} {C : Addr}
def spFold (K : PySem.W.Frag) : Sp := fun vs H Q _ => ∃ (l : Addr) (ps : List Pt), vs = [.ref l] ∧ PtL K H l ps ∧ POk ps ∧ ∀ t vf vl H', Same H H' → SqT K H' t (due (fOf ps) vf vl) → PO K H' vf (fOf ps).fst → PO K H' vl (fOf ps).lst → Q (.ref t) H'
theorem ok_fold {f : Addr} {fd : FuncData} {k : Nat} (F : Fun K "_law_fold" "_law_fold" sFold f fd) (L_step : Cal P w K mg base k "_law_step" ["_law_one", "_law_two"] spRisen) (m_range : mg "range" = none) (m_len : mg "len" = none) (m_sum : mg "sum" = none) (m_min : mg "min" = none) (m_max : mg "max" = none) : FnOk P w K mg base CX0 (k + 1) f fd ["_law_a_points"] (spFold K) := by
  refine F.ok scFold (fun vs H Q E h => ?_) (fun cdv A outer s H vs Q E hr h => ?_)
  · obtain ⟨l, ps, rfl, _⟩ := h
    rfl
  · obtain ⟨l, ps, rfl, ⟨xs, hl, hd⟩, ok, q⟩ := h
    have hu := hr.units
    refine ⟨_, pss_cons (ps_if (pt_cmpR (op_eqD hu) (pv 0) (pe_lst pa_nil) (nomark _))
        (pss_one (ps_ret (pe_tup (pa_cons pe_int (pa_cons pe_int (pa_cons pe_int (pa_cons pe_non (pa_cons pe_non (pa_cons pe_non (pa_cons pe_non (pa_cons pe_int (pa_cons pe_int pa_nil))))))))))))
        pss_nil)
      (pss_cons (ps_setLc (i := 1) (own := [("_law_time", 2), ("_law_worth", 3)]) (g := gTup K 2 _) (tt := tYes) rfl scFold.nd rfl rfl (sw_true rfl rfl rfl (by decide +kernel)) (pi_list (pv 0)) (blkOk_by (own := [("_law_time", 2), ("_law_worth", 3)]) (N := NFd) (sc := defScope sFold) (by decide +kernel)) (fun _ _ _ _ _ => (pg_tup rfl (pgs_cons (pg_name (i := 2) scFold.nd rfl (.inl rfl)) (pgs_cons (pg_name (i := 3) scFold.nd rfl (.inl rfl)) pgs_nil)))) (fun _ _ _ _ _ => pts_nil) (fun _ _ _ _ _ => (pv 3)))
      (pss_cons (ps_set (i := 4) scFold.nd rfl (.inl rfl) pe_int)
      (pss_cons (ps_set (i := 5) scFold.nd rfl (.inl rfl) pe_int)
      (pss_cons (ps_for PassesOwn.never rfl (pi_range2 (by rfl) m_range (pa_cons pe_int (pa_cons (pe_callB call_len_seq (by rfl) m_len (by decide +kernel) (pa_cons (pv 0) pa_nil)) pa_nil))) (pg_name (i := 6) scFold.nd rfl (.inl rfl))
        (pss_cons (ps_set (i := 4) scFold.nd rfl (.inl rfl) (pe_op op_add (pv 4) (pe_cal L_step (hr.mono (by omega)) (by rfl) (pa_cons (pe_ix ix_list (pv 1) (pe_op op_sub (pv 6) pe_int) (fun _ _ => rfl)) (pa_cons (pe_ix ix_list (pv 1) (pv 6) (fun _ _ => rfl)) pa_nil)))))
        (pss_one (ps_set (i := 5) scFold.nd rfl (.inl rfl) (pe_op op_add (pv 5) (pe_op op_mul (pe_ix ix_list (pv 1) (pe_op op_sub (pv 6) pe_int) (fun _ _ => rfl)) (pe_op op_sub (pe_ix ix_tup (pe_ix ix_list (pv 0) (pv 6) (fun _ _ => rfl)) pe_int (fun _ _ => rfl)) (pe_ix ix_tup (pe_ix ix_list (pv 0) (pe_op op_sub (pv 6) pe_int) (fun _ _ => rfl)) pe_int (fun _ _ => rfl)))))))))
      (pss_cons (ps_set (i := 7) scFold.nd rfl (.inl rfl) (pe_callB (cr_sum rfl) (by rfl) m_sum (by decide +kernel) (pa_cons (pe_lc (own := [("_law_worth", 3)]) (g := (gName 3)) (tt := tYes) rfl scFold.nd (pi_list (pv 1)) (blkOk_by (own := [("_law_worth", 3)]) (N := NFd) (sc := defScope sFold) (by decide +kernel)) (fun _ _ _ _ _ => (pg_name (i := 3) scFold.nd rfl (.inl rfl))) (fun _ _ _ _ _ => pts_nil) (fun _ _ _ _ _ => (pe_op op_mul (pv 3) (pv 3)))) pa_nil)))
      (pss_cons (ps_set (i := 8) scFold.nd rfl (.inl rfl) (pe_tup (pa_cons (pe_ix ix_list (pv 0) pe_int (fun _ _ => rfl)) (pa_cons (pe_ix ix_list (pv 0) (pe_un un_neg pe_int) (fun _ _ => rfl)) pa_nil))))
      (pss_one (ps_ret (pe_op op_catA (pe_op op_catA (pe_tup (pa_cons (pe_callB call_len_seq (by rfl) m_len (by decide +kernel) (pa_cons (pv 0) pa_nil)) (pa_cons (pe_callB (cr_sum rfl) (by rfl) m_sum (by decide +kernel) (pa_cons (pv 1) pa_nil)) (pa_cons (pv 7) (pa_cons (pe_callB (cr_min rfl) (by rfl) m_min (by decide +kernel) (pa_cons (pv 1) pa_nil)) (pa_cons (pe_callB (cr_max rfl) (by rfl) m_max (by decide +kernel) (pa_cons (pv 1) pa_nil)) pa_nil)))))) (pv 8)) (pe_tup (pa_cons (pv 4) (pa_cons (pv 5) pa_nil)))))))))))), ?_⟩
    have ll := dl_len hd
    have l40 := ok.len
    refine ⟨_, rfl, (by show 0 ≤ sizeLine; decide), fun t nt => ?_⟩
    have s1 : Same H (upd H t (.lst [])) := same_new nt
    obtain ⟨H1, e1⟩ : ∃ H1, upd H t (.lst []) = H1 := ⟨_, rfl⟩
    have ht1 : H1 t = some (.lst []) := by
      rw [← e1]
      exact upd_same
    rw [e1] at s1
    rw [e1]
    have hl1 := sqL_same s1 hl
    have hd1 := dpAll_same s1 hd
    refine ⟨_, _, .lst hl1 hd1, .lst (SqL.of ht1) .nil, (pds_form ps).1, (pds_form []).1, _, rfl, ?_⟩
    rw [eq_nil]
    cases ps with
    | nil =>
      refine if_t ⟨(by show 9 ≤ sizeLine; decide), fun a na => ?_⟩
      exact q a .non .non _ (s1.trans (same_new na)) (SqT.of upd_same) rfl rfl
    | cons p0 pr =>
      obtain ⟨ps, eps⟩ : ∃ ps, p0 :: pr = ps := ⟨_, rfl⟩
      have hne : ps ≠ [] := by
        rw [← eps]
        exact List.cons_ne_nil _ _
      rw [eps] at hd hd1 ok ll l40 q
      have l0 : 0 < ps.length := List.length_pos_iff.mpr hne
      refine if_f ⟨_, rfl, l, rfl, ⟨_, hl1⟩, fun D1 nD1 => lc_list (K := K) (a := l) (xs := xs) (fun j Hc => Same H1 Hc ∧ Hc D1 = some (.lst (((wts ps).take j).map V.int))) ⟨same_new nD1, upd_same⟩ (fun j Hc _ h => sqL_same h.1 hl1) ?_ ?_⟩
      · rintro j v Hc hj ⟨sc, hD⟩
        obtain ⟨r, hr1, dr⟩ := dl_at hd1 hj
        obtain ⟨a, rfl, ha⟩ := dp_pd (dp_same sc dr)
        refine ⟨a, _, rfl, ha, rfl, _, _, rfl, _, [], rfl, rfl, rfl, ?_⟩
        unfold tYes
        dsimp only
        rw [if_pos rfl]
        refine ⟨_, rfl, _, hD, ?_, same_put nD1 sc, ?_⟩
        · rw [List.length_map, List.length_take, wts_len]
          exact small1000 (by omega)
        · rw [upd_same, take_snoc (wts_at hr1), List.map_append]
          rfl
      · rintro H2 ⟨s2, hD1⟩
        rw [ll, ← wts_len, List.take_length] at hD1
        have hl2 := sqL_same s2 hl1
        have hd2 := dpAll_same s2 hd1
        have lw0 : 0 < (wts ps).length := by
          rw [wts_len]
          exact l0
        refine ⟨_, rfl, l, xs, rfl, .inl hl2, 1, _, rfl, ⟨by decide, by decide, by omega, by omega⟩, ?_⟩
        rw [show (((xs.length : Nat) : Int) - 1).toNat = ps.length - 1 by omega]
        have zl1 : (List.zipWith stp (wts ps) ((wts ps).drop 1)).length = ps.length - 1 := by
          rw [List.length_zipWith, List.length_drop, wts_len]
          omega
        have zl2 : (List.zipWith hld ps (ps.drop 1)).length = ps.length - 1 := by
          rw [List.length_zipWith, List.length_drop]
          omega
        refine for_range (n := ps.length - 1) (fun i σ Hc => ∃ z6 : Option V, σ = [some (.ref l), some (.ref D1), none, none, some (.int ((List.zipWith stp (wts ps) ((wts ps).drop 1)).take i).sum), some (.int ((List.zipWith hld ps (ps.drop 1)).take i).sum), z6, none, none] ∧ Hc = H2) ⟨none, rfl, rfl⟩ ?_ ?_
        · rintro i σ Hc hi ⟨z6, rfl, rfl⟩
          obtain ⟨p, hp⟩ : ∃ p, ps[i]? = some p := ⟨_, List.getElem?_eq_getElem (by omega)⟩
          obtain ⟨r, hr2⟩ : ∃ r, ps[i + 1]? = some r := ⟨_, List.getElem?_eq_getElem (by omega)⟩
          obtain ⟨v1, e1, d1⟩ := dl_get hd2 hp
          obtain ⟨v2, e2, d2⟩ := dl_get hd2 hr2
          obtain ⟨t1, rfl, h1⟩ := dp_pd d1
          obtain ⟨t2, rfl, h2⟩ := dp_pd d2
          have w1 : ((wts ps).map V.int)[i]? = some (.int p.2) := by rw [List.getElem?_map, wts_at hp]; rfl
          have w2 : ((wts ps).map V.int)[i + 1]? = some (.int r.2) := by rw [List.getElem?_map, wts_at hr2]; rfl
          have i1 : (1 + ((i : Nat) : Int)) = ((i + 1 : Nat) : Int) := by omega
          have i2 : (1 + ((i : Nat) : Int)) - 1 = ((i : Nat) : Int) := by omega
          have y1 : (List.zipWith stp (wts ps) ((wts ps).drop 1))[i]? = some (stp p.2 r.2) := zw_at (wts_at hp) (by rw [List.getElem?_drop, Nat.add_comm]; exact wts_at hr2)
          have y2 : (List.zipWith hld ps (ps.drop 1))[i]? = some (hld p r) := zw_at hp (by rw [List.getElem?_drop, Nat.add_comm]; exact hr2)
          have sz := ok.sz p (List.mem_of_getElem? hp)
          refine ⟨_, rfl, _, rfl, _, rfl, _, _, rfl, rfl, D1, _, _, .int p.2, rfl, rfl, SqL.of hD1, (by rw [i2]; exact atI_nat w1), _, rfl, _, rfl, D1, _, _, .int r.2, rfl, rfl, SqL.of hD1, (by rw [i1]; exact atI_nat w2), p.2, r.2, rfl, _, _, rfl, rfl, ?_⟩
          refine ⟨_, rfl, _, rfl, _, rfl, _, _, rfl, rfl, D1, _, _, .int p.2, rfl, rfl, SqL.of hD1, (by rw [i2]; exact atI_nat w1), _, rfl, _, rfl, l, xs, _, .ref t2, rfl, rfl, hl2, (by rw [i1]; exact atI_nat e2), t2, _, _, _, rfl, rfl, h2, rfl, _, rfl, _, rfl, _, _, rfl, rfl, l, xs, _, .ref t1, rfl, rfl, hl2, (by rw [i2]; exact atI_nat e1), t1, _, _, _, rfl, rfl, h1, rfl, _, _, rfl, rfl, _, _, rfl, rfl, small_mul sz, _, _, rfl, rfl, ?_⟩
          refine ⟨some (.int (1 + ((i : Nat) : Int))), ?_, rfl⟩
          rw [take_snoc y1, take_snoc y2, List.sum_append, List.sum_append, List.sum_singleton, List.sum_singleton]
          rfl
        · rintro σ Hc ⟨z6, rfl, rfl⟩
          have t1 : (List.zipWith stp (wts ps) ((wts ps).drop 1)).take (ps.length - 1) = List.zipWith stp (wts ps) ((wts ps).drop 1) := by rw [← zl1, List.take_length]
          have t2 : (List.zipWith hld ps (ps.drop 1)).take (ps.length - 1) = List.zipWith hld ps (ps.drop 1) := by rw [← zl2, List.take_length]
          rw [t1, t2]
          refine ⟨_, rfl, D1, rfl, ⟨_, SqL.of hD1⟩, fun D3 nD3 => lc_list (K := K) (a := D1) (xs := (wts ps).map V.int) (fun j Hd => Same Hc Hd ∧ Hd D3 = some (.lst ((((wts ps).map fun w => w * w).take j).map V.int))) ⟨same_new nD3, upd_same⟩ (fun j Hd _ h => SqL.of (h.1 _ _ hD1)) ?_ ?_⟩
          · rintro j v Hd hj ⟨sc, hD⟩
            obtain ⟨a, ha, rfl⟩ := mapi_at hj
            refine ⟨rfl, ?_⟩
            unfold tYes
            dsimp only
            rw [if_pos rfl]
            have sz : a.natAbs < 2 ^ 60 := by
              obtain ⟨p, hp, rfl⟩ := List.mem_map.mp (List.mem_of_getElem? ha)
              exact ok.sz p hp
            have e2 : ((wts ps).map fun w => w * w)[j]? = some (a * a) := by rw [List.getElem?_map, ha]; rfl
            refine ⟨_, rfl, _, rfl, _, _, rfl, rfl, small_mul sz, _, hD, ?_, same_put nD3 sc, ?_⟩
            · rw [List.length_map, List.length_take, List.length_map, wts_len]
              exact small1000 (by omega)
            · rw [upd_same, take_snoc e2, List.map_append]
              rfl
          · rintro H3 ⟨s3, hD3⟩
            rw [List.length_map, ← List.length_map (as := wts ps) (f := fun w => w * w), List.take_length] at hD3
            have hl3 := sqL_same s3 hl2
            have hd3 := dpAll_same s3 hd2
            have hW3 := s3 _ _ hD1
            obtain ⟨⟨ta, pa, ea, eA, hA⟩, ⟨tz, pz, ez, eZ, hZ⟩⟩ := pt_ends hd3 hne
            refine ⟨D3, _, rfl, SqL.of hD3, _, rfl, l, xs, _, _, rfl, rfl, hl3, ea, _, rfl, 1, rfl, l, xs, _, _, rfl, rfl, hl3, ez, (by show 2 ≤ sizeLine; decide), fun Z nZ => ?_⟩
            have s4 : Same H3 (upd H3 Z (.tup [.ref ta, .ref tz])) := same_new nZ
            obtain ⟨H4, e4⟩ : ∃ H4, upd H3 Z (.tup [.ref ta, .ref tz]) = H4 := ⟨_, rfl⟩
            have hZ4 : H4 Z = some (.tup [.ref ta, .ref tz]) := by
              rw [← e4]
              exact upd_same
            rw [e4] at s4
            rw [e4]
            have hl4 := sqL_same s4 hl3
            have hW4 := s4 _ _ hW3
            refine ⟨_, rfl, l, xs, rfl, .inl hl4, _, rfl, D1, wts ps, rfl, SqL.of hW4, _, rfl, _, rfl, D1, wts ps, rfl, SqL.of hW4, lw0, fun mn mn1 mn2 => ⟨_, rfl, D1, wts ps, rfl, SqL.of hW4, lw0, fun mx mx1 mx2 => ⟨(by show 5 ≤ sizeLine; decide), fun T5 n5 => ?_⟩⟩⟩
            have s5 : Same H4 (upd H4 T5 (.tup [.int ((xs.length : Nat) : Int), .int (wts ps).sum, .int ((wts ps).map fun w => w * w).sum, .int mn, .int mx])) := same_new n5
            refine ⟨_, rfl, T5, Z, _, _, rfl, rfl, SqT.of upd_same, SqT.of (s5 _ _ hZ4), (by show 5 + 2 ≤ sizeLine; decide), (fun z => nomatch z), (fun _ z => nomatch z), fun _ _ T7 n7 => ?_⟩
            refine ⟨_, rfl, _, rfl, (by show 2 ≤ sizeLine; decide), fun T2 n2 => ⟨T7, T2, _, _, rfl, rfl, SqT.of (same_new n2 _ _ upd_same), SqT.of upd_same, (by show 7 + 2 ≤ sizeLine; decide), (fun z => nomatch z), (fun _ z => nomatch z), fun _ _ T9 n9 => ?_⟩⟩
            have s49 := ((s5.trans (same_new n7)).trans (same_new n2)).trans (same_new (o := .tup [.int ((xs.length : Nat) : Int), .int (wts ps).sum, .int ((wts ps).map fun w => w * w).sum, .int mn, .int mx, .ref ta, .ref tz, .int (List.zipWith stp (wts ps) ((wts ps).drop 1)).sum, .int (List.zipWith hld ps (ps.drop 1)).sum]) n9)
            have efl : due (fOf ps) (.ref ta) (.ref tz) = [.int ((xs.length : Nat) : Int), .int (wts ps).sum, .int ((wts ps).map fun w => w * w).sum, .int mn, .int mx, .ref ta, .ref tz, .int (List.zipWith stp (wts ps) ((wts ps).drop 1)).sum, .int (List.zipWith hld ps (ps.drop 1)).sum] := by
              unfold due fOf
              rw [min_is mn1 mn2, max_is mx1 mx2, ll]
              rfl
            refine q T9 (.ref ta) (.ref tz) _ ((((s1.trans s2).trans s3).trans s4).trans s49) ?_ ?_ ?_
            · rw [efl]
              exact SqT.of upd_same
            · show PO K _ _ ps.head?
              rw [eA]
              exact ⟨ta, rfl, sqT_same (s4.trans s49) hA⟩
            · show PO K _ _ ps.getLast?
              rw [eZ]
              exact ⟨tz, rfl, sqT_same (s4.trans s49) hZ⟩
end
theorem cut_ints (ns : List Int) (lo hi : Option Int) : ∃ ms : List Int, cutV (ns.map V.int) lo hi = ms.map V.int ∧ ms.length ≤ ns.length := by
  unfold cutV
  refine ⟨(ns.drop (HT.sIx (ns.map V.int).length 0 lo)).take (HT.sIx (ns.map V.int).length (ns.map V.int).length hi - HT.sIx (ns.map V.int).length 0 lo), ?_, ?_⟩
  · rw [List.map_take, List.map_drop]
  · rw [List.length_take, List.length_drop]
    omega
section
variable {P : Program} {w : World} {K : PySem.W.Frag} {mg : Str → Option Value} {base : Heap} {C TW : Addr}
end
end Tg

namespace Tg
open PySem PySem.Spec PyProof.Rows L2
abbrev sFT : Stmt := topS 5
abbrev sRp : Stmt := inCls (topS 4) 2
abbrev NFT : List Str := ["fold", "fields", "name", "field"]
theorem scFT : FnScope NFT ["fold"] (defScope sFT) := ⟨rfl, rfl, rfl, by decide +kernel, rfl, by decide +kernel, by decide +kernel⟩
theorem scRp : FnScope ["self"] ["self"] (defScope sRp) := ⟨rfl, rfl, rfl, by decide +kernel, rfl, by decide +kernel, by decide +kernel⟩
/-! ### what a fold is written as -/
/-- data that is written in some hundred signs -/
def Sd (d : PyData) : Prop := d.showable = true ∧ d.hasDict = false ∧ d.depth ≤ 60 ∧ d.shown.length ≤ 1000
theorem log_lt {n k : Nat} (h : n < 2 ^ k) (k0 : 0 < k) : n.log2 < k := by
  by_cases z : n = 0
  · subst z
    exact k0
  · exact (Nat.log2_lt z).mpr h
theorem int_len {i : Int} (h : i.natAbs < 2 ^ 200) : (Str.ofString (toString i)).length ≤ 201 := by
  rw [PySem.ofString_length]
  exact int_text_length_le (by decide) (log_lt h (by decide))
theorem sd_int {i : Int} (h : i.natAbs < 2 ^ 200) : Sd (.int i) := by
  refine ⟨decide_eq_true (Nat.lt_trans (log_lt h (by decide)) (by decide)), rfl, by show 0 ≤ 60; decide, ?_⟩
  exact Nat.le_trans (int_len h) (by decide)
theorem sd_none : Sd .none := ⟨rfl, rfl, by show 0 ≤ 60; decide, by decide +kernel⟩
theorem sd_pd {p : Pt} (h1 : p.1.natAbs < 2 ^ 200) (h2 : p.2.natAbs < 2 ^ 200) : Sd (pd p) := by
  refine ⟨?_, rfl, by show 1 ≤ 60; decide, ?_⟩
  · show (PyData.showable (.int p.1) && (PyData.showable (.int p.2) && true)) = true
    rw [(sd_int h1).1, (sd_int h2).1]
    rfl
  · have e := fmt_text [Str.ofString (toString p.1), Str.ofString (toString p.2)]
    have e1 := int_len h1
    have e2 := int_len h2
    have e3 : piled [Str.ofString (toString p.1), Str.ofString (toString p.2)] ≤ 500 := by
      rw [piled_cons, piled_cons]
      show _ + (_ + 0) ≤ 500
      omega
    exact Nat.le_trans e (by omega)
/-- a fold whose numbers have some sixty figures at most -/
structure SmF (F : FD) : Prop where
  cnt : F.cnt.natAbs < 2 ^ 200
  tot : F.tot.natAbs < 2 ^ 200
  sq : F.sq.natAbs < 2 ^ 200
  lo : ∀ m, F.lo = some m → m.natAbs < 2 ^ 200
  hi : ∀ m, F.hi = some m → m.natAbs < 2 ^ 200
  fst : ∀ p, F.fst = some p → p.1.natAbs < 2 ^ 200 ∧ p.2.natAbs < 2 ^ 200
  lst : ∀ p, F.lst = some p → p.1.natAbs < 2 ^ 200 ∧ p.2.natAbs < 2 ^ 200
  ris : F.ris.natAbs < 2 ^ 200
  hel : F.hel.natAbs < 2 ^ 200
theorem sd_dw {o : Option Int} (h : ∀ m, o = some m → m.natAbs < 2 ^ 200) : Sd (dw o) := by
  cases o with
  | none => exact sd_none
  | some m => exact sd_int (h m rfl)
theorem sd_od {o : Option Pt} (h : ∀ p, o = some p → p.1.natAbs < 2 ^ 200 ∧ p.2.natAbs < 2 ^ 200) : Sd (od o) := by
  cases o with
  | none => exact sd_none
  | some p => exact sd_pd (h p rfl).1 (h p rfl).2
def flist (F : FD) : List (Str × PyData) := [("count", .int F.cnt), ("total", .int F.tot), ("squares", .int F.sq), ("least", dw F.lo), ("greatest", dw F.hi), ("first", od F.fst), ("last", od F.lst), ("rise", .int F.ris), ("held", .int F.hel)]
/-- name=worth -/
def nw (x : Str × PyData) : Str := ((Str.empty ++ x.1) ++ "=") ++ x.2.shown
def ftx (F : FD) : Str := Txt.join ", " ((flist F).map nw)
def rpx (F : FD) : Str := ((Str.empty ++ "Fold(") ++ ftx F) ++ ")"
theorem len_empty (x : Str) : (Str.empty ++ x).length = x.length := by
  rw [strLen_append]
  exact Nat.zero_add _
theorem nw_len {x : Str × PyData} (h1 : x.1.length ≤ 20) (h2 : Sd x.2) : (nw x).length ≤ 1100 := by
  unfold nw
  have e : ((Str.ofString "=")).length = 1 := rfl
  rw [strLen_append, strLen_append, len_empty, e]
  have := h2.2.2.2
  omega
section
variable {P : Program} {w : World} {K : PySem.W.Frag} {mg : Str → Option Value} {base : Heap} {C : Addr} {k : Nat} {f : Addr} {cdv : Value} {A : Around} {outer : List Env} {s : Shared} {H0 : Hp} {E : XK}
/-- fields: their places, names, worths -/
def Fl (K : PySem.W.Frag) (H : Hp) (q : Addr × Str × V × PyData) : Prop := H q.1 = some (.tup [.str q.2.1, q.2.2.1]) ∧ Dp K H q.2.2.1 q.2.2.2 ∧ Sd q.2.2.2 ∧ q.2.1.length ≤ 20
def RFT (K : PySem.W.Frag) : TS := fun D σ H => ∃ (v0 v2 v3 : Option V) (l : Addr) (fs : List (Addr × Str × V × PyData)), σ = [v0, some (.ref l), v2, v3] ∧ H l = some (.lst (fs.map fun q : Addr × Str × V × PyData => V.ref q.1)) ∧ (∀ q, q ∈ fs → Fl K H q) ∧ fs.length ≤ 20 ∧
  ∀ H', Same H H' → D.rt (.str (Txt.join ", " (fs.map fun q => nw (q.2.1, q.2.2.2)))) H'
theorem ft_t (hg : A.guards = some []) (hr : Room k (A.deeper (envOfC "fields_text" (defScope sFT) s.heap.objs.size f cdv))) :
    PSs (cxOf CX0 P w K mg base NFT "fields_text" (defScope sFT) f cdv A outer s H0 E).nox ((defBody sFT).drop 1) (RFT K) := by
  have hu := hr.units
  refine pss_by (pss_one (ps_ret (pe_bm PySem.F.plainAttrs_str PySem.F.slot_str_join PySem.F.type_str_join mt_join pe_str (pa_cons (pe_lc (own := [("name", 2), ("field", 3)]) (g := gTup K 2 _) (tt := tYes) rfl scFT.nd (pi_list (pv 1)) (blkOk_by (own := [("name", 2), ("field", 3)]) (N := NFT) (sc := defScope sFT) (by decide +kernel)) (fun _ _ _ _ _ => (pg_tup rfl (pgs_cons (pg_name (i := 2) scFT.nd rfl (.inl rfl)) (pgs_cons (pg_name (i := 3) scFT.nd rfl (.inl rfl)) pgs_nil)))) (fun _ _ _ _ _ => pts_nil) (fun _ _ _ _ _ => (pe_jn (.cons (pe_fmt (pv 2)) (.cons pe_str (.cons (pe_fmtRDK K (by exact hu) (by exact hg) (pv 3)) .nil)))))) pa_nil)))) ?_
  rintro D σ H ⟨v0, v2, v3, l, fs, rfl, hl, ok, l20, q⟩
  refine ⟨rfl, _, rfl, l, rfl, ⟨_, SqL.of hl⟩, fun D1 nD1 => lc_list (K := K) (a := l) (xs := fs.map fun q : Addr × Str × V × PyData => V.ref q.1) (fun j Hc => Same H Hc ∧ Hc D1 = some (.lst (((fs.take j).map fun q => nw (q.2.1, q.2.2.2)).map V.str))) ⟨same_new nD1, upd_same⟩ (fun j Hc _ h => SqL.of (h.1 _ _ hl)) ?_ ?_⟩
  · rintro j v Hc hj ⟨sc, hD⟩
    rw [List.getElem?_map] at hj
    obtain ⟨x, hx, rfl⟩ := Option.map_eq_some_iff.mp hj
    obtain ⟨ht, hd, sd, ln⟩ := ok x (List.mem_of_getElem? hx)
    have n1 := nw_len (x := (x.2.1, x.2.2.2)) ln sd
    unfold nw at n1
    refine ⟨x.1, _, rfl, SqT.of (sc _ _ ht), rfl, _, _, rfl, _, [], rfl, rfl, rfl, yes_i (if_t ?_)⟩
    have z1 : ∀ n, n ≤ 1100 → n ≤ sizeLine := fun n h => Nat.le_trans h (by decide)
    rw [strLen_append, strLen_append] at n1
    dsimp only at n1
    refine ⟨_, rfl, .inl ⟨_, rfl, z1 _ (by omega), _, rfl, z1 _ (by omega), _, rfl, z1 _ (by rw [strLen_append]; omega), _, rfl, _, dp_same sc hd, sd.1, sd.2.1, sd.2.2.1, z1 _ (by have := sd.2.2.2; omega), _, rfl, z1 _ (by rw [strLen_append, strLen_append]; omega), ?_⟩⟩
    refine ⟨_, hD, ?_, same_put nD1 sc, ?_⟩
    · rw [List.length_map, List.length_map, List.length_take]
      exact small1000 (by omega)
    · rw [upd_same, take_snoc hx, List.map_append, List.map_append]
      rfl
  · rintro H1 ⟨s1, hD⟩
    have zz : fs.take (fs.map fun q : Addr × Str × V × PyData => V.ref q.1).length = fs := List.take_of_length_le (by rw [List.length_map]; exact Nat.le_refl _)
    rw [zz] at hD
    refine ⟨_, D1, _, rfl, rfl, .inl (SqL.of hD), ?_, q H1 s1⟩
    have sum : ∀ gs : List (Addr × Str × V × PyData), (∀ q, q ∈ gs → q ∈ fs) → ((gs.map fun q => nw (q.2.1, q.2.2.2)).map (·.length)).sum ≤ 1100 * gs.length := fun gs => by
      induction gs with
      | nil => exact fun _ => Nat.zero_le _
      | cons g gs ih =>
        intro h
        have h1 := ih fun q hq => h q (.tail _ hq)
        obtain ⟨_, _, sd, ln⟩ := ok g (h g (.head _))
        have h2 := nw_len (x := (g.2.1, g.2.2.2)) ln sd
        rw [List.map_cons, List.map_cons, List.sum_cons, List.length_cons]
        omega
    have := sum fs fun _ h => h
    have e2 : ((Str.ofString ", ")).length = 2 := rfl
    rw [List.length_map, e2]
    omega
def spFT (K : PySem.W.Frag) (C : Addr) : Sp := fun vs H Q _ => ∃ (a : Addr) (F : FD), vs = [.ref a] ∧ FdO K C H a F ∧ SmF F ∧ ∀ H', Same H H' → Q (.str (ftx F)) H'
theorem ok_ft {fd : FuncData} (F : Fun K "fields_text" "fields_text" sFT f fd) (T : TFold K C) : FnG P w K mg base CX0 (k + 1) f fd ["fold"] (spFT K C) := by
  refine okG F scFT (fun vs H Q E h => ?_) (fun cdv A outer s H vs Q E hg hr h => ?_)
  · obtain ⟨a, F, rfl, _⟩ := h
    rfl
  · obtain ⟨a, F, rfl, fa, sm, q⟩ := h
    refine ⟨_, pss_cons (ps_set (i := 1) scFT.nd rfl (.inl rfl) (pe_lst (pa_cons (pe_tup (pa_cons pe_str (pa_cons (pe_fld (pv 0) rfl) pa_nil))) (pa_cons (pe_tup (pa_cons pe_str (pa_cons (pe_fld (pv 0) rfl) pa_nil))) (pa_cons (pe_tup (pa_cons pe_str (pa_cons (pe_fld (pv 0) rfl) pa_nil))) (pa_cons (pe_tup (pa_cons pe_str (pa_cons (pe_fld (pv 0) rfl) pa_nil))) (pa_cons (pe_tup (pa_cons pe_str (pa_cons (pe_fld (pv 0) rfl) pa_nil))) (pa_cons (pe_tup (pa_cons pe_str (pa_cons (pe_fld (pv 0) rfl) pa_nil))) (pa_cons (pe_tup (pa_cons pe_str (pa_cons (pe_fld (pv 0) rfl) pa_nil))) (pa_cons (pe_tup (pa_cons pe_str (pa_cons (pe_fld (pv 0) rfl) pa_nil))) (pa_cons (pe_tup (pa_cons pe_str (pa_cons (pe_fld (pv 0) rfl) pa_nil))) pa_nil)))))))))))
      (ft_t hg hr), ?_⟩
    obtain ⟨dA, fA, lA, eA, pA, zA⟩ := id fa
    refine ⟨_, rfl, a, C, dA, _, _, rfl, eA, T.cl, T.no _ (by decide), rfl, (by show 2 ≤ sizeLine; decide), fun t1 n1 => ?_⟩
    have s1 : Same H (upd H t1 (.tup [.str "count", .int F.cnt])) := same_new n1
    obtain ⟨H1, e1⟩ : ∃ H1, upd H t1 (.tup [.str "count", .int F.cnt]) = H1 := ⟨_, rfl⟩
    have u1 : H1 t1 = some (.tup [.str "count", .int F.cnt]) := by
      rw [← e1]
      exact upd_same
    rw [e1] at s1
    dsimp only
    rw [e1]
    replace eA := s1 _ _ eA
    refine ⟨_, rfl, a, C, dA, _, _, rfl, eA, T.cl, T.no _ (by decide), rfl, (by show 2 ≤ sizeLine; decide), fun t2 n2 => ?_⟩
    have s2 : Same H1 (upd H1 t2 (.tup [.str "total", .int F.tot])) := same_new n2
    obtain ⟨H2, e2⟩ : ∃ H2, upd H1 t2 (.tup [.str "total", .int F.tot]) = H2 := ⟨_, rfl⟩
    have u2 : H2 t2 = some (.tup [.str "total", .int F.tot]) := by
      rw [← e2]
      exact upd_same
    rw [e2] at s2
    dsimp only
    rw [e2]
    replace eA := s2 _ _ eA
    refine ⟨_, rfl, a, C, dA, _, _, rfl, eA, T.cl, T.no _ (by decide), rfl, (by show 2 ≤ sizeLine; decide), fun t3 n3 => ?_⟩
    have s3 : Same H2 (upd H2 t3 (.tup [.str "squares", .int F.sq])) := same_new n3
    obtain ⟨H3, e3⟩ : ∃ H3, upd H2 t3 (.tup [.str "squares", .int F.sq]) = H3 := ⟨_, rfl⟩
    have u3 : H3 t3 = some (.tup [.str "squares", .int F.sq]) := by
      rw [← e3]
      exact upd_same
    rw [e3] at s3
    dsimp only
    rw [e3]
    replace eA := s3 _ _ eA
    refine ⟨_, rfl, a, C, dA, _, _, rfl, eA, T.cl, T.no _ (by decide), rfl, (by show 2 ≤ sizeLine; decide), fun t4 n4 => ?_⟩
    have s4 : Same H3 (upd H3 t4 (.tup [.str "least", vw F.lo])) := same_new n4
    obtain ⟨H4, e4⟩ : ∃ H4, upd H3 t4 (.tup [.str "least", vw F.lo]) = H4 := ⟨_, rfl⟩
    have u4 : H4 t4 = some (.tup [.str "least", vw F.lo]) := by
      rw [← e4]
      exact upd_same
    rw [e4] at s4
    dsimp only
    rw [e4]
    replace eA := s4 _ _ eA
    refine ⟨_, rfl, a, C, dA, _, _, rfl, eA, T.cl, T.no _ (by decide), rfl, (by show 2 ≤ sizeLine; decide), fun t5 n5 => ?_⟩
    have s5 : Same H4 (upd H4 t5 (.tup [.str "greatest", vw F.hi])) := same_new n5
    obtain ⟨H5, e5⟩ : ∃ H5, upd H4 t5 (.tup [.str "greatest", vw F.hi]) = H5 := ⟨_, rfl⟩
    have u5 : H5 t5 = some (.tup [.str "greatest", vw F.hi]) := by
      rw [← e5]
      exact upd_same
    rw [e5] at s5
    dsimp only
    rw [e5]
    replace eA := s5 _ _ eA
    refine ⟨_, rfl, a, C, dA, _, _, rfl, eA, T.cl, T.no _ (by decide), rfl, (by show 2 ≤ sizeLine; decide), fun t6 n6 => ?_⟩
    have s6 : Same H5 (upd H5 t6 (.tup [.str "first", fA])) := same_new n6
    obtain ⟨H6, e6⟩ : ∃ H6, upd H5 t6 (.tup [.str "first", fA]) = H6 := ⟨_, rfl⟩
    have u6 : H6 t6 = some (.tup [.str "first", fA]) := by
      rw [← e6]
      exact upd_same
    rw [e6] at s6
    dsimp only
    rw [e6]
    replace eA := s6 _ _ eA
    refine ⟨_, rfl, a, C, dA, _, _, rfl, eA, T.cl, T.no _ (by decide), rfl, (by show 2 ≤ sizeLine; decide), fun t7 n7 => ?_⟩
    have s7 : Same H6 (upd H6 t7 (.tup [.str "last", lA])) := same_new n7
    obtain ⟨H7, e7⟩ : ∃ H7, upd H6 t7 (.tup [.str "last", lA]) = H7 := ⟨_, rfl⟩
    have u7 : H7 t7 = some (.tup [.str "last", lA]) := by
      rw [← e7]
      exact upd_same
    rw [e7] at s7
    dsimp only
    rw [e7]
    replace eA := s7 _ _ eA
    refine ⟨_, rfl, a, C, dA, _, _, rfl, eA, T.cl, T.no _ (by decide), rfl, (by show 2 ≤ sizeLine; decide), fun t8 n8 => ?_⟩
    have s8 : Same H7 (upd H7 t8 (.tup [.str "rise", .int F.ris])) := same_new n8
    obtain ⟨H8, e8⟩ : ∃ H8, upd H7 t8 (.tup [.str "rise", .int F.ris]) = H8 := ⟨_, rfl⟩
    have u8 : H8 t8 = some (.tup [.str "rise", .int F.ris]) := by
      rw [← e8]
      exact upd_same
    rw [e8] at s8
    dsimp only
    rw [e8]
    replace eA := s8 _ _ eA
    refine ⟨_, rfl, a, C, dA, _, _, rfl, eA, T.cl, T.no _ (by decide), rfl, (by show 2 ≤ sizeLine; decide), fun t9 n9 => ?_⟩
    have s9 : Same H8 (upd H8 t9 (.tup [.str "held", .int F.hel])) := same_new n9
    obtain ⟨H9, e9⟩ : ∃ H9, upd H8 t9 (.tup [.str "held", .int F.hel]) = H9 := ⟨_, rfl⟩
    have u9 : H9 t9 = some (.tup [.str "held", .int F.hel]) := by
      rw [← e9]
      exact upd_same
    rw [e9] at s9
    dsimp only
    rw [e9]
    replace eA := s9 _ _ eA
    refine ⟨(by show 9 ≤ sizeLine; decide), fun l nl => ?_⟩
    have sl := same_new (o := .lst [.ref t1, .ref t2, .ref t3, .ref t4, .ref t5, .ref t6, .ref t7, .ref t8, .ref t9]) nl
    have r9 := sl
    have r8 := s9.trans r9
    have r7 := s8.trans r8
    have r6 := s7.trans r7
    have r5 := s6.trans r6
    have r4 := s5.trans r5
    have r3 := s4.trans r4
    have r2 := s3.trans r3
    have r1 := s2.trans r2
    have r0 := s1.trans r1
    refine ⟨_, _, _, l, [(t1, "count", .int F.cnt, .int F.cnt), (t2, "total", .int F.tot, .int F.tot), (t3, "squares", .int F.sq, .int F.sq), (t4, "least", vw F.lo, dw F.lo), (t5, "greatest", vw F.hi, dw F.hi), (t6, "first", fA, od F.fst), (t7, "last", lA, od F.lst), (t8, "rise", .int F.ris, .int F.ris), (t9, "held", .int F.hel, .int F.hel)], rfl, upd_same, fun x among => ?_, (by show 9 ≤ 20; decide), fun H' s' => q H' (r0.trans s')⟩
    rcases List.mem_cons.mp among with rfl | among
    · exact ⟨r1 _ _ u1, .int _, sd_int sm.cnt, by show (Str.ofString "count").length ≤ 20; decide +kernel⟩
    rcases List.mem_cons.mp among with rfl | among
    · exact ⟨r2 _ _ u2, .int _, sd_int sm.tot, by show (Str.ofString "total").length ≤ 20; decide +kernel⟩
    rcases List.mem_cons.mp among with rfl | among
    · exact ⟨r3 _ _ u3, .int _, sd_int sm.sq, by show (Str.ofString "squares").length ≤ 20; decide +kernel⟩
    rcases List.mem_cons.mp among with rfl | among
    · exact ⟨r4 _ _ u4, dp_vw _, sd_dw sm.lo, by show (Str.ofString "least").length ≤ 20; decide +kernel⟩
    rcases List.mem_cons.mp among with rfl | among
    · exact ⟨r5 _ _ u5, dp_vw _, sd_dw sm.hi, by show (Str.ofString "greatest").length ≤ 20; decide +kernel⟩
    rcases List.mem_cons.mp among with rfl | among
    · exact ⟨r6 _ _ u6, (pA.same r0).dp, sd_od sm.fst, by show (Str.ofString "first").length ≤ 20; decide +kernel⟩
    rcases List.mem_cons.mp among with rfl | among
    · exact ⟨r7 _ _ u7, (zA.same r0).dp, sd_od sm.lst, by show (Str.ofString "last").length ≤ 20; decide +kernel⟩
    rcases List.mem_cons.mp among with rfl | among
    · exact ⟨r8 _ _ u8, .int _, sd_int sm.ris, by show (Str.ofString "rise").length ≤ 20; decide +kernel⟩
    obtain rfl := List.mem_singleton.mp among
    exact ⟨r9 _ _ u9, .int _, sd_int sm.hel, by show (Str.ofString "held").length ≤ 20; decide +kernel⟩
theorem join_le (sep : Str) (l : List Str) : (Txt.join sep l).length ≤ (l.map (·.length)).sum + l.length * sep.length := by
  rw [show Txt.join sep l = Str.join sep l from StrLaws.glued_eq_join sep l]
  cases l with
  | nil => exact Nat.zero_le _
  | cons a r =>
    have e := PyProof.Rows.len_join_cons sep a r
    have e2 : r.length * sep.length ≤ (a :: r).length * sep.length := Nat.mul_le_mul_right _ (Nat.le_succ _)
    rw [e]
    omega
theorem ftx_len {F : FD} (sm : SmF F) : (ftx F).length ≤ 11000 := by
  have e := join_le ", " ((flist F).map nw)
  have n : ∀ a : Str, ∀ d : PyData, a.length ≤ 20 → Sd d → (nw (a, d)).length ≤ 1100 := fun a d h1 h2 => nw_len (x := (a, d)) h1 h2
  have h1 := n "count" _ (by decide +kernel) (sd_int sm.cnt)
  have h2 := n "total" _ (by decide +kernel) (sd_int sm.tot)
  have h3 := n "squares" _ (by decide +kernel) (sd_int sm.sq)
  have h4 := n "least" _ (by decide +kernel) (sd_dw sm.lo)
  have h5 := n "greatest" _ (by decide +kernel) (sd_dw sm.hi)
  have h6 := n "first" _ (by decide +kernel) (sd_od sm.fst)
  have h7 := n "last" _ (by decide +kernel) (sd_od sm.lst)
  have h8 := n "rise" _ (by decide +kernel) (sd_int sm.ris)
  have h9 := n "held" _ (by decide +kernel) (sd_int sm.hel)
  have e2 : ((Str.ofString ", ")).length = 2 := rfl
  have e3 : (((flist F).map nw).map (·.length)).sum ≤ 9900 := by
    simp only [flist, List.map_cons, List.map_nil, List.sum_cons, List.sum_nil]
    omega
  have e4 : ((flist F).map nw).length = 9 := rfl
  rw [e2, e4] at e
  unfold ftx
  omega
def spRp (K : PySem.W.Frag) (C : Addr) : Sp := fun vs H Q _ => ∃ (a : Addr) (F : FD), vs = [.ref a] ∧ FdO K C H a F ∧ SmF F ∧ ∀ H', Same H H' → Q (.str (rpx F)) H'
theorem ok_rp {fd : FuncData} (F : Fun K "__repr__" "Fold.__repr__" sRp f fd) (C_fields_text : CalG P w K mg base k "fields_text" ["fold"] (spFT K C)) : FnG P w K mg base CX0 (k + 1) f fd ["self"] (spRp K C) := by
  refine okG F scRp (fun vs H Q E h => ?_) (fun cdv A outer s H vs Q E hg hr h => ?_)
  · obtain ⟨a, F, rfl, _⟩ := h
    rfl
  · obtain ⟨a, F, rfl, fa, sm, q⟩ := h
    refine ⟨_, pss_one (ps_ret (pe_jn (.cons pe_str (.cons (pe_fmt (pe_calG C_fields_text hg (hr.mono (by omega)) (by rfl) (pa_cons (pv 0) pa_nil))) (.cons pe_str .nil))))), ?_⟩
    have l1 := ftx_len sm
    have z1 : ∀ n, n ≤ 12000 → n ≤ sizeLine := fun n h => Nat.le_trans h (by decide)
    have e5 : (Str.empty ++ Str.ofString "Fold(").length = 5 := rfl
    have e1 : (Str.ofString ")").length = 1 := rfl
    exact ⟨_, rfl, z1 _ (by rw [e5]; decide), _, rfl, a, F, rfl, fa, sm, fun H' s' => .inl ⟨_, rfl, z1 _ (by omega), _, rfl, z1 _ (by rw [strLen_append, e5]; omega), _, rfl, z1 _ (by rw [strLen_append, strLen_append, e5, e1]; omega), q H' s'⟩⟩
end
/-! ### the numbers of points' folds -/
theorem sum_lt {B : Nat} {ns : List Int} (l : ns.length ≤ 40) (h : ∀ x, x ∈ ns → x.natAbs ≤ B) (hB : 40 * B < 2 ^ 200) : ns.sum.natAbs < 2 ^ 200 :=
  Nat.lt_of_le_of_lt (Nat.le_trans (sum_le h) (Nat.mul_le_mul_right _ l)) hB
theorem zw_mem {α : Type} {f : α → α → Int} {x : Int} : ∀ {xs ys : List α}, x ∈ List.zipWith f xs ys → ∃ a b, a ∈ xs ∧ b ∈ ys ∧ x = f a b
  | [], _, h => nomatch h
  | _ :: _, [], h => nomatch h
  | a :: xs, b :: ys, h => by
    rcases List.mem_cons.mp h with rfl | r
    · exact ⟨a, b, .head _, .head _, rfl⟩
    · obtain ⟨c, d, h1, h2, h3⟩ := zw_mem r
      exact ⟨c, d, .tail _ h1, .tail _ h2, h3⟩
theorem smf_fOf {ps : List Pt} (ok : POk ps) (tb : TB ps) : SmF (fOf ps) := by
  have l40 := ok.len
  have big : (2 : Nat) ^ 60 < 2 ^ 200 := by decide
  have wm : ∀ {m : Int}, m ∈ wts ps → m.natAbs < 2 ^ 60 := fun {m} h => by
    obtain ⟨p, there, rfl⟩ := List.mem_map.mp h
    exact ok.sz p there
  have pp : ∀ {p : Pt}, p ∈ ps → p.1.natAbs < 2 ^ 200 ∧ p.2.natAbs < 2 ^ 200 := fun {p} h => ⟨Nat.lt_trans (tb p h) big, Nat.lt_trans (ok.sz p h) big⟩
  refine ⟨?_, ?_, ?_, fun m h => Nat.lt_trans (wm (List.min?_eq_some_iff.mp h).1) big, fun m h => Nat.lt_trans (wm (List.max?_eq_some_iff.mp h).1) big, fun p h => pp (List.mem_of_mem_head? h), fun p h => pp (List.mem_of_getLast? h), ?_, ?_⟩
  · show (((ps.length : Nat) : Int)).natAbs < 2 ^ 200
    exact Nat.lt_trans (show ((ps.length : Nat) : Int).natAbs < 2 ^ 60 by omega) big
  · exact sum_lt (B := 2 ^ 60) (by rw [wts_len]; omega) (fun x hx => Nat.le_of_lt (wm hx)) (by decide)
  · refine sum_lt (B := 2 ^ 120) (by rw [List.length_map, wts_len]; omega) (fun x hx => ?_) (by decide)
    obtain ⟨y, inW, rfl⟩ := List.mem_map.mp hx
    exact Nat.le_of_lt (wide_lt (wm inW) (wm inW))
  · refine sum_lt (B := 2 ^ 61) (by rw [List.length_zipWith, wts_len]; omega) (fun x hx => ?_) (by decide)
    obtain ⟨a, b, ha, hb, rfl⟩ := zw_mem hx
    have h1 := wm ha
    have h2 := wm (List.mem_of_mem_drop hb)
    unfold stp
    split
    · omega
    · split <;> omega
  · refine sum_lt (B := 2 ^ 121) (by rw [List.length_zipWith]; omega) (fun x hx => ?_) (by decide)
    obtain ⟨a, b, ha, hb, rfl⟩ := zw_mem hx
    have h1 := ok.sz a ha
    have h2 := tb a ha
    have h3 := tb b (List.mem_of_mem_drop hb)
    show (a.2 * (b.1 - a.1)).natAbs ≤ 2 ^ 121
    rw [Int.natAbs_mul]
    exact Nat.le_trans (Nat.mul_le_mul (Nat.le_of_lt h1) (show (b.1 - a.1).natAbs ≤ 2 ^ 61 by omega)) (by decide)
abbrev sErO : Stmt := inCls (topS 1) 0
theorem scErO : FnScope ["self", "at"] ["self", "at"] (defScope sErO) := ⟨rfl, rfl, rfl, by decide +kernel, rfl, by decide +kernel, by decide +kernel⟩
/-- the two errors that are caught -/
structure Two (K : PySem.W.Frag) (mg : Str → Option Value) (CO CW : Addr) : Prop where
  mO : mg "NoOrder" = some (.ref CO)
  mW : mg "NoWhat" = some (.ref CW)
  mi : mg "isinstance" = none
  mV : mg "ValueError" = none
  kO : PySem.W.kitOne K (.ref CO) (.ref CO) = some true
  kV : PySem.W.kitOne K (.ref CO) (.type "ValueError") = some true
  xc : ExcC K CO
  xf : XfC K CO
  no : PySem.W.findIn K (.ref CO) "at" = some none
  ex : PySem.W.exmAny K (.ref CO) [.ref CO, .ref CW] = some true
section
variable {P : Program} {w : World} {K : PySem.W.Frag} {mg : Str → Option Value} {base : Heap} {C CO CW : Addr} {f : Addr} {fd : FuncData} {k : Nat}
theorem ok_errO (F : Fun K "__init__" "NoOrder.__init__" sErO f fd) (T : OexC K CO) (hno : PySem.W.findIn K (.ref CO) "at" = some none) (mV : mg "ValueError" = none)
    (vV : PySem.W.findCls K (.type "ValueError") (.type "type") "__init__" = some (.val (.builtin "ValueError.__init__"))) : FnOk P w K mg base CX0 (k + 1) f fd ["self", "at"] (spErr CO "at") := by
  refine F.ok scErO (fun vs H Q E h => ?_) (fun cdv A outer s H vs Q E hr h => ?_)
  · obtain ⟨a, v, rfl, _⟩ := h
    rfl
  · obtain ⟨a, v, rfl, ha, q⟩ := h
    refine ⟨_, pss_cons (ps_expr (pe_veinit (by rfl) mV vV (pa_cons (pv 0) (pa_cons pe_str pa_nil)))) (pss_one (ps_ost (pv 0) (pv 1))), ?_⟩
    exact ⟨_, rfl, a, CO, _, rfl, by show 1 ≤ 1000; decide, T, ha, _, rfl, _, rfl, a, CO, rfl, T, hno, .inl ⟨ha, fun dx nd da => q dx nd da⟩⟩
/-! ### least and greatest of both -/
end
/-! ### a fold as a row of data -/
def nine (F : FD) : List PyData := [.int F.cnt, .int F.tot, .int F.sq, dw F.lo, dw F.hi, od F.fst, od F.lst, .int F.ris, .int F.hel]
theorem nine_form (F : FD) : SeqAt.shaped (.tuple (nine F)) = true ∧ PyData.eqv (.tuple (nine F)) (.tuple (nine F)) = true := by
  constructor
  · obtain ⟨a, b, c, lo, hi, x, y, d, e⟩ := F
    refine shaped_of ?_ ?_
    · cases lo <;> cases hi <;> cases x <;> cases y <;> rfl
    · cases lo <;> cases hi <;> cases x <;> cases y <;> first | (show 1 ≤ 64; decide) | (show 2 ≤ 64; decide)
  · show ((F.cnt == F.cnt) && ((F.tot == F.tot) && ((F.sq == F.sq) && (PyData.eqv (dw F.lo) (dw F.lo) && (PyData.eqv (dw F.hi) (dw F.hi) && (PyData.eqv (od F.fst) (od F.fst) && (PyData.eqv (od F.lst) (od F.lst) && ((F.ris == F.ris) && ((F.hel == F.hel) && true))))))))) = true
    rw [beq_self_eq_true, beq_self_eq_true, beq_self_eq_true, beq_self_eq_true, beq_self_eq_true, (dw_form _).2, (dw_form _).2, (od_form _).2, (od_form _).2]
    rfl
theorem dp_nine {K : PySem.W.Frag} {H : Hp} {t : Addr} {F : FD} {vf vl : V} (ht : SqT K H t (due F vf vl)) (h1 : PO K H vf F.fst) (h2 : PO K H vl F.lst) : Dp K H (.ref t) (.tuple (nine F)) :=
  .tup ht (.cons (.int _) (.cons (.int _) (.cons (.int _) (.cons (dp_vw _) (.cons (dp_vw _) (.cons h1.dp (.cons h2.dp (.cons (.int _) (.cons (.int _) .nil)))))))))
section
variable {P : Program} {w : World} {K : PySem.W.Frag} {mg : Str → Option Value} {base : Heap} {C CO CW : Addr} {f : Addr} {fd : FuncData} {k : Nat} {cdv : Value} {A : Around} {outer : List Env} {s : Shared} {H0 : Hp} {E : XK}
end
/-! ### texts of signs that are signs -/
def SOk (x : Str) : Prop := PyData.strOk x = true
theorem sok_app {x y : Str} (h1 : SOk x) (h2 : SOk y) : SOk (x ++ y) := by
  show ((x.cps ++ y.cps).all fun c => decide (c < 0x110000)) = true
  rw [Array.all_append]
  show ((x.cps.all fun c => decide (c < 0x110000)) && (y.cps.all fun c => decide (c < 0x110000))) = true
  rw [show (x.cps.all fun c => decide (c < 0x110000)) = true from h1, show (y.cps.all fun c => decide (c < 0x110000)) = true from h2]
  rfl
theorem sok_of (s : String) : SOk (Str.ofString s) := by
  show ((Str.ofString s).cps.all fun c => decide (c < 0x110000)) = true
  rw [Str.ofString_eq_toList, ← Array.all_toList, List.all_eq_true]
  intro c hc
  obtain ⟨ch, _, rfl⟩ := List.mem_map.mp hc
  refine decide_eq_true ?_
  have v : ch.val.toNat.isValidChar := ch.valid
  rcases v with h | h
  · exact Nat.lt_trans h (by decide)
  · exact h.2
theorem sok_empty : SOk Str.empty := by
  show PyData.strOk Str.empty = true
  decide +kernel
theorem sok_join {sep : Str} (hs : SOk sep) : ∀ {l : List Str}, (∀ x, x ∈ l → SOk x) → SOk (Str.join sep l)
  | [], _ => sok_empty
  | [x], h => h x (.head _)
  | x :: y :: r, h => sok_app (sok_app (h x (.head _)) hs) (sok_join hs fun z hz => h z (.tail _ hz))
theorem sok_int (i : Int) : SOk (PyData.int i).shown := sok_of _
theorem sok_pd (p : Pt) : SOk (pd p).shown := by
  refine sok_app (sok_app (sok_of _) (sok_join (sok_of _) fun x among => ?_)) (sok_of _)
  rcases List.mem_cons.mp among with rfl | among
  · exact sok_int _
  · rcases List.mem_cons.mp among with rfl | among
    · exact sok_int _
    · cases among
theorem sok_dw (o : Option Int) : SOk (dw o).shown := by
  cases o
  · exact sok_of _
  · exact sok_int _
theorem sok_od (o : Option Pt) : SOk (od o).shown := by
  cases o
  · exact sok_of _
  · exact sok_pd _
theorem sok_nw {s : String} {d : PyData} (h : SOk d.shown) : SOk (nw (Str.ofString s, d)) := sok_app (sok_app (sok_app sok_empty (sok_of s)) (sok_of _)) h
theorem sok_rpx (F : FD) : SOk (rpx F) := by
  refine sok_app (sok_app (sok_app sok_empty (sok_of _)) ?_) (sok_of _)
  unfold ftx
  rw [show Txt.join ", " ((flist F).map nw) = Str.join ", " ((flist F).map nw) from StrLaws.glued_eq_join ", " _]
  refine sok_join (sok_of _) fun x told => ?_
  obtain ⟨y, among, rfl⟩ := List.mem_map.mp told
  unfold flist at among
  rcases List.mem_cons.mp among with rfl | among
  · exact sok_nw (sok_int _)
  rcases List.mem_cons.mp among with rfl | among
  · exact sok_nw (sok_int _)
  rcases List.mem_cons.mp among with rfl | among
  · exact sok_nw (sok_int _)
  rcases List.mem_cons.mp among with rfl | among
  · exact sok_nw (sok_dw _)
  rcases List.mem_cons.mp among with rfl | among
  · exact sok_nw (sok_dw _)
  rcases List.mem_cons.mp among with rfl | among
  · exact sok_nw (sok_od _)
  rcases List.mem_cons.mp among with rfl | among
  · exact sok_nw (sok_od _)
  rcases List.mem_cons.mp among with rfl | among
  · exact sok_nw (sok_int _)
  obtain rfl := List.mem_singleton.mp among
  exact sok_nw (sok_int _)
section
variable {P : Program} {w : World} {K : PySem.W.Frag} {mg : Str → Option Value} {base : Heap} {C CO CW : Addr} {f : Addr} {fd : FuncData} {k : Nat} {cdv : Value} {A : Around} {outer : List Env} {s : Shared} {H0 : Hp} {E : XK}
variable {fE fR : Addr} {fdE fdR : FuncData} {j : Nat}
end
end Tg

namespace Tg
open PySem PySem.Spec PyProof.Rows L2
abbrev sBent : Stmt := topS 17
abbrev sFW : Stmt := topS 18
abbrev sAsk : Stmt := topS 19
theorem scBent : FnScope ["_law_draws_here", "_law_a_points", "_law_pick", "_law_at", "_law_time"] ["_law_draws_here", "_law_a_points"] (defScope sBent) := ⟨rfl, rfl, rfl, by decide +kernel, rfl, by decide +kernel, by decide +kernel⟩
theorem scFW : FnScope ["_law_a_points", "_law_at"] ["_law_a_points"] (defScope sFW) := ⟨rfl, rfl, rfl, by decide +kernel, rfl, by decide +kernel, by decide +kernel⟩
theorem scAsk : FnScope ["_law_a_points", "_law_way", "_law_told", "_law_kept", "e"] ["_law_a_points", "_law_way"] (defScope sAsk) := ⟨rfl, rfl, rfl, by decide +kernel, rfl, by decide +kernel, by decide +kernel⟩
/-- points whose times rise up to a place, and not there -/
structure Bad (ps : List Pt) (m : Nat) : Prop where
  len : ps.length ≤ 40
  lt : m + 1 < ps.length
  up : ∀ (i : Nat) (p q : Pt), i < m → ps[i]? = some p → ps[i + 1]? = some q → p.1 < q.1
  no : ∀ p q : Pt, ps[m]? = some p → ps[m + 1]? = some q → q.1 ≤ p.1
/-- where the times don't rise first -/
def Wr (ps : List Pt) : Option Nat → Prop
  | none => POk ps
  | some m => Bad ps m
def vWr : Option Nat → V
  | none => .non
  | some m => .int ((m + 1 : Nat) : Int)
section
variable {P : Program} {w : World} {K : PySem.W.Frag} {mg : Str → Option Value} {base : Heap} {C CO CW : Addr} {f : Addr} {fd : FuncData} {k : Nat} {ps : List Str} {sp sp' : Sp}
theorem fn_x (F : FnOk P w K mg base CX0 k f fd ps sp) : FnOk P w K mg base (L2.CX P w) k f fd ps sp := ⟨F.len, fun A outer s H args us vs Q E hr he hb hv hs => codeAny_mono (F.run A outer s H args us vs Q E hr he hb hv hs) fun r s' told => match r, told with
  | .error e, told => told.elim
  | .ok (.ret u), told => told⟩
theorem fn_or {CX : CXT} (F : FnOk P w K mg base CX k f fd ps sp) (G : FnOk P w K mg base CX k f fd ps sp') : FnOk P w K mg base CX k f fd ps (fun vs H Q E => sp vs H Q E ∨ sp' vs H Q E) :=
  ⟨fun vs H Q E h => h.elim (F.len vs H Q E) (G.len vs H Q E), fun A outer s H args us vs Q E hr he hb hv hs => hs.elim (F.run A outer s H args us vs Q E hr he hb hv) (G.run A outer s H args us vs Q E hr he hb hv)⟩
def spCkN (K : PySem.W.Frag) (CO : Addr) : Sp := fun vs H _ E => ∃ (l : Addr) (ps : List Pt) (m : Nat), vs = [.ref l] ∧ PtL K H l ps ∧ Bad ps m ∧ ∀ (d : Addr) (H' : Hp), Same H H' → H d = none → H' d = some (.xd [("at", .int ((m + 1 : Nat) : Int))]) → E (.ref CO) (some d) H'
theorem ok_ckN (F : Fun K "check_rising" "check_rising" sCkR f fd) (C_err : CalE P w K mg base k "NoOrder" CO "at") (m_range : mg "range" = none) (m_len : mg "len" = none) : FnOk P w K mg base (L2.CX P w) (k + 2) f fd ["points"] (spCkN K CO) := by
  refine F.okX scCkR (fun vs H Q E h => ?_) (fun cdv A outer s H vs Q E hr h => ?_)
  · obtain ⟨l, ps, m, rfl, _⟩ := h
    rfl
  · obtain ⟨l, ps, m, rfl, ⟨xs, hl, hd⟩, bad, q⟩ := h
    refine ⟨_, pss_one (ps_for (passes_of rfl) rfl (pi_range2 (by rfl) m_range (pa_cons pe_int (pa_cons (pe_callB call_len_seq (by rfl) m_len (by decide +kernel) (pa_cons (pv 0) pa_nil)) pa_nil))) (pg_name (i := 1) scCkR.nd rfl (.inl rfl))
        (pss_one (ps_if (pt_cmpR op_le (pe_ix ix_tup (pe_ix ix_list (pv 0) (pv 1) (fun _ _ => rfl)) pe_int (fun _ _ => rfl)) (pe_ix ix_tup (pe_ix ix_list (pv 0) (pe_op op_sub (pv 1) pe_int) (fun _ _ => rfl)) pe_int (fun _ _ => rfl)) (nomark _))
          (pss_one (ps_raise rfl (takes_of rfl rfl rfl rfl) (pm_err C_err hr (by rfl) (pv 1))))
          pss_nil))), ?_⟩
    have ll := dl_len hd
    have l40 := bad.len
    have lm := bad.lt
    refine ⟨_, rfl, l, xs, rfl, .inl hl, 1, _, rfl, ⟨by decide, by decide, by omega, by omega⟩, ?_⟩
    rw [show (((xs.length : Nat) : Int) - 1).toNat = xs.length - 1 by omega]
    refine for_range (n := xs.length - 1) (fun i σ H2 => ∃ z : Option V, σ = [some (.ref l), z] ∧ H2 = H ∧ i ≤ m) ⟨none, rfl, rfl, Nat.zero_le _⟩ ?_ ?_
    · rintro i σ H2 hi ⟨z, rfl, rfl, im⟩
      obtain ⟨p, hp⟩ : ∃ p, ps[i]? = some p := ⟨_, List.getElem?_eq_getElem (by omega)⟩
      obtain ⟨r, hr2⟩ : ∃ r, ps[i + 1]? = some r := ⟨_, List.getElem?_eq_getElem (by omega)⟩
      obtain ⟨v1, e1, d1⟩ := dl_get hd hp
      obtain ⟨v2, e2, d2⟩ := dl_get hd hr2
      obtain ⟨t1, rfl, h1⟩ := dp_pd d1
      obtain ⟨t2, rfl, h2⟩ := dp_pd d2
      have g2 : atI xs (1 + ((i : Nat) : Int)) = some (.ref t2) := by
        rw [show (1 + ((i : Nat) : Int)) = ((i + 1 : Nat) : Int) by omega]
        exact atI_nat e2
      have g1 : atI xs (1 + ((i : Nat) : Int) - 1) = some (.ref t1) := by
        rw [show (1 + ((i : Nat) : Int)) - 1 = ((i : Nat) : Int) by omega]
        exact atI_nat e1
      refine ⟨_, rfl, _, rfl, l, xs, _, .ref t2, rfl, rfl, hl, g2, t2, _, _, _, rfl, rfl, h2, rfl, _, rfl, _, rfl, _, _, rfl, rfl, l, xs, _, .ref t1, rfl, rfl, hl, g1, t1, _, _, _, rfl, rfl, h1, rfl, _, _, rfl, rfl, _, rfl, ?_⟩
      rcases Nat.lt_or_ge i m with lt | ge
      · exact if_n (decide_eq_false (by have := bad.up i p r lt hp hr2; omega)) ⟨_, rfl, rfl, lt⟩
      · obtain rfl : i = m := Nat.le_antisymm im ge
        refine if_y (decide_eq_true (bad.no p r hp hr2)) (err_read ⟨_, rfl, fun d H' s' nd hd => q d H' s' nd (by rw [hd, show (1 + ((i : Nat) : Int)) = ((i + 1 : Nat) : Int) by omega])⟩ fun {Q Q'} hq ⟨v, e, q⟩ => ⟨v, e, hq _ _ q⟩)
    · rintro σ H2 ⟨z, rfl, rfl, im⟩
      omega
theorem ok_foN (F : Fun K "fold_of" "fold_of" sFO f fd) (C_check_rising : CalR P w K mg base k "check_rising" ["points"] (spCkN K CO)) (m_list : mg "list" = none) : FnOk P w K mg base (L2.CX P w) (k + 1) f fd ["points"] (spCkN K CO) := by
  refine F.okX scFO (fun vs H Q E h => ?_) (fun cdv A outer s H vs Q E hr h => ?_)
  · obtain ⟨l, ps, m, rfl, _⟩ := h
    rfl
  · obtain ⟨l, ps, m, rfl, ⟨xs, hl, hd⟩, bad, q⟩ := h
    refine ⟨_, pss_cons (ps_set (i := 1) scFO.nd rfl (.inl rfl) (pe_callTy call_list_of (by rfl) m_list (by decide +kernel) (pa_cons (pv 0) pa_nil)))
      (pss_cons (ps_expr (pe_calR (E := E) C_check_rising hr (by rfl) (passes_call (takes_of rfl rfl rfl rfl) (fun _ _ _ _ z => z)) (pa_cons (pv 1) pa_nil))) pss_dead), ?_⟩
    refine ⟨_, rfl, l, xs, rfl, .inl hl, fun t nt => ?_⟩
    have s1 := same_new (o := .lst xs) nt
    exact ⟨_, rfl, t, ps, m, rfl, ⟨xs, SqL.of upd_same, dpAll_same s1 hd⟩, bad, fun d H' s' nd hd => q d H' (s1.trans s') (s1.free nd) hd⟩
/-- fold_of, whatever it is asked of -/
def spFX (K : PySem.W.Frag) (C CO : Addr) : Sp := fun vs H Q E => spFO K C vs H Q E ∨ spCkN K CO vs H Q E
def spFW (K : PySem.W.Frag) : Sp := fun vs H Q _ => ∃ (l : Addr) (ps : List Pt) (r : Option Nat), vs = [.ref l] ∧ PtL K H l ps ∧ Wr ps r ∧ Q (vWr r) H
theorem ok_fw (F : Fun K "_law_first_wrong" "_law_first_wrong" sFW f fd) (m_range : mg "range" = none) (m_len : mg "len" = none) : FnOk P w K mg base CX0 (k + 1) f fd ["_law_a_points"] (spFW K) := by
  refine F.ok scFW (fun vs H Q E h => ?_) (fun cdv A outer s H vs Q E hr h => ?_)
  · obtain ⟨l, ps, m, rfl, _⟩ := h
    rfl
  · obtain ⟨l, ps, r, rfl, ⟨xs, hl, hd⟩, wr, q⟩ := h
    refine ⟨_, pss_cons (ps_for PassesOwn.never rfl (pi_range2 (by rfl) m_range (pa_cons pe_int (pa_cons (pe_callB call_len_seq (by rfl) m_len (by decide +kernel) (pa_cons (pv 0) pa_nil)) pa_nil))) (pg_name (i := 1) scFW.nd rfl (.inl rfl))
        (pss_one (ps_if (pt_cmpR op_le (pe_ix ix_tup (pe_ix ix_list (pv 0) (pv 1) (fun _ _ => rfl)) pe_int (fun _ _ => rfl)) (pe_ix ix_tup (pe_ix ix_list (pv 0) (pe_op op_sub (pv 1) pe_int) (fun _ _ => rfl)) pe_int (fun _ _ => rfl)) (nomark _))
          (pss_one (ps_ret (pv 1)))
          pss_nil))) (pss_one (ps_ret pe_non)), ?_⟩
    have ll := dl_len hd
    have l40 : ps.length ≤ 40 := by
      cases r with
      | none => exact Nat.le_of_lt (show POk ps from wr).len
      | some m => exact (show Bad ps m from wr).len
    refine ⟨_, rfl, l, xs, rfl, .inl hl, 1, _, rfl, ⟨by decide, by decide, by omega, by omega⟩, ?_⟩
    rw [show (((xs.length : Nat) : Int) - 1).toNat = xs.length - 1 by omega]
    refine for_range (n := xs.length - 1) (fun i σ H2 => ∃ z : Option V, σ = [some (.ref l), z] ∧ H2 = H ∧ ∀ m, r = some m → i ≤ m) ⟨none, rfl, rfl, fun _ _ => Nat.zero_le _⟩ ?_ ?_
    · rintro i σ H2 hi ⟨z, rfl, rfl, im⟩
      obtain ⟨p, hp⟩ : ∃ p, ps[i]? = some p := ⟨_, List.getElem?_eq_getElem (by omega)⟩
      obtain ⟨y, hr2⟩ : ∃ r, ps[i + 1]? = some r := ⟨_, List.getElem?_eq_getElem (by omega)⟩
      obtain ⟨v1, e1, d1⟩ := dl_get hd hp
      obtain ⟨v2, e2, d2⟩ := dl_get hd hr2
      obtain ⟨t1, rfl, h1⟩ := dp_pd d1
      obtain ⟨t2, rfl, h2⟩ := dp_pd d2
      have g2 : atI xs (1 + ((i : Nat) : Int)) = some (.ref t2) := by
        rw [show (1 + ((i : Nat) : Int)) = ((i + 1 : Nat) : Int) by omega]
        exact atI_nat e2
      have g1 : atI xs (1 + ((i : Nat) : Int) - 1) = some (.ref t1) := by
        rw [show (1 + ((i : Nat) : Int)) - 1 = ((i : Nat) : Int) by omega]
        exact atI_nat e1
      refine ⟨_, rfl, _, rfl, l, xs, _, .ref t2, rfl, rfl, hl, g2, t2, _, _, _, rfl, rfl, h2, rfl, _, rfl, _, rfl, _, _, rfl, rfl, l, xs, _, .ref t1, rfl, rfl, hl, g1, t1, _, _, _, rfl, rfl, h1, rfl, _, _, rfl, rfl, _, rfl, ?_⟩
      cases r with
      | none => exact if_n (decide_eq_false (by have := (show POk ps from wr).up i p y hp hr2; omega)) ⟨_, rfl, rfl, fun _ z => nomatch z⟩
      | some m =>
        rcases Nat.lt_or_ge i m with lt | ge
        · exact if_n (decide_eq_false (by have := (show Bad ps m from wr).up i p y lt hp hr2; omega)) ⟨_, rfl, rfl, fun m' e => by cases e; exact lt⟩
        · obtain rfl : i = m := Nat.le_antisymm (im m rfl) ge
          refine if_y (decide_eq_true ((show Bad ps i from wr).no p y hp hr2)) ⟨_, rfl, ?_⟩
          rw [show (1 + ((i : Nat) : Int)) = ((i + 1 : Nat) : Int) by omega]
          exact q
    · rintro σ H2 ⟨z, rfl, rfl, im⟩
      cases r with
      | none => exact q
      | some m =>
        have lm := (show Bad ps m from wr).lt
        have := im m rfl
        omega
def spAsk (K : PySem.W.Frag) (C : Addr) : Sp := fun vs H Q _ => ∃ (l : Addr) (way : Int) (ps : List Pt) (r : Option Nat), vs = [.ref l, .int way] ∧ PtL K H l ps ∧ Wr ps r ∧ ∀ (a : Addr) (H' : Hp), Same H H' → H a = none →
  (r = none → ∃ x, H' a = some (.lst [.str "told", .ref x]) ∧ FdO K C H' x (fOf ps)) → (∀ m, r = some m → H' a = some (.lst [.bl true, .int ((m + 1 : Nat) : Int)])) → Q (.ref a) H'
theorem ok_ask (F : Fun K "_law_asked" "_law_asked" sAsk f fd) (N2 : Two K mg CO CW) (C_fold_of : CalR P w K mg base k "fold_of" ["points"] (spFX K C CO)) (C_fold_of_k : CalRK P w K mg base k "fold_of" ["points"] ["points"] [0] (spFX K C CO)) : FnOk P w K mg base CX0 (k + 1) f fd ["_law_a_points", "_law_way"] (spAsk K C) := by
  refine F.ok scAsk (fun vs H Q E h => ?_) (fun cdv A outer s H vs Q E hr h => ?_)
  · obtain ⟨l, way, ps, r, rfl, _⟩ := h
    rfl
  · obtain ⟨l, way, ps, r, rfl, px, wr, q⟩ := h
    refine ⟨_, pss_cons (ps_set (i := 2) scAsk.nd rfl (.inl rfl) pe_non) (pss_cons (ps_set (i := 3) scAsk.nd rfl (.inl rfl) pe_non)
      (pss_cons (ps_try_keep (i := 4) (j := 3) rfl rfl rfl scAsk.nd rfl rfl rfl rfl (tests_2 ⟨by rfl, N2.mO, by decide⟩ ⟨by rfl, N2.mW, by decide⟩)
        (fun W pn xe tk _ => pss_one (ps_if (pt_cmpR op_eq (pv 1) pe_int (nomark _))
          (pss_one (ps_set (i := 2) scAsk.nd rfl (.inl rfl) (pe_calT C_fold_of hr (by rfl) tk (pa_cons (pv 0) pa_nil))))
          (pss_one (ps_set (i := 2) scAsk.nd rfl (.inl rfl) (pe_calKT C_fold_of_k hr (by rfl) tk (pk_cons (pv 0) pk_nil)))))))
      (pss_cons (ps_if (pt_cmpR op_notN (pv 3) pe_non (nomark _))
        (pss_one (ps_ret (pe_lst (pa_cons (pe_and (pe_callB call_isV (by rfl) N2.mi PyProof.Rows.boot_isinstance (pa_cons (pv 3) (pa_cons (pe_glob (v := .ref CO) rfl N2.mO rfl) pa_nil))) (pe_one (pe_callB call_isV (by rfl) N2.mi PyProof.Rows.boot_isinstance (pa_cons (pv 3) (pa_cons (pe_bltn (v := .ty "ValueError") (by rfl) N2.mV PyProof.Rows.Boot.«ValueError» rfl) pa_nil))))) (pa_cons (pe_exf (pv 3)) pa_nil)))))
        pss_nil)
      (pss_one (ps_ret (pe_lst (pa_cons pe_str (pa_cons (pv 2) pa_nil)))))))), ?_⟩
    have good : r = none → ∀ (x : Addr) (H1 : Hp), Same H H1 → FdO K C H1 x (fOf ps) → ∀ a, H1 a = none → Q (.ref a) (upd H1 a (.lst [.str "told", .ref x])) := fun e x H1 s1 fx a na =>
      q a _ (s1.trans (same_new na)) (s1.free na) (fun _ => ⟨x, upd_same, fx.same (same_new na)⟩) (fun m z => by rw [e] at z; cases z)
    have wrong : ∀ m, r = some m → ∀ (H1 : Hp), Same H H1 → ∀ a, H1 a = none → Q (.ref a) (upd H1 a (.lst [.bl true, .int ((m + 1 : Nat) : Int)])) := fun m e H1 s1 a na =>
      q a _ (s1.trans (same_new na)) (s1.free na) (fun z => by rw [e] at z; cases z) (fun m' z => by rw [e] at z; cases z; exact upd_same)
    refine ⟨_, rfl, rfl, _, rfl, ite2 (fun g => ?_) (fun g => ?_)⟩
    · refine ⟨_, rfl, ?_⟩
      cases r with
      | none =>
        refine .inl ⟨l, ps, rfl, px, wr, fun a H' s' fa => ?_⟩
        exact ⟨_, rfl, rfl, false, rfl, if_f ⟨_, rfl, (by show 2 ≤ sizeLine; decide), fun y ny => good rfl a H' s' fa y ny⟩⟩
      | some m =>
        refine .inr ⟨l, ps, m, rfl, px, wr, fun d H' s' nd hd => ⟨N2.ex, fun e ne => ?_⟩⟩
        have sb : Same H' (upd H' e (ExV (.ref CO) (some d) e)) := same_new ne
        have hb : (upd H' e (ExV (.ref CO) (some d) e)) e = some (ExV (.ref CO) (some d) e) := upd_same
        have hdd := sb _ _ hd
        refine ⟨_, rfl, rfl, true, rfl, if_t ?_⟩
        refine ⟨_, rfl, e, CO, d, _, .ref CO, .ref CO, true, rfl, hb, hdd, N2.xc, .own _, N2.kO, true, rfl, if_t ?_⟩
        refine ⟨_, rfl, e, CO, d, _, .ty "ValueError", .type "ValueError", true, rfl, hb, hdd, N2.xc, .ty _, N2.kV, ?_⟩
        exact ⟨_, rfl, e, CO, d, _, .int ((m + 1 : Nat) : Int), rfl, hb, N2.xf, N2.no, hdd, rfl, (by show 2 ≤ sizeLine; decide), fun y ny => wrong m rfl _ (s'.trans sb) y ny⟩
    · refine ⟨_, rfl, rfl, ?_⟩
      cases r with
      | none =>
        refine .inl ⟨l, ps, rfl, px, wr, fun a H' s' fa => ?_⟩
        exact ⟨_, rfl, rfl, false, rfl, if_f ⟨_, rfl, (by show 2 ≤ sizeLine; decide), fun y ny => good rfl a H' s' fa y ny⟩⟩
      | some m =>
        refine .inr ⟨l, ps, m, rfl, px, wr, fun d H' s' nd hd => ⟨N2.ex, fun e ne => ?_⟩⟩
        have sb : Same H' (upd H' e (ExV (.ref CO) (some d) e)) := same_new ne
        have hb : (upd H' e (ExV (.ref CO) (some d) e)) e = some (ExV (.ref CO) (some d) e) := upd_same
        have hdd := sb _ _ hd
        refine ⟨_, rfl, rfl, true, rfl, if_t ?_⟩
        refine ⟨_, rfl, e, CO, d, _, .ref CO, .ref CO, true, rfl, hb, hdd, N2.xc, .own _, N2.kO, true, rfl, if_t ?_⟩
        refine ⟨_, rfl, e, CO, d, _, .ty "ValueError", .type "ValueError", true, rfl, hb, hdd, N2.xc, .ty _, N2.kV, ?_⟩
        exact ⟨_, rfl, e, CO, d, _, .int ((m + 1 : Nat) : Int), rfl, hb, N2.xf, N2.no, hdd, rfl, (by show 2 ≤ sizeLine; decide), fun y ny => wrong m rfl _ (s'.trans sb) y ny⟩
end
end Tg

namespace Tg
open PySem PySem.Spec PyProof.Rows L2
/-- a point put in behind the i-th, no later -/
theorem bad_in {ps : List Pt} {i : Nat} {p x : Pt} (ok : POk ps) (hp : ps[i]? = some p) (le : x.1 ≤ p.1) : Bad (ps.take (i + 1) ++ [x] ++ ps.drop (i + 1)) i := by
  obtain ⟨il, _⟩ := List.getElem?_eq_some_iff.mp hp
  have lt : (ps.take (i + 1)).length = i + 1 := by
    rw [List.length_take]
    omega
  have l40 := ok.len
  have at_low : ∀ j, j ≤ i → (ps.take (i + 1) ++ [x] ++ ps.drop (i + 1))[j]? = ps[j]? := fun j hj => by
    rw [List.append_assoc, List.getElem?_append_left (by omega), List.getElem?_take, if_pos (by omega)]
  have at_new : (ps.take (i + 1) ++ [x] ++ ps.drop (i + 1))[i + 1]? = some x := by
    rw [List.append_assoc, List.getElem?_append_right (by omega), lt, Nat.sub_self]
    rfl
  refine ⟨?_, ?_, fun j a b ji ha hb => ?_, fun a b ha hb => ?_⟩
  · rw [List.length_append, List.length_append, lt, List.length_drop]
    show i + 1 + 1 + _ ≤ 40
    omega
  · rw [List.length_append, List.length_append, lt]
    show i + 1 < i + 1 + 1 + _
    omega
  · rw [at_low j (by omega)] at ha
    rw [at_low (j + 1) (by omega)] at hb
    exact ok.up j a b ha hb
  · rw [at_low i (Nat.le_refl _), hp] at ha
    rw [at_new] at hb
    cases ha
    cases hb
    exact le
section
variable {P : Program} {w : World} {K : PySem.W.Frag} {mg : Str → Option Value} {base : Heap} {C CO CW : Addr} {f : Addr} {fd : FuncData} {k : Nat}
def spBent (K : PySem.W.Frag) : Sp := fun vs H Q _ => ∃ (p l : Addr) (n : Nat) (ps : List Pt), vs = [.ref p, .ref l] ∧ Dr H p n ∧ n < 900000 ∧ l ≠ p ∧ LD K H l (ps.map pd) ∧ POk ps ∧ TB ps ∧
  ∀ (l' : Addr) (ps' : List Pt) (r : Option Nat) (H' : Hp), Kp p H H' → Dr H' p (n + 1) → l' ≠ p → LD K H' l' (ps'.map pd) → Wr ps' r → (r = none → TB ps') → Q (.ref l') H'
theorem ok_bent (F : Fun K "_law_bent" "_law_bent" sBent f fd) (L_next : Cal P w K mg base k "_law_next" ["_law_draws_here"] spNext) (m_len : mg "len" = none) : FnOk P w K mg base CX0 (k + 1) f fd ["_law_draws_here", "_law_a_points"] (spBent K) := by
  refine F.ok scBent (fun vs H Q E h => ?_) (fun cdv A outer s H vs Q E hr h => ?_)
  · obtain ⟨p, l, n, ps, rfl, _⟩ := h
    rfl
  · obtain ⟨p, l, n, ps, rfl, dr, n9, lp, ld, ok, tb, q⟩ := h
    have hu := hr.units
    refine ⟨_, pss_cons (ps_set (i := 2) scBent.nd rfl (.inl rfl) (pe_cal L_next (hr.mono (by omega)) (by rfl) (pa_cons (pv 0) pa_nil)))
      (pss_cons (ps_if (PW.pt (pw_or (pt_cmpR op_ne (pe_op op_mod (pv 2) pe_int) pe_int (nomark _)) (pw_or1 (pt_cmpR (op_eqD hu) (pv 1) (pe_lst pa_nil) (nomark _)))))
        (pss_one (ps_ret (pv 1)))
        pss_nil)
      (pss_cons (ps_set (i := 3) scBent.nd rfl (.inl rfl) (pe_op op_mod (pe_op op_fdiv (pv 2) pe_int) (pe_callB call_len_seq (by rfl) m_len (by decide +kernel) (pa_cons (pv 1) pa_nil))))
      (pss_cons (ps_set (i := 4) scBent.nd rfl (.inl rfl) (pe_op op_sub (pe_ix ix_tup (pe_ix ix_list (pv 1) (pv 3) (fun _ _ => rfl)) pe_int (fun _ _ => rfl)) (pe_ix ix_list (pe_lst (pa_cons pe_int (pa_cons pe_int (pa_cons (pe_op op_pow pe_int pe_int) pa_nil)))) (pe_op op_mod (pe_op op_fdiv (pv 2) pe_int) pe_int) (fun _ _ => rfl))))
      (pss_one (ps_ret (pe_op op_cat (pe_op op_cat (pe_slice sl_list (pv 1) po_none (po_some (pe_op op_add (pv 3) pe_int))) (pe_lst (pa_cons (pe_tup (pa_cons (pv 4) (pa_cons (pe_op op_mod (pv 2) pe_int) pa_nil))) pa_nil))) (pe_slice sl_list (pv 1) (po_some (pe_op op_add (pv 3) pe_int)) po_none))))))), ?_⟩
    refine ⟨_, rfl, p, n, rfl, dr, by omega, fun pick H1 k1 d1 p0 p1 => ?_⟩
    have ld1 : LD K H1 l (ps.map pd) := by
      obtain ⟨da, dk, db, hp, _⟩ := dr
      exact ld.kp k1 hp nfix_lst lp (td_pds ps)
    have un : Q (.ref l) H1 := q l ps none H1 k1 d1 lp ld1 ok fun _ => tb
    refine ⟨_, rfl, _, _, rfl, rfl, (by show (0 : Int) < 3; decide), rfl, _, rfl, ite2 (fun g => if_t ⟨_, rfl, un⟩) (fun g => ?_)⟩
    refine ⟨_, rfl, (by show 0 ≤ sizeLine; decide), fun l9 n0 => ?_⟩
    have s0 := same_new (o := .lst []) n0
    refine ⟨_, _, (ld1.same s0).dp, .lst (SqL.of upd_same) .nil, (form_list (f := pd) (fun _ => rfl) (fun _ => Nat.le_refl 1) ref_pd ps).1, by decide +kernel, _, rfl, ?_⟩
    rw [eq_nil]
    cases ps with
    | nil => exact if_t ⟨_, rfl, q l [] none _ (k1.trans (Kp.of s0)) (d1.same s0) lp (ld1.same s0) ok fun _ => tb⟩
    | cons p9 pr =>
      obtain ⟨ps, eps⟩ : ∃ ps, p9 :: pr = ps := ⟨_, rfl⟩
      have l0 : 0 < ps.length := by
        rw [← eps]
        exact Nat.zero_lt_succ _
      refine if_f ?_
      rw [eps] at ld1 ok
      obtain ⟨xs, hx, hdx⟩ := ld1.same s0
      have lx := dl_len hdx
      have l40 := ok.len
      refine ⟨_, rfl, _, _, rfl, rfl, ⟨by decide, by decide⟩, _, rfl, l, xs, rfl, .inl (SqL.of hx), _, _, rfl, rfl, (by omega), ?_⟩
      obtain ⟨i, ei⟩ : ∃ i : Nat, pick / 3 % ((xs.length : Nat) : Int) = (i : Int) := ⟨(pick / 3 % ((xs.length : Nat) : Int)).toNat, by have := Int.emod_nonneg (pick / 3) (b := ((xs.length : Nat) : Int)) (by omega); omega⟩
      have il : i < xs.length := by
        have := Int.emod_lt_of_pos (pick / 3) (b := ((xs.length : Nat) : Int)) (by omega)
        omega
      have ev : (fun i j : Int => V.int (i % j)) (pick / 3) ((xs.length : Nat) : Int) = V.int (i : Int) := congrArg V.int ei
      rw [ev]
      obtain ⟨v, hv⟩ : ∃ v, xs[i]? = some v := ⟨_, List.getElem?_eq_getElem il⟩
      obtain ⟨y, hy, dy⟩ := dl_at hdx hv
      obtain ⟨t, rfl, ht⟩ := dp_pd dy
      refine ⟨_, rfl, _, rfl, l, xs, _, .ref t, rfl, rfl, SqL.of hx, atI_nat hv, t, _, _, _, rfl, rfl, ht, rfl, ?_⟩
      refine ⟨_, _, rfl, rfl, ⟨by decide, by decide, by decide⟩, (by show 3 ≤ sizeLine; decide), fun u nu => ?_⟩
      have su := same_new (o := .lst [.int 0, .int 1, .int (10 ^ 6)]) nu
      obtain ⟨b, bm, be⟩ := atI_mem (xs := [0, 1, 10 ^ 6]) (i := pick / 64 % 3) (by omega) (by show pick / 64 % 3 < ((3 : Nat) : Int); omega)
      have b0 : 0 ≤ b := by
        simp only [List.mem_cons, List.not_mem_nil, or_false] at bm
        omega
      refine ⟨_, rfl, _, _, rfl, rfl, ⟨by decide, by decide⟩, _, _, rfl, rfl, (by show (0 : Int) < 3; decide), u, _, _, _, rfl, rfl, SqL.of upd_same, be, _, _, rfl, rfl, ?_⟩
      have s2 := s0.trans su
      have hx2 := su _ _ hx
      have c1 : cutV xs none (some ((i : Int) + 1)) = xs.take (i + 1) := cut_to xs (i + 1)
      have c2 : cutV xs (some ((i : Int) + 1)) none = xs.drop (i + 1) := cut_from xs (i + 1)
      refine ⟨_, rfl, _, rfl, _, _, rfl, rfl, _, rfl, l, _, rfl, SqL.of hx2, fun l1 n1 => ?_⟩
      rw [c1]
      have s3 := same_new (o := .lst (xs.take (i + 1))) n1
      refine ⟨_, rfl, _, rfl, _, _, rfl, rfl, (by show (0 : Int) < 7; decide), (by show 2 ≤ sizeLine; decide), fun tp ntp => ⟨(by show 1 ≤ sizeLine; decide), fun l2 n2 => ?_⟩⟩
      have s4 := same_new (o := .tup [.int (y.1 - b), .int (pick % 7)]) ntp
      have s5 := same_new (o := .lst [.ref tp]) n2
      refine ⟨l1, l2, _, _, rfl, rfl, s5 _ _ (s4 _ _ upd_same), upd_same, Nat.le_of_lt (small1000 (by rw [List.length_take]; show _ + 1 ≤ 1000; omega)), fun l3 n3 => ?_⟩
      have s6 := same_new (o := .lst (xs.take (i + 1) ++ [.ref tp])) n3
      have s36 := ((s3.trans s4).trans s5).trans s6
      refine ⟨_, rfl, _, rfl, _, _, rfl, rfl, _, rfl, l, _, rfl, SqL.of (s36 _ _ hx2), fun l4 n4 => ?_⟩
      rw [c2]
      have s7 := same_new (o := .lst (xs.drop (i + 1))) n4
      refine ⟨l3, l4, _, _, rfl, rfl, s7 _ _ upd_same, upd_same, Nat.le_of_lt (small1000 (by rw [List.length_append, List.length_take, List.length_drop]; show _ + 1 + _ ≤ 1000; omega)), fun l5 n5 => ?_⟩
      have s8 := same_new (o := .lst (xs.take (i + 1) ++ [.ref tp] ++ xs.drop (i + 1))) n5
      have s58 := ((s5.trans s6).trans s7).trans s8
      have s28 := (s36.trans s7).trans s8
      have all := s2.trans s28
      have hd8 := dpAll_same (su.trans s28) hdx
      have dx : Dp K _ (.ref tp) (pd (y.1 - b, pick % 7)) := .tup (SqT.of (s58 _ _ upd_same)) (.cons (.int _) (.cons (.int _) .nil))
      refine q l5 (ps.take (i + 1) ++ [(y.1 - b, pick % 7)] ++ ps.drop (i + 1)) (some i) _ (k1.trans (Kp.of all)) (d1.same all) ((d1.same (s2.trans (s36.trans s7))).ne n5) ⟨_, upd_same, ?_⟩ (bad_in ok hy (by show y.1 - b ≤ y.1; omega)) (fun z => nomatch z)
      rw [List.map_append, List.map_append, List.map_take, List.map_drop]
      exact dpAll_app (dpAll_app (dpAll_take _ hd8) (.cons dx .nil)) (dpAll_drop _ hd8)
end
end Tg

namespace Tg
open PySem PySem.Spec PyProof.Rows L2
abbrev sTx : Stmt := topS 20
abbrev sMd : Stmt := topS 21
abbrev NTx : List Str := ["_law_due", "_law_names", "_law_name", "_law_thing"]
theorem scTx : FnScope NTx ["_law_due"] (defScope sTx) := ⟨rfl, rfl, rfl, by decide +kernel, rfl, by decide +kernel, by decide +kernel⟩
theorem scMd : FnScope ["_law_due"] ["_law_due"] (defScope sMd) := ⟨rfl, rfl, rfl, by decide +kernel, rfl, by decide +kernel, by decide +kernel⟩
abbrev nmsV : List V := [.str "count", .str "total", .str "squares", .str "least", .str "greatest", .str "first", .str "last", .str "rise", .str "held"]
def nwl (x : Str × PyData) : Str := (x.1 ++ "=") ++ x.2.shown
theorem nwl_is (x : Str × PyData) : nwl x = nw x := by
  unfold nwl nw
  rw [Str.empty_append]
theorem rpx_is (F : FD) : (Str.ofString "Fold(" ++ Txt.join ", " ((flist F).map nwl)) ++ ")" = rpx F := by
  unfold rpx ftx
  rw [Str.empty_append, List.map_congr_left fun x _ => nwl_is x]
section
variable {P : Program} {w : World} {K : PySem.W.Frag} {mg : Str → Option Value} {base : Heap} {C CO CW : Addr} {f : Addr} {fd : FuncData} {k : Nat}
theorem at_due {H : Hp} {F : FD} {vf vl : V} (p1 : PO K H vf F.fst) (p2 : PO K H vl F.lst) (sm : SmF F) : ∀ {j : Nat} {x y : V}, nmsV[j]? = some x → (due F vf vl)[j]? = some y →
    ∃ q, (flist F)[j]? = some q ∧ x = .str q.1 ∧ Dp K H y q.2 ∧ Sd q.2 ∧ q.1.length ≤ 20
  | 0, _, _, hx, hy => by cases hx; cases hy; exact ⟨_, rfl, rfl, .int _, sd_int sm.cnt, Nat.le_of_ble_eq_true rfl⟩
  | 1, _, _, hx, hy => by cases hx; cases hy; exact ⟨_, rfl, rfl, .int _, sd_int sm.tot, Nat.le_of_ble_eq_true rfl⟩
  | 2, _, _, hx, hy => by cases hx; cases hy; exact ⟨_, rfl, rfl, .int _, sd_int sm.sq, Nat.le_of_ble_eq_true rfl⟩
  | 3, _, _, hx, hy => by cases hx; cases hy; exact ⟨_, rfl, rfl, dp_vw _, sd_dw sm.lo, Nat.le_of_ble_eq_true rfl⟩
  | 4, _, _, hx, hy => by cases hx; cases hy; exact ⟨_, rfl, rfl, dp_vw _, sd_dw sm.hi, Nat.le_of_ble_eq_true rfl⟩
  | 5, _, _, hx, hy => by cases hx; cases hy; exact ⟨_, rfl, rfl, p1.dp, sd_od sm.fst, Nat.le_of_ble_eq_true rfl⟩
  | 6, _, _, hx, hy => by cases hx; cases hy; exact ⟨_, rfl, rfl, p2.dp, sd_od sm.lst, Nat.le_of_ble_eq_true rfl⟩
  | 7, _, _, hx, hy => by cases hx; cases hy; exact ⟨_, rfl, rfl, .int _, sd_int sm.ris, Nat.le_of_ble_eq_true rfl⟩
  | 8, _, _, hx, hy => by cases hx; cases hy; exact ⟨_, rfl, rfl, .int _, sd_int sm.hel, Nat.le_of_ble_eq_true rfl⟩
  | n + 9, _, _, hx, _ => nomatch hx
theorem sd_all {F : FD} (sm : SmF F) : ∀ q, q ∈ flist F → Sd q.2 ∧ q.1.length ≤ 20 := fun q hq => by
  unfold flist at hq
  simp only [List.mem_cons, List.not_mem_nil, or_false] at hq
  rcases hq with rfl | rfl | rfl | rfl | rfl | rfl | rfl | rfl | rfl
  · exact ⟨sd_int sm.cnt, Nat.le_of_ble_eq_true rfl⟩
  · exact ⟨sd_int sm.tot, Nat.le_of_ble_eq_true rfl⟩
  · exact ⟨sd_int sm.sq, Nat.le_of_ble_eq_true rfl⟩
  · exact ⟨sd_dw sm.lo, Nat.le_of_ble_eq_true rfl⟩
  · exact ⟨sd_dw sm.hi, Nat.le_of_ble_eq_true rfl⟩
  · exact ⟨sd_od sm.fst, Nat.le_of_ble_eq_true rfl⟩
  · exact ⟨sd_od sm.lst, Nat.le_of_ble_eq_true rfl⟩
  · exact ⟨sd_int sm.ris, Nat.le_of_ble_eq_true rfl⟩
  · exact ⟨sd_int sm.hel, Nat.le_of_ble_eq_true rfl⟩
def spTx (K : PySem.W.Frag) : Sp := fun vs H Q _ => ∃ (t : Addr) (F : FD) (vf vl : V), vs = [.ref t] ∧ SqT K H t (due F vf vl) ∧ PO K H vf F.fst ∧ PO K H vl F.lst ∧ SmF F ∧ ∀ H', Same H H' → Q (.str (rpx F)) H'
theorem ok_tx (F : Fun K "_law_text" "_law_text" sTx f fd) (m_zip : mg "zip" = none) (m_repr : mg "repr" = none) : FnG P w K mg base CX0 (k + 1) f fd ["_law_due"] (spTx K) := by
  refine okG F scTx (fun vs H Q E h => ?_) (fun cdv A outer s H vs Q E hg hr h => ?_)
  · obtain ⟨t, F, vf, vl, rfl, _⟩ := h
    rfl
  · obtain ⟨t, F, vf, vl, rfl, ht, p1, p2, sm, q⟩ := h
    have hu := hr.units
    refine ⟨_, pss_cons (ps_set (i := 1) scTx.nd rfl (.inl rfl) (pe_lst (pa_cons pe_str (pa_cons pe_str (pa_cons pe_str (pa_cons pe_str (pa_cons pe_str (pa_cons pe_str (pa_cons pe_str (pa_cons pe_str (pa_cons pe_str pa_nil)))))))))))
      (pss_one (ps_ret (pe_op op_add_str (pe_op op_add_str pe_str (pe_bm PySem.F.plainAttrs_str PySem.F.slot_str_join PySem.F.type_str_join mt_join pe_str (pa_cons (pe_lc (own := [("_law_name", 2), ("_law_thing", 3)]) (g := gTup K 2 _) (tt := tYes) rfl scTx.nd (pi_zipM (by rfl) m_zip (pa_cons (pv 1) (pa_cons (pv 0) pa_nil))) (blkOk_by (own := [("_law_name", 2), ("_law_thing", 3)]) (N := NTx) (sc := defScope sTx) (by decide +kernel)) (fun _ _ _ _ _ => (pg_tup rfl (pgs_cons (pg_name (i := 2) scTx.nd rfl (.inl rfl)) (pgs_cons (pg_name (i := 3) scTx.nd rfl (.inl rfl)) pgs_nil)))) (fun _ _ _ _ _ => pts_nil) (fun _ _ _ _ _ => (pe_op op_add_str (pe_op op_add_str (pv 2) pe_str) (pe_callB (cr_reprD K (by exact hu) (by exact hg)) (by rfl) m_repr (by decide +kernel) (pa_cons (pv 3) pa_nil))))) pa_nil))) pe_str))), ?_⟩
    refine ⟨(by show 9 ≤ sizeLine; decide), fun l nl => ?_⟩
    have s1 : Same H (upd H l (.lst nmsV)) := same_new nl
    obtain ⟨H1, e1⟩ : ∃ H1, upd H l (.lst nmsV) = H1 := ⟨_, rfl⟩
    have hl : H1 l = some (.lst nmsV) := by
      rw [← e1]
      exact upd_same
    rw [e1] at s1 ⊢
    replace q : ∀ H', Same H1 H' → Q (.str (rpx F)) H' := fun H' z => q H' (s1.trans z)
    replace ht := sqT_same s1 ht
    replace p1 := p1.same s1
    replace p2 := p2.same s1
    have ln : nmsV.length = (due F vf vl).length := rfl
    refine ⟨rfl, _, rfl, _, rfl, l, t, _, _, rfl, SqL.of hl, ht, fun D nD => lc_it (walk_zipM ln) (fun j Hc => Same H1 Hc ∧ Hc D = some (.lst ((((flist F).take j).map nwl).map V.str))) ⟨same_new nD, upd_same⟩ (fun j Hc _ h => ⟨SqL.of (h.1 _ _ hl), sqT_same h.1 ht⟩) ?_ ?_⟩
    · rintro j v Hc Hc' hj ⟨sc, hD⟩ ⟨T, x, y, rfl, nT, rfl, ex, ey⟩
      obtain ⟨r, hr1, rfl, dy, sd, l20⟩ := at_due p1 p2 sm ex ey
      have sT : Same Hc (upd Hc T (.tup [.str r.1, y])) := same_new nT
      have n1 := nw_len (x := r) l20 sd
      rw [← nwl_is] at n1
      unfold nwl at n1
      rw [strLen_append, strLen_append] at n1
      have z1 : ∀ n, n ≤ 1100 → n ≤ sizeLine := fun n h => Nat.le_trans h (by decide)
      refine ⟨T, _, rfl, SqT.of upd_same, rfl, _, _, rfl, _, [], rfl, rfl, rfl, yes_i (if_t ?_)⟩
      refine ⟨_, rfl, _, _, rfl, rfl, z1 _ (by omega), _, rfl, y, r.2, rfl, dp_same (sc.trans sT) dy, sd.1, sd.2.1, sd.2.2.1, z1 _ (by have := sd.2.2.2; omega), _, _, rfl, rfl, z1 _ (by rw [strLen_append]; omega), _, sT _ _ hD, ?_, same_put nD (sc.trans sT), ?_⟩
      · rw [List.length_map, List.length_map, List.length_take]
        exact small1000 (by show min j 9 ≤ _; omega)
      · rw [upd_same, take_snoc hr1, List.map_append, List.map_append]
        rfl
    · rintro H2 ⟨s2, hD⟩
      have zz : (flist F).take nmsV.length = flist F := List.take_of_length_le (Nat.le_refl _)
      rw [zz] at hD
      have sum : ∀ gs : List (Str × PyData), (∀ q, q ∈ gs → q ∈ flist F) → ((gs.map nwl).map (·.length)).sum ≤ 1100 * gs.length := fun gs => by
        induction gs with
        | nil => exact fun _ => Nat.zero_le _
        | cons g gs ih =>
          intro h
          have h1 := ih fun q hq => h q (.tail _ hq)
          obtain ⟨sd, ln⟩ := sd_all sm g (h g (.head _))
          have h2 := nw_len (x := g) ln sd
          rw [← nwl_is] at h2
          rw [List.map_cons, List.map_cons, List.sum_cons, List.length_cons]
          omega
      have all := sum (flist F) fun _ h => h
      have fl := ftx_len sm
      have ej : Txt.join ", " ((flist F).map nwl) = ftx F := by
        unfold ftx
        rw [List.map_congr_left fun x _ => nwl_is x]
      have e9 : (flist F).length = 9 := rfl
      rw [e9] at all
      refine ⟨_, D, _, rfl, rfl, .inl (SqL.of hD), ?_, ?_⟩
      · rw [List.length_map, e9]
        show _ + 9 * 2 ≤ _
        omega
      · have z2 : ∀ n, n ≤ 12000 → n ≤ sizeLine := fun n h => Nat.le_trans h (by decide)
        refine ⟨_, _, rfl, rfl, z2 _ (by rw [ej]; show 5 + _ ≤ _; omega), _, _, rfl, rfl, z2 _ (by rw [strLen_append, ej]; show 5 + _ + 1 ≤ _; omega), ?_⟩
        have e := rpx_is F
        rw [e]
        exact q H2 s2
end
end Tg

namespace Tg
open PySem PySem.Spec PyProof.Rows L2
abbrev kFoldR : List Str := ["held", "rise", "last", "first", "greatest", "least", "squares", "total", "count"]
section
variable {P : Program} {w : World} {K : PySem.W.Frag} {mg : Str → Option Value} {base : Heap} {C CO CW : Addr} {f : Addr} {fd : FuncData} {k : Nat}
abbrev KFR (P : Program) (w : World) (K : PySem.W.Frag) (mg : Str → Option Value) (base : Heap) (C : Addr) (k : Nat) : Prop := CalCK P w K mg base k "Fold" C NFI kFoldR (fun vs zs => vs ++ zs.reverse) (spFI C)
def spMd (K : PySem.W.Frag) (C : Addr) : Sp := fun vs H Q _ => ∃ (t : Addr) (F : FD) (vf vl : V), vs = [.ref t] ∧ SqT K H t (due F vf vl) ∧ PO K H vf F.fst ∧ PO K H vl F.lst ∧ ∀ a H', Same H H' → FdO K C H' a F → Q (.ref a) H'
theorem ok_md (F : Fun K "_law_made" "_law_made" sMd f fd) (K_FoldR : KFR P w K mg base C k) : FnOk P w K mg base CX0 (k + 2) f fd ["_law_due"] (spMd K C) := by
  refine F.ok scMd (fun vs H Q E h => ?_) (fun cdv A outer s H vs Q E hr h => ?_)
  · obtain ⟨t, F, vf, vl, rfl, _⟩ := h
    rfl
  · obtain ⟨t, F, vf, vl, rfl, ht, p1, p2, q⟩ := h
    refine ⟨_, pss_one (ps_ret (pe_calCK K_FoldR (hr.mono (by omega)) (by rfl) (pk_cons (pe_ix ix_tup (pv 0) pe_int (fun _ _ => rfl)) (pk_cons (pe_ix ix_tup (pv 0) pe_int (fun _ _ => rfl)) (pk_cons (pe_ix ix_tup (pv 0) pe_int (fun _ _ => rfl)) (pk_cons (pe_ix ix_tup (pv 0) pe_int (fun _ _ => rfl)) (pk_cons (pe_ix ix_tup (pv 0) pe_int (fun _ _ => rfl)) (pk_cons (pe_ix ix_tup (pv 0) pe_int (fun _ _ => rfl)) (pk_cons (pe_ix ix_tup (pv 0) pe_int (fun _ _ => rfl)) (pk_cons (pe_ix ix_tup (pv 0) pe_int (fun _ _ => rfl)) (pk_cons (pe_ix ix_tup (pv 0) pe_int (fun _ _ => rfl)) pk_nil))))))))))), ?_⟩
    refine ⟨_, rfl, t, _, _, _, rfl, rfl, ht, rfl, _, rfl, t, _, _, _, rfl, rfl, ht, rfl, _, rfl, t, _, _, _, rfl, rfl, ht, rfl, _, rfl, t, _, _, _, rfl, rfl, ht, rfl, _, rfl, t, _, _, _, rfl, rfl, ht, rfl, _, rfl, t, _, _, _, rfl, rfl, ht, rfl, _, rfl, t, _, _, _, rfl, rfl, ht, rfl, _, rfl, t, _, _, _, rfl, rfl, ht, rfl, _, rfl, t, _, _, _, rfl, rfl, ht, rfl, rfl, rfl, fun x dx nx nd ne => ⟨x, dx, _, _, _, _, _, _, _, _, _, rfl, upd_same, rfl, ?_⟩⟩
    have z := fd_made (K := K) (C := C) nx nd ne (F := F) (vf := vf) (vl := vl) p1 p2
    exact q x _ z.1 z.2
/-- what the own == of a fold says of it and another thing -/
def EqR (K : PySem.W.Frag) (C : Addr) (a : Addr) (y : V) (b : Bool) (H : Hp) : Prop :=
  (∃ (c : Addr) (F : FD) (h : Int), y = .ref c ∧ FdO K C H a F ∧ FdO K C H c { F with hel := h } ∧ b = decide (V.int F.hel = V.int h)) ∨
  (∃ (c : Addr) (F G : FD), y = .ref c ∧ FdO K C H a F ∧ FdO K C H c G ∧ F.cnt ≠ G.cnt ∧ b = false) ∨
  (∃ (F : FD) (t : Value), FdO K C H a F ∧ TyX K H y t ∧ PySem.W.kitOne K t (.ref C) = some false ∧ b = false)
theorem ok_eqB (F : Fun K "__eq__" "Fold.__eq__" sEq f fd) (T : TFold K C) (TI : TIns K C) (g_Fold : mg "Fold" = some (.ref C)) (m_isinstance : mg "isinstance" = none) : FnOk P w K mg base CX0 (k + 1) f fd ["self", "other"] (spEqB (EqR K C)) := by
  refine F.ok scEq (fun vs H Q E h => ?_) (fun cdv A outer s H vs Q E hr h => ?_)
  · obtain ⟨a, y, b, rfl, _⟩ := h
    rfl
  · obtain ⟨a, y, v, rfl, said, q⟩ := h
    have hu := hr.units
    refine ⟨_, pss_one (ps_ret (pe_and (pe_callB call_isi (by rfl) m_isinstance (by decide +kernel) (pa_cons (pv 1) (pa_cons (pe_glob (v := .ref C) rfl g_Fold rfl) pa_nil))) (pe_and (pe_cmpR op_eq (pe_fld (pv 0) rfl) (pe_fld (pv 1) rfl) (nomark _)) (pe_and (pe_cmpR op_eq (pe_fld (pv 0) rfl) (pe_fld (pv 1) rfl) (nomark _)) (pe_and (pe_cmpR op_eq (pe_fld (pv 0) rfl) (pe_fld (pv 1) rfl) (nomark _)) (pe_and (pe_cmpR (op_eqD hu) (pe_fld (pv 0) rfl) (pe_fld (pv 1) rfl) (nomark _)) (pe_and (pe_cmpR (op_eqD hu) (pe_fld (pv 0) rfl) (pe_fld (pv 1) rfl) (nomark _)) (pe_and (pe_cmpR (op_eqD hu) (pe_fld (pv 0) rfl) (pe_fld (pv 1) rfl) (nomark _)) (pe_and (pe_cmpR (op_eqD hu) (pe_fld (pv 0) rfl) (pe_fld (pv 1) rfl) (nomark _)) (pe_and (pe_cmpR op_eq (pe_fld (pv 0) rfl) (pe_fld (pv 1) rfl) (nomark _)) (pe_one (pe_cmpR op_eq (pe_fld (pv 0) rfl) (pe_fld (pv 1) rfl) (nomark _))))))))))))), ?_⟩
    rcases said with ⟨b, F, hh, rfl, ⟨dA, fA, lA, eA, pA, zA⟩, ⟨dB, fB, lB, eB, pB, zB⟩, rfl⟩ | ⟨b, F, G, rfl, ⟨dA, fA, lA, eA, pA, zA⟩, ⟨dB, fB, lB, eB, pB, zB⟩, ne, rfl⟩ | ⟨F, t, _, ty, kt, rfl⟩
    · refine ⟨_, rfl, .ref b, .ref C, .ref C, .ref C, true, rfl, .own _, .base (.ins eB T.cl TI.cc TI.get TI.takes TI.obj), TI.kit, true, rfl, if_t ?_⟩
      refine ⟨_, rfl, a, C, dA, _, _, rfl, eA, T.cl, T.no _ (by decide), rfl, _, rfl, b, C, dB, _, _, rfl, eB, T.cl, T.no _ (by decide), rfl, rfl, true, congrArg V.bl (decide_eq_true rfl), if_t ?_⟩
      refine ⟨_, rfl, a, C, dA, _, _, rfl, eA, T.cl, T.no _ (by decide), rfl, _, rfl, b, C, dB, _, _, rfl, eB, T.cl, T.no _ (by decide), rfl, rfl, true, congrArg V.bl (decide_eq_true rfl), if_t ?_⟩
      refine ⟨_, rfl, a, C, dA, _, _, rfl, eA, T.cl, T.no _ (by decide), rfl, _, rfl, b, C, dB, _, _, rfl, eB, T.cl, T.no _ (by decide), rfl, rfl, true, congrArg V.bl (decide_eq_true rfl), if_t ?_⟩
      refine ⟨_, rfl, a, C, dA, _, _, rfl, eA, T.cl, T.no _ (by decide), rfl, _, rfl, b, C, dB, _, _, rfl, eB, T.cl, T.no _ (by decide), rfl, _, _, dp_vw F.lo, dp_vw F.lo, (dw_form _).1, (dw_form _).1, true, congrArg V.bl (dw_form _).2, if_t ?_⟩
      refine ⟨_, rfl, a, C, dA, _, _, rfl, eA, T.cl, T.no _ (by decide), rfl, _, rfl, b, C, dB, _, _, rfl, eB, T.cl, T.no _ (by decide), rfl, _, _, dp_vw F.hi, dp_vw F.hi, (dw_form _).1, (dw_form _).1, true, congrArg V.bl (dw_form _).2, if_t ?_⟩
      refine ⟨_, rfl, a, C, dA, _, _, rfl, eA, T.cl, T.no _ (by decide), rfl, _, rfl, b, C, dB, _, _, rfl, eB, T.cl, T.no _ (by decide), rfl, _, _, pA.dp, PO.dp (o := F.fst) pB, (od_form _).1, (od_form _).1, true, congrArg V.bl (od_form _).2, if_t ?_⟩
      refine ⟨_, rfl, a, C, dA, _, _, rfl, eA, T.cl, T.no _ (by decide), rfl, _, rfl, b, C, dB, _, _, rfl, eB, T.cl, T.no _ (by decide), rfl, _, _, zA.dp, PO.dp (o := F.lst) zB, (od_form _).1, (od_form _).1, true, congrArg V.bl (od_form _).2, if_t ?_⟩
      refine ⟨_, rfl, a, C, dA, _, _, rfl, eA, T.cl, T.no _ (by decide), rfl, _, rfl, b, C, dB, _, _, rfl, eB, T.cl, T.no _ (by decide), rfl, rfl, true, congrArg V.bl (decide_eq_true rfl), if_t ?_⟩
      exact ⟨_, rfl, a, C, dA, _, _, rfl, eA, T.cl, T.no _ (by decide), rfl, _, rfl, b, C, dB, _, _, rfl, eB, T.cl, T.no _ (by decide), rfl, rfl, q H Ext.rfl'⟩
    · refine ⟨_, rfl, .ref b, .ref C, .ref C, .ref C, true, rfl, .own _, .base (.ins eB T.cl TI.cc TI.get TI.takes TI.obj), TI.kit, true, rfl, if_t ?_⟩
      exact ⟨_, rfl, a, C, dA, _, _, rfl, eA, T.cl, T.no _ (by decide), rfl, _, rfl, b, C, dB, _, _, rfl, eB, T.cl, T.no _ (by decide), rfl, rfl, false, congrArg V.bl (decide_eq_false fun z => ne (V.int.inj z)), if_f (q H Ext.rfl')⟩
    · exact ⟨_, rfl, y, .ref C, t, .ref C, false, rfl, .own _, ty, kt, false, rfl, if_f (q H Ext.rfl')⟩
end
end Tg

namespace Tg
open PySem PySem.Spec PyProof.Rows L2
abbrev sRt : Stmt := topS 22
abbrev NRt : List Str := ["_law_fold_here", "_law_a_points", "_law_due", "_law_thing", "_law_made_here"]
theorem scRt : FnScope NRt ["_law_fold_here", "_law_a_points"] (defScope sRt) := ⟨rfl, rfl, rfl, by decide +kernel, rfl, by decide +kernel, by decide +kernel⟩
theorem tyT {K : PySem.W.Frag} {H : Hp} {a : Addr} {xs : List V} (h : SqT K H a xs) : TyX K H (.ref a) (.type "tuple") := by
  rcases h with (h | ⟨o, h⟩) | ⟨o, its, n, h, c, _⟩
  · exact .base (.tup h)
  · exact .fTuple h
  · exact .kTuple h c
section
variable {P : Program} {w : World} {K : PySem.W.Frag} {mg : Str → Option Value} {base : Heap} {C CO CW : Addr} {f : Addr} {fd : FuncData} {k : Nat} {cdv : Value} {A : Around} {outer : List Env} {s : Shared} {H0 : Hp} {E : XK}
def SameF (K : PySem.W.Frag) (C : Addr) (a b : Addr) (H : Hp) : Prop := ∃ F, FdO K C H a F ∧ FdO K C H b F
theorem eq_same (F : FnOk P w K mg base CX0 k f fd ["self", "other"] (spEqB (EqR K C))) : FnOk P w K mg base CX0 k f fd ["self", "other"] (spEq (SameF K C)) :=
  F.imp fun _ _ _ _ ⟨a, b, e, ⟨G, fa, fb⟩, q⟩ => ⟨a, .ref b, true, e, .inl ⟨b, G, G.hel, rfl, fa, fb, (decide_eq_true rfl).symm⟩, q⟩
theorem FdO.ins {H : Hp} {a b : Addr} {F : FD} (hA : FdO K C H a F) (hB : FdO K C H b F) : DIns C (SameF K C) (.ref a) (.ref b) H := by
  obtain ⟨dA, fA, lA, eA, _⟩ := id hA
  obtain ⟨dB, fB, lB, eB, _⟩ := id hB
  exact ⟨a, b, dA, dB, _, _, rfl, rfl, eA, eB, F, hA, hB⟩
/-- the defs that are called, and what stands of the class -/
structure Fns (P : Program) (w : World) (K : PySem.W.Frag) (mg : Str → Option Value) (base : Heap) (C fE fR : Addr) (fdE fdR : FuncData) (j k : Nat) : Prop where
  jk : j + 1 ≤ k
  T : TFold K C
  TI : TIns K C
  FE : FnOk P w K mg base CX0 j fE fdE ["self", "other"] (spEqB (EqR K C))
  atE : PySem.W.findIn K (.ref C) "__eq__" = some (some (.ref fE))
  fnE : PySem.W.isFn K (.ref fE) = true
  hbE : Binds K fdE ["self", "other"] []
  NE : NeC K C fE
  FR : FnG P w K mg base CX0 j fR fdR ["self"] (spRp K C)
  atR : PySem.W.findIn K (.ref C) "__repr__" = some (some (.ref fR))
  fnR : PySem.W.isFn K (.ref fR) = true
  hbR : Binds K fdR ["self"] []
  L_text : CalG P w K mg base k "_law_text" ["_law_due"] (spTx K)
  L_made : Cal P w K mg base k "_law_made" ["_law_due"] (spMd K C)
  L_fields : Cal P w K mg base k "_law_fields" ["_law_fold_here"] (spFlds K C)
  L_fold : Cal P w K mg base k "_law_fold" ["_law_a_points"] (spFold K)
  K_Fold0 : KF0 P w K mg base C j
  g_Fold : mg "Fold" = some (.ref C)
  m_repr : mg "repr" = none
  m_isinstance : mg "isinstance" = none
  m_bool : mg "bool" = none
  nfT : PySem.W.notFirst K C (.type "tuple") = true
  nfC : PySem.W.notFirst K C (.ref C) = true
  noN : PySem.W.subIn K (.ref C) (.type "NoneType") = some false
  noS : PySem.W.subIn K (.ref C) (.type "str") = some false
  kT : PySem.W.kitOne K (.type "tuple") (.ref C) = some false
  kN : PySem.W.kitOne K (.type "NoneType") (.ref C) = some false
  kS : PySem.W.kitOne K (.type "str") (.ref C) = some false
/-- a fold, its points, what is due -/
structure Rt (K : PySem.W.Frag) (C : Addr) (H : Hp) (x l t : Addr) (ps : List Pt) (vf vl : V) : Prop where
  fx : FdO K C H x (fOf ps)
  ld : LD K H l (ps.map pd)
  ht : SqT K H t (due (fOf ps) vf vl)
  p1 : PO K H vf (fOf ps).fst
  p2 : PO K H vl (fOf ps).lst
  ok : POk ps
  tb : TB ps
theorem Rt.same {H H' : Hp} {x l t : Addr} {ps : List Pt} {vf vl : V} (h : Rt K C H x l t ps vf vl) (s : Same H H') : Rt K C H' x l t ps vf vl := ⟨h.fx.same s, h.ld.same s, sqT_same s h.ht, h.p1.same s, h.p2.same s, h.ok, h.tb⟩
variable {fE fR : Addr} {fdE fdR : FuncData} {j : Nat}
/-- the last row -/
def R5 (K : PySem.W.Frag) (C : Addr) : TS := fun D σ H => ∃ (v3 v4 : Option V) (x l t : Addr) (ps : List Pt) (vf vl : V), σ = [some (.ref x), some (.ref l), some (.ref t), v3, v4] ∧ Rt K C H x l t ps vf vl ∧ ∀ H', Same H H' → D.rt (.bl true) H'
theorem rt_5 (hr : Room k (A.deeper (envOfC "_law_right" (defScope sRt) s.heap.objs.size f cdv))) (Z : Fns P w K mg base C fE fR fdE fdR j k) :
    PSs (cxOf CX0 P w K mg base NRt "_law_right" (defScope sRt) f cdv A outer s H0 E).nox ((defBody sRt).drop 5) (R5 K C) := by
  obtain ⟨jk, T, TI, FE, atE, fnE, hbE, NE, FR, atR, fnR, hbR, L_text, L_made, L_fields, L_fold, K_Fold0, g_Fold, m_repr, m_isinstance, m_bool, nfT, nfC, noN, noS, kT, kN, kS⟩ := Z
  have hu := hr.units
  refine pss_by (pss_one (ps_ret (pe_and (pe_cmpR op_eq (pe_cmpR (op_eqB FE atE fnE hbE pass0 (hr.mono (by omega))) (pv 0) (pe_calCK K_Fold0 (hr.mono (by omega)) (by rfl) pk_nil) (nomark _)) (pe_cmpR (op_eqD hu) (pv 1) (pe_lst pa_nil) (nomark _)) (nomark _)) (pe_one (pe_cmpR op_is_bl (pe_cmpR (op_eqB FE atE fnE hbE pass0 (hr.mono (by omega))) (pv 0) (pe_cal L_made (hr.mono (by omega)) (by rfl) (pa_cons (pe_op op_catA (pe_slice sl_tup (pv 2) po_none (po_some pe_int)) (pe_tup (pa_cons (pe_op op_add (pe_ix ix_tup (pv 2) pe_int (fun _ _ => rfl)) pe_int) pa_nil))) pa_nil)) (nomark _)) pe_bl (nomark _)))))) ?_
  rintro D σ H ⟨v3, v4, x, l, t, ps, vf, vl, rfl, rt, q⟩
  obtain ⟨dX, fX, lX, eX, _⟩ := id rt.fx
  refine ⟨_, rfl, rfl, rfl, fun z dz nz ndz nez => ⟨z, dz, _, _, _, _, _, _, _, _, _, rfl, upd_same, rfl, ?_⟩⟩
  obtain ⟨sZ, fz⟩ := fd_made (K := K) (C := C) nz ndz nez (F := fOf []) (vf := .non) (vl := .non) rfl rfl
  obtain ⟨dZ, fZ, lZ, eZ, _⟩ := id fz
  have rtZ := rt.same sZ
  have said : ∀ Hx, FdO K C Hx x (fOf ps) → FdO K C Hx z (fOf []) → EqR K C x (.ref z) ps.isEmpty Hx := fun Hx h1 h2 => by
    cases ps with
    | nil => exact .inl ⟨z, fOf [], (fOf []).hel, rfl, h1, h2, (decide_eq_true rfl).symm⟩
    | cons p r => exact .inr (.inl ⟨z, fOf (p :: r), fOf [], rfl, h1, h2, (by show ((r.length + 1 : Nat) : Int) ≠ 0; omega), rfl⟩)
  refine ⟨x, dX, _, .ref C, ps.isEmpty, rfl, sZ _ _ eX, .base (.ins eZ T.cl TI.cc TI.get TI.takes TI.obj), nfC, said _ rtZ.fx fz, fun H1 x1 => ?_⟩
  have s1 := sZ.trans (show Same _ H1 from x1)
  have rt1 := rt.same s1
  refine ⟨_, rfl, (by show 0 ≤ sizeLine; decide), fun l0 n0 => ?_⟩
  have s2 := same_new (o := .lst []) n0
  have rt2 := rt1.same s2
  refine ⟨_, _, rt2.ld.dp, .lst (SqL.of upd_same) .nil, (pds_form ps).1, by decide +kernel, ?_⟩
  rw [eq_nil]
  refine ⟨rfl, true, congrArg V.bl (decide_eq_true rfl), if_t ?_⟩
  refine ⟨_, rfl, _, rfl, 8, rfl, t, _, rfl, rt2.ht, (by show ¬ (HT.sIx 9 0 none = 0 ∧ HT.sIx 9 9 (some 8) = 9); decide), fun u nu => ?_⟩
  have s3 := same_new (o := .tup (cutV (due (fOf ps) vf vl) none (some 8))) nu
  refine ⟨_, rfl, t, _, _, _, rfl, rfl, sqT_same s3 rt2.ht, rfl, _, _, rfl, rfl, (by show 1 ≤ sizeLine; decide), fun u2 nu2 => ?_⟩
  have s4 := same_new (o := .tup [.int ((fOf ps).hel + 1)]) nu2
  refine ⟨u, u2, _, _, rfl, rfl, SqT.of (s4 _ _ upd_same), SqT.of upd_same, (by show 8 + 1 ≤ sizeLine; decide), (fun z => nomatch z), (fun _ z => nomatch z), fun _ _ r nr => ?_⟩
  have s5 := same_new (o := .tup (due { fOf ps with hel := (fOf ps).hel + 1 } vf vl)) nr
  have s25 := (s3.trans s4).trans s5
  refine ⟨r, { fOf ps with hel := (fOf ps).hel + 1 }, vf, vl, rfl, SqT.of upd_same, rt2.p1.same s25, rt2.p2.same s25, fun m H6 s6 fm => ?_⟩
  have s26 := s25.trans s6
  have all := s1.trans (s2.trans s26)
  obtain ⟨dM, fM, lM, eM, _⟩ := id fm
  refine ⟨x, dX, _, .ref C, false, rfl, all _ _ eX, .base (.ins eM T.cl TI.cc TI.get TI.takes TI.obj), nfC, .inl ⟨m, fOf ps, _, rfl, rt.fx.same all, fm, (decide_eq_false fun z => by have := V.int.inj z; omega).symm⟩, fun H7 x7 => ?_⟩
  exact ⟨false, false, rfl, rfl, q H7 (all.trans (show Same H6 H7 from x7))⟩
end
end Tg

namespace Tg
open PySem PySem.Spec PyProof.Rows L2
theorem call_isiK {X : Cx} (K : PySem.W.Frag) (hK : X.K = K := by rfl) : CallR X (.builtin "isinstance") (rIsi K) := by
  subst hK
  exact call_isi
section
variable {P : Program} {w : World} {K : PySem.W.Frag} {mg : Str → Option Value} {base : Heap} {C CO CW : Addr} {f : Addr} {fd : FuncData} {k : Nat} {cdv : Value} {A : Around} {outer : List Env} {s : Shared} {H0 : Hp} {E : XK}
variable {fE fR : Addr} {fdE fdR : FuncData} {j : Nat}
/-- from the fold made anew on -/
def R4 (K : PySem.W.Frag) (C : Addr) : TS := fun D σ H => ∃ (v3 : Option V) (x l t m : Addr) (ps : List Pt) (vf vl : V), σ = [some (.ref x), some (.ref l), some (.ref t), v3, some (.ref m)] ∧ Rt K C H x l t ps vf vl ∧ FdO K C H m (fOf ps) ∧ ∀ H', Same H H' → D.rt (.bl true) H'
theorem rt_4 (hg : A.guards = some []) (hr : Room k (A.deeper (envOfC "_law_right" (defScope sRt) s.heap.objs.size f cdv))) (Z : Fns P w K mg base C fE fR fdE fdR j k) :
    PSs (cxOf CX0 P w K mg base NRt "_law_right" (defScope sRt) f cdv A outer s H0 E).nox ((defBody sRt).drop 4) (R4 K C) := by
  have tail := rt_5 (cdv := cdv) (outer := outer) (H0 := H0) (E := E) hr Z
  obtain ⟨jk, T, TI, FE, atE, fnE, hbE, NE, FR, atR, fnR, hbR, L_text, L_made, L_fields, L_fold, K_Fold0, g_Fold, m_repr, m_isinstance, m_bool, nfT, nfC, noN, noS, kT, kN, kS⟩ := Z
  have hu := hr.units
  refine pss_by (pss_cons (ps_if (PW.pt (pw_or (pt_cmpR (op_neG (eq_same FE) NE hbE pass0 (hr.mono (by omega))) (pv 0) (pv 4) (nomark _)) (pw_or (pt_not (pt_cmpR (op_eqB FE atE fnE hbE pass0 (hr.mono (by omega))) (pv 4) (pv 0) (nomark _))) (pw_or (pt_cmpR (op_eqB FE atE fnE hbE pass0 (hr.mono (by omega))) (pv 0) (pv 2) (nomark _)) (pw_or1 (pt_cmpR (op_seek FE atE fnE hbE pass0 (hr.mono (by omega)) noN noS) (pv 0) (pe_lst (pa_cons pe_non (pa_cons (pe_calG L_text hg (hr.mono (by omega)) (by rfl) (pa_cons (pv 2) pa_nil)) pa_nil))) (by with_unfolding_all rfl)))))))
        (pss_one (ps_ret pe_bl))
        pss_nil)
      tail) ?_
  rintro D σ H ⟨v3, x, l, t, m, ps, vf, vl, rfl, rt, fm, q⟩
  refine ⟨_, rfl, _, rfl, rt.fx.ins fm, fun H1 x1 => ⟨false, rfl, if_f ?_⟩⟩
  have s1 : Same H H1 := x1
  have rt1 := rt.same s1
  have fm1 := fm.same s1
  obtain ⟨dX, fX, lX, eX, _⟩ := id rt1.fx
  obtain ⟨dM, fM, lM, eM, _⟩ := id fm1
  refine ⟨_, rfl, _, rfl, m, dM, _, .ref C, true, rfl, eM, .base (.ins eX T.cl TI.cc TI.get TI.takes TI.obj), nfC, .inl ⟨x, fOf ps, (fOf ps).hel, rfl, fm1, rt1.fx, (decide_eq_true rfl).symm⟩, fun H2 x2 => ⟨true, rfl, if_f ?_⟩⟩
  have s2 : Same H1 H2 := x2
  have rt2 := rt1.same s2
  refine ⟨_, rfl, _, rfl, x, dX, _, .type "tuple", false, rfl, s2 _ _ eX, tyT rt2.ht, nfT, .inr (.inr ⟨fOf ps, _, rt2.fx, tyT rt2.ht, kT, rfl⟩), fun H3 x3 => ⟨false, rfl, if_f ?_⟩⟩
  have s3 : Same H2 H3 := x3
  have rt3 := rt2.same s3
  refine ⟨_, rfl, _, rfl, t, fOf ps, vf, vl, rfl, rt3.ht, rt3.p1, rt3.p2, smf_fOf rt.ok rt.tb, fun H4 s4 => ⟨(by show 2 ≤ sizeLine; decide), fun y ny => ?_⟩⟩
  have s5 := same_new (o := .lst [.non, .str (rpx (fOf ps))]) ny
  have s15 := ((s2.trans s3).trans s4).trans s5
  have rt5 := rt1.same s15
  refine ⟨x, dX, y, _, rpx (fOf ps), rfl, rfl, s15 _ _ eX, upd_same, fun Hx ex => ⟨.inr (.inr ⟨fOf ps, _, rt5.fx.same ex, .base .non, kN, rfl⟩), .inr (.inr ⟨fOf ps, _, rt5.fx.same ex, .base (.str _), kS, rfl⟩)⟩, fun H6 x6 => ⟨false, rfl, if_f ?_⟩⟩
  have all := s1.trans (s15.trans (show Same _ H6 from x6))
  exact ⟨_, _, x, l, t, ps, vf, vl, rfl, rt.same all, fun H' s' => q H' (all.trans s')⟩
theorem rt_3 (hg : A.guards = some []) (hr : Room k (A.deeper (envOfC "_law_right" (defScope sRt) s.heap.objs.size f cdv))) (Z : Fns P w K mg base C fE fR fdE fdR j k) :
    PSs (cxOf CX0 P w K mg base NRt "_law_right" (defScope sRt) f cdv A outer s H0 E).nox ((defBody sRt).drop 3) (R5 K C) := by
  have tail := rt_4 (cdv := cdv) (outer := outer) (H0 := H0) (E := E) hg hr Z
  obtain ⟨jk, T, TI, FE, atE, fnE, hbE, NE, FR, atR, fnR, hbR, L_text, L_made, L_fields, L_fold, K_Fold0, g_Fold, m_repr, m_isinstance, m_bool, nfT, nfC, noN, noS, kT, kN, kS⟩ := Z
  refine pss_by (pss_cons (ps_set (i := 4) scRt.nd rfl (.inl rfl) (pe_cal L_made (hr.mono (by omega)) (by rfl) (pa_cons (pv 2) pa_nil)))
      tail) ?_
  rintro D σ H ⟨v3, v4, x, l, t, ps, vf, vl, rfl, rt, q⟩
  exact ⟨_, rfl, t, fOf ps, vf, vl, rfl, rt.ht, rt.p1, rt.p2, fun m H1 s1 fm => ⟨v3, x, l, t, m, ps, vf, vl, rfl, rt.same s1, fm, fun H' s' => q H' (s1.trans s')⟩⟩
/-- none of what is due is a truth -/
theorem no_bools {H : Hp} {F : FD} {vf vl : V} (p1 : PO K H vf F.fst) (p2 : PO K H vl F.lst) : ∀ {i : Nat} {y : V}, (due F vf vl)[i]? = some y → ∃ t, TyX K H y t ∧ PySem.W.kitOne K t (.type "bool") = some false := by
  have po : ∀ {v : V} {o : Option Pt}, PO K H v o → ∃ t, TyX K H v t ∧ PySem.W.kitOne K t (.type "bool") = some false := fun {v o} h => by
    cases o with
    | none =>
      obtain rfl : v = .non := h
      exact ⟨_, .base .non, rfl⟩
    | some p =>
      obtain ⟨t, rfl, ht⟩ := h
      exact ⟨_, tyT ht, rfl⟩
  have vo : ∀ o : Option Int, ∃ t, TyX K H (vw o) t ∧ PySem.W.kitOne K t (.type "bool") = some false := fun o => by
    cases o with
    | none => exact ⟨_, .base .non, rfl⟩
    | some m => exact ⟨_, .base (.int _), rfl⟩
  intro i y hy
  have mem := List.mem_of_getElem? hy
  unfold due at mem
  simp only [List.mem_cons, List.not_mem_nil, or_false] at mem
  rcases mem with rfl | rfl | rfl | rfl | rfl | rfl | rfl | rfl | rfl
  · exact ⟨_, .base (.int _), rfl⟩
  · exact ⟨_, .base (.int _), rfl⟩
  · exact ⟨_, .base (.int _), rfl⟩
  · exact vo _
  · exact vo _
  · exact po p1
  · exact po p2
  · exact ⟨_, .base (.int _), rfl⟩
  · exact ⟨_, .base (.int _), rfl⟩
theorem rt_2 (hg : A.guards = some []) (hr : Room k (A.deeper (envOfC "_law_right" (defScope sRt) s.heap.objs.size f cdv))) (Z : Fns P w K mg base C fE fR fdE fdR j k) :
    PSs (cxOf CX0 P w K mg base NRt "_law_right" (defScope sRt) f cdv A outer s H0 E).nox ((defBody sRt).drop 2) (R5 K C) := by
  have tail := rt_3 (cdv := cdv) (outer := outer) (H0 := H0) (E := E) hg hr Z
  obtain ⟨jk, T, TI, FE, atE, fnE, hbE, NE, FR, atR, fnR, hbR, L_text, L_made, L_fields, L_fold, K_Fold0, g_Fold, m_repr, m_isinstance, m_bool, nfT, nfC, noN, noS, kT, kN, kS⟩ := Z
  refine pss_by (pss_cons (ps_if (pt_cmpR op_in_seq pe_bl (pe_lc (own := [("_law_thing", 3)]) (g := (gName 3)) (tt := tYes) rfl scRt.nd (pi_tup (pe_cal L_fields (hr.mono (by omega)) (by rfl) (pa_cons (pv 0) pa_nil))) (blkOk_by (own := [("_law_thing", 3)]) (N := NRt) (sc := defScope sRt) (by decide +kernel)) (fun _ _ _ _ _ => (pg_name (i := 3) scRt.nd rfl (.inl rfl))) (fun _ _ _ _ _ => pts_nil) (fun _ _ _ _ _ => (pe_callB (call_isiK K) (by rfl) m_isinstance (by decide +kernel) (pa_cons (pv 3) (pa_cons (pe_bltn (v := .ty "bool") (by rfl) m_bool (by decide +kernel) rfl) pa_nil))))) (by with_unfolding_all rfl))
        (pss_one (ps_ret pe_bl))
        pss_nil)
      tail) ?_
  rintro D σ H ⟨v3, v4, x, l, t, ps, vf, vl, rfl, rt, q⟩
  refine ⟨_, rfl, x, fOf ps, rfl, rt.fx, fun u v1 v2 H1 s1 hu p1 p2 => ?_⟩
  refine ⟨u, rfl, ⟨_, hu⟩, fun D1 nD1 => lc_tup (K := K) (a := u) (xs := due (fOf ps) v1 v2) (fun i Hc => Same H1 Hc ∧ Hc D1 = some (.lst (List.replicate i (.bl false)))) ⟨same_new nD1, upd_same⟩ (fun i Hc _ h => sqT_same h.1 hu) ?_ ?_⟩
  · rintro i v Hc hi ⟨sc, hD⟩
    obtain ⟨ty, h1, h2⟩ := no_bools (p1.same sc) (p2.same sc) hi
    have i9 : i < 9 := (List.getElem?_eq_some_iff.mp hi).1
    refine ⟨rfl, yes_i (if_t ?_)⟩
    refine ⟨_, rfl, v, .ty "bool", ty, .type "bool", false, rfl, .ty _, h1, h2, _, hD, ?_, same_put nD1 sc, ?_⟩
    · rw [List.length_replicate]
      exact small1000 (by omega)
    · rw [upd_same, List.replicate_succ']
  · rintro H2 ⟨s2, hD⟩
    refine ⟨D1, _, rfl, .inl (SqL.of hD), rfl, rfl, false, rfl, if_f ?_⟩
    have all := s1.trans s2
    exact ⟨_, _, x, l, t, ps, vf, vl, rfl, rt.same all, fun H' s' => q H' (all.trans s')⟩
def spRt (K : PySem.W.Frag) (C : Addr) : Sp := fun vs H Q _ => ∃ (x l : Addr) (ps : List Pt), vs = [.ref x, .ref l] ∧ FdO K C H x (fOf ps) ∧ LD K H l (ps.map pd) ∧ POk ps ∧ TB ps ∧ ∀ H', Same H H' → Q (.bl true) H'
theorem ok_rt (F : Fun K "_law_right" "_law_right" sRt f fd) (Z : Fns P w K mg base C fE fR fdE fdR j k) : FnG P w K mg base CX0 (k + 1) f fd ["_law_fold_here", "_law_a_points"] (spRt K C) := by
  refine okG F scRt (fun vs H Q E h => ?_) (fun cdv A outer s H vs Q E hg hr h => ?_)
  · obtain ⟨x, l, ps, rfl, _⟩ := h
    rfl
  · obtain ⟨x, l, ps, rfl, fx, ld, ok, tb, q⟩ := h
    have tail := rt_2 (cdv := cdv) (outer := outer) (H0 := H) (E := E) hg hr Z
    obtain ⟨jk, T, TI, FE, atE, fnE, hbE, NE, FR, atR, fnR, hbR, L_text, L_made, L_fields, L_fold, K_Fold0, g_Fold, m_repr, m_isinstance, m_bool, nfT, nfC, noN, noS, kT, kN, kS⟩ := Z
    have hu := hr.units
    refine ⟨_, pss_cons (ps_set (i := 2) scRt.nd rfl (.inl rfl) (pe_cal L_fold (hr.mono (by omega)) (by rfl) (pa_cons (pv 1) pa_nil)))
      (pss_cons (ps_if (PW.pt (pw_or (pt_not (pt_val (pe_callB call_isi (by rfl) m_isinstance (by decide +kernel) (pa_cons (pv 0) (pa_cons (pe_glob (v := .ref C) rfl g_Fold rfl) pa_nil))))) (pw_or (pt_cmpR (op_neD hu) (pe_cal L_fields (hr.mono (by omega)) (by rfl) (pa_cons (pv 0) pa_nil)) (pv 2) (nomark _)) (pw_or1 (pt_cmpR op_ne (pe_callB (cr_reprO FR atR fnR hbR pass0 (hr.mono (by omega)) hg) (by rfl) m_repr (by decide +kernel) (pa_cons (pv 0) pa_nil)) (pe_calG L_text hg (hr.mono (by omega)) (by rfl) (pa_cons (pv 2) pa_nil)) (nomark _))))))
        (pss_one (ps_ret pe_bl))
        pss_nil)
      tail), ?_⟩
    obtain ⟨xs, hx, hdx⟩ := id ld
    refine ⟨_, rfl, l, ps, rfl, ⟨xs, SqL.of hx, hdx⟩, ok, fun t vf vl H1 s1 ht p1 p2 => ?_⟩
    have rt1 : Rt K C H1 x l t ps vf vl := ⟨fx.same s1, ld.same s1, ht, p1, p2, ok, tb⟩
    obtain ⟨dX, fX, lX, eX, _⟩ := id rt1.fx
    refine ⟨_, rfl, .ref x, .ref C, .ref C, .ref C, true, rfl, .own _, .base (.ins eX T.cl TI.cc TI.get TI.takes TI.obj), TI.kit, true, rfl, if_f ?_⟩
    refine ⟨_, rfl, x, fOf ps, rfl, rt1.fx, fun u v1 v2 H2 s2 hu2 g1 g2 => ?_⟩
    have rt2 := rt1.same s2
    refine ⟨_, rfl, _, _, dp_nine hu2 g1 g2, dp_nine rt2.ht rt2.p1 rt2.p2, (nine_form _).1, (nine_form _).1, false, congrArg V.bl (by show (!PyData.eqv _ _) = false; rw [(nine_form _).2]; rfl), if_f ?_⟩
    refine ⟨_, rfl, x, dX, _, rfl, s2 _ _ eX, x, _, rfl, rt2.fx, smf_fOf ok tb, fun H3 s3 => ⟨_, rfl, ?_⟩⟩
    have rt3 := rt2.same s3
    refine ⟨_, rfl, t, fOf ps, vf, vl, rfl, rt3.ht, rt3.p1, rt3.p2, smf_fOf ok tb, fun H4 s4 => ⟨rfl, false, congrArg V.bl (by rw [decide_eq_true rfl]; rfl), if_f ?_⟩⟩
    have all := s1.trans (s2.trans (s3.trans s4))
    exact ⟨_, _, x, l, t, ps, vf, vl, rfl, rt3.same s4, fun H' s' => q H' (all.trans s')⟩
end
end Tg

namespace Tg
open PySem PySem.Spec PyProof.Rows L2
abbrev sLaw : Stmt := topS 23
theorem scLaw : FnScope ["_law_script", "_law_cell", "_law_draws_here", "_law_a_points", "_law_handed", "_law_word", "_law_told", "_law_wrong"] ["_law_script"] (defScope sLaw) := ⟨rfl, rfl, rfl, by decide +kernel, rfl, by decide +kernel, by decide +kernel⟩
theorem pok_nil : POk [] := ⟨by decide, (fun _ _ _ z => nomatch z), (fun _ z => nomatch z)⟩
section
variable {P : Program} {w : World} {K : PySem.W.Frag} {mg : Str → Option Value} {base : Heap} {C CO CW : Addr} {f : Addr} {fd : FuncData} {k : Nat} {fE : Addr} {fdE : FuncData}
theorem ok_law {j : Nat} (F : Fun K "law" "law" sLaw f fd) (jk : j + 1 ≤ k) (T : TFold K C) (TI : TIns K C) (FE : FnOk P w K mg base CX0 j fE fdE ["self", "other"] (spEqB (EqR K C))) (atE : PySem.W.findIn K (.ref C) "__eq__" = some (some (.ref fE))) (fnE : PySem.W.isFn K (.ref fE) = true) (hbE : Binds K fdE ["self", "other"] []) (nfC : PySem.W.notFirst K C (.ref C) = true)
    (L_draws : Cal P w K mg base k "_law_draws" ["_law_cell"] spDraws) (L_some_points : Cal P w K mg base k "_law_some_points" ["_law_draws_here"] (spSome K)) (L_bent : Cal P w K mg base k "_law_bent" ["_law_draws_here", "_law_a_points"] (spBent K)) (L_next : Cal P w K mg base k "_law_next" ["_law_draws_here"] spNext) (L_asked : Cal P w K mg base k "_law_asked" ["_law_a_points", "_law_way"] (spAsk K C)) (L_first_wrong : Cal P w K mg base k "_law_first_wrong" ["_law_a_points"] (spFW K))
    (L_right : CalG P w K mg base k "_law_right" ["_law_fold_here", "_law_a_points"] (spRt K C)) (C_fold_of : Cal P w K mg base k "fold_of" ["points"] (spFO K C)) (K_Fold0 : KF0 P w K mg base C j) (L_fields : Cal P w K mg base k "_law_fields" ["_law_fold_here"] (spFlds K C)) (L_fold : Cal P w K mg base k "_law_fold" ["_law_a_points"] (spFold K)) (m_list : mg "list" = none) :
    FnG P w K mg base CX0 (k + 1) f fd ["_law_script"] (spScript K) := by
  refine okG F scLaw (fun vs H Q E h => ?_) (fun cdv A outer s H vs Q E hg hr h => ?_)
  · obtain ⟨a, ns, rfl, _⟩ := h
    rfl
  · obtain ⟨a, ns, rfl, hS, hlen, q⟩ := h
    have hu := hr.units
    refine ⟨_, pss_cons (ps_for PassesOwn.never rfl (pi_list (pe_op op_cat (pe_slice sl_list (pv 0) po_none (po_some pe_int)) (pe_lst (pa_cons pe_int pa_nil)))) (pg_name (i := 1) scLaw.nd rfl (.inl rfl))
        (pss_cons (ps_set (i := 2) scLaw.nd rfl (.inl rfl) (pe_cal L_draws (hr.mono (by omega)) (by rfl) (pa_cons (pv 1) pa_nil)))
        (pss_cons (ps_set (i := 3) scLaw.nd rfl (.inl rfl) (pe_cal L_bent (hr.mono (by omega)) (by rfl) (pa_cons (pv 2) (pa_cons (pe_cal L_some_points (hr.mono (by omega)) (by rfl) (pa_cons (pv 2) pa_nil)) pa_nil))))
        (pss_cons (ps_set (i := 4) scLaw.nd rfl (.inl rfl) (pe_callTy call_list_of (by rfl) m_list (by decide +kernel) (pa_cons (pv 3) pa_nil)))
        (pss_cons (ps_asg (pe_cal L_asked (hr.mono (by omega)) (by rfl) (pa_cons (pv 4) (pa_cons (pe_op op_mod (pe_cal L_next (hr.mono (by omega)) (by rfl) (pa_cons (pv 2) pa_nil)) pe_int) pa_nil))) (pg_lst rfl (pgs_cons (pg_name (i := 5) scLaw.nd rfl (.inl rfl)) (pgs_cons (pg_name (i := 6) scLaw.nd rfl (.inl rfl)) pgs_nil))))
        (pss_cons (ps_set (i := 7) scLaw.nd rfl (.inl rfl) (pe_cal L_first_wrong (hr.mono (by omega)) (by rfl) (pa_cons (pv 3) pa_nil)))
        (pss_cons (ps_if (pt_cmpR (op_neD hu) (pv 4) (pv 3) (nomark _))
          (pss_one (ps_ret pe_bl))
          pss_nil)
        (pss_cons (ps_if (PW.pt (pw_and (pt_cmpR op_notN (pv 7) pe_non (nomark _)) (pw_and1 (PW.pt (pw_or (pt_cmpR op_isnot_bl (pv 5) pe_bl (nomark _)) (pw_or1 (pt_cmpR op_ne (pv 6) (pv 7) (nomark _))))))))
          (pss_one (ps_ret pe_bl))
          pss_nil)
        (pss_one (ps_if (PW.pt (pw_and (pt_cmpR op_isN (pv 7) pe_non (nomark _)) (pw_and1 (PW.pt (pw_or (pt_cmpR op_ne (pv 5) pe_str (nomark _)) (pw_or1 (pt_not (pt_val (pe_calG L_right hg (hr.mono (by omega)) (by rfl) (pa_cons (pv 6) (pa_cons (pv 3) pa_nil)))))))))))
          (pss_one (ps_ret pe_bl))
          pss_nil))))))))))
      (pss_one (ps_ret (pe_and (pe_cmpR (op_eqD hu) (pe_cal L_fields (hr.mono (by omega)) (by rfl) (pa_cons (pe_calCK K_Fold0 (hr.mono (by omega)) (by rfl) pk_nil) pa_nil)) (pe_cal L_fold (hr.mono (by omega)) (by rfl) (pa_cons (pe_lst pa_nil) pa_nil)) (nomark _)) (pe_one (pe_cmpR (op_eqB FE atE fnE hbE pass0 (hr.mono (by omega))) (pe_cal C_fold_of (hr.mono (by omega)) (by rfl) (pa_cons (pe_lst pa_nil) pa_nil)) (pe_calCK K_Fold0 (hr.mono (by omega)) (by rfl) pk_nil) (nomark _)))))), ?_⟩
    obtain ⟨ms, em, lm⟩ := cut_ints ns none (some 10)
    refine ⟨_, rfl, 10, rfl, a, _, rfl, hS, fun l1 n1 => ?_⟩
    rw [em]
    refine ⟨(by show 1 ≤ sizeLine; decide), fun l2 n2 => ?_⟩
    have s2 := same_new (o := .lst [.int 0]) n2
    refine ⟨l1, l2, _, _, rfl, rfl, s2 _ _ upd_same, upd_same, Nat.le_of_lt (small1000 (by rw [List.length_map]; show ms.length + 1 ≤ 1000; omega)), fun l3 n3 => ?_⟩
    have e3 : (ms.map V.int ++ [V.int 0]) = (ms ++ [0]).map V.int := by
      rw [List.map_append]
      rfl
    rw [e3]
    obtain ⟨H3, eH3⟩ : ∃ H3, upd (upd (upd H l1 (.lst (ms.map V.int))) l2 (.lst [.int 0])) l3 (.lst ((ms ++ [0]).map V.int)) = H3 := ⟨_, rfl⟩
    have m3 : H3 l3 = some (.lst ((ms ++ [0]).map V.int)) := by
      rw [← eH3]
      exact upd_same
    rw [eH3]
    refine ⟨l3, rfl, ⟨_, SqL.of m3⟩, for_list (K := K) (a := l3) (xs := (ms ++ [0]).map V.int) (fun i σ Hc => ∃ z1 z2 z3 z4 z5 z6 z7 : Option V, σ = [some (.ref a), z1, z2, z3, z4, z5, z6, z7] ∧ Same H3 Hc) ⟨none, none, none, none, none, none, none, rfl, Same.refl _⟩ ?_ ?_ ?_⟩
    · rintro i σ Hc _ ⟨_, _, _, _, _, _, _, _, h⟩
      exact SqL.of (h _ _ m3)
    · rintro i xv σ Hc hx ⟨z1, z2, z3, z4, z5, z6, z7, rfl, sc⟩
      obtain ⟨c, rfl⟩ : ∃ c : Int, xv = .int c := by
        rw [List.getElem?_map] at hx
        obtain ⟨c, _, e⟩ := Option.map_eq_some_iff.mp hx
        exact ⟨c, e.symm⟩
      refine ⟨_, rfl, c, rfl, fun p da db np => ?_⟩
      have sp := same_new (o := .lst [.int da, .int 0, .bl db]) np
      have d0 : Dr (upd Hc p (.lst [.int da, .int 0, .bl db])) p 0 := ⟨da, 0, db, upd_same, by decide, by decide⟩
      refine ⟨_, rfl, _, rfl, p, 0, rfl, d0, by decide, fun l0 ps0 H4 k4 d4 nl ld0 ok0 tb0 => ?_⟩
      have lp0 : l0 ≠ p := d0.ne nl
      refine ⟨p, l0, 43, ps0, rfl, d4, by decide, lp0, ld0, ok0, tb0, fun l ps r H5 k5 d5 lp ld wr tb => ?_⟩
      have sH5 : Same Hc H5 := Kp.same sp np (k4.trans k5)
      obtain ⟨xs, hx5, hdx⟩ := id ld
      refine ⟨_, rfl, l, xs, rfl, .inl (SqL.of hx5), fun hd nhd => ?_⟩
      have s6 := same_new (o := .lst xs) nhd
      obtain ⟨H6, e6⟩ : ∃ H6, upd H5 hd (.lst xs) = H6 := ⟨_, rfl⟩
      have hh6 : H6 hd = some (.lst xs) := by
        rw [← e6]
        exact upd_same
      rw [e6] at s6 ⊢
      have hp6 : hd ≠ p := d5.ne nhd
      have lh6 : LD K H6 hd (ps.map pd) := ⟨xs, hh6, dpAll_same s6 hdx⟩
      refine ⟨_, rfl, _, rfl, p, _, rfl, d5.same s6, by decide, fun v H7 k7 d7 v0 _ => ?_⟩
      have ld7 : LD K H7 l (ps.map pd) := by
        obtain ⟨_, _, _, hp, _⟩ := d5.same s6
        exact LD.kp k7 hp nfix_lst lp (td_pds ps) (ld.same s6)
      have lh7 : LD K H7 hd (ps.map pd) := by
        obtain ⟨_, _, _, hp, _⟩ := d5.same s6
        exact LD.kp k7 hp nfix_lst hp6 (td_pds ps) lh6
      obtain ⟨ys, hy7, hdy⟩ := id lh7
      refine ⟨_, _, rfl, rfl, (by show (0 : Int) < 2; decide), hd, _, ps, r, rfl, ⟨ys, SqL.of hy7, hdy⟩, wr, fun b H8 s8 nb told refused => ?_⟩
      have ld8 := ld7.same s8
      have lh8 := lh7.same s8
      have pt8 : PtL K H8 l ps := by
        obtain ⟨zs, h1, h2⟩ := id ld8
        exact ⟨zs, SqL.of h1, h2⟩
      have all : Same Hc H8 := Kp.same sp np (k4.trans (k5.trans ((Kp.of s6).trans (k7.trans (Kp.of s8)))))
      have same : ∃ c : Bool, V.bl (!PyData.eqv (.list (ps.map pd)) (.list (ps.map pd))) = V.bl c ∧ c = false := ⟨_, rfl, by rw [(pds_form ps).2]; rfl⟩
      obtain ⟨sm, se, rfl⟩ := same
      cases r with
      | none =>
        obtain ⟨x, hb, fx⟩ := told rfl
        refine ⟨b, _, rfl, SqL.of hb, rfl, _, _, rfl, _, _, rfl, rfl, _, rfl, l, ps, none, rfl, pt8, wr, ?_⟩
        refine ⟨_, rfl, _, rfl, _, _, lh8.dp, ld8.dp, (pds_form ps).1, (pds_form ps).1, false, se, if_f ?_⟩
        refine ⟨_, rfl, rfl, false, rfl, if_f ?_⟩
        refine ⟨_, rfl, rfl, true, rfl, if_t ?_⟩
        refine ⟨_, rfl, rfl, false, congrArg V.bl (by rw [decide_eq_true rfl]; rfl), if_f ?_⟩
        exact ⟨_, rfl, _, rfl, x, l, ps, rfl, fx, ld8, wr, tb rfl, fun H9 s9 => ⟨true, rfl, if_f ⟨_, _, _, _, _, _, _, rfl, sc.trans (all.trans s9)⟩⟩⟩
      | some m =>
        have hb := refused m rfl
        refine ⟨b, _, rfl, SqL.of hb, rfl, _, _, rfl, _, _, rfl, rfl, _, rfl, l, ps, some m, rfl, pt8, wr, ?_⟩
        refine ⟨_, rfl, _, rfl, _, _, lh8.dp, ld8.dp, (pds_form ps).1, (pds_form ps).1, false, se, if_f ?_⟩
        refine ⟨_, rfl, rfl, true, rfl, if_t ?_⟩
        refine ⟨_, rfl, true, true, rfl, rfl, false, rfl, if_f ?_⟩
        refine ⟨_, rfl, _, rfl, rfl, false, congrArg V.bl (by show (!decide (V.int ((m + 1 : Nat) : Int) = V.int ((m + 1 : Nat) : Int))) = false; rw [decide_eq_true rfl]; rfl), if_f ?_⟩
        exact ⟨_, rfl, rfl, false, rfl, if_f ⟨_, _, _, _, _, _, _, rfl, sc.trans all⟩⟩
    · rintro σ Hc ⟨_, _, _, _, _, _, _, rfl, sc⟩
      refine ⟨rfl, rfl, fun z dz nz ndz nez => ⟨z, dz, _, _, _, _, _, _, _, _, _, rfl, upd_same, rfl, ?_⟩⟩
      obtain ⟨sZ, fz⟩ := fd_made (K := K) (C := C) nz ndz nez (F := fOf []) (vf := .non) (vl := .non) rfl rfl
      refine ⟨z, _, rfl, fz, fun t1 vf1 vl1 H6 s6 h1 p1 q1 => ⟨(by show 0 ≤ sizeLine; decide), fun e ne => ?_⟩⟩
      have s7 : Same H6 (upd H6 e (.lst [])) := same_new ne
      refine ⟨e, [], rfl, ⟨[], SqL.of upd_same, .nil⟩, pok_nil, fun t2 vf2 vl2 H8 s8 h2 p2 q2 => ?_⟩
      have s68 := s7.trans s8
      refine ⟨_, _, dp_nine (sqT_same s68 h1) (p1.same s68) (q1.same s68), dp_nine h2 p2 q2, (nine_form _).1, (nine_form _).1, true, congrArg V.bl (nine_form _).2, if_t ?_⟩
      refine ⟨(by show 0 ≤ sizeLine; decide), fun e2 ne2 => ⟨e2, [], rfl, ⟨[], SqL.of upd_same, .nil⟩, pok_nil, fun x H9 s9 fx => ?_⟩⟩
      refine ⟨rfl, rfl, fun y dy ny ndy ney => ⟨y, dy, _, _, _, _, _, _, _, _, _, rfl, upd_same, rfl, ?_⟩⟩
      obtain ⟨sY, fy⟩ := fd_made (K := K) (C := C) ny ndy ney (F := fOf []) (vf := .non) (vl := .non) rfl rfl
      have fx2 := fx.same sY
      obtain ⟨dX, fX, lX, eX, _⟩ := id fx2
      obtain ⟨dY, fY, lY, eY, _⟩ := id fy
      exact ⟨x, dX, _, .ref C, true, rfl, eX, .base (.ins eY T.cl TI.cc TI.get TI.takes TI.obj), nfC, .inl ⟨y, fOf [], _, rfl, fx2, fy, (decide_eq_true rfl).symm⟩, fun H' _ => q H'⟩
end
end Tg

namespace Tg
open PySem PySem.Spec PyProof.Rows L2
section
variable {K : PySem.W.Frag} {f : Addr} {fd : FuncData}
def kw9 : List (Str × V) := [("count", .int 0), ("total", .int 0), ("squares", .int 0), ("least", .non), ("greatest", .non), ("first", .non), ("last", .non), ("rise", .int 0), ("held", .int 0)]
abbrev FFold (K : PySem.W.Frag) (f : Addr) (fd : FuncData) : Prop := FunD K "__init__" "Fold.__init__" (defArgs sFI) (defBody sFI) (defScope sFI) [] kw9 f fd
set_option maxHeartbeats 0 in
theorem kb_9 (F : FFold K f fd) : ∃ g, KBn K fd NFI 1 kFold g (fun vs zs => vs ++ zs) := by
  obtain ⟨mv, h⟩ := F.kbinds0 (ps := NFI) 1 kFold [] (fun us _ ws => us ++ ws) (fun z => nomatch z) (fun q hq => nomatch hq) (fun h1 _ h2 => h1.append h2) (fun D doc pm an cdv ct us mv ws h1 h2 h3 => match us, mv, ws, h1, h2, h3 with | [_], [], [_, _, _, _, _, _, _, _, _], _, _, _ => rfl)
  exact ⟨_, h⟩
theorem vals_rev : ∀ {zs : List V} {us : List Value}, Vals zs us → Vals zs.reverse us.reverse
  | _, _, .nil => .nil
  | _, _, .cons r t => by
    simp only [List.reverse_cons]
    exact (vals_rev t).append (.cons r .nil)
set_option maxHeartbeats 0 in
theorem kb_r (F : FFold K f fd) : ∃ g, KBn K fd NFI 1 kFoldR g (fun vs zs => vs ++ zs.reverse) := by
  obtain ⟨mv, h⟩ := F.kbinds0 (ps := NFI) 1 kFoldR [] (fun us _ ws => us ++ ws.reverse) (fun z => nomatch z) (fun q hq => nomatch hq) (fun h1 _ h2 => h1.append (vals_rev h2)) (fun D doc pm an cdv ct us mv ws h1 h2 h3 => match us, mv, ws, h1, h2, h3 with | [_], [], [_, _, _, _, _, _, _, _, _], _, _, _ => rfl)
  exact ⟨_, h⟩
set_option maxHeartbeats 0 in
theorem kb_0 (F : FFold K f fd) : ∃ g, KBn K fd NFI 1 [] g (fun vs _ => vs ++ [.int 0, .int 0, .int 0, .non, .non, .non, .non, .int 0, .int 0]) := by
  obtain ⟨mv, h⟩ := F.kbinds0 (ps := NFI) 1 [] kw9 (fun us ms _ => us ++ ms) (fun z => nomatch z) (fun q hq => hq) (fun h1 h2 _ => h1.append h2) (fun D doc pm an cdv ct us mv ws h1 h2 h3 => match us, mv, ws, h1, h2, h3 with
    | [_], [_, _, _, _, _, _, _, _, _], [], _, _, _ => ⟨_, _, _, _, _, _, rfl, rfl, _, _, _, _, _, _, rfl, rfl, _, _, _, _, _, _, rfl, rfl, _, _, _, _, _, _, rfl, rfl, _, _, _, _, _, _, rfl, rfl, _, _, _, _, _, _, rfl, rfl, _, _, _, _, _, _, rfl, rfl, _, _, _, _, _, _, rfl, rfl, _, _, _, _, _, _, rfl, rfl, rfl⟩)
  exact ⟨_, h⟩
end
end Tg

namespace Tg
open PySem PySem.Spec PyProof.Rows L2
section
variable {K : PySem.W.Frag}
theorem kbn_1 {x a : Str} {st : Stmt} {f : Addr} {fd : FuncData} (F : Fun K x x st f fd) (h : ∀ (kV doc pm : Value) (an : Option Addr) (cdv ct u : Value), bindArgs (PySem.W.fnOf x x (defArgs st) (defBody st) (defScope st) .none kV doc pm an cdv ct) ⟨[], [(a, u)]⟩ = pure [(a, u)]) : KBn K fd [a] 0 [a] (fun _ ws => prm [0] ws) (fun _ zs => prm [0] zs) := by
  obtain ⟨_, _, kV, doc, pm, an, cdv, ct, _, rfl, _, _⟩ := F.ex
  exact ⟨fun s us ws _ h0 h2 => match us, ws, h0, h2 with | [], [u], _, _ => .of_eq (h kV doc pm an cdv ct u), fun _ r => prm_rel r _⟩
end
/-! ### what the top has written; the law's own head -/
theorem all_mk {l : PySem.W.OpenLaw} {w : World} {K : PySem.W.Frag} {h : Heap} {mg : Str → Option Value} {fa CO C1 CW f1 f2 f3 f4 f5 f6 f7 f8 f9 f10 f11 f12 f13 f14 f15 f16 f17 f18 f19 f20 f21 f22 : Addr} {nmCO qCO : Str} {NCO : Addr} {bsCO : List Value} {snCO : List Str} {subCO : List Value} {abCO : Bool} {colCO : Option Bool} {ddCO : Option Addr} {v0CO v1CO v2CO v3CO v5CO : Option Value} {KD NF : Addr} {nmF qF : Str} {bsF subF : List Value} {hdF abF : Bool} {snF : List Str} {colF : Option Bool} {ddF : Option Addr} {v0F v1F v2F v3F v5F : Option Value} {idF : String} {cN : Value} {dN : Option Addr} {esN : Array DictEntry} {epN : Nat} {slN : Array (Option Value)} {tk_count : Tok} {tk_total : Tok} {tk_squares : Tok} {tk_rise : Tok} {tk_held : Tok} (X : K.In h) (G : h.Ns mainGlobals mg) (hfa : mg "law" = some (.ref fa))
    {od1 an1 od2 an2 od3 an3 od4 an4 od5 an5 od6 an6 od7 an7 od8 an8 od9 an9 od10 an10 od11 an11 od12 an12 od13 an13 od14 an14 od15 an15 od16 an16 od17 an17 od18 an18 od19 an19 od20 an20 od21 an21 od22 an22 : Option Addr} {sl1 sl2 sl3 sl4 sl5 sl6 sl7 sl8 sl9 sl10 sl11 sl12 sl13 sl14 sl15 sl16 sl17 sl18 sl19 sl20 sl21 sl22 : Array (Option Value)} {oc1 kV1 dc1 pm1 cd1 ct1 oc2 dc2 pm2 cd2 ct2 oc3 kV3 dc3 pm3 cd3 ct3 oc4 kV4 dc4 pm4 cd4 ct4 oc5 kV5 dc5 pm5 cd5 ct5 oc6 kV6 dc6 pm6 cd6 ct6 oc7 kV7 dc7 pm7 cd7 ct7 oc8 kV8 dc8 pm8 cd8 ct8 oc9 kV9 dc9 pm9 cd9 ct9 oc10 kV10 dc10 pm10 cd10 ct10 oc11 kV11 dc11 pm11 cd11 ct11 oc12 kV12 dc12 pm12 cd12 ct12 oc13 kV13 dc13 pm13 cd13 ct13 oc14 kV14 dc14 pm14 cd14 ct14 oc15 kV15 dc15 pm15 cd15 ct15 oc16 kV16 dc16 pm16 cd16 ct16 oc17 kV17 dc17 pm17 cd17 ct17 oc18 kV18 dc18 pm18 cd18 ct18 oc19 kV19 dc19 pm19 cd19 ct19 oc20 kV20 dc20 pm20 cd20 ct20 oc21 kV21 dc21 pm21 cd21 ct21 oc22 kV22 dc22 pm22 cd22 ct22 : Value}
    (aCO : PySem.W.nsIn K mainGlobals "NoOrder" = some (some (.ref CO)))
    (xCO : K.lookup CO = some (excClassObj nmCO qCO CO NCO bsCO [.type "ValueError", .type "Exception", .type "BaseException", .type "object"] true snCO subCO abCO colCO ddCO v0CO v1CO v2CO v3CO v5CO "ValueError.__new__"))
    (saCO : PySem.W.findIn K (.ref CO) "__setattr__" = some (some (.builtin "object.__setattr__")))
    (gaCO : PySem.W.findIn K (.ref CO) "__getattribute__" = some (some (.builtin "BaseException.__getattribute__")))
    (ggCO : PySem.W.findIn K (.ref CO) "__getattr__" = some none)
    (noCO : PySem.W.findIn K (.ref CO) "at" = some none)
    (kcCO : PySem.W.keepIn K (.ref CO) = true)
    (ecCO : PySem.W.subIn K (.ref CO) (.type "BaseException") = some true)
    (tcCO : PySem.W.typeIn K (.ref CO) = some (.type "type"))
    (hcCO : PySem.W.hasDictIn K CO = true)
    (ccCO : PySem.W.findIn K (.ref CO) "__class__" = some (some (.builtin "object.__class__")))
    (moCO : PySem.W.mroIn K CO (.type "object") = some true)
    (xmCO : PySem.W.exmOne K (.ref CO) (.ref CO) = some true)
    (hnC : PySem.W.specialIn K (.builtin "object.__class__") "__get__" = some (some (.builtin "getset_descriptor.__get__")))
    (htC : PySem.W.takesIn K (.builtin "object.__class__") = some true)
    (vV : PySem.W.findCls K (.type "ValueError") (.type "type") "__init__" = some (.val (.builtin "ValueError.__init__")))
    (aCW : PySem.W.nsIn K mainGlobals "NoWhat" = some (some (.ref CW)))
    (aC1 : PySem.W.nsIn K mainGlobals "Fold" = some (some (.ref C1)))
    (pgC1 : PySem.W.plainGet K C1 Str.empty = true)
    (hdC1 : PySem.W.hasDictIn K C1 = true)
    (poC1 : PySem.W.plainOver K C1 = true)
    (saC1 : PySem.W.findIn K (.ref C1) "__setattr__" = some (some (.builtin "object.__setattr__")))
    (mkC1 : PySem.W.makesIn K C1 = true)
    (kcC1 : PySem.W.keepIn K (.ref C1) = true)
    (noC1_count : PySem.W.findIn K (.ref C1) "count" = some none)
    (noC1_total : PySem.W.findIn K (.ref C1) "total" = some none)
    (noC1_squares : PySem.W.findIn K (.ref C1) "squares" = some none)
    (noC1_least : PySem.W.findIn K (.ref C1) "least" = some none)
    (noC1_greatest : PySem.W.findIn K (.ref C1) "greatest" = some none)
    (noC1_first : PySem.W.findIn K (.ref C1) "first" = some none)
    (noC1_last : PySem.W.findIn K (.ref C1) "last" = some none)
    (noC1_rise : PySem.W.findIn K (.ref C1) "rise" = some none)
    (noC1_held : PySem.W.findIn K (.ref C1) "held" = some none)
    (a1 : PySem.W.findIn K (.ref CO) "__init__" = some (some (.ref f1)))
    (t1 : PySem.W.typeIn K (.ref f1) = some (.type "function"))
    (l1 : K.lookup f1 = some ⟨oc1, od1, .func (PySem.W.fnOf "__init__" "NoOrder.__init__" (defArgs sErO) (defBody sErO) (defScope sErO) .none kV1 dc1 pm1 an1 cd1 ct1), sl1⟩)
    (c1 : PySem.W.codeIn K cd1 "NoOrder.__init__" = true)
    (k1 : PySem.W.keepIn K (.ref f1) = true)
    (a2 : PySem.W.findIn K (.ref C1) "__init__" = some (some (.ref f2)))
    (i2 : PySem.W.isFn K (.ref f2) = true)
    (l2 : K.lookup f2 = some ⟨oc2, od2, .func (PySem.W.fnOf "__init__" "Fold.__init__" (defArgs sFI) (defBody sFI) (defScope sFI) .none (.ref KD) dc2 pm2 an2 cd2 ct2), sl2⟩)
    (d_count : PySem.W.nsIn K KD "count" = some (some (.int 0 tk_count)))
    (d_total : PySem.W.nsIn K KD "total" = some (some (.int 0 tk_total)))
    (d_squares : PySem.W.nsIn K KD "squares" = some (some (.int 0 tk_squares)))
    (d_least : PySem.W.nsIn K KD "least" = some (some (.none)))
    (d_greatest : PySem.W.nsIn K KD "greatest" = some (some (.none)))
    (d_first : PySem.W.nsIn K KD "first" = some (some (.none)))
    (d_last : PySem.W.nsIn K KD "last" = some (some (.none)))
    (d_rise : PySem.W.nsIn K KD "rise" = some (some (.int 0 tk_rise)))
    (d_held : PySem.W.nsIn K KD "held" = some (some (.int 0 tk_held)))
    (c2 : PySem.W.codeIn K cd2 "Fold.__init__" = true)
    (k2 : PySem.W.keepIn K (.ref f2) = true)
    (a3 : PySem.W.findIn K (.ref C1) "__eq__" = some (some (.ref f3)))
    (i3 : PySem.W.isFn K (.ref f3) = true)
    (l3 : K.lookup f3 = some ⟨oc3, od3, .func (PySem.W.fnOf "__eq__" "Fold.__eq__" (defArgs sEq) (defBody sEq) (defScope sEq) .none kV3 dc3 pm3 an3 cd3 ct3), sl3⟩)
    (c3 : PySem.W.codeIn K cd3 "Fold.__eq__" = true)
    (k3 : PySem.W.keepIn K (.ref f3) = true)
    (a4 : PySem.W.findIn K (.ref C1) "__repr__" = some (some (.ref f4)))
    (i4 : PySem.W.isFn K (.ref f4) = true)
    (l4 : K.lookup f4 = some ⟨oc4, od4, .func (PySem.W.fnOf "__repr__" "Fold.__repr__" (defArgs sRp) (defBody sRp) (defScope sRp) .none kV4 dc4 pm4 an4 cd4 ct4), sl4⟩)
    (c4 : PySem.W.codeIn K cd4 "Fold.__repr__" = true)
    (k4 : PySem.W.keepIn K (.ref f4) = true)
    (a5 : PySem.W.nsIn K mainGlobals "fields_text" = some (some (.ref f5)))
    (l5 : K.lookup f5 = some ⟨oc5, od5, .func (PySem.W.fnOf "fields_text" "fields_text" (defArgs sFT) (defBody sFT) (defScope sFT) .none kV5 dc5 pm5 an5 cd5 ct5), sl5⟩)
    (c5 : PySem.W.codeIn K cd5 "fields_text" = true)
    (k5 : PySem.W.keepIn K (.ref f5) = true)
    (a6 : PySem.W.nsIn K mainGlobals "risen" = some (some (.ref f6)))
    (l6 : K.lookup f6 = some ⟨oc6, od6, .func (PySem.W.fnOf "risen" "risen" (defArgs sRisen) (defBody sRisen) (defScope sRisen) .none kV6 dc6 pm6 an6 cd6 ct6), sl6⟩)
    (c6 : PySem.W.codeIn K cd6 "risen" = true)
    (k6 : PySem.W.keepIn K (.ref f6) = true)
    (a7 : PySem.W.nsIn K mainGlobals "held_between" = some (some (.ref f7)))
    (l7 : K.lookup f7 = some ⟨oc7, od7, .func (PySem.W.fnOf "held_between" "held_between" (defArgs sHB) (defBody sHB) (defScope sHB) .none kV7 dc7 pm7 an7 cd7 ct7), sl7⟩)
    (c7 : PySem.W.codeIn K cd7 "held_between" = true)
    (k7 : PySem.W.keepIn K (.ref f7) = true)
    (a8 : PySem.W.nsIn K mainGlobals "check_rising" = some (some (.ref f8)))
    (l8 : K.lookup f8 = some ⟨oc8, od8, .func (PySem.W.fnOf "check_rising" "check_rising" (defArgs sCkR) (defBody sCkR) (defScope sCkR) .none kV8 dc8 pm8 an8 cd8 ct8), sl8⟩)
    (c8 : PySem.W.codeIn K cd8 "check_rising" = true)
    (k8 : PySem.W.keepIn K (.ref f8) = true)
    (a9 : PySem.W.nsIn K mainGlobals "fold_of" = some (some (.ref f9)))
    (l9 : K.lookup f9 = some ⟨oc9, od9, .func (PySem.W.fnOf "fold_of" "fold_of" (defArgs sFO) (defBody sFO) (defScope sFO) .none kV9 dc9 pm9 an9 cd9 ct9), sl9⟩)
    (c9 : PySem.W.codeIn K cd9 "fold_of" = true)
    (k9 : PySem.W.keepIn K (.ref f9) = true)
    (a10 : PySem.W.nsIn K mainGlobals "_law_draws" = some (some (.ref f10)))
    (l10 : K.lookup f10 = some ⟨oc10, od10, .func (PySem.W.fnOf "_law_draws" "_law_draws" (defArgs sDraws) (defBody sDraws) (defScope sDraws) .none kV10 dc10 pm10 an10 cd10 ct10), sl10⟩)
    (c10 : PySem.W.codeIn K cd10 "_law_draws" = true)
    (k10 : PySem.W.keepIn K (.ref f10) = true)
    (a11 : PySem.W.nsIn K mainGlobals "_law_next" = some (some (.ref f11)))
    (l11 : K.lookup f11 = some ⟨oc11, od11, .func (PySem.W.fnOf "_law_next" "_law_next" (defArgs sNext) (defBody sNext) (defScope sNext) .none kV11 dc11 pm11 an11 cd11 ct11), sl11⟩)
    (c11 : PySem.W.codeIn K cd11 "_law_next" = true)
    (k11 : PySem.W.keepIn K (.ref f11) = true)
    (a12 : PySem.W.nsIn K mainGlobals "_law_step" = some (some (.ref f12)))
    (l12 : K.lookup f12 = some ⟨oc12, od12, .func (PySem.W.fnOf "_law_step" "_law_step" (defArgs sStep) (defBody sStep) (defScope sStep) .none kV12 dc12 pm12 an12 cd12 ct12), sl12⟩)
    (c12 : PySem.W.codeIn K cd12 "_law_step" = true)
    (k12 : PySem.W.keepIn K (.ref f12) = true)
    (a13 : PySem.W.nsIn K mainGlobals "_law_fold" = some (some (.ref f13)))
    (l13 : K.lookup f13 = some ⟨oc13, od13, .func (PySem.W.fnOf "_law_fold" "_law_fold" (defArgs sFold) (defBody sFold) (defScope sFold) .none kV13 dc13 pm13 an13 cd13 ct13), sl13⟩)
    (c13 : PySem.W.codeIn K cd13 "_law_fold" = true)
    (k13 : PySem.W.keepIn K (.ref f13) = true)
    (a14 : PySem.W.nsIn K mainGlobals "_law_fields" = some (some (.ref f14)))
    (l14 : K.lookup f14 = some ⟨oc14, od14, .func (PySem.W.fnOf "_law_fields" "_law_fields" (defArgs sFlds) (defBody sFlds) (defScope sFlds) .none kV14 dc14 pm14 an14 cd14 ct14), sl14⟩)
    (c14 : PySem.W.codeIn K cd14 "_law_fields" = true)
    (k14 : PySem.W.keepIn K (.ref f14) = true)
    (a15 : PySem.W.nsIn K mainGlobals "_law_some_points" = some (some (.ref f15)))
    (l15 : K.lookup f15 = some ⟨oc15, od15, .func (PySem.W.fnOf "_law_some_points" "_law_some_points" (defArgs sSome) (defBody sSome) (defScope sSome) .none kV15 dc15 pm15 an15 cd15 ct15), sl15⟩)
    (c15 : PySem.W.codeIn K cd15 "_law_some_points" = true)
    (k15 : PySem.W.keepIn K (.ref f15) = true)
    (a16 : PySem.W.nsIn K mainGlobals "_law_bent" = some (some (.ref f16)))
    (l16 : K.lookup f16 = some ⟨oc16, od16, .func (PySem.W.fnOf "_law_bent" "_law_bent" (defArgs sBent) (defBody sBent) (defScope sBent) .none kV16 dc16 pm16 an16 cd16 ct16), sl16⟩)
    (c16 : PySem.W.codeIn K cd16 "_law_bent" = true)
    (k16 : PySem.W.keepIn K (.ref f16) = true)
    (a17 : PySem.W.nsIn K mainGlobals "_law_first_wrong" = some (some (.ref f17)))
    (l17 : K.lookup f17 = some ⟨oc17, od17, .func (PySem.W.fnOf "_law_first_wrong" "_law_first_wrong" (defArgs sFW) (defBody sFW) (defScope sFW) .none kV17 dc17 pm17 an17 cd17 ct17), sl17⟩)
    (c17 : PySem.W.codeIn K cd17 "_law_first_wrong" = true)
    (k17 : PySem.W.keepIn K (.ref f17) = true)
    (a18 : PySem.W.nsIn K mainGlobals "_law_asked" = some (some (.ref f18)))
    (l18 : K.lookup f18 = some ⟨oc18, od18, .func (PySem.W.fnOf "_law_asked" "_law_asked" (defArgs sAsk) (defBody sAsk) (defScope sAsk) .none kV18 dc18 pm18 an18 cd18 ct18), sl18⟩)
    (c18 : PySem.W.codeIn K cd18 "_law_asked" = true)
    (k18 : PySem.W.keepIn K (.ref f18) = true)
    (a19 : PySem.W.nsIn K mainGlobals "_law_text" = some (some (.ref f19)))
    (l19 : K.lookup f19 = some ⟨oc19, od19, .func (PySem.W.fnOf "_law_text" "_law_text" (defArgs sTx) (defBody sTx) (defScope sTx) .none kV19 dc19 pm19 an19 cd19 ct19), sl19⟩)
    (c19 : PySem.W.codeIn K cd19 "_law_text" = true)
    (k19 : PySem.W.keepIn K (.ref f19) = true)
    (a20 : PySem.W.nsIn K mainGlobals "_law_made" = some (some (.ref f20)))
    (l20 : K.lookup f20 = some ⟨oc20, od20, .func (PySem.W.fnOf "_law_made" "_law_made" (defArgs sMd) (defBody sMd) (defScope sMd) .none kV20 dc20 pm20 an20 cd20 ct20), sl20⟩)
    (c20 : PySem.W.codeIn K cd20 "_law_made" = true)
    (k20 : PySem.W.keepIn K (.ref f20) = true)
    (a21 : PySem.W.nsIn K mainGlobals "_law_right" = some (some (.ref f21)))
    (l21 : K.lookup f21 = some ⟨oc21, od21, .func (PySem.W.fnOf "_law_right" "_law_right" (defArgs sRt) (defBody sRt) (defScope sRt) .none kV21 dc21 pm21 an21 cd21 ct21), sl21⟩)
    (c21 : PySem.W.codeIn K cd21 "_law_right" = true)
    (k21 : PySem.W.keepIn K (.ref f21) = true)
    (a22 : PySem.W.nsIn K mainGlobals "law" = some (some (.ref f22)))
    (l22 : K.lookup f22 = some ⟨oc22, od22, .func (PySem.W.fnOf "law" "law" (defArgs sLaw) (defBody sLaw) (defScope sLaw) .none kV22 dc22 pm22 an22 cd22 ct22), sl22⟩)
    (c22 : PySem.W.codeIn K cd22 "law" = true)
    (k22 : PySem.W.keepIn K (.ref f22) = true)
    (z_range : PySem.W.nsIn K mainGlobals "range" = some none)
    (z_len : PySem.W.nsIn K mainGlobals "len" = some none)
    (z_max : PySem.W.nsIn K mainGlobals "max" = some none)
    (z_min : PySem.W.nsIn K mainGlobals "min" = some none)
    (z_sum : PySem.W.nsIn K mainGlobals "sum" = some none)
    (z_zip : PySem.W.nsIn K mainGlobals "zip" = some none)
    (z_list : PySem.W.nsIn K mainGlobals "list" = some none)
    (z_isinstance : PySem.W.nsIn K mainGlobals "isinstance" = some none)
    (z_repr : PySem.W.nsIn K mainGlobals "repr" = some none)
    (z_bool : PySem.W.nsIn K mainGlobals "bool" = some none)
    (z_ValueError : PySem.W.nsIn K mainGlobals "ValueError" = some none)
    (xF : K.lookup C1 = some (excClassObj nmF qF C1 NF bsF [.type "object"] hdF snF subF abF colF ddF v0F v1F v2F v3F v5F idF))
    (lNF : K.lookup NF = some ⟨cN, dN, .dict esN epN, slN⟩)
    (okE : (esN.toList.all fun e => match e.key with | .str _ _ => true | _ => false) = true)
    (eqF : PySem.W.nsIn K NF "__eq__" = some (some (.ref f3)))
    (neF : PySem.W.nsIn K NF "__ne__" = some none)
    (ocE : oc3 = .type "function")
    (ccF : PySem.W.findIn K (.ref C1) "__class__" = some (some (.builtin "object.__class__")))
    (hnF : PySem.W.specialIn K (.builtin "object.__class__") "__get__" = some (some (.builtin "getset_descriptor.__get__")))
    (htF : PySem.W.takesIn K (.builtin "object.__class__") = some true)
    (hmF : PySem.W.mroIn K C1 (.type "object") = some true)
    (kitF : PySem.W.kitOne K (.ref C1) (.ref C1) = some true)
    (kitO : PySem.W.kitOne K (.ref CO) (.ref CO) = some true)
    (kitV : PySem.W.kitOne K (.ref CO) (.type "ValueError") = some true)
    (exAny : PySem.W.exmAny K (.ref CO) [.ref CO, .ref CW] = some true)
    (nfT : PySem.W.notFirst K C1 (.type "tuple") = true)
    (nfC : PySem.W.notFirst K C1 (.ref C1) = true)
    (noN : PySem.W.subIn K (.ref C1) (.type "NoneType") = some false)
    (noS : PySem.W.subIn K (.ref C1) (.type "str") = some false)
    (kT : PySem.W.kitOne K (.type "tuple") (.ref C1) = some false)
    (kN : PySem.W.kitOne K (.type "NoneType") (.ref C1) = some false)
    (kS : PySem.W.kitOne K (.type "str") (.ref C1) = some false)
    : ∃ fd : FuncData, (∀ (s : Shared) (v : Value), BindsTo s fd ⟨[v], []⟩ [("_law_script", v)]) ∧ ∀ base : Heap, K.In base → base.Ns mainGlobals mg → FnG l.prog w K mg base CX0 6 fa fd ["_law_script"] (spScript K) := by
  have e := hfa.symm.trans (PySem.W.mg_of X G a22)
  cases e
  have F1 := fun_mk (st := sErO) l1 c1 k1
  have F2 : FFold K f2 _ := ⟨⟨oc2, od2, .none, .ref KD, dc2, pm2, an2, cd2, ct2, sl2, rfl, l2, c2, .inl ⟨rfl, rfl⟩, .inr ⟨KD, rfl, fun q lack => by
    rcases List.mem_cons.mp lack with rfl | lack
    · exact ⟨_, d_count, ⟨_, rfl⟩⟩
    rcases List.mem_cons.mp lack with rfl | lack
    · exact ⟨_, d_total, ⟨_, rfl⟩⟩
    rcases List.mem_cons.mp lack with rfl | lack
    · exact ⟨_, d_squares, ⟨_, rfl⟩⟩
    rcases List.mem_cons.mp lack with rfl | lack
    · exact ⟨_, d_least, rfl⟩
    rcases List.mem_cons.mp lack with rfl | lack
    · exact ⟨_, d_greatest, rfl⟩
    rcases List.mem_cons.mp lack with rfl | lack
    · exact ⟨_, d_first, rfl⟩
    rcases List.mem_cons.mp lack with rfl | lack
    · exact ⟨_, d_last, rfl⟩
    rcases List.mem_cons.mp lack with rfl | lack
    · exact ⟨_, d_rise, ⟨_, rfl⟩⟩
    rcases List.mem_cons.mp lack with rfl | lack
    · exact ⟨_, d_held, ⟨_, rfl⟩⟩
    cases lack⟩⟩, k2⟩
  have F3 := fun_mk (st := sEq) l3 c3 k3
  have F4 := fun_mk (st := sRp) l4 c4 k4
  have F5 := fun_mk (st := sFT) l5 c5 k5
  have F6 := fun_mk (st := sRisen) l6 c6 k6
  have F7 := fun_mk (st := sHB) l7 c7 k7
  have F8 := fun_mk (st := sCkR) l8 c8 k8
  have F9 := fun_mk (st := sFO) l9 c9 k9
  have F10 := fun_mk (st := sDraws) l10 c10 k10
  have F11 := fun_mk (st := sNext) l11 c11 k11
  have F12 := fun_mk (st := sStep) l12 c12 k12
  have F13 := fun_mk (st := sFold) l13 c13 k13
  have F14 := fun_mk (st := sFlds) l14 c14 k14
  have F15 := fun_mk (st := sSome) l15 c15 k15
  have F16 := fun_mk (st := sBent) l16 c16 k16
  have F17 := fun_mk (st := sFW) l17 c17 k17
  have F18 := fun_mk (st := sAsk) l18 c18 k18
  have F19 := fun_mk (st := sTx) l19 c19 k19
  have F20 := fun_mk (st := sMd) l20 c20 k20
  have F21 := fun_mk (st := sRt) l21 c21 k21
  have F22 := fun_mk (st := sLaw) l22 c22 k22
  have b1 := F1.binds (ps := ["self", "at"]) fun _ _ _ _ _ _ us hl => match us, hl with | [_, _], _ => rfl
  have b3 := F3.binds (ps := ["self", "other"]) fun _ _ _ _ _ _ us hl => match us, hl with | [_, _], _ => rfl
  have b4 := F4.binds (ps := ["self"]) fun _ _ _ _ _ _ us hl => match us, hl with | [_], _ => rfl
  have b5 := F5.binds (ps := ["fold"]) fun _ _ _ _ _ _ us hl => match us, hl with | [_], _ => rfl
  have b6 := F6.binds (ps := ["ahead", "behind"]) fun _ _ _ _ _ _ us hl => match us, hl with | [_, _], _ => rfl
  have b7 := F7.binds (ps := ["ahead", "behind"]) fun _ _ _ _ _ _ us hl => match us, hl with | [_, _], _ => rfl
  have b8 := F8.binds (ps := ["points"]) fun _ _ _ _ _ _ us hl => match us, hl with | [_], _ => rfl
  have b9 := F9.binds (ps := ["points"]) fun _ _ _ _ _ _ us hl => match us, hl with | [_], _ => rfl
  have b10 := F10.binds (ps := ["_law_cell"]) fun _ _ _ _ _ _ us hl => match us, hl with | [_], _ => rfl
  have b11 := F11.binds (ps := ["_law_draws_here"]) fun _ _ _ _ _ _ us hl => match us, hl with | [_], _ => rfl
  have b12 := F12.binds (ps := ["_law_one", "_law_two"]) fun _ _ _ _ _ _ us hl => match us, hl with | [_, _], _ => rfl
  have b13 := F13.binds (ps := ["_law_a_points"]) fun _ _ _ _ _ _ us hl => match us, hl with | [_], _ => rfl
  have b14 := F14.binds (ps := ["_law_fold_here"]) fun _ _ _ _ _ _ us hl => match us, hl with | [_], _ => rfl
  have b15 := F15.binds (ps := ["_law_draws_here"]) fun _ _ _ _ _ _ us hl => match us, hl with | [_], _ => rfl
  have b16 := F16.binds (ps := ["_law_draws_here", "_law_a_points"]) fun _ _ _ _ _ _ us hl => match us, hl with | [_, _], _ => rfl
  have b17 := F17.binds (ps := ["_law_a_points"]) fun _ _ _ _ _ _ us hl => match us, hl with | [_], _ => rfl
  have b18 := F18.binds (ps := ["_law_a_points", "_law_way"]) fun _ _ _ _ _ _ us hl => match us, hl with | [_, _], _ => rfl
  have b19 := F19.binds (ps := ["_law_due"]) fun _ _ _ _ _ _ us hl => match us, hl with | [_], _ => rfl
  have b20 := F20.binds (ps := ["_law_due"]) fun _ _ _ _ _ _ us hl => match us, hl with | [_], _ => rfl
  have b21 := F21.binds (ps := ["_law_fold_here", "_law_a_points"]) fun _ _ _ _ _ _ us hl => match us, hl with | [_, _], _ => rfl
  have g5 := PySem.W.mg_of X G a5
  have g6 := PySem.W.mg_of X G a6
  have g7 := PySem.W.mg_of X G a7
  have g8 := PySem.W.mg_of X G a8
  have g9 := PySem.W.mg_of X G a9
  have g10 := PySem.W.mg_of X G a10
  have g11 := PySem.W.mg_of X G a11
  have g12 := PySem.W.mg_of X G a12
  have g13 := PySem.W.mg_of X G a13
  have g14 := PySem.W.mg_of X G a14
  have g15 := PySem.W.mg_of X G a15
  have g16 := PySem.W.mg_of X G a16
  have g17 := PySem.W.mg_of X G a17
  have g18 := PySem.W.mg_of X G a18
  have g19 := PySem.W.mg_of X G a19
  have g20 := PySem.W.mg_of X G a20
  have g21 := PySem.W.mg_of X G a21
  have gC1 := PySem.W.mg_of X G aC1
  have gCW := PySem.W.mg_of X G aCW
  have gCO := PySem.W.mg_of X G aCO
  have OCO : OexC K CO := ⟨⟨nmCO, qCO, NCO, bsCO, _, snCO, subCO, abCO, colCO, ddCO, v0CO, v1CO, v2CO, v3CO, v5CO, xCO, by decide +kernel⟩, saCO, ecCO, tcCO, kcCO⟩
  have ECO : ExcC K CO := ⟨gaCO, ggCO, ecCO, hcCO, ccCO, hnC, htC, moCO⟩
  have XCO : XfC K CO := ⟨gaCO, ggCO, ecCO, hcCO⟩
  have m_range := PySem.W.mg_none_of X G z_range
  have m_len := PySem.W.mg_none_of X G z_len
  have m_max := PySem.W.mg_none_of X G z_max
  have m_min := PySem.W.mg_none_of X G z_min
  have m_sum := PySem.W.mg_none_of X G z_sum
  have m_zip := PySem.W.mg_none_of X G z_zip
  have m_list := PySem.W.mg_none_of X G z_list
  have m_isinstance := PySem.W.mg_none_of X G z_isinstance
  have m_repr := PySem.W.mg_none_of X G z_repr
  have m_bool := PySem.W.mg_none_of X G z_bool
  have m_ValueError := PySem.W.mg_none_of X G z_ValueError
  refine ⟨PySem.W.fnOf "law" "law" (defArgs sLaw) (defBody sLaw) (defScope sLaw) .none kV22 dc22 pm22 an22 cd22 ct22, fun s v => .of_eq rfl, fun base _ _ => ?_⟩
  have T : TFold K C1 := ⟨⟨pgC1, hdC1, poC1, saC1⟩, fun n hn => by
    rcases List.mem_cons.mp hn with rfl | hn
    · exact noC1_count
    rcases List.mem_cons.mp hn with rfl | hn
    · exact noC1_total
    rcases List.mem_cons.mp hn with rfl | hn
    · exact noC1_squares
    rcases List.mem_cons.mp hn with rfl | hn
    · exact noC1_least
    rcases List.mem_cons.mp hn with rfl | hn
    · exact noC1_greatest
    rcases List.mem_cons.mp hn with rfl | hn
    · exact noC1_first
    rcases List.mem_cons.mp hn with rfl | hn
    · exact noC1_last
    rcases List.mem_cons.mp hn with rfl | hn
    · exact noC1_rise
    obtain rfl := List.mem_singleton.mp hn
    exact noC1_held⟩
  have OI : ∀ j, FnOk l.prog w K mg base CX0 (j + 1) f2 _ NFI (spFI C1) := fun j => ok_fi F2 T
  have MK : Mk K C1 f2 := ⟨mkC1, a2, i2, kcC1⟩
  obtain ⟨q0, z0⟩ := kb_0 F2
  obtain ⟨qr, zr⟩ := kb_r F2
  obtain ⟨q9, z9⟩ := kb_9 F2
  have okF : PySem.W.nsOkIn K NF = true := by
    unfold PySem.W.nsOkIn
    rw [lNF]
    dsimp only
    rw [← Array.all_toList]
    exact okE
  have TI : TIns K C1 := ⟨ccF, hnF, htF, hmF, kitF⟩
  have OE : ∀ j, FnOk l.prog w K mg base CX0 (j + 1) f3 _ ["self", "other"] (spEqB (EqR K C1)) := fun j => ok_eqB F3 T TI gC1 m_isinstance
  have NE : NeC K C1 f3 := ⟨⟨nmF, qF, NF, bsF, hdF, snF, subF, abF, colF, ddF, v0F, v1F, v2F, v3F, v5F, idF, xF, okF, eqF, neF⟩, _, l3, ocE⟩
  have RI : ∀ j, Cal l.prog w K mg base (j + 1) "risen" ["ahead", "behind"] spRisen := fun j => ⟨f6, _, ok_risen F6 m_max, g6, k6, b6⟩
  have HB : ∀ j, Cal l.prog w K mg base (j + 1) "held_between" ["ahead", "behind"] (spHB K) := fun j => ⟨f7, _, ok_hb F7, g7, k7, b7⟩
  have K0 : ∀ j, KF0 l.prog w K mg base C1 (j + 1) := fun j => ⟨f2, _, q0, OI j, gC1, MK, z0⟩
  have K9 : ∀ j, KF9 l.prog w K mg base C1 (j + 1) := fun j => ⟨f2, _, q9, OI j, gC1, MK, z9⟩
  have KR : ∀ j, KFR l.prog w K mg base C1 (j + 1) := fun j => ⟨f2, _, qr, OI j, gC1, MK, zr⟩
  have OF : ∀ j, FnOk l.prog w K mg base CX0 (j + 3) f9 _ ["points"] (spFO K C1) := fun j => ok_fo (k := j + 1) F9 ⟨f8, _, ok_ckR F8 m_range m_len, g8, k8, b8⟩ (K0 j) (K9 j) (RI j) (HB j) m_list m_len m_sum m_min m_max m_zip
  have CE : CalE l.prog w K mg base 1 "NoOrder" CO "at" := ⟨f1, _, OCO, a1, t1, ok_errO (k := 0) F1 OCO noCO m_ValueError vV, b1, gCO⟩
  have N2 : Two K mg CO CW := ⟨gCO, gCW, m_isinstance, m_ValueError, kitO, kitV, ECO, XCO, noCO, exAny⟩
  have OX : FnOk l.prog w K mg base (L2.CX l.prog w) 4 f9 _ ["points"] (spFX K C1 CO) := fn_or (fn_x (OF 1)) (ok_foN (k := 3) F9 ⟨f8, _, ok_ckN (k := 1) F8 CE m_range m_len, g8, k8, b8⟩ m_list)
  have LA : Cal l.prog w K mg base 5 "_law_asked" ["_law_a_points", "_law_way"] (spAsk K C1) := ⟨f18, _, ok_ask (k := 4) F18 N2 ⟨f9, _, OX, g9, k9, b9⟩ ⟨f9, _, OX, g9, k9, kbn_1 F9 fun _ _ _ _ _ _ _ => rfl⟩, g18, k18, b18⟩
  have OR : FnG l.prog w K mg base CX0 2 f4 _ ["self"] (spRp K C1) := ok_rp (k := 1) F4 ⟨f5, _, ok_ft (k := 0) F5 T, g5, k5, b5⟩
  have LN : ∀ j, Cal l.prog w K mg base (j + 1) "_law_next" ["_law_draws_here"] spNext := fun j => ⟨f11, _, ok_next F11, g11, k11, b11⟩
  have LF : ∀ j, Cal l.prog w K mg base (j + 2) "_law_fold" ["_law_a_points"] (spFold K) := fun j => ⟨f13, _, ok_fold (k := j + 1) F13 ⟨f12, _, ok_step F12 m_max, g12, k12, b12⟩ m_range m_len m_sum m_min m_max, g13, k13, b13⟩
  have LD : ∀ j, Cal l.prog w K mg base (j + 1) "_law_fields" ["_law_fold_here"] (spFlds K C1) := fun j => ⟨f14, _, ok_flds F14 T, g14, k14, b14⟩
  have Z : Fns l.prog w K mg base C1 f3 f4 _ _ 2 4 := ⟨by decide, T, TI, OE 1, a3, i3, b3, NE, OR, a4, i4, b4, ⟨f19, _, ok_tx (k := 3) F19 m_zip m_repr, g19, k19, b19⟩, ⟨f20, _, ok_md (k := 2) F20 (KR 1), g20, k20, b20⟩, LD 3, LF 2, K0 1, gC1, m_repr, m_isinstance, m_bool, nfT, nfC, noN, noS, kT, kN, kS⟩
  exact ok_law (k := 5) (j := 2) F22 (by decide) T TI (OE 1) a3 i3 b3 nfC ⟨f10, _, ok_draws F10 m_range, g10, k10, b10⟩ ⟨f15, _, ok_some (k := 4) F15 (LN 3) m_range, g15, k15, b15⟩ ⟨f16, _, ok_bent (k := 4) F16 (LN 3) m_len, g16, k16, b16⟩ (LN 4) LA ⟨f17, _, ok_fw (k := 4) F17 m_range m_len, g17, k17, b17⟩ ⟨f21, _, ok_rt (k := 4) F21 Z, g21, k21, b21⟩ ⟨f9, _, OF 2, g9, k9, b9⟩ (K0 1) (LD 4) (LF 3) m_list
end Tg
open PySem PySem.W PyProof.Rows
set_option maxRecDepth 100000 in
set_option maxHeartbeats 0 in
theorem PySem.Challenge.cw_timegranary_k06_folds_holds : PySem.Challenge.rw_timegranary_k06_folds.Holds := by
  w_on; o_law; k_head; (case hw => w_witness2)
  k_fill
  refine Tg.walk_g (l := PySem.Challenge.rw_timegranary_k06_folds) (k := 6) (x := "_law_script") rfl rfl ⟨rfl, by decide, by decide⟩ (fun w h Y => PySem.W.kIn_of Y) ?F
  case F =>
    intro w mg fa h KX G hmg
    refine' Tg.all_mk KX G hmg ?aCO ?xCO ?saCO ?gaCO ?ggCO ?noCO ?kcCO ?ecCO ?tcCO ?hcCO ?ccCO ?moCO ?xmCO ?hnC ?htC ?vV ?aCW ?aC1 ?pgC1 ?hdC1 ?poC1 ?saC1 ?mkC1 ?kcC1 ?noC1_count ?noC1_total ?noC1_squares ?noC1_least ?noC1_greatest ?noC1_first ?noC1_last ?noC1_rise ?noC1_held ?a1 ?t1 ?l1 ?c1 ?k1 ?a2 ?i2 ?l2 ?d_count ?d_total ?d_squares ?d_least ?d_greatest ?d_first ?d_last ?d_rise ?d_held ?c2 ?k2 ?a3 ?i3 ?l3 ?c3 ?k3 ?a4 ?i4 ?l4 ?c4 ?k4 ?a5 ?l5 ?c5 ?k5 ?a6 ?l6 ?c6 ?k6 ?a7 ?l7 ?c7 ?k7 ?a8 ?l8 ?c8 ?k8 ?a9 ?l9 ?c9 ?k9 ?a10 ?l10 ?c10 ?k10 ?a11 ?l11 ?c11 ?k11 ?a12 ?l12 ?c12 ?k12 ?a13 ?l13 ?c13 ?k13 ?a14 ?l14 ?c14 ?k14 ?a15 ?l15 ?c15 ?k15 ?a16 ?l16 ?c16 ?k16 ?a17 ?l17 ?c17 ?k17 ?a18 ?l18 ?c18 ?k18 ?a19 ?l19 ?c19 ?k19 ?a20 ?l20 ?c20 ?k20 ?a21 ?l21 ?c21 ?k21 ?a22 ?l22 ?c22 ?k22 ?z_range ?z_len ?z_max ?z_min ?z_sum ?z_zip ?z_list ?z_isinstance ?z_repr ?z_bool ?z_ValueError ?xF ?lNF ?okE ?eqF ?neF ?ocE ?ccF ?hnF ?htF ?hmF ?kitF ?kitO ?kitV ?exAny ?nfT ?nfC ?noN ?noS ?kT ?kN ?kS
    (case aCO => k_is); (case xCO => k_is); (case saCO => k_is); (case gaCO => k_is); (case ggCO => k_is); (case noCO => k_is)
    (case kcCO => k_is); (case ecCO => k_is); (case tcCO => k_is); (case hcCO => k_is); (case ccCO => k_is); (case moCO => k_is)
    (case xmCO => first | k_is | rfl); (case hnC => k_is); (case htC => k_is); (case vV => first | k_is | rfl); (case aCW => k_is); (case aC1 => k_is)
    (case pgC1 => k_is); (case hdC1 => k_is); (case poC1 => k_is); (case saC1 => k_is); (case mkC1 => k_is); (case kcC1 => k_is)
    (case noC1_count => k_is); (case noC1_total => k_is); (case noC1_squares => k_is); (case noC1_least => k_is); (case noC1_greatest => k_is); (case noC1_first => k_is)
    (case noC1_last => k_is); (case noC1_rise => k_is); (case noC1_held => k_is); (case a1 => k_is); (case t1 => k_is); (case l1 => k_is)
    (case c1 => k_is); (case k1 => k_is); (case a2 => k_is); (case i2 => k_is); (case l2 => k_is); (case d_count => k_is); (case d_total => k_is); (case d_squares => k_is); (case d_least => k_is); (case d_greatest => k_is); (case d_first => k_is); (case d_last => k_is); (case d_rise => k_is); (case d_held => k_is); (case c2 => k_is)
    (case k2 => k_is); (case a3 => k_is); (case i3 => k_is); (case l3 => k_is); (case c3 => k_is); (case k3 => k_is)
    (case a4 => k_is); (case i4 => k_is); (case l4 => k_is); (case c4 => k_is); (case k4 => k_is); (case a5 => k_is)
    (case l5 => k_is); (case c5 => k_is); (case k5 => k_is); (case a6 => k_is); (case l6 => k_is); (case c6 => k_is)
    (case k6 => k_is); (case a7 => k_is); (case l7 => k_is); (case c7 => k_is); (case k7 => k_is); (case a8 => k_is)
    (case l8 => k_is); (case c8 => k_is); (case k8 => k_is); (case a9 => k_is); (case l9 => k_is); (case c9 => k_is)
    (case k9 => k_is); (case a10 => k_is); (case l10 => k_is); (case c10 => k_is); (case k10 => k_is); (case a11 => k_is)
    (case l11 => k_is); (case c11 => k_is); (case k11 => k_is); (case a12 => k_is); (case l12 => k_is); (case c12 => k_is)
    (case k12 => k_is); (case a13 => k_is); (case l13 => k_is); (case c13 => k_is); (case k13 => k_is); (case a14 => k_is)
    (case l14 => k_is); (case c14 => k_is); (case k14 => k_is); (case a15 => k_is); (case l15 => k_is); (case c15 => k_is)
    (case k15 => k_is); (case a16 => k_is); (case l16 => k_is); (case c16 => k_is); (case k16 => k_is); (case a17 => k_is)
    (case l17 => k_is); (case c17 => k_is); (case k17 => k_is); (case a18 => k_is); (case l18 => k_is); (case c18 => k_is)
    (case k18 => k_is); (case a19 => k_is); (case l19 => k_is); (case c19 => k_is); (case k19 => k_is); (case a20 => k_is)
    (case l20 => k_is); (case c20 => k_is); (case k20 => k_is); (case a21 => k_is); (case l21 => k_is); (case c21 => k_is)
    (case k21 => k_is); (case a22 => k_is); (case l22 => k_is); (case c22 => k_is); (case k22 => k_is); (case z_range => k_is)
    (case z_len => k_is); (case z_max => k_is); (case z_min => k_is); (case z_sum => k_is); (case z_zip => k_is); (case z_list => k_is)
    (case z_isinstance => k_is); (case z_repr => k_is); (case z_bool => k_is); (case z_ValueError => k_is); (case xF => k_is); (case lNF => k_is)
    (case okE => rfl); (case eqF => k_is); (case neF => k_is); (case ocE => rfl); (case ccF => k_is); (case hnF => k_is)
    (case htF => k_is); (case hmF => k_is); (case kitF => first | k_is | rfl); (case kitO => first | k_is | rfl); (case kitV => first | k_is | rfl); (case exAny => first | k_is | rfl)
    (case nfT => first | k_is | rfl); (case nfC => first | k_is | rfl); (case noN => first | k_is | rfl); (case noS => first | k_is | rfl); (case kT => first | k_is | rfl); (case kN => first | k_is | rfl)
    (case kS => first | k_is | rfl)

