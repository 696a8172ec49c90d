import PyProof.Rows.All
import Wide.All
import OpenK.AllK
import Wide.FinOn
import HandS.ForMost
import HandS.Conv
import HandS.Wide
import HandS.IsInst
import HandS.Defaults
import HandS.Dict
import HandS.Iter
import HandS.Walk
import HandS.Exc
import HandS.ExcInit
import HandS.ExcIs
import HandS.ExcField
import HandS.ExcValue
import KE.KExcIs
import KE.KTryMore
import HandS.WordsExc
import HandS.ExcOwn
import PyProof.ReprRoads
import HandS.FStr
import HandS.OwnEq
import HandS.Zip
import KE.GoesNew
import KE.GoesMore
import KE.GoesEnum
import KE.KIndexOf
import KE.GoesEnumKw
import PyProof.Rows.CallKwBuiltin
import HandS.Text
import PyProof.MeetsStr3
import PyProof.StrLawsLast
import PyProof.StrLawsIn
import HandS.DictComp
import KE.KDictPairs
import PyProof.InstNe
import OpenK.KOwn
import PyProof.DictUpdate
import HandS.Finally
import HandS.Sort
import KE.KDictList
import HandS.Strs
import HandS.SetBool
import HandS.SortInts
import HandS.More
import HandS.SortOrd
import KE.KDictSum
import PyProof.TupleOfSeq
import HandS.Comp
import HandS.Lambda
import KE.KLam
import KE.SortKeyHeap
import HandS.New
import HandS.EndOwn
import KE.KEqDict
import KE.DatumOrd
import HandS.SetFor
import HandS.Base
import HandS.Call
import HandS.Codes
import HandS.Nested
import HandS.Words
import HandS.SortRule
import HandS.WideBits
import KE.IntBitsLaws
import PySem.Challenge.RW_timegranary_k53_right_points
import HandS.TupAny
import HandS.TupMul
import HandS.MakeKwOnly
import HandS.CallLocal
import PyProof.EqKinds
import HandS.SetKeys
set_option Elab.async false
set_option linter.all false
set_option maxRecDepth 100000
namespace Tg
open PySem PySem.Spec PyProof.Rows L2

/-! ### rules of my own: a call by keywords alone; list(range(a, b, c)) -/
section
variable {X : Cx} {CX : CXT} {k : Nat} {f : Addr} {fd : FuncData} {ps ks : List Str} {sp : Sp} {E : XK} {x : Str} {p pos : Pos} {kws : List Keyword} {tk : TA}
  {g : List Value → List Value → List Value} {gV : List V → List V → List V}
def tKw0 (n : Nat) (sp : Sp) (gV : List V → List V → List V) (E : XK) (tk : TA) : TE :=
  fun σ H Q => tk σ H fun zs H2 => zs.length = n ∧ sp (gV [] zs) H2 Q E
theorem pe_kw0 (F : FnOk X.prog X.w X.K X.mg X.base CX k f fd ps sp) (room : Room k X.A) (gl : Gl X x) (at_x : X.mg x = some (.ref f)) (kept : PySem.W.keepIn X.K (.ref f) = true) (binds : KBn X.K fd ps 0 ks g gV) (lets : Passes CX X E) (vals : PK X kws tk)
    (named : (backToKw pos (keywordEach kws X.env)).all (·.1.isSome) = true := by rfl) (names : (backToKw pos (keywordEach kws X.env)).filterMap (·.1) = ks := by rfl) (nodebug : (x == ("__debug__" : Str)) = false := by decide)
    (nostar : ((backTo pos (starEach [] X.env)).any (·.1) || (backToKw pos (keywordEach kws X.env)).any (·.1.isNone)) = false := by rfl) : PE X (.Call (.Name x p) [] kws pos) (tKw0 ks.length sp gV E tk) := by
  constructor
  intro pins s σ H Q I read
  refine wpAny_Call_Name_kw (ld_glob I gl at_x (PySem.W.callWith_KW0 (h₀ := X.base) I.ok.mod.kin kept named (thn (vals.run pos pins s σ H _ I read) fun ws s2 y => ?_) nostar) nodebug)
  obtain ⟨zs, H2, J, rel, many, h⟩ := y
  rw [names]
  exact ⟨J.kIn, run_fnN (us := []) (vs := []) F room binds lets J .nil rel rfl many h⟩
end

/-- two keywords, the second parameter's first -/
def sw2 {α : Type} : List α → List α
  | [y, x] => [x, y]
  | _ => []
/-- three keywords, the parameters' from the last on -/
def sw3 {α : Type} : List α → List α
  | [z, y, x] => [x, y, z]
  | _ => []
theorem sw2_rel : ∀ {zs : List V} {ws : List Value}, Vals zs ws → Vals (sw2 zs) (sw2 ws)
  | _, _, .nil => .nil
  | _, _, .cons _ .nil => .nil
  | _, _, .cons a (.cons b .nil) => .cons b (.cons a .nil)
  | _, _, .cons _ (.cons _ (.cons _ _)) => .nil
theorem sw3_rel : ∀ {zs : List V} {ws : List Value}, Vals zs ws → Vals (sw3 zs) (sw3 ws)
  | _, _, .nil => .nil
  | _, _, .cons _ .nil => .nil
  | _, _, .cons _ (.cons _ .nil) => .nil
  | _, _, .cons a (.cons b (.cons c .nil)) => .cons c (.cons b (.cons a .nil))
  | _, _, .cons _ (.cons _ (.cons _ (.cons _ _))) => .nil

section
variable {X : Cx} {a b c : Expr} {ta : TA}
def rg3 (a c : Int) (n : Nat) : List V := (List.range n).map fun i => V.int (a + (i : Nat) * c)
theorem rg3_length (a c : Int) (n : Nat) : (rg3 a c n).length = n := by
  simp [rg3]
def R3 (a b c : Int) (n : Nat) : Prop :=
  c ≠ 0 ∧ c.natAbs.log2 < 9000 ∧ Builtin.Range.small a b c = true ∧ Builtin.Range.rangeSize a b c = n ∧ n ≤ 2 ^ 24
def tLst3 (ta : TA) : TE := fun σ H Q => ta σ H fun vs H1 => ∃ (a b c : Int) (n : Nat), vs = [.int a, .int b, .int c] ∧ R3 a b c n ∧
  ∀ q, H1 q = none → Q (.ref q) (upd H1 q (.lst (rg3 a c n)))
theorem pe_lst3 {p p2 pos pos2 : Pos} (calm : X.calm = true) (gl : Gl X "list") (nl : X.mg "list" = none) (gr : Gl X "range") (nr : X.mg "range" = none) (args : PA X [a, b, c] ta)
    (one : starEach [a, b, c] X.env = (false, eval a X.env) :: starEach [b, c] X.env := by rfl) (nostar : (backTo pos2 (starEach [b, c] X.env)).any (·.1) = false := by rfl)
    (whole : starEach [.Call (.Name "range" p2) [a, b, c] [] pos2] X.env = (false, eval (.Call (.Name "range" p2) [a, b, c] [] pos2) X.env) :: starEach [] X.env := by rfl) :
    PE X (.Call (.Name "list" p) [.Call (.Name "range" p2) [a, b, c] [] pos2] [] pos) (tLst3 ta) := by
  constructor
  intro pins s σ H Q I read
  refine Call_ (ld_blt I gl nl boot_list (PyProof.Rows.callWith_type1 (args_cons (Call_ (ld_blt I gr nr boot_range (PyProof.Rows.callWith_type1 (thn (args.run pos2 pins s σ H _ I read) fun us s1 y => ?_) one nostar))) whole) whole))
  obtain ⟨zs, H1, J, rel, i, j, k, n, e, ⟨c0, c1, c2, c3, c4⟩, h⟩ := y
  subst e
  match us, rel with
  | [_, _, _], .cons ⟨t, ei⟩ (.cons ⟨u, ej⟩ (.cons ⟨v, ek⟩ .nil)) =>
    subst ei
    subst ej
    subst ek
    refine call_range_3 c0 (args_nil ?_) (.inl (PyProof.noPylong_of_log2 c1))
    obtain ⟨hx, ehx⟩ : ∃ hx, hx = s1.heap.push { cls := .type "range", data := .fields #[.int i t, .int j u, .int k v] } := ⟨_, rfl⟩
    have J2 : Inv X pins σ H1 { s1 with heap := hx } := by
      rw [ehx]
      exact J.kept (t' := s1.toks) fun _ _ z => Heap.get?_push_of_some _ z
    rw [← ehx]
    refine call_list_range (s := { s1 with heap := hx }) (n := n) (J2.ok.hd calm) (by rw [ehx]; exact IsRange.new ..) c2 c3 c4 fun h' tk acc cc kp made items => ?_
    have len : acc.toList.length = n := Array.length_toList.trans items.1
    have vals : Vals (rg3 i k n) acc.toList := by
      have z := vals_of_get acc.toList (fun m : Nat => V.int (i + m * k)) fun m w hw => by
        obtain ⟨tw, ew⟩ := items.2 m w (by rw [← hw, Array.getElem?_toList])
        exact ⟨tw, ew⟩
      rw [len] at z
      exact z
    refine ⟨.ref hx.objs.size, upd H1 hx.objs.size (.lst (rg3 i k n)), J2.laid kp (Nat.le_refl _) (show ObjOk X.prog X.w _ _ _ (.lst (rg3 i k n)) from ⟨?_, acc.toList, cc, vals, ?_⟩), rfl, h _ (J2.hok.fresh (Nat.le_refl _))⟩
    · rw [rg3_length, sizeLine_eq]
      omega
    · rw [Array.toArray_toList]
      exact made
end

/-! ### lists of ints, compared -/
theorem dp_ints {K : PySem.W.Frag} {H : Hp} : ∀ ns : List Int, DpAll K H (ns.map V.int) (ns.map PyData.int)
  | [] => .nil
  | n :: r => .cons (.int n) (dp_ints r)
theorem lay_ints : ∀ ns : List Int, PyData.canLayAll0 (ns.map PyData.int) = true
  | [] => rfl
  | n :: r => by
    show (true && PyData.canLayAll0 (r.map PyData.int)) = true
    rw [lay_ints r]
    rfl
theorem depth_ints : ∀ ns : List Int, PyData.depthAll (ns.map PyData.int) = 0
  | [] => rfl
  | n :: r => by
    show max 0 (PyData.depthAll (r.map PyData.int)) = 0
    rw [depth_ints r]
    rfl
theorem shaped_ints (ns : List Int) : SeqAt.shaped (.list (ns.map PyData.int)) = true := by
  unfold SeqAt.shaped
  have h1 : PyData.canLay0 (.list (ns.map PyData.int)) = true := lay_ints ns
  have h2 : PyData.depth (.list (ns.map PyData.int)) = 1 := by
    show PyData.depthAll (ns.map PyData.int) + 1 = 1
    rw [depth_ints]
  rw [h1, h2]
  rfl
theorem eqv_ints : ∀ ns : List Int, PyData.eqvAll (ns.map PyData.int) (ns.map PyData.int) = true
  | [] => rfl
  | n :: r => by
    show ((n == n) && PyData.eqvAll (r.map PyData.int) (r.map PyData.int)) = true
    rw [eqv_ints r, beq_self_eq_true]
    rfl
theorem dp_lst {K : PySem.W.Frag} {H : Hp} {a : Addr} {ns : List Int} (h : SqL K H a (ns.map V.int)) : Dp K H (.ref a) (.list (ns.map PyData.int)) := .lst h (dp_ints ns)
end Tg

namespace Tg
open PySem PySem.Spec PyProof.Rows L2
/-! ### defs, methods and classes as a caller needs them -/
section
variable (P : Program) (w : World) (K : PySem.W.Frag) (mg : Str → Option Value) (base : Heap)
/-- the def x is there, and keeps sp by level k -/
def Cal (k : Nat) (x : Str) (ps : List Str) (sp : Sp) : Prop := ∃ f fd, FnOk P w K mg base CX0 k f fd ps sp ∧ mg x = some (.ref f) ∧ PySem.W.keepIn K (.ref f) = true ∧ Binds K fd ps []
/-- the places that is tells, out of a list -/
def prm {α : Type} (is : List Nat) (zs : List α) : List α := is.filterMap fun i => zs[i]?
/-- the same with keywords alone, ks in this order; is: the places of the parameters among them -/
def CalK (k : Nat) (x : Str) (ps ks : List Str) (is : List Nat) (sp : Sp) : Prop := ∃ f fd, FnOk P w K mg base CX0 k f fd ps sp ∧ mg x = some (.ref f) ∧ PySem.W.keepIn K (.ref f) = true ∧ KBn K fd ps 0 ks (fun _ ws => prm is ws) (fun _ zs => prm is zs)
/-- a method of the class C -/
def CalM (k : Nat) (C : Addr) (m : Str) (ps : List Str) (sp : Sp) : Prop := ∃ f fd, FnOk P w K mg base CX0 k f fd ps sp ∧ Meth K C m f ∧ Binds K fd ps []
def CalMK (k : Nat) (C : Addr) (m : Str) (ps ks : List Str) (is : List Nat) (sp : Sp) : Prop := ∃ f fd, FnOk P w K mg base CX0 k f fd ps sp ∧ Meth K C m f ∧ KBn K fd ps 1 ks (fun us ws => us ++ prm is ws) (fun vs zs => vs ++ prm is zs)
/-- a class, by its __init__ -/
def CalC (k : Nat) (x : Str) (C : Addr) (ps : List Str) (sp : Sp) : Prop := ∃ f fd, FnOk P w K mg base CX0 k f fd ps sp ∧ mg x = some (.ref C) ∧ Mk K C f ∧ Binds K fd ps []
end
theorem vals_at : ∀ {zs : List V} {ws : List Value}, Vals zs ws → ∀ i : Nat, (zs[i]? = none ∧ ws[i]? = none) ∨ ∃ z w, zs[i]? = some z ∧ ws[i]? = some w ∧ RelV z w
  | _, _, .nil, i => .inl ⟨by simp, by simp⟩
  | _, _, .cons a b, i => by
    cases i with
    | zero => exact .inr ⟨_, _, rfl, rfl, a⟩
    | succ i => exact vals_at b i
theorem prm_rel {zs : List V} {ws : List Value} (h : Vals zs ws) : ∀ is : List Nat, Vals (prm is zs) (prm is ws)
  | [] => .nil
  | i :: r => by
    have ih := prm_rel h r
    unfold prm at ih ⊢
    rcases vals_at h i with ⟨h1, h2⟩ | ⟨z, w, h1, h2, h3⟩
    · rw [List.filterMap_cons_none h1, List.filterMap_cons_none h2]
      exact ih
    · rw [List.filterMap_cons_some h1, List.filterMap_cons_some h2]
      exact .cons h3 ih
section
variable {X : Cx} {k : Nat} {ps ks : List Str} {is : List Nat} {sp : Sp} {x m : Str} {C : Addr} {o e : Expr} {es : List Expr} {p pos apos : Pos} {kws : List Keyword} {ta t tk : TA} {to : TE}
theorem pe_cal (c : Cal X.prog X.w X.K X.mg X.base k x ps sp) (hr : Room k X.A) (gl : Gl X x) (ha : PA X (e :: es) t) (hdb : (x == ("__debug__" : Str)) = false := by decide)
    (he : starEach (e :: es) X.env = (false, eval e X.env) :: starEach es X.env := by rfl) (hpl : (backTo pos (starEach es X.env)).any (·.1) = false := by rfl) : PE X (.Call (.Name x p) (e :: es) [] pos) (tCall sp [] E0 t) := by
  obtain ⟨f, fd, F, hm, hk, hb⟩ := c
  exact pe_call F hr gl hm hk hb .nil pass0 ha hdb he hpl
theorem pe_calK (c : CalK X.prog X.w X.K X.mg X.base k x ps ks is sp) (hr : Room k X.A) (gl : Gl X x) (vals : PK X kws tk)
    (named : (backToKw pos (keywordEach kws X.env)).all (·.1.isSome) = true := by rfl) (names : (backToKw pos (keywordEach kws X.env)).filterMap (·.1) = ks := by rfl) (nodebug : (x == ("__debug__" : Str)) = false := by decide)
    (nostar : ((backTo pos (starEach [] X.env)).any (·.1) || (backToKw pos (keywordEach kws X.env)).any (·.1.isNone)) = false := by rfl) :
    PE X (.Call (.Name x p) [] kws pos) (tKw0 ks.length sp (fun _ zs => prm is zs) E0 tk) := by
  obtain ⟨f, fd, F, hm, hk, hb⟩ := c
  exact pe_kw0 F hr gl hm hk hb pass0 vals named names nodebug nostar
theorem pe_calM {pl : Sem Bool} (he : PE X o to) (cl : Cls X.K C) (c : CalM X.prog X.w X.K X.mg X.base k C m ps sp) (hr : Room k X.A) (ha : PA X (e :: es) t)
    (hst : starEach (e :: es) X.env = (false, eval e X.env) :: starEach es X.env := by rfl) (hpl : (backTo pos (starEach es X.env)).any (·.1) = false := by rfl) (ht : eval (.Call (.Attribute o m apos) (e :: es) [] pos) X.env = (do let ov ← eval o X.env; standAt apos.atName; let (f, first) ← holding [ov] (getMethod ov m pl); callWith pos f first (backTo pos (starEach (e :: es) X.env)) (backToKw pos (keywordEach [] X.env))) := by rfl) :
    PE X (.Call (.Attribute o m apos) (e :: es) [] pos) (tMeth C m sp [] E0 to t) := by
  obtain ⟨f, fd, F, hm, hb⟩ := c
  exact pe_meth (pl := pl) he cl hm F hr hb .nil pass0 ha hst hpl ht
theorem pe_calM0 {pl : Sem Bool} (he : PE X o to) (cl : Cls X.K C) (c : CalM X.prog X.w X.K X.mg X.base k C m ps sp) (hr : Room k X.A)
    (ht : eval (.Call (.Attribute o m apos) [] [] pos) X.env = (do let ov ← eval o X.env; standAt apos.atName; let (f, first) ← holding [ov] (getMethod ov m pl); callWith pos f first (backTo pos (starEach [] X.env)) (backToKw pos (keywordEach [] X.env))) := by rfl) :
    PE X (.Call (.Attribute o m apos) [] [] pos) (tMeth C m sp [] E0 to tNil) := by
  obtain ⟨f, fd, F, hm, hb⟩ := c
  exact pe_meth0 (pl := pl) he cl hm F hr hb .nil pass0 ht
/-- o.m(k = v, ..) -/
def tMethK (C : Addr) (m : Str) (n : Nat) (sp : Sp) (is : List Nat) (E : XK) (to : TE) (tk : TA) : TE := fun σ H Q => to σ H fun x H1 => ∃ a dx fs, x = .ref a ∧ H1 a = some (.ins C dx fs) ∧ fs.lookup m = none ∧ tk σ H1 fun zs H2 => zs.length = n ∧ sp (x :: prm is zs) H2 Q E
theorem pe_calMK {pl : Sem Bool} (he : PE X o to) (cl : Cls X.K C) (c : CalMK X.prog X.w X.K X.mg X.base k C m ps ks is sp) (hr : Room k X.A) (vals : PK X kws tk)
    (named : (backToKw pos (keywordEach kws X.env)).all (·.1.isSome) = true := by rfl) (names : (backToKw pos (keywordEach kws X.env)).filterMap (·.1) = ks := by rfl)
    (nostar : ((backTo pos (starEach [] X.env)).any (·.1) || (backToKw pos (keywordEach kws X.env)).any (·.1.isNone)) = false := by rfl)
    (ht : eval (.Call (.Attribute o m apos) [] kws pos) X.env = (do let ov ← eval o X.env; standAt apos.atName; let (f, first) ← holding [ov] (getMethod ov m pl); callWith pos f first (backTo pos (starEach [] X.env)) (backToKw pos (keywordEach kws X.env))) := by rfl) :
    PE X (.Call (.Attribute o m apos) [] kws pos) (tMethK C m ks.length sp is E0 to tk) := by
  obtain ⟨f, fd, F, hm, hb⟩ := c
  constructor
  intro pins s σ H Q I read
  refine PySem.W.methodCall_KW (pl := pl) (thn (he.run pins s σ H _ I read) fun u s1 ⟨x, H1, I1, rx, a, dx, fs, ex, ea, l, q⟩ => ?_) ht
  subst ex
  obtain rfl : u = .ref a := rx
  refine getmeth_ok I1 ea cl hm l ?_
  refine PySem.W.callWith_KW0 (first := [.ref a]) (h₀ := X.base) I.ok.mod.kin hm.kp named (thn (vals.run pos pins s1 σ H1 _ I1 q) fun ws s2 y => ?_) nostar
  obtain ⟨zs, H2, J, rel, many, h⟩ := y
  rw [names]
  exact ⟨J.kIn, run_fnN (E := E0) (us := [.ref a]) (vs := [.ref a]) F hr hb pass0 J (.cons rfl .nil) rel rfl many h⟩
theorem pe_calC0 (c : CalC X.prog X.w X.K X.mg X.base k x C ps sp) (hr : Room (k + 1) X.A) (gl : Gl X x) (hdb : (x == ("__debug__" : Str)) = false := by decide) : PE X (.Call (.Name x p) [] [] pos) (tMake C sp [] E0 tNil) := by
  obtain ⟨f, fd, F, hm, M, hb⟩ := c
  exact pe_make0 M F hr gl hm hb .nil pass0 hdb
theorem pe_calC (c : CalC X.prog X.w X.K X.mg X.base k x C ps sp) (hr : Room (k + 1) X.A) (gl : Gl X x) (ha : PA X (e :: es) t) (hdb : (x == ("__debug__" : Str)) = false := by decide)
    (he : starEach (e :: es) X.env = (false, eval e X.env) :: starEach es X.env := by rfl) (hpl : (backTo pos (starEach es X.env)).any (·.1) = false := by rfl) : PE X (.Call (.Name x p) (e :: es) [] pos) (tMake C sp [] E0 t) := by
  obtain ⟨f, fd, F, hm, M, hb⟩ := c
  exact pe_make M F hr gl hm hb .nil pass0 ha hdb he hpl
end
end Tg

namespace Tg
open PySem PySem.Spec PyProof.Rows L2
/-! ### the heap: what stands -/
/-- all but p stands as it stood -/
def Kp (p : Addr) (H H' : Hp) : Prop := ∀ b o, b ≠ p → H b = some o → H' b = some o
theorem Kp.refl (p : Addr) (H : Hp) : Kp p H H := fun _ _ _ h => h
theorem Kp.trans {p : Addr} {H H1 H2 : Hp} (a : Kp p H H1) (b : Kp p H1 H2) : Kp p H H2 := fun c o hc h => b c o hc (a c o hc h)
theorem Kp.of {p : Addr} {H H' : Hp} (s : Same H H') : Kp p H H' := fun c o _ h => s c o h
theorem Kp.put {p : Addr} {H : Hp} {o : HO} : Kp p H (upd H p o) := fun c u hc h => by
  rw [upd_ne hc]
  exact h
/-- what is new stays apart -/
theorem Kp.same {p : Addr} {H H1 H2 : Hp} (s : Same H H1) (n : H p = none) (k : Kp p H1 H2) : Same H H2 := fun b o h => k b o (ne_of_none h n) (s b o h)
theorem same_new {H : Hp} {p : Addr} {o : HO} (h : H p = none) : Same H (upd H p o) := fun b x e => by
  rw [upd_ne (ne_of_none e h)]
  exact e
theorem same_put {H H' : Hp} {D : Addr} {o : HO} (n : H D = none) (s : Same H H') : Same H (upd H' D o) := fun b x e => by
  rw [upd_ne (ne_of_none e n)]
  exact s _ _ e
/-- what can't be changed: tuples, and what is locked -/
def Fix : HO → Prop
  | .tup _ => True
  | .frz _ _ => True
  | _ => False
/-- all that can't be changed stands -/
def KT (H H' : Hp) : Prop := ∀ a o, Fix o → H a = some o → H' a = some o
theorem KT.refl (H : Hp) : KT H H := fun _ _ _ h => h
theorem KT.trans {H H1 H2 : Hp} (a : KT H H1) (b : KT H1 H2) : KT H H2 := fun c o f h => b c o f (a c o f h)
theorem KT.of {H H' : Hp} (s : Same H H') : KT H H' := fun c o _ h => s c o h
theorem KT.kp {p : Addr} {H H' : Hp} {o : HO} (k : Kp p H H') (h : H p = some o) (n : ¬ Fix o) : KT H H' := fun a u f e => k a u (fun z => n (by
  rw [z, h] at e
  cases e
  exact f)) e
theorem KT.put {p : Addr} {H : Hp} {o u : HO} (h : H p = some o) (n : ¬ Fix o) : KT H (upd H p u) := KT.kp Kp.put h n
theorem KT.new {p : Addr} {H : Hp} {u : HO} (h : H p = none) : KT H (upd H p u) := KT.of (same_new h)
theorem nfix_lst {xs : List V} : ¬ Fix (.lst xs) := fun z => z
theorem nfix_dK {xs : List (Key × V)} : ¬ Fix (.dK xs) := fun z => z
theorem nfix_ins {C dx : Addr} {fs : List (Str × V)} : ¬ Fix (.ins C dx fs) := fun z => z
/-! ### data -/
theorem rd_same {H H' : Hp} {a : Addr} {o : HO} (s : Same H H') (h : Rd H a o) : Rd H' a o := by
  rcases h with h | ⟨ob, h⟩
  · exact .inl (s _ _ h)
  · exact .inr ⟨ob, s _ _ h⟩
theorem sqL_same {K : PySem.W.Frag} {H H' : Hp} {a : Addr} {xs : List V} (s : Same H H') (h : SqL K H a xs) : SqL K H' a xs := h.imp (rd_same s) id
theorem sqT_same {K : PySem.W.Frag} {H H' : Hp} {a : Addr} {xs : List V} (s : Same H H') (h : SqT K H a xs) : SqT K H' a xs := h.imp (rd_same s) id
theorem sqT_kt {K : PySem.W.Frag} {H H' : Hp} {a : Addr} {xs : List V} (s : KT H H') (h : SqT K H a xs) : SqT K H' a xs := by
  refine h.imp (fun h => ?_) id
  rcases h with h | ⟨ob, h⟩
  · exact .inl (s _ _ trivial h)
  · exact .inr ⟨ob, s _ _ trivial h⟩
mutual
theorem dp_same {K : PySem.W.Frag} {H H' : Hp} (s : Same H H') : ∀ {x : V} {d : PyData}, Dp K H x d → Dp K H' x d
  | _, _, .non => .non
  | _, _, .bl b => .bl b
  | _, _, .int i => .int i
  | _, _, .str z => .str z
  | _, _, .lst a b => .lst (sqL_same s a) (dpAll_same s b)
  | _, _, .tup a b => .tup (sqT_same s a) (dpAll_same s b)
theorem dpAll_same {K : PySem.W.Frag} {H H' : Hp} (s : Same H H') : ∀ {xs : List V} {ds : List PyData}, DpAll K H xs ds → DpAll K H' xs ds
  | _, _, .nil => .nil
  | _, _, .cons a b => .cons (dp_same s a) (dpAll_same s b)
end
/-- no list and no dict in it -/
inductive TD : PyData → Prop
  | non : TD .none
  | bl (b : Bool) : TD (.bool b)
  | int (i : Int) : TD (.int i)
  | str (z : Str) : TD (.str z)
  | tup {ds : List PyData} : (∀ d, d ∈ ds → TD d) → TD (.tuple ds)
mutual
theorem dp_kt {K : PySem.W.Frag} {H H' : Hp} (s : KT H H') : ∀ {x : V} {d : PyData}, Dp K H x d → TD d → Dp K H' x d
  | _, _, .non, _ => .non
  | _, _, .bl b, _ => .bl b
  | _, _, .int i, _ => .int i
  | _, _, .str z, _ => .str z
  | _, _, .lst _ _, t => nomatch t
  | _, _, .tup a b, .tup t => .tup (sqT_kt s a) (dpAll_kt s b t)
theorem dpAll_kt {K : PySem.W.Frag} {H H' : Hp} (s : KT H H') : ∀ {xs : List V} {ds : List PyData}, DpAll K H xs ds → (∀ d, d ∈ ds → TD d) → DpAll K H' xs ds
  | _, _, .nil, _ => .nil
  | _, _, .cons a b, t => .cons (dp_kt s a (t _ List.mem_cons_self)) (dpAll_kt s b fun d hd => t d (List.mem_cons_of_mem _ hd))
end
theorem dpAll_len {K : PySem.W.Frag} {H : Hp} : ∀ {xs : List V} {ds : List PyData}, DpAll K H xs ds → xs.length = ds.length
  | _, _, .nil => rfl
  | _, _, .cons _ b => congrArg Nat.succ (dpAll_len b)
theorem dpAll_at {K : PySem.W.Frag} {H : Hp} : ∀ {xs : List V} {ds : List PyData}, DpAll K H xs ds → ∀ (i : Nat) (x : V), xs[i]? = some x → ∃ d, ds[i]? = some d ∧ Dp K H x d
  | _, _, .nil => fun i x h => by simp at h
  | _, _, .cons a b => fun i x h => by
    cases i with
    | zero =>
      simp only [Option.some.injEq, List.getElem?_cons_zero] at h
      subst h
      exact ⟨_, rfl, a⟩
    | succ i =>
      rw [List.getElem?_cons_succ] at h ⊢
      exact dpAll_at b i x h
theorem dpAll_tk {K : PySem.W.Frag} {H : Hp} : ∀ {xs : List V} {ds : List PyData}, DpAll K H xs ds → ∀ (i : Nat) (d : PyData), ds[i]? = some d → ∃ x, xs[i]? = some x ∧ Dp K H x d
  | _, _, .nil => fun i x h => by simp at h
  | _, _, .cons a b => fun i x h => by
    cases i with
    | zero =>
      simp only [Option.some.injEq, List.getElem?_cons_zero] at h
      subst h
      exact ⟨_, rfl, a⟩
    | succ i =>
      rw [List.getElem?_cons_succ] at h ⊢
      exact dpAll_tk b i x h
theorem dpAll_app {K : PySem.W.Frag} {H : Hp} : ∀ {xs ys : List V} {ds es : List PyData}, DpAll K H xs ds → DpAll K H ys es → DpAll K H (xs ++ ys) (ds ++ es)
  | _, _, _, _, .nil, h => h
  | _, _, _, _, .cons a b, h => .cons a (dpAll_app b h)
theorem dpAll_snoc {K : PySem.W.Frag} {H : Hp} {xs : List V} {ds : List PyData} {y : V} {e : PyData} (h : DpAll K H xs ds) (a : Dp K H y e) : DpAll K H (xs ++ [y]) (ds ++ [e]) := dpAll_app h (.cons a .nil)
/-- a list of data that can't be changed itself -/
def LD (K : PySem.W.Frag) (H : Hp) (a : Addr) (ds : List PyData) : Prop := ∃ xs, H a = some (.lst xs) ∧ DpAll K H xs ds
theorem LD.dp {K : PySem.W.Frag} {H : Hp} {a : Addr} {ds : List PyData} (h : LD K H a ds) : Dp K H (.ref a) (.list ds) := by
  obtain ⟨xs, h1, h2⟩ := h
  exact .lst (SqL.of h1) h2
theorem LD.same {K : PySem.W.Frag} {H H' : Hp} {a : Addr} {ds : List PyData} (s : Same H H') (h : LD K H a ds) : LD K H' a ds := by
  obtain ⟨xs, h1, h2⟩ := h
  exact ⟨xs, s _ _ h1, dpAll_same s h2⟩
/-- where the list itself stands and all tuples do -/
theorem LD.kt {K : PySem.W.Frag} {H H' : Hp} {a : Addr} {ds : List PyData} (s : KT H H') (e : ∀ o, H a = some o → H' a = some o) (t : ∀ d, d ∈ ds → TD d) (h : LD K H a ds) : LD K H' a ds := by
  obtain ⟨xs, h1, h2⟩ := h
  exact ⟨xs, e _ h1, dpAll_kt s h2 t⟩
theorem LD.kp {K : PySem.W.Frag} {H H' : Hp} {a p : Addr} {o : HO} {ds : List PyData} (k : Kp p H H') (hp : H p = some o) (n : ¬ Fix o) (ne : a ≠ p) (t : ∀ d, d ∈ ds → TD d) (h : LD K H a ds) : LD K H' a ds :=
  h.kt (KT.kp k hp n) (fun u e => k _ _ ne e) t
/-- one more at the end -/
theorem LD.snoc {K : PySem.W.Frag} {H H1 : Hp} {a : Addr} {xs : List V} {ds : List PyData} {y : V} {e : PyData} (k : KT H H1) (h1 : H1 a = some (.lst xs)) (hd : DpAll K H xs ds) (t : ∀ d, d ∈ ds → TD d) (hy : Dp K H1 y e) (te : TD e) :
    LD K (upd H1 a (.lst (xs ++ [y]))) a (ds ++ [e]) :=
  ⟨_, upd_same, dpAll_snoc (dpAll_kt (k.trans (KT.put h1 nfix_lst)) hd t) (dp_kt (KT.put h1 nfix_lst) hy te)⟩
theorem shaped_of {d : PyData} (h1 : d.canLay0 = true) (h2 : d.depth ≤ 64) : SeqAt.shaped d = true := by
  unfold SeqAt.shaped
  rw [h1, decide_eq_true h2]
  rfl
theorem if_f {A B : Prop} (h : B) : if false = true then A else B := by
  rw [if_neg (by decide)]
  exact h
theorem if_t {A B : Prop} (h : A) : if true = true then A else B := by
  rw [if_pos rfl]
  exact h
theorem atI_mem {xs : List Int} {i : Int} (h0 : 0 ≤ i) (h1 : i < xs.length) : ∃ v, v ∈ xs ∧ atI (xs.map V.int) i = some (.int v) := by
  have hn : i.toNat < xs.length := by omega
  obtain ⟨j, rfl⟩ : ∃ j : Nat, i = (j : Int) := ⟨i.toNat, by omega⟩
  have hj : j < xs.length := by omega
  refine ⟨xs[j], List.getElem_mem hj, atI_nat ?_⟩
  rw [List.getElem?_map, List.getElem?_eq_getElem hj]
  rfl
end Tg

namespace Tg
open PySem L2
/-! ### rows: time, number, worth or none -/
abbrev Rw := Int × Int × Option Int
def Lt (x y : Rw) : Prop := x.1 < y.1 ∨ (x.1 = y.1 ∧ x.2.1 < y.2.1)
def Srt (rs : List Rw) : Prop := rs.Pairwise Lt
theorem Lt.irr (x : Rw) : ¬ Lt x x := fun h => by
  rcases h with h | h
  · omega
  · omega
theorem Srt.sub {rs : List Rw} (h : Srt rs) (p : Rw → Bool) : Srt (rs.filter p) := List.Pairwise.filter p h
/-- r is the last row of its time with a number up to n -/
def IsLast (rs : List Rw) (n : Int) (r : Rw) : Prop := r ∈ rs ∧ r.2.1 ≤ n ∧ ∀ q, q ∈ rs → q.1 = r.1 → q.2.1 ≤ n → q.2.1 ≤ r.2.1
theorem srt_tri {rs : List Rw} (h : Srt rs) {a b : Rw} (ha : a ∈ rs) (hb : b ∈ rs) : a = b ∨ Lt a b ∨ Lt b a := by
  induction rs with
  | nil => cases ha
  | cons x r ih =>
    have ⟨h1, h2⟩ := List.pairwise_cons.mp (show (x :: r).Pairwise Lt from h)
    rcases List.mem_cons.mp ha with e1 | a1
    · rcases List.mem_cons.mp hb with e2 | b1
      · exact .inl (e1.trans e2.symm)
      · rw [e1]
        exact .inr (.inl (h1 b b1))
    · rcases List.mem_cons.mp hb with e2 | b1
      · rw [e2]
        exact .inr (.inr (h1 a a1))
      · exact ih h2 a1 b1
theorem srt_same {rs : List Rw} (h : Srt rs) {a b : Rw} (ha : a ∈ rs) (hb : b ∈ rs) (e1 : a.1 = b.1) (e2 : a.2.1 = b.2.1) : a = b := by
  rcases srt_tri h ha hb with e | (e | e) | (e | e)
  · exact e
  · omega
  · omega
  · omega
  · omega
theorem last_uniq {rs : List Rw} (h : Srt rs) {n : Int} {a b : Rw} (ha : IsLast rs n a) (hb : IsLast rs n b) (e : a.1 = b.1) : a = b := by
  have h1 := ha.2.2 b hb.1 e.symm hb.2.1
  have h2 := hb.2.2 a ha.1 e ha.2.1
  exact srt_same h ha.1 hb.1 e (by omega)
theorem Srt.nodup {rs : List Rw} (h : Srt rs) : rs.Nodup := by
  unfold List.Nodup
  refine List.Pairwise.imp (fun {a b} (l : Lt a b) => ?_) h
  intro e
  rw [← e] at l
  exact Lt.irr a l
/-! ### tables by times -/
def putL {α : Type} (m : List (Int × α)) (t : Int) (a : α) : List (Int × α) := if (m.any fun p => decide (p.1 = t)) = true then m.map (fun p => if p.1 = t then (p.1, a) else p) else m ++ [(t, a)]
theorem mem_putL {α : Type} {m : List (Int × α)} {t : Int} {a : α} {p : Int × α} : p ∈ putL m t a ↔ p = (t, a) ∨ (p ∈ m ∧ ¬ p.1 = t) := by
  unfold putL
  by_cases c : (m.any fun p => decide (p.1 = t)) = true
  · rw [if_pos c]
    obtain ⟨q, hq, eq⟩ := List.any_eq_true.mp c
    have eq := of_decide_eq_true eq
    constructor
    · intro h
      obtain ⟨x, hx, e⟩ := List.mem_map.mp h
      by_cases d : x.1 = t
      · rw [if_pos d, d] at e
        exact .inl e.symm
      · rw [if_neg d] at e
        subst e
        exact .inr ⟨hx, d⟩
    · rintro (rfl | ⟨h1, h2⟩)
      · exact List.mem_map.mpr ⟨q, hq, by rw [if_pos eq, eq]⟩
      · exact List.mem_map.mpr ⟨p, h1, by rw [if_neg h2]⟩
  · rw [if_neg c]
    constructor
    · intro there
      rcases List.mem_append.mp there with old | new
      · exact .inr ⟨old, fun z => c (List.any_eq_true.mpr ⟨p, old, decide_eq_true z⟩)⟩
      · exact .inl (List.mem_singleton.mp new)
    · rintro (rfl | ⟨h1, h2⟩)
      · exact List.mem_append_right _ (List.mem_singleton.mpr rfl)
      · exact List.mem_append_left _ h1
theorem putL_keys {α : Type} {m : List (Int × α)} {t : Int} {a : α} (h : m.Pairwise fun x y => x.1 < y.1) (le : ∀ p, p ∈ m → p.1 ≤ t) : (putL m t a).Pairwise fun x y => x.1 < y.1 := by
  unfold putL
  by_cases c : (m.any fun p => decide (p.1 = t)) = true
  · rw [if_pos c, List.pairwise_map]
    refine h.imp fun {x y} l => ?_
    by_cases d : x.1 = t
    · by_cases e : y.1 = t
      · rw [if_pos d, if_pos e]
        exact l
      · rw [if_pos d, if_neg e]
        exact l
    · by_cases e : y.1 = t
      · rw [if_neg d, if_pos e]
        exact l
      · rw [if_neg d, if_neg e]
        exact l
  · rw [if_neg c, List.pairwise_append]
    refine ⟨h, List.pairwise_singleton _ _, fun x hx y hy => ?_⟩
    rw [List.mem_singleton.mp hy]
    have h1 := le x hx
    have h2 : ¬ x.1 = t := fun z => c (List.any_eq_true.mpr ⟨x, hx, decide_eq_true z⟩)
    show x.1 < t
    omega
theorem putL_len {α : Type} {m : List (Int × α)} {t : Int} {a : α} : (putL m t a).length ≤ m.length + 1 := by
  unfold putL
  split
  · rw [List.length_map]
    omega
  · rw [List.length_append]
    exact Nat.le_refl _
/-- of each time the last row up to a number -/
def lwR (rs : List Rw) (n : Int) : List (Int × Rw) := rs.foldl (fun m r => if r.2.1 ≤ n then putL m r.1 r else m) []
theorem lwR_snoc (rs : List Rw) (n : Int) (r : Rw) : lwR (rs ++ [r]) n = if r.2.1 ≤ n then putL (lwR rs n) r.1 r else lwR rs n := by
  unfold lwR
  rw [List.foldl_append]
  rfl
theorem lwR_len (rs : List Rw) (n : Int) : (lwR rs n).length ≤ rs.length := by
  obtain ⟨k, hk⟩ : ∃ k, rs.length = k := ⟨_, rfl⟩
  induction k generalizing rs with
  | zero =>
    rw [List.length_eq_zero_iff.mp hk]
    exact Nat.le_refl _
  | succ k ih =>
    rcases List.eq_nil_or_concat rs with rfl | ⟨q, x, e⟩
    · exact Nat.zero_le _
    · rw [List.concat_eq_append] at e
      subst e
      rw [List.length_append] at hk ⊢
      have i1 := ih q (by simp at hk; exact hk)
      rw [lwR_snoc]
      have := putL_len (m := lwR q n) (t := x.1) (a := x)
      show _ ≤ q.length + 1
      split <;> omega
theorem lwR_is {n : Int} (rs : List Rw) (h : Srt rs) : ((lwR rs n).Pairwise fun x y => x.1 < y.1) ∧ ∀ p : Int × Rw, p ∈ lwR rs n ↔ p.1 = p.2.1 ∧ IsLast rs n p.2 := by
  obtain ⟨k, hk⟩ : ∃ k, rs.length = k := ⟨_, rfl⟩
  induction k generalizing rs with
  | zero =>
    rw [List.length_eq_zero_iff.mp hk]
    exact ⟨.nil, fun p => ⟨(fun z => absurd z List.not_mem_nil), (fun z => absurd z.2.1 List.not_mem_nil)⟩⟩
  | succ k ih =>
    rcases List.eq_nil_or_concat rs with rfl | ⟨q, x, e⟩
    · exact ⟨.nil, fun p => ⟨(fun z => absurd z List.not_mem_nil), (fun z => absurd z.2.1 List.not_mem_nil)⟩⟩
    · rw [List.concat_eq_append] at e
      subst e
      rw [List.length_append] at hk
      obtain ⟨h1, _, h3⟩ := List.pairwise_append.mp h
      have hx : ∀ y, y ∈ q → Lt y x := fun y hy => h3 y hy x (List.mem_singleton.mpr rfl)
      obtain ⟨i1, i2⟩ := ih q h1 (by simp at hk; exact hk)
      rw [lwR_snoc]
      by_cases c : x.2.1 ≤ n
      · rw [if_pos c]
        constructor
        · refine putL_keys i1 fun p hp => ?_
          obtain ⟨e1, e2⟩ := (i2 p).mp hp
          rcases hx p.2 e2.1 with l | l <;> omega
        · intro p
          rw [mem_putL]
          constructor
          · rintro (rfl | ⟨h4, h5⟩)
            · refine ⟨rfl, List.mem_append_right _ (List.mem_singleton.mpr rfl), c, fun y hy e4 _ => ?_⟩
              rcases List.mem_append.mp hy with h | h
              · rcases hx y h with l | l
                · have e4' : y.1 = x.1 := e4
                  omega
                · show y.2.1 ≤ x.2.1
                  omega
              · rw [List.mem_singleton.mp h]
                exact Int.le_refl _
            · obtain ⟨e1, e2, e3, e4⟩ := (i2 p).mp h4
              refine ⟨e1, List.mem_append_left _ e2, e3, fun y hy e5 e6 => ?_⟩
              rcases List.mem_append.mp hy with h | h
              · exact e4 y h e5 e6
              · rw [List.mem_singleton.mp h] at e5
                omega
          · rintro ⟨e1, e2, e3, e4⟩
            rcases List.mem_append.mp e2 with h | h
            · by_cases d : p.1 = x.1
              · exfalso
                have := e4 x (List.mem_append_right _ (List.mem_singleton.mpr rfl)) (by omega) c
                rcases hx p.2 h with l | l <;> omega
              · exact .inr ⟨(i2 p).mpr ⟨e1, h, e3, fun y hy => e4 y (List.mem_append_left _ hy)⟩, d⟩
            · left
              have e := List.mem_singleton.mp h
              obtain ⟨p1, p2⟩ := p
              have e' : p2 = x := e
              rw [e'] at e1 ⊢
              exact congrArg (fun z => (z, x)) e1
      · rw [if_neg c]
        refine ⟨i1, fun p => ?_⟩
        rw [i2 p]
        constructor
        · rintro ⟨e1, e2, e3, e4⟩
          refine ⟨e1, List.mem_append_left _ e2, e3, fun y hy e5 e6 => ?_⟩
          rcases List.mem_append.mp hy with h | h
          · exact e4 y h e5 e6
          · rw [List.mem_singleton.mp h] at e6
            exact absurd e6 c
        · rintro ⟨e1, e2, e3, e4⟩
          rcases List.mem_append.mp e2 with h | h
          · exact ⟨e1, h, e3, fun y hy => e4 y (List.mem_append_left _ hy)⟩
          · rw [List.mem_singleton.mp h] at e3
            exact absurd e3 c
/-- there is a last one -/
theorem last_of {rs : List Rw} (h : Srt rs) {n t : Int} {l : Rw} (e : (rs.filter fun q => decide (q.1 = t ∧ q.2.1 ≤ n)).getLast? = some l) : IsLast rs n l ∧ l.1 = t := by
  have ml := List.mem_of_getLast? e
  obtain ⟨m1, m2⟩ := List.mem_filter.mp ml
  obtain ⟨m3, m4⟩ := of_decide_eq_true m2
  refine ⟨⟨m1, m4, fun q hq e1 e2 => ?_⟩, m3⟩
  have mq : q ∈ rs.filter fun q => decide (q.1 = t ∧ q.2.1 ≤ n) := List.mem_filter.mpr ⟨hq, decide_eq_true ⟨by omega, e2⟩⟩
  have hs := h.sub fun q => decide (q.1 = t ∧ q.2.1 ≤ n)
  revert e mq hs
  generalize rs.filter (fun q => decide (q.1 = t ∧ q.2.1 ≤ n)) = fs
  intro e mq hs
  rcases List.eq_nil_or_concat fs with rfl | ⟨g, x, eg⟩
  · cases mq
  · rw [List.concat_eq_append] at eg
    subst eg
    rw [List.getLast?_concat] at e
    cases e
    rcases List.mem_append.mp mq with hg | hg
    · rcases (List.pairwise_append.mp hs).2.2 q hg l (List.mem_singleton.mpr rfl) with z | z <;> omega
    · rw [List.mem_singleton.mp hg]
      exact Int.le_refl _
theorem last_there {rs : List Rw} (h : Srt rs) {n : Int} {r : Rw} (hr : r ∈ rs) (hn : r.2.1 ≤ n) : ∃ l, IsLast rs n l ∧ l.1 = r.1 := by
  cases e : (rs.filter fun q => decide (q.1 = r.1 ∧ q.2.1 ≤ n)).getLast? with
  | some l => exact ⟨l, last_of h e⟩
  | none =>
    rw [List.getLast?_eq_none_iff] at e
    have : r ∈ rs.filter fun q => decide (q.1 = r.1 ∧ q.2.1 ≤ n) := List.mem_filter.mpr ⟨hr, decide_eq_true ⟨rfl, hn⟩⟩
    rw [e] at this
    cases this
/-! ### rising lists are told by their members -/
theorem ext_sorted {α : Type} {lt : α → α → Prop} (irr : ∀ a, ¬ lt a a) (tr : ∀ a b c, lt a b → lt b c → lt a c) : ∀ {xs ys : List α}, xs.Pairwise lt → ys.Pairwise lt → (∀ a, a ∈ xs ↔ a ∈ ys) → xs = ys
  | [], [], _, _, _ => rfl
  | [], y :: ys, _, _, h => nomatch (h y).mpr List.mem_cons_self
  | x :: xs, [], _, _, h => nomatch (h x).mp List.mem_cons_self
  | x :: xs, y :: ys, h1, h2, h => by
    obtain ⟨a1, a2⟩ := List.pairwise_cons.mp h1
    obtain ⟨b1, b2⟩ := List.pairwise_cons.mp h2
    have e : x = y := by
      rcases List.mem_cons.mp ((h x).mp List.mem_cons_self) with z | z
      · exact z
      · rcases List.mem_cons.mp ((h y).mpr List.mem_cons_self) with u | u
        · exact u.symm
        · exact absurd (tr _ _ _ (a1 y u) (b1 x z)) (irr x)
    subst e
    refine congrArg (x :: ·) (ext_sorted irr tr a2 b2 fun a => ?_)
    constructor
    · intro ha
      rcases List.mem_cons.mp ((h a).mp (List.mem_cons_of_mem _ ha)) with z | z
      · rw [z] at ha
        exact absurd (a1 x ha) (irr x)
      · exact z
    · intro ha
      rcases List.mem_cons.mp ((h a).mpr (List.mem_cons_of_mem _ ha)) with z | z
      · rw [z] at ha
        exact absurd (b1 x ha) (irr x)
      · exact z
/-! ### what is known -/
def kn (rs : List Rw) (n : Int) : List (Int × Int) := (lwR rs n).filterMap fun p => p.2.2.2.map fun w => (p.1, w)
theorem mem_kn {rs : List Rw} (h : Srt rs) {n : Int} {x : Int × Int} : x ∈ kn rs n ↔ ∃ r, IsLast rs n r ∧ r.1 = x.1 ∧ r.2.2 = some x.2 := by
  unfold kn
  rw [List.mem_filterMap]
  constructor
  · rintro ⟨p, hp, e⟩
    obtain ⟨e1, e2⟩ := ((lwR_is rs h).2 p).mp hp
    obtain ⟨w, e3, rfl⟩ := Option.map_eq_some_iff.mp e
    exact ⟨p.2, e2, e1.symm, e3⟩
  · rintro ⟨r, h1, h2, h3⟩
    refine ⟨(r.1, r), ((lwR_is rs h).2 _).mpr ⟨rfl, h1⟩, ?_⟩
    rw [h3, h2]
    rfl
theorem kn_srt {rs : List Rw} (h : Srt rs) (n : Int) : (kn rs n).Pairwise fun x y => x.1 < y.1 := by
  unfold kn
  rw [List.pairwise_filterMap]
  refine (lwR_is rs h).1.imp fun {a b} l x hx y hy => ?_
  obtain ⟨w, _, rfl⟩ := Option.map_eq_some_iff.mp hx
  obtain ⟨u, _, rfl⟩ := Option.map_eq_some_iff.mp hy
  exact l
theorem kn_len (rs : List Rw) (n : Int) : (kn rs n).length ≤ rs.length := Nat.le_trans (List.length_filterMap_le _ _) (lwR_len rs n)
theorem kn_ext {rs qs : List Rw} (h1 : Srt rs) (h2 : Srt qs) {n m : Int} (h : ∀ r, r.2.2 ≠ none → (IsLast rs n r ↔ IsLast qs m r)) : kn rs n = kn qs m := by
  refine ext_sorted (lt := fun x y => x.1 < y.1) (fun a => Int.lt_irrefl _) (fun a b c => Int.lt_trans) (kn_srt h1 n) (kn_srt h2 m) fun x => ?_
  rw [mem_kn h1, mem_kn h2]
  constructor
  · rintro ⟨r, a, b, c⟩
    exact ⟨r, (h r (by rw [c]; simp)).mp a, b, c⟩
  · rintro ⟨r, a, b, c⟩
    exact ⟨r, (h r (by rw [c]; simp)).mpr a, b, c⟩
/-! ### what is needed -/
instance (rs : List Rw) (n : Int) (r : Rw) : Decidable (IsLast rs n r) := by
  unfold IsLast
  exact inferInstance
def Need (rs : List Rw) (n : Int) (r : Rw) : Prop := n < r.2.1 ∨ (IsLast rs n r ∧ ¬ r.2.2 = none)
instance (rs : List Rw) (n : Int) (r : Rw) : Decidable (Need rs n r) := by
  unfold Need
  exact inferInstance
def fl (rs : List Rw) (n : Int) (r : Rw) : Bool := decide (Need rs n r)
def thin (rs : List Rw) (n : Int) : List Rw := rs.filter (fl rs n)
def ndl (rs : List Rw) (n : Int) : List Rw := rs.filter fun r => !fl rs n r
theorem thin_known {rs : List Rw} (h : Srt rs) {n m : Int} (le : n ≤ m) : kn (thin rs n) m = kn rs m := by
  refine kn_ext (h.sub _) h fun r hr => ?_
  constructor
  · rintro ⟨a1, a2, a3⟩
    obtain ⟨b1, b2⟩ := List.mem_filter.mp a1
    have b3 : Need rs n r := of_decide_eq_true b2
    refine ⟨b1, a2, fun q hq e1 e2 => ?_⟩
    by_cases c : n < q.2.1
    · exact a3 q (List.mem_filter.mpr ⟨hq, decide_eq_true (.inl c)⟩) e1 e2
    · rcases b3 with z | z
      · omega
      · exact z.1.2.2 q hq e1 (by omega)
  · rintro ⟨a1, a2, a3⟩
    refine ⟨List.mem_filter.mpr ⟨a1, decide_eq_true ?_⟩, a2, fun q hq e1 e2 => a3 q (List.mem_filter.mp hq).1 e1 e2⟩
    by_cases c : n < r.2.1
    · exact .inl c
    · exact .inr ⟨⟨a1, by omega, fun q hq e1 e2 => a3 q hq e1 (by omega)⟩, hr⟩
/-- a row left out is missed -/
theorem missed {rs : List Rw} (h : Srt rs) {n : Int} {row : Rw} (hm : row ∈ thin rs n) (hw : ¬ row.2.2 = none) {b : Int} (eb : b = max n row.2.1)
    (he : (((thin rs n).filter fun q => !decide (q = row)).filter fun q => decide (q.1 = row.1 ∧ q.2.1 ≤ b)).getLast?.map (·.2.2) ≠ some row.2.2) :
    kn ((thin rs n).filter fun q => !decide (q = row)) b ≠ kn (thin rs n) b := fun z => by
  have hl : Srt (thin rs n) := h.sub _
  have hf : Srt ((thin rs n).filter fun q => !decide (q = row)) := hl.sub _
  obtain ⟨w, ew⟩ : ∃ w, row.2.2 = some w := by
    cases e : row.2.2 with
    | none => exact absurd e hw
    | some w => exact ⟨w, rfl⟩
  have last : IsLast (thin rs n) b row := by
    refine ⟨hm, by omega, fun q hq e1 e2 => ?_⟩
    obtain ⟨m1, m2⟩ := List.mem_filter.mp hm
    have nd : Need rs n row := of_decide_eq_true m2
    rcases nd with c | c
    · omega
    · have := c.1.2.1
      exact c.1.2.2 q (List.mem_filter.mp hq).1 e1 (by omega)
  have m1 : (row.1, w) ∈ kn (thin rs n) b := (mem_kn hl).mpr ⟨row, last, rfl, ew⟩
  rw [← z, mem_kn hf] at m1
  obtain ⟨r, r1, r2, r3⟩ := m1
  cases e : (((thin rs n).filter fun q => !decide (q = row)).filter fun q => decide (q.1 = row.1 ∧ q.2.1 ≤ b)).getLast? with
  | none =>
    rw [List.getLast?_eq_none_iff] at e
    have : r ∈ ((thin rs n).filter fun q => !decide (q = row)).filter fun q => decide (q.1 = row.1 ∧ q.2.1 ≤ b) := List.mem_filter.mpr ⟨r1.1, decide_eq_true ⟨r2, r1.2.1⟩⟩
    rw [e] at this
    cases this
  | some l =>
    obtain ⟨l1, l2⟩ := last_of hf e
    have el := last_uniq hf r1 l1 (by rw [l2]; exact r2)
    refine he ?_
    rw [e, ← el, ew]
    exact congrArg some r3
/-! ### the tables as dicts -/
def lwV (f : Rw → V) (rs : List Rw) (n : Int) : List (Key × V) := rs.foldl (fun m r => if r.2.1 ≤ n then putK m (Sum.inl r.1) (f r) else m) []
theorem lwV_snoc (f : Rw → V) (rs : List Rw) (n : Int) (r : Rw) : lwV f (rs ++ [r]) n = if r.2.1 ≤ n then putK (lwV f rs n) (Sum.inl r.1) (f r) else lwV f rs n := by
  unfold lwV
  rw [List.foldl_append]
  rfl
theorem putK_map (f : Rw → V) (m : List (Int × Rw)) (t : Int) (r : Rw) : putK (m.map fun p => ((Sum.inl p.1 : Key), f p.2)) (Sum.inl t) (f r) = (putL m t r).map fun p => ((Sum.inl p.1 : Key), f p.2) := by
  unfold putK putL
  have e : ((m.map fun p => ((Sum.inl p.1 : Key), f p.2)).any fun kv => decide (kv.1 = Sum.inl t)) = m.any fun p => decide (p.1 = t) := by
    rw [List.any_map]
    refine List.any_congr rfl fun p => ?_
    simp only [Function.comp_apply, Sum.inl.injEq]
  rw [e]
  by_cases c : (m.any fun p => decide (p.1 = t)) = true
  · rw [if_pos c, if_pos c, List.map_map, List.map_map]
    refine List.map_congr_left fun p _ => ?_
    simp only [Function.comp_apply]
    by_cases d : p.1 = t
    · rw [if_pos (congrArg Sum.inl d), if_pos d]
    · rw [if_neg (fun z => d (Sum.inl.inj z)), if_neg d]
  · rw [if_neg c, if_neg c, List.map_append]
    rfl
theorem lwV_eq (f : Rw → V) (rs : List Rw) (n : Int) : lwV f rs n = (lwR rs n).map fun p => ((Sum.inl p.1 : Key), f p.2) := by
  obtain ⟨k, hk⟩ : ∃ k, rs.length = k := ⟨_, rfl⟩
  induction k generalizing rs with
  | zero =>
    rw [List.length_eq_zero_iff.mp hk]
    rfl
  | succ k ih =>
    rcases List.eq_nil_or_concat rs with rfl | ⟨q, x, e⟩
    · rfl
    · rw [List.concat_eq_append] at e
      subst e
      rw [List.length_append] at hk
      have i1 := ih q (by simp at hk; exact hk)
      rw [lwV_snoc, lwR_snoc, i1]
      by_cases c : x.2.1 ≤ n
      · rw [if_pos c, if_pos c, putK_map]
      · rw [if_neg c, if_neg c]
theorem lwV_len (f : Rw → V) (rs : List Rw) (n : Int) : (lwV f rs n).length ≤ rs.length := by
  rw [lwV_eq, List.length_map]
  exact lwR_len rs n
theorem valV_of {f : Rw → V} : ∀ {m : List (Int × Rw)} {p : Int × Rw}, (m.Pairwise fun x y => x.1 < y.1) → p ∈ m → valV (m.map fun p => ((Sum.inl p.1 : Key), f p.2)) (Sum.inl p.1) = some (f p.2)
  | [], p, _, h => nomatch h
  | q :: m, p, .cons h1 h2, there => by
    rcases List.mem_cons.mp there with rfl | h
    · exact valV_pos rfl
    · rw [List.map_cons, valV_neg (fun z => by
        have := h1 p h
        have : q.1 = p.1 := Sum.inl.inj z
        omega)]
      exact valV_of h2 h
theorem lwV_last {f : Rw → V} {rs : List Rw} (h : Srt rs) {n : Int} {r : Rw} (hl : IsLast rs n r) : valV (lwV f rs n) (Sum.inl r.1 : Key) = some (f r) := by
  rw [lwV_eq]
  exact valV_of (p := (r.1, r)) (lwR_is rs h).1 (((lwR_is rs h).2 _).mpr ⟨rfl, hl⟩)
/-- the values of a list of unlike rows, as a function -/
theorem val_fun : ∀ (rs : List Rw) (xs : List V), rs.Nodup → ∃ f : Rw → V, ∀ (i : Nat) (r : Rw) (v : V), rs[i]? = some r → xs[i]? = some v → f r = v
  | [], xs, _ => ⟨fun _ => .non, fun i r v h => by simp at h⟩
  | r0 :: rs, [], _ => ⟨fun _ => .non, fun i r v _ h => by simp at h⟩
  | r0 :: rs, x :: xs, nd => by
    have n1 := (List.nodup_cons.mp nd).1
    obtain ⟨f, hf⟩ := val_fun rs xs (List.nodup_cons.mp nd).2
    refine ⟨fun r => if r = r0 then x else f r, fun i r v h1 h2 => ?_⟩
    cases i with
    | zero =>
      simp only [List.getElem?_cons_zero, Option.some.injEq] at h1 h2
      show (if r = r0 then x else f r) = v
      rw [if_pos h1.symm, h2]
    | succ i =>
      rw [List.getElem?_cons_succ] at h1 h2
      have ne : ¬ r = r0 := fun z => n1 (z ▸ List.mem_of_getElem? h1)
      show (if r = r0 then x else f r) = v
      rw [if_neg ne]
      exact hf i r v h1 h2
end Tg

namespace Tg
open PySem PySem.Spec PyProof.Rows L2
/-! ### rows and points as data -/
def dw : Option Int → PyData
  | none => .none
  | some i => .int i
def vw : Option Int → V
  | none => .non
  | some i => .int i
theorem dp_vw {K : PySem.W.Frag} {H : Hp} : ∀ o : Option Int, Dp K H (vw o) (dw o)
  | none => .non
  | some i => .int i
theorem dp_dw {K : PySem.W.Frag} {H : Hp} {v : V} : ∀ {o : Option Int}, Dp K H v (dw o) → v = vw o
  | none, h => by
    cases h
    rfl
  | some i, h => by
    cases h
    rfl
theorem vw_non (o : Option Int) : decide (vw o = .non) = o.isNone := by
  cases o with
  | none => rfl
  | some i => rfl
theorem td_dw : ∀ o : Option Int, TD (dw o)
  | none => .non
  | some i => .int i
theorem eq_dw (a b : Option Int) : PyData.eqv (dw a) (dw b) = decide (a = b) := by
  cases a with
  | none =>
    cases b with
    | none => rfl
    | some j => rfl
  | some i =>
    cases b with
    | none => rfl
    | some j =>
      show (i == j) = _
      by_cases c : i = j
      · rw [c, beq_self_eq_true, decide_eq_true rfl]
      · rw [beq_eq_false_iff_ne.mpr c, decide_eq_false fun z => c (Option.some.inj z)]
def rd (r : Rw) : PyData := .tuple [.int r.1, .int r.2.1, dw r.2.2]
def pd (x : Int × Int) : PyData := .tuple [.int x.1, .int x.2]
theorem td_rd (r : Rw) : TD (rd r) := .tup fun d hd => by
  simp only [List.mem_cons, List.not_mem_nil, or_false] at hd
  rcases hd with rfl | rfl | rfl
  · exact .int _
  · exact .int _
  · exact td_dw _
theorem td_rds (rs : List Rw) : ∀ d, d ∈ rs.map rd → TD d := fun d hd => by
  obtain ⟨x, _, rfl⟩ := List.mem_map.mp hd
  exact td_rd x
theorem td_pd (x : Int × Int) : TD (pd x) := .tup fun d hd => by
  simp only [List.mem_cons, List.not_mem_nil, or_false] at hd
  rcases hd with rfl | rfl
  · exact .int _
  · exact .int _
theorem td_pds (ps : List (Int × Int)) : ∀ d, d ∈ ps.map pd → TD d := fun d hd => by
  obtain ⟨x, _, rfl⟩ := List.mem_map.mp hd
  exact td_pd x
theorem dp_rd {K : PySem.W.Frag} {H : Hp} {v : V} {r : Rw} (h : Dp K H v (rd r)) : ∃ a, v = .ref a ∧ SqT K H a [.int r.1, .int r.2.1, vw r.2.2] := by
  cases h with
  | tup a b =>
    cases b with
    | cons h1 b =>
      cases b with
      | cons h2 b =>
        cases b with
        | cons h3 b =>
          cases b
          cases h1
          cases h2
          rw [dp_dw h3] at a
          exact ⟨_, rfl, a⟩
theorem rd_new {K : PySem.W.Frag} {H : Hp} {a : Addr} {r : Rw} (h : SqT K H a [.int r.1, .int r.2.1, vw r.2.2]) : Dp K H (.ref a) (rd r) := .tup h (.cons (.int _) (.cons (.int _) (.cons (dp_vw _) .nil)))
theorem pd_new {K : PySem.W.Frag} {H : Hp} {a : Addr} {x : Int × Int} (h : H a = some (.tup [.int x.1, .int x.2])) : Dp K H (.ref a) (pd x) := .tup (SqT.of h) (.cons (.int _) (.cons (.int _) .nil))
theorem lay_dw : ∀ o : Option Int, (dw o).canLay0 = true
  | none => rfl
  | some i => rfl
theorem dep_dw : ∀ o : Option Int, (dw o).depth = 0
  | none => rfl
  | some i => rfl
theorem lay_rd (r : Rw) : (rd r).canLay0 = true := by
  show (true && (true && ((dw r.2.2).canLay0 && true))) = true
  rw [lay_dw]
  rfl
theorem dep_rd (r : Rw) : (rd r).depth = 1 := by
  show max 0 (max 0 (max (dw r.2.2).depth 0)) + 1 = 1
  rw [dep_dw]
  rfl
theorem eq_rd (a b : Rw) : PyData.eqv (rd a) (rd b) = decide (a = b) := by
  show ((a.1 == b.1) && ((a.2.1 == b.2.1) && (PyData.eqv (dw a.2.2) (dw b.2.2) && true))) = _
  rw [eq_dw]
  by_cases c : a = b
  · subst c
    rw [beq_self_eq_true, beq_self_eq_true, decide_eq_true rfl, decide_eq_true rfl]
    rfl
  · rw [decide_eq_false c]
    by_cases c1 : a.1 = b.1
    · by_cases c2 : a.2.1 = b.2.1
      · by_cases c3 : a.2.2 = b.2.2
        · exact absurd (Prod.ext c1 (Prod.ext c2 c3)) c
        · rw [decide_eq_false c3]
          simp
      · rw [beq_eq_false_iff_ne.mpr c2]
        simp
    · rw [beq_eq_false_iff_ne.mpr c1]
      rfl
/-- lists of things of such a form -/
theorem form_all {α : Type} {f : α → PyData} (h1 : ∀ x, (f x).canLay0 = true) (h2 : ∀ x, (f x).depth ≤ 1) (h3 : ∀ x, PyData.eqv (f x) (f x) = true) (xs : List α) :
    PyData.canLayAll0 (xs.map f) = true ∧ PyData.depthAll (xs.map f) ≤ 1 ∧ PyData.eqvAll (xs.map f) (xs.map f) = true := by
  induction xs with
  | nil => exact ⟨rfl, Nat.zero_le _, rfl⟩
  | cons x r ih =>
    obtain ⟨i1, i2, i3⟩ := ih
    refine ⟨?_, ?_, ?_⟩
    · show ((f x).canLay0 && PyData.canLayAll0 (r.map f)) = true
      rw [h1, i1]
      rfl
    · show max (f x).depth (PyData.depthAll (r.map f)) ≤ 1
      have := h2 x
      omega
    · show (PyData.eqv (f x) (f x) && PyData.eqvAll (r.map f) (r.map f)) = true
      rw [h3, i3]
      rfl
theorem form_list {α : Type} {f : α → PyData} (h1 : ∀ x, (f x).canLay0 = true) (h2 : ∀ x, (f x).depth ≤ 1) (h3 : ∀ x, PyData.eqv (f x) (f x) = true) (xs : List α) : SeqAt.shaped (.list (xs.map f)) = true ∧ PyData.eqv (.list (xs.map f)) (.list (xs.map f)) = true := by
  obtain ⟨a, b, c⟩ := form_all h1 h2 h3 xs
  refine ⟨shaped_of a ?_, c⟩
  show PyData.depthAll (xs.map f) + 1 ≤ 64
  omega
theorem ref_rd (r : Rw) : PyData.eqv (rd r) (rd r) = true := by
  rw [eq_rd]
  exact decide_eq_true rfl
theorem rds_form (rs : List Rw) : SeqAt.shaped (.list (rs.map rd)) = true ∧ PyData.eqv (.list (rs.map rd)) (.list (rs.map rd)) = true := form_list lay_rd (fun r => Nat.le_of_eq (dep_rd r)) ref_rd rs
theorem ref_pd (x : Int × Int) : PyData.eqv (pd x) (pd x) = true := by
  show ((x.1 == x.1) && ((x.2 == x.2) && true)) = true
  rw [beq_self_eq_true, beq_self_eq_true]
  rfl
theorem pds_form (ps : List (Int × Int)) : SeqAt.shaped (.list (ps.map pd)) = true ∧ PyData.eqv (.list (ps.map pd)) (.list (ps.map pd)) = true := form_list (f := pd) (fun _ => rfl) (fun _ => Nat.le_refl 1) ref_pd ps
theorem sh_rd (r : Rw) : SeqAt.shaped (rd r) = true := shaped_of (lay_rd r) (by rw [dep_rd]; decide)
theorem dl_at {α : Type} {f : α → PyData} {K : PySem.W.Frag} {H : Hp} {xs : List V} {ps : List α} (h : DpAll K H xs (ps.map f)) {i : Nat} {v : V} (e : xs[i]? = some v) : ∃ x, ps[i]? = some x ∧ Dp K H v (f x) := by
  obtain ⟨d, h1, h2⟩ := dpAll_at h i v e
  rw [List.getElem?_map] at h1
  obtain ⟨x, h3, rfl⟩ := Option.map_eq_some_iff.mp h1
  exact ⟨x, h3, h2⟩
theorem dl_get {α : Type} {f : α → PyData} {K : PySem.W.Frag} {H : Hp} {xs : List V} {ps : List α} (h : DpAll K H xs (ps.map f)) {i : Nat} {x : α} (e : ps[i]? = some x) : ∃ v, xs[i]? = some v ∧ Dp K H v (f x) := dpAll_tk h i (f x) (by rw [List.getElem?_map, e]; rfl)
theorem dl_len {α : Type} {f : α → PyData} {K : PySem.W.Frag} {H : Hp} {xs : List V} {ps : List α} (h : DpAll K H xs (ps.map f)) : xs.length = ps.length := by
  have := dpAll_len h
  rw [List.length_map] at this
  exact this
theorem nodup_len {α : Type} [DecidableEq α] : ∀ {rs L : List α}, rs.Nodup → (∀ r, r ∈ rs → r ∈ L) → rs.length ≤ L.length
  | [], L, _, _ => Nat.zero_le _
  | r :: rs, L, nd, h => by
    have n1 := (List.nodup_cons.mp nd).1
    have n2 := (List.nodup_cons.mp nd).2
    have hr : r ∈ L := h r List.mem_cons_self
    have i := nodup_len (rs := rs) (L := L.erase r) n2 fun q hq => (List.mem_erase_of_ne (fun z : q = r => n1 (by rw [← z]; exact hq))).mpr (h q (List.mem_cons_of_mem _ hq))
    rw [List.length_erase_of_mem hr] at i
    have := List.length_pos_of_mem hr
    show rs.length + 1 ≤ L.length
    omega
theorem take_snoc {α : Type} {L : List α} {i : Nat} {x : α} (h : L[i]? = some x) : L.take (i + 1) = L.take i ++ [x] := by
  rw [List.take_add_one, h]
  rfl
end Tg

namespace Tg
open PySem PySem.Spec PyProof.Rows L2
/-! ### a new thing that is only read from now on -/
section
variable {X : Cx} {e : Expr} {t : TE}
def tFrz (t : TE) : TE := fun σ H Q => t σ H fun x H1 => ∃ d u, x = .ref d ∧ H1 d = some u ∧ Mut (some u) ∧ ∀ od, Q x (upd H1 d (.frz od u))
theorem pe_frz (h : PE X e t) : PE X e (tFrz t) := by
  constructor
  intro pins s σ H Q I read
  refine thn (h.run pins s σ H _ I read) fun v s1 y => ?_
  obtain ⟨x, H1, J, r, d, u, ex, hd, mu, q⟩ := y
  obtain ⟨od, J2⟩ := J.lock hd mu
  exact ⟨x, _, J2, r, q od⟩
/-- a statement that is never reached -/
theorem ps_dead {st : Stmt} : PS X st (fun _ _ _ => False) := ⟨fun _ _ _ _ _ _ h => h.elim⟩
end
end Tg

set_option maxHeartbeats 2000000
namespace Tg
open PySem PySem.Spec PyProof.Rows L2
/-! ### a caught exception that is kept in a name: try: .. except T as e: kept = e -/
/-- the exception of the class cls, its dict at d, at a -/
def ExV (cls : Value) (d : Option Addr) (a : Addr) : HO := .ext fun h => ∃ (oe : Obj) (vs : Array Value), h.get? a = some oe ∧ Zc cls d oe ∧ oe.data = .fields vs
theorem exV_ok {P : Program} {w : World} {H : Hp} {h : Heap} {a : Addr} {cls : Value} {d : Option Addr} {oe : Obj} {vs : Array Value} (e : h.get? a = some oe) (z : Zc cls d oe) (q : oe.data = .fields vs) : ObjOk P w H h a (ExV cls d a) := by
  refine ⟨⟨oe, vs, e, z, q⟩, ⟨oe, e⟩, fun h1 h2 y st => ?_⟩
  obtain ⟨o1, v1, e1, z1, q1⟩ := y
  exact ⟨o1, v1, st _ e1, z1, q1⟩
section
variable {X : Cx} {s : Shared} {H : Hp} {σ : L2.St} {pins : List (Addr × Obj)}
theorem track {a : Addr} {oe : Obj} {vs : Array Value} {o : HO} (I : Inv X pins σ H s) (h0 : X.s_0.heap.get? a = none) (he : s.heap.get? a = some oe) (hd : oe.data = .fields vs) (na : H a = none)
    (nL : a ≠ X.env.locals) (np : ∀ p, p ∈ X.pn ++ pins → p.1 ≠ a) (new : ObjOk X.prog X.w (upd H a o) s.heap a o) : Inv X pins σ (upd H a o) s where
  ok := I.ok
  os := I.os
  bare := I.bare
  base := {
    keep := I.base.keep
    slot := I.base.slot
    free := fun b u q n x => by
      rw [upd_ne (fun z => by rw [z, h0] at q; cases q)]
      exact I.base.free b u q n x
    there := I.base.there
    tups := fun b xs q => by
      have y := I.base.tups b xs q
      rw [upd_ne (ne_of_none y na)]
      exact y
    frzs := fun b u xs q => by
      have y := I.base.frzs b u xs q
      rw [upd_ne (ne_of_none y na)]
      exact y
    tbls := fun b ps q => by
      obtain ⟨m, y⟩ := I.base.tbls b ps q
      refine ⟨m, ?_⟩
      rw [upd_ne (ne_of_none y na)]
      exact y }
  loc := I.loc
  cell := I.cell
  free := by
    rw [upd_ne nL.symm]
    exact I.free
  freeC := fun x c e => by
    have nc : c ≠ a := fun z => by
      obtain ⟨v, y⟩ := I.cell x c e
      obtain ⟨oc, y1, y2⟩ := y
      rw [z, he] at y1
      cases y1
      rw [hd] at y2
      cases y2
    rw [upd_ne nc]
    exact I.freeC x c e
  pin := fun p hp => by
    obtain ⟨y1, y2, y3⟩ := I.pin p hp
    refine ⟨y1, ?_, y3⟩
    rw [upd_ne (np p hp)]
    exact y2
  hok := I.hok.laidN (fun _ _ z => z) na new
  len := I.len
/-- what is wanted of an exception of the body: its class is one that the clause takes; it is kept in slot j -/
def wKeep (Mt : Value → Prop) (i j : Nat) (D : Ends) : WX := fun cls d σ H => Mt cls ∧ ∀ a, H a = none → D.nx (((σ.set i (some (.ref a))).set j (some (.ref a))).set i none) (upd H a (ExV cls d a))
/-- the clause's test: its value takes each exception of such a class -/
def Tests (X : Cx) (test : Expr) (Mt : Value → Prop) : Prop := ∀ (a : Addr) (oe : Obj) (pn : List (Addr × Obj)) (s : Shared) (σ : L2.St) (H : Hp) (Q : Value → Shared → Prop) (E : Value → Shared → Prop),
  Inv (X.suite a ((a, oe) :: pn)) [] σ H s → s.heap.get? a = some oe → Mt oe.cls →
  (∀ (c : Value) (s' : Shared), (∀ b o, s.heap.get? b = some o → s'.heap.get? b = some o) → s'.os = s.os → s'.gens = s.gens → PySem.W.Looks (model X.prog X.w) s'.heap (excMatches (.ref a) c) true → Q c s') →
    wpAny (model X.prog X.w) (X.A.mark (some (.ref a))) (eval test X.env) Q E s
theorem flying_keeps {B : Heap} {l : List Env} {a : Addr} {Z : Obj → Prop} {h h' : Heap} (k : ∀ b o, h.get? b = some o → h'.get? b = some o) (f : HandSPX.FlyingZ B l a Z h) : HandSPX.FlyingZ B l a Z h' := by
  obtain ⟨f1, f2, f3, oe, vs, T, oT, ts, y1, y2, y3, y4, y5, y6, y7, y8, y9⟩ := f
  exact ⟨fun b o e => k _ _ (f1 b o e), f2, Heap.FunFrames.of_keeps (fun b o e _ => ⟨o, k _ _ e, rfl⟩) f3, oe, vs, T, oT, ts, k _ _ y1, y2, y3, y4, y5, y6, k _ _ y7, y8, y9⟩
variable {n y : Str} {i j : Nat} {body : List Stmt} {test : Expr} {py pn' ps' pos pos' : Pos} {tb : WX → TS} {Mt : Value → Prop}
/-- a try's body, whatever is wished of the exceptions that leave it -/
def Bodies (X : Cx) (body : List Stmt) (tb : WX → TS) : Prop := ∀ W pn xe, Takes (X.tr pn xe) W → PassesOwn (model X.prog X.w) X.A X.env xe → PSs (X.tr pn xe) body (tb W)
/-- the same state, one thing more (or less) pinned -/
theorem repin {Y Z : Cx} {p q : List (Addr × Obj)} (I : Inv Y p σ H s) (ok : Z.Ok) (e : Z = { Y with A := Z.A, calm := Z.calm, pn := Z.pn, xe := Z.xe }) (sub : ∀ r, r ∈ Z.pn ++ q → r ∈ Y.pn ++ p) : Inv Z q σ H s := by
  obtain ⟨_, f2, f3, f4, f5, f6, f7, f8, f9, f10, f11⟩ := I
  rw [e] at ok sub ⊢
  exact ⟨ok, f2, f3, f4, f5, f6, f7, f8, fun r hr => f9 r (sub r hr), f10, f11⟩
theorem ps_try_keep (top : X.stack = X.env :: X.outer) (own : X.env.frame = some X.env.locals) (noex : X.ex = []) (nd : X.N.Nodup) (at_i : X.N[i]? = some n) (at_j : X.N[j]? = some y) (loc_n : X.env.scope.names.lookup n = some .local)
    (loc_y : X.env.scope.names.lookup y = some .local) (takes : Tests X test Mt) (bodies : Bodies X body tb) (nodebug : (n == ("__debug__" : Str)) = false := by decide) (noclass : (n == ("__classdict__" : Str)) = false := by decide) :
    PS X (.Try body [.ExceptHandler (some test) (some n) [.Assign [.Name y py] (.Name n pn') ps'] pos'] [] [] pos) (fun D σ H => tb (wKeep Mt i j D) D σ H) := by
  constructor
  intro pins s σ H D I read
  have frames := I.ok.frames.trans (congrArg some top)
  refine wpAny_Try_except (wpAny_mono ((bodies (wKeep Mt i j D) (X.pn ++ pins) _ (fun u s' air => ?_) PassesOwn.looking).run [] s σ H D (I.toTry _) read) (fun f s1 z => ?_) (fun _ _ z => z))
  · obtain ⟨a, B, s0, _, σ0, H0, cls, d, rfl, J0, ground, up, sky, na, os, gens, takes_it, wish⟩ := air
    have J : Inv X pins σ0 H0 s0 := J0.ofTry I.ok
    rw [show (X.tr (X.pn ++ pins) _).stack = X.env :: X.outer from top] at sky ground
    refine Sky.land Zc.steady frames own sky fun h3 fly3 up3 => ?_
    have J3 := J.landed (s' := { s' with heap := h3 }) (B := B) (by rw [top]; exact ground) fly3.1 (up.trans up3) os gens
    obtain ⟨o3, v3, get3, kind3, data3⟩ := fly3.there
    -- it is none of the frames, and it wasn't there ahead of the try
    have noframe : a ∉ frs (X.env :: X.outer) := fun m => by
      obtain ⟨_, _, e, nofields⟩ := fly3.2.2.1.mem m
      cases get3.symm.trans e
      exact nofields _ data3
    have noloc : a ≠ X.env.locals := fun z => noframe (by
      rw [z]
      exact List.mem_filterMap.mpr ⟨X.env, List.mem_cons_self, own⟩)
    have noouter : a ∉ X.fs := fun m => noframe (by
      obtain ⟨env, h1, h2⟩ := List.mem_filterMap.mp m
      exact List.mem_filterMap.mpr ⟨env, .tail _ h1, h2⟩)
    have new0 : s0.heap.get? a = none := by
      rcases q : s0.heap.get? a with _ | o
      · rfl
      · exact nomatch (ground a o q noframe).symm.trans fly3.2.1
    have new : X.s_0.heap.get? a = none := by
      rcases q : X.s_0.heap.get? a with _ | o
      · rfl
      · exact (J.base.there a o q (by rw [noex]; exact List.not_mem_nil)).elim fun _ z => nomatch z.symm.trans new0
    have nopin : ∀ p, p ∈ X.pn ++ pins → p.1 ≠ a := fun p m z => by
      have there := (J.pin p m).1
      rw [z, new0] at there
      cases there
    refine wpAny_handleBy_cons (codeAny_handlers_test (takes a o3 _ _ σ0 H0 _ _ (J3.suite get3 data3 na noloc noouter) get3 (by rw [kind3.1]; exact takes_it) fun c s4 kp4 os4 gens4 match4 => match4.here ?_)) (fun z => nomatch z)
    refine codeAny_handlers_suite_as (HandSPX.lands_againZ (flying_keeps kp4 fly3) fun h5 fly5 up5 => ?_)
    have up4 : h3.UpToSlots s4.heap := fun b o z _ => ⟨o.slots, kp4 _ _ z⟩
    have J5 := J.landed (s' := { s4 with heap := h5 }) (B := B) (by rw [top]; exact ground) fly5.1 (((up.trans up3).trans up4).trans up5) (os4.trans os) (by rw [show ({ s4 with heap := h5 } : Shared).gens = s4.gens from rfl, gens4]; exact gens)
    obtain ⟨o5, v5, get5, kind5, data5⟩ := fly5.there
    refine store_ok (X := X.suite a ((a, o5) :: (X.pn ++ pins))) (v := .ref a) (J5.suite get5 data5 na noloc noouter) nd at_i (.inl loc_n) rfl (fun s6 J6 => ?_) (.inr loc_n)
    -- kept = e
    have keep : PSs (X.suite a ((a, o5) :: (X.pn ++ pins))) [.Assign [.Name y py] (.Name n pn') ps'] (tAsg (tVar i) (gName j)) := pss_one (ps_set nd at_j (.inl loc_y) (pe_var at_i (.inl loc_n) nodebug noclass) (by rfl) (.inr loc_y))
    have short : i < σ0.length := by
      rw [J.len]
      exact (List.getElem?_eq_some_iff.mp at_i).1
    refine wpAny_mono (keep.run [] s6 _ H0 { nx := fun σ7 H7 => σ7 = (σ0.set i (some (.ref a))).set j (some (.ref a)) ∧ H0 = H7, rt := fun _ _ => False, bk := fun _ _ => False, ct := fun _ _ => False } J6 ⟨.ref a, by rw [List.getElem?_set_self short], rfl, rfl⟩) (fun f s7 z => ?_) (fun _ _ z => z.elim)
    match f, z with
    | .next, ⟨_, _, J7, e7, eH⟩ =>
      subst e7
      subst eH
      refine gone_ok (repin (q := (a, o5) :: pins) J7 I.ok rfl fun r m => ?_) nd at_i loc_n fun s8 J8 => ?_
      · refine List.mem_append_left _ ?_
        rcases List.mem_append.mp m with m | m
        · exact .tail _ (List.mem_append_left _ m)
        · cases m with
          | head => exact .head _
          | tail _ m => exact .tail _ (List.mem_append_right _ m)
      · have get8 := (J8.pin (a, o5) (List.mem_append_right _ (.head _))).1
        have J9 : Inv X pins (((σ0.set i (some (.ref a))).set j (some (.ref a))).set i none) H0 s8 := repin J8 I.ok rfl fun r m => by
          rcases List.mem_append.mp m with m | m
          · exact List.mem_append_left _ m
          · exact List.mem_append_right _ (.tail _ m)
        exact ⟨_, _, track J9 new get8 data5 na noloc nopin (exV_ok get8 kind5 data5), wish a na⟩
    | .brk, ⟨_, _, _, z⟩ => exact z.elim
    | .cont, ⟨_, _, _, z⟩ => exact z.elim
    | .ret _, ⟨_, _, _, _, _, z⟩ => exact z.elim
  · match f, z with
    | .next, ⟨σ1, H1, J1, z⟩ => exact wpAny_execs_nil ⟨σ1, H1, J1.ofTry I.ok, z⟩
    | .brk, ⟨σ1, H1, J1, z⟩ => exact ⟨σ1, H1, J1.ofTry I.ok, z⟩
    | .cont, ⟨σ1, H1, J1, z⟩ => exact ⟨σ1, H1, J1.ofTry I.ok, z⟩
    | .ret _, ⟨v, σ1, H1, J1, rel, z⟩ => exact ⟨v, σ1, H1, J1.ofTry I.ok, rel, z⟩
end
end Tg

set_option maxHeartbeats 2000000
namespace Tg
open PySem PySem.Spec PyProof.Rows L2
section
variable {X : Cx} {x1 x2 x3 x4 : Str} {c1 c2 c3 c4 : Value} {p1 p2 p3 p4 pos : Pos}
theorem tests_one (hc : Names X x1 c1) : Tests X (.Name x1 p1) (fun cls => PySem.W.exmOne X.K cls c1 = some true) := by
  intro a oe pn s σ H Q E I he mt h
  have LT : PySem.W.Looks (model X.prog X.w) s.heap (typeOf (.ref a)) oe.cls := fun A Q E s k q => wpAny_typeOf_ref (k _ _ he) q
  have LM := PySem.W.exm_one (M := model X.prog X.w) I.kIn LT mt
  have told := h c1 s (fun _ _ z => z) rfl rfl LM
  rcases hc with ⟨gl, nodebug, own | ⟨none_, boot, noname⟩⟩
  · exact ld_glob (X := X.suite a ((a, oe) :: pn)) I gl own told nodebug
  · exact ld_blt (X := X.suite a ((a, oe) :: pn)) I gl none_ boot told noname nodebug
/-- own classes named one after the other -/
structure Glb (X : Cx) (x : Str) (c : Value) : Prop where
  gl : Gl X x
  mg : X.mg x = some c
  db : (x == ("__debug__" : Str)) = false := by decide
theorem glb_args {a : Addr} {oe : Obj} {pn : List (Addr × Obj)} {s : Shared} {σ : L2.St} {H : Hp} {E : Value → Shared → Prop} {pos : Pos} (I : Inv (X.suite a ((a, oe) :: pn)) [] σ H s) :
    ∀ {xs : List (Str × Pos)} {cs : List Value} {Q : List Value → Shared → Prop}, Paired (fun x c => Glb X x.1 c) xs cs → Q cs s →
      wpAny (model X.prog X.w) (X.A.mark (some (.ref a))) (spliced (backTo pos (starEach (xs.map fun x => .Name x.1 x.2) X.env))) Q E s
  | _, _, Q, .nil, q => args_nil q
  | (x, p) :: xs, c :: cs, Q, .cons g r, q => by
    refine args_cons (ld_glob (X := X.suite a ((a, oe) :: pn)) I g.gl g.mg (glb_args I r q) g.db) rfl
theorem tests_tup {xs : List (Str × Pos)} {cs : List Value} {kt : Nat} (hp : Paired (fun x c => Glb X x.1 c) xs cs) (hl : cs.length ≤ sizeLine)
    (hm : ∀ {h : Heap} {a tp : Addr} {cls : Value}, X.K.In h → PySem.W.Looks (model X.prog X.w) h (typeOf (.ref a)) cls → h.get? tp = some { cls := .type "tuple", data := .seq cs.toArray } → PySem.W.exmAny X.K cls cs = some true → PySem.W.Looks (model X.prog X.w) h (excMatches (.ref a) (.ref tp)) true) :
    Tests X (.Tuple (xs.map fun x => .Name x.1 x.2) kt pos) (fun cls => PySem.W.exmAny X.K cls cs = some true) := by
  intro a oe pn s σ H Q E I he mt h
  refine wpAny_Tuple_spliced (glb_args I hp ⟨hl, ?_⟩)
  have kk : ∀ b o, s.heap.get? b = some o → (s.heap.push { cls := .type "tuple", data := .seq cs.toArray }).get? b = some o := fun b o e => Heap.get?_push_of_some _ e
  have LT : PySem.W.Looks (model X.prog X.w) (s.heap.push { cls := .type "tuple", data := .seq cs.toArray }) (typeOf (.ref a)) oe.cls := fun A Q E s k q => wpAny_typeOf_ref (k _ _ (kk _ _ he)) q
  exact h _ _ kk rfl rfl (hm (I.kIn.keeps kk) LT (Heap.get?_push_size _ rfl) mt)
theorem tests_2 {kt : Nat} (h1 : Glb X x1 c1) (h2 : Glb X x2 c2) : Tests X (.Tuple [.Name x1 p1, .Name x2 p2] kt pos) (fun cls => PySem.W.exmAny X.K cls [c1, c2] = some true) :=
  tests_tup (xs := [(x1, p1), (x2, p2)]) (.cons h1 (.cons h2 .nil)) (by show 2 ≤ sizeLine; decide) fun X LT hp mt => PySem.W.exm_tup2 X LT hp mt
theorem tests_3 {kt : Nat} (h1 : Glb X x1 c1) (h2 : Glb X x2 c2) (h3 : Glb X x3 c3) : Tests X (.Tuple [.Name x1 p1, .Name x2 p2, .Name x3 p3] kt pos) (fun cls => PySem.W.exmAny X.K cls [c1, c2, c3] = some true) :=
  tests_tup (xs := [(x1, p1), (x2, p2), (x3, p3)]) (.cons h1 (.cons h2 (.cons h3 .nil))) (by show 3 ≤ sizeLine; decide) fun X LT hp mt => PySem.W.exm_tup3 X LT hp mt
theorem tests_4 {kt : Nat} (h1 : Glb X x1 c1) (h2 : Glb X x2 c2) (h3 : Glb X x3 c3) (h4 : Glb X x4 c4) : Tests X (.Tuple [.Name x1 p1, .Name x2 p2, .Name x3 p3, .Name x4 p4] kt pos) (fun cls => PySem.W.exmAny X.K cls [c1, c2, c3, c4] = some true) :=
  tests_tup (xs := [(x1, p1), (x2, p2), (x3, p3), (x4, p4)]) (.cons h1 (.cons h2 (.cons h3 (.cons h4 .nil)))) (by show 4 ≤ sizeLine; decide) fun X LT hp mt => PySem.W.exm_tup4 X LT hp mt
end
/-! ### what is asked of it later: a field, isinstance -/
section
variable {X : Cx} {e : Expr} {te : TE} {pos : Pos} {n : Str}
/-- kept.f -/
def tExf (K : PySem.W.Frag) (f : Str) (te : TE) : TE := fun σ H Q => te σ H fun x H1 => ∃ (a C dd : Addr) (fs : List (Str × V)) (v : V), x = .ref a ∧ H1 a = some (ExV (.ref C) (some dd) a) ∧ XfC K C ∧ PySem.W.findIn K (.ref C) f = some none ∧ H1 dd = some (.xd fs) ∧ fs.lookup f = some v ∧ Q v H1
theorem exV_inst {a C dd : Addr} {fs : List (Str × V)} {pins : List (Addr × Obj)} {σ : L2.St} {H : Hp} {s : Shared} (I : Inv X pins σ H s) (ea : H a = some (ExV (.ref C) (some dd) a)) (ed : H dd = some (.xd fs)) :
    ∃ (oe od : Obj) (m : Str → Option Value), PySem.W.InstAt s.heap a oe C (some od) ∧ (∀ f, RelO (fs.lookup f) (m f)) ∧ ∀ x, PySem.W.lookIn x od = some (m x) := by
  obtain ⟨⟨oe, vs, he, hz, hd⟩, _, _⟩ := (show ObjOk X.prog X.w H s.heap a (ExV (.ref C) (some dd) a) from I.hok a _ ea)
  obtain ⟨m, ns, rel⟩ := (show ObjOk X.prog X.w H s.heap dd (.xd fs) from I.hok dd _ ed)
  obtain ⟨od, get, look⟩ := lookIn_ns ns
  exact ⟨oe, od, m, ⟨he, hz.1, by unfold PySem.W.notCls; rw [hd] <;> rfl, by rw [hz.2]; exact get⟩, rel, look⟩
theorem pe_exf (he : PE X e te) (base : attributeBase e n X.env (eval e X.env) = eval e X.env := by rfl) : PE X (.Attribute e n pos) (tExf X.K n te) := by
  constructor
  intro pins s σ H Q I read
  refine attr_of base (thn (he.run pins s σ H _ I read) fun u s1 z => ?_)
  obtain ⟨_, H1, J, ru, a, C, dd, fs, v, rfl, ea, T, none_, ed, is_v, told⟩ := z
  obtain rfl : u = .ref a := ru
  obtain ⟨oe, od, m, inst, rel, look⟩ := exV_inst J ea ed
  have there := rel n
  rw [is_v] at there
  obtain ⟨w, mw, rw_⟩ := RelO.some_of there
  exact HandSPX.exc_get J.kIn inst T.ga T.gg T.exC (PySem.W.findObj_own T.hdC none_ rfl ((look n).trans (congrArg some mw))) (handed_of rw_) ⟨v, H1, J.tok _, rw_, told⟩
theorem cls_some {K : PySem.W.Frag} {D : Addr} (h : PySem.W.hasDictIn K D = true) : (PySem.W.clsIn K D).isSome = true := by
  obtain ⟨cd, hc, _⟩ := PySem.W.any_some h
  rw [hc]
  rfl
/-- isinstance(kept, c) -/
def rIsV (K : PySem.W.Frag) : List V → Hp → VK → Prop := fun xs H Q => ∃ (a D dd : Addr) (fs : List (Str × V)) (c : V) (cv : Value) (b : Bool), xs = [.ref a, c] ∧ H a = some (ExV (.ref D) (some dd) a) ∧ H dd = some (.xd fs) ∧ ExcC K D ∧ ClsV c cv ∧ PySem.W.kitOne K (.ref D) cv = some b ∧ Q (.bl b) H
theorem call_isV : CallR X (.builtin "isinstance") (rIsV X.K) := by
  rintro pins s σ H _ us Q I rel ⟨a, D, dd, fs, c, cv, b, rfl, ea, ed, C, cls, kit, told⟩
  match us, rel with
  | [_, _], .cons ra (.cons rc .nil) =>
    cases ra
    cases cls.eq rc
    obtain ⟨_, _, _, inst, _⟩ := exV_inst I ea ed
    exact PySem.W.kia_one (PySem.W.kitx_exc (cls_some C.hd) C.hg C.hk C.hs C.ha C.hn C.ht C.hm) I.kIn inst kit (fun z => nomatch z) fun tk => ⟨.bl b, H, I.tok tk, rfl, told⟩
/-- isinstance(kept, (c1, c2, ..)) -/
def rIsVT (K : PySem.W.Frag) : List V → Hp → VK → Prop := fun xs H Q => ∃ (a D dd tp : Addr) (fs : List (Str × V)) (cs : List V) (us : List Value) (b : Bool), xs = [.ref a, .ref tp] ∧ H a = some (ExV (.ref D) (some dd) a) ∧ H dd = some (.xd fs) ∧ ExcC K D ∧
  H tp = some (.tup cs) ∧ Paired ClsV cs us ∧ PySem.W.kitAny K (.ref D) us = some b ∧ Q (.bl b) H
theorem call_isVT : CallR X (.builtin "isinstance") (rIsVT X.K) := by
  rintro pins s σ H _ us Q I rel ⟨a, D, dd, tp, fs, cs, ws, b, rfl, ea, ed, C, tup, cls, kit, told⟩
  match us, rel with
  | [_, _], .cons ra (.cons rt .nil) =>
    cases ra
    cases rt
    obtain ⟨_, _, _, inst, _⟩ := exV_inst I ea ed
    obtain ⟨_, items, ri, ⟨oc, od, dt, sl⟩, get, is_tup, m, is_seq⟩ := (show ObjOk X.prog X.w H s.heap tp (.tup cs) from I.hok tp _ tup)
    cases ClsV.all cls ri
    cases is_tup
    cases is_seq
    exact PySem.W.kia_tup (PySem.W.kitx_exc (cls_some C.hd) C.hg C.hk C.hs C.ha C.hn C.ht C.hm) I.kIn inst get kit (fun z => nomatch z) fun tk => ⟨.bl b, H, I.tok tk, rfl, told⟩
end
end Tg

set_option maxHeartbeats 2000000
namespace Tg
open PySem PySem.Spec PyProof.Rows L2
/-! ### class X(ValueError): def __init__(self, at): ValueError.__init__(self, "..") ; self.at = at -/
def inCls (s : Stmt) (i : Nat) : Stmt := match s with
  | .ClassDef _ _ _ body _ _ _ _ _ _ _ => body.getD i (.Pass ⟨0, 0, 0, 0⟩)
  | _ => .Pass ⟨0, 0, 0, 0⟩
/-- what __init__ leaves: the field in a new dict -/
def spErr (C : Addr) (f : Str) : Sp := fun vs H Q _ => ∃ (a : Addr) (v : V), vs = [.ref a, v] ∧ H a = some (exo a C none) ∧ ∀ dx, H dx = none → dx ≠ a → Q .non (upd (upd H dx (exd dx [(f, v)])) a (exo a C (some dx)))
/-- what raise X(v) then leads to -/
theorem err_read {C : Addr} {f : Str} {ta : TE} {σ : L2.St} {H : Hp} {Q : XK} (h : ta σ H fun v H1 => ∀ (d : Addr) (H' : Hp), Same H1 H' → H1 d = none → H' d = some (.xd [(f, v)]) → Q (.ref C) (some d) H')
    (mono : ∀ {Q Q' : VK}, (∀ v H1, Q v H1 → Q' v H1) → ta σ H Q → ta σ H Q') : tMkO C (spErr C f) [] (tCons ta tNil) σ H Q := by
  refine mono (fun v H1 q => ⟨by show 1 ≤ 1000; decide, fun a na => ?_⟩) h
  refine ⟨a, v, rfl, upd_same, fun dx nd da => ⟨rfl, dx, [(f, v)], upd_same, ?_, ?_, ?_⟩⟩
  · rw [upd_ne da, upd_same]
  · rw [upd_ne da] at nd
    exact nd
  · have nd' : H1 dx = none := by
      rw [upd_ne da] at nd
      exact nd
    refine q dx _ (fun b o e => ?_) nd' upd_same
    have nb : b ≠ dx := ne_of_none e nd'
    have nba : b ≠ a := ne_of_none e na
    rw [upd_ne nb, del_ne nba, upd_ne nba, upd_ne nb, upd_ne nba]
    exact e
end Tg

set_option maxHeartbeats 2000000
namespace Tg
open PySem PySem.Spec PyProof.Rows L2
/-! ### a call by keywords that may raise, in a try -/
section
variable {X : Cx} {CX : CXT} {k : Nat} {f : Addr} {fd : FuncData} {ps ks : List Str} {sp : Sp} {E : L2.St → XK} {x : Str} {p pos : Pos} {kws : List Keyword} {tk : TA} {g : List Value → List Value → List Value} {gV : List V → List V → List V}
theorem pe_kwS (F : FnOk X.prog X.w X.K X.mg X.base CX k f fd ps sp) (room : Room k X.A) (gl : Gl X x) (at_x : X.mg x = some (.ref f)) (kept : PySem.W.keepIn X.K (.ref f) = true) (binds : KBn X.K fd ps 0 ks g gV) (lets : ∀ σ, PassesAt CX X σ (E σ)) (vals : PK X kws tk)
    (named : (backToKw pos (keywordEach kws X.env)).all (·.1.isSome) = true := by rfl) (names : (backToKw pos (keywordEach kws X.env)).filterMap (·.1) = ks := by rfl) (nodebug : (x == ("__debug__" : Str)) = false := by decide)
    (nostar : ((backTo pos (starEach [] X.env)).any (·.1) || (backToKw pos (keywordEach kws X.env)).any (·.1.isNone)) = false := by rfl) : PE X (.Call (.Name x p) [] kws pos) (fun σ H Q => tk σ H fun zs H2 => zs.length = ks.length ∧ sp (gV [] zs) H2 Q (E σ)) := by
  constructor
  intro pins s σ H Q I read
  refine wpAny_Call_Name_kw (ld_glob I gl at_x (PySem.W.callWith_KW0 (h₀ := X.base) I.ok.mod.kin kept named (thn (vals.run pos pins s σ H _ I read) fun ws s2 y => ?_) nostar) nodebug)
  obtain ⟨zs, H2, J, rel, many, told⟩ := y
  rw [names]
  refine ⟨J.kIn, wpAny_call (codeAny_mono (F.run X.A X.stack s2 H2 ⟨[], ks.zip ws⟩ (g [] ws) (gV [] zs) Q (E σ) room J.env0 (binds.to s2 [] ws J.kIn rfl (rel.length.symm.trans many)) (binds.rel (vs := []) (us := []) .nil rel) told) fun a s' z => ?_)⟩
  match a, z with
  | .error e, z => exact lets σ pins H2 s2 e s' J z
  | .ok (.ret u), z => exact J.after z
end
end Tg

set_option maxHeartbeats 2000000
namespace Tg
open PySem PySem.Spec PyProof.Rows L2
/-! ### own errors, and classes whose __init__ may raise, as a caller needs them -/
section
variable (P : Program) (w : World) (K : PySem.W.Frag) (mg : Str → Option Value) (base : Heap)
/-- the error x, of the class C over ValueError, made of one thing that is its field fld -/
def CalE (k : Nat) (x : Str) (C : Addr) (fld : Str) : Prop := ∃ fI fdI, OexC K C ∧ PySem.W.findIn K (.ref C) "__init__" = some (some (.ref fI)) ∧ PySem.W.typeIn K (.ref fI) = some (.type "function") ∧
  FnOk P w K mg base CX0 k fI fdI ["self", fld] (spErr C fld) ∧ Binds K fdI ["self", fld] [] ∧ mg x = some (.ref C)
/-- a def that may raise -/
def CalR (k : Nat) (x : Str) (ps : List Str) (sp : Sp) : Prop := ∃ f fd, FnOk P w K mg base (L2.CX P w) k f fd ps sp ∧ mg x = some (.ref f) ∧ PySem.W.keepIn K (.ref f) = true ∧ Binds K fd ps []
def CalRK (k : Nat) (x : Str) (ps ks : List Str) (is : List Nat) (sp : Sp) : Prop := ∃ f fd, FnOk P w K mg base (L2.CX P w) k f fd ps sp ∧ mg x = some (.ref f) ∧ PySem.W.keepIn K (.ref f) = true ∧ KBn K fd ps 0 ks (fun _ ws => prm is ws) (fun _ zs => prm is zs)
/-- a class whose __init__ may raise -/
def CalRC (k : Nat) (x : Str) (C : Addr) (ps : List Str) (sp : Sp) : Prop := ∃ f fd, FnOk P w K mg base (L2.CX P w) k f fd ps sp ∧ mg x = some (.ref C) ∧ Mk K C f ∧ Binds K fd ps []
def CalRCK (k : Nat) (x : Str) (C : Addr) (ps ks : List Str) (is : List Nat) (sp : Sp) : Prop := ∃ f fd, FnOk P w K mg base (L2.CX P w) k f fd ps sp ∧ mg x = some (.ref C) ∧ Mk K C f ∧ KBn K fd ps 1 ks (fun us ws => us ++ prm is ws) (fun vs zs => vs ++ prm is zs)
end
section
variable {X : Cx} {k : Nat} {ps ks : List Str} {is : List Nat} {sp : Sp} {x fld : Str} {C : Addr} {e : Expr} {es : List Expr} {p pos : Pos} {kws : List Keyword} {ta : TE} {t tk : TA} {W : WX}
theorem pm_err (c : CalE X.prog X.w X.K X.mg X.base k x C fld) (room : Room (k + 1) X.A) (gl : Gl X x) (he : PE X e ta) (nodebug : (x == ("__debug__" : Str)) = false := by decide)
    (star : starEach [e] X.env = (false, eval e X.env) :: starEach [] X.env := by rfl) : PMk X (.Call (.Name x p) [e] [] pos) (tMkO C (spErr C fld) [] (tCons ta tNil)) := by
  obtain ⟨fI, fdI, T, iC, tI, F, b, m⟩ := c
  exact pmk_oex T iC tI F room b .nil (fun _ _ _ _ _ _ _ z => z.elim) gl m (pa_cons he pa_nil star) nodebug star
/-- raise x(e), out of the def -/
def tErr (C : Addr) (fld : Str) (ta : TE) (E : XK) : TS := fun _ σ H => ta σ H fun v H1 => ∀ (d : Addr) (H' : Hp), Same H1 H' → H1 d = none → H' d = some (.xd [(fld, v)]) → E (.ref C) (some d) H'
/-- a call that may raise, in a def that lets it out -/
def tCalR (sp : Sp) (E : XK) (t : TA) : TE := fun σ H Q => t σ H fun vs H1 => sp vs H1 Q E
theorem pe_calR {E : XK} (c : CalR X.prog X.w X.K X.mg X.base k x ps sp) (hr : Room k X.A) (gl : Gl X x) (lets : Passes (L2.CX X.prog X.w) X E) (ha : PA X (e :: es) t) (nodebug : (x == ("__debug__" : Str)) = false := by decide)
    (star : starEach (e :: es) X.env = (false, eval e X.env) :: starEach es X.env := by rfl) (plain : (backTo pos (starEach es X.env)).any (·.1) = false := by rfl) : PE X (.Call (.Name x p) (e :: es) [] pos) (tCall sp [] E t) := by
  obtain ⟨f, fd, F, m, kp, b⟩ := c
  exact pe_call F hr gl m kp b .nil lets ha nodebug star plain
/-- the same in a try -/
theorem pe_calT (c : CalR X.prog X.w X.K X.mg X.base k x ps sp) (hr : Room k X.A) (gl : Gl X x) (tks : Takes X W) (ha : PA X (e :: es) t) (nodebug : (x == ("__debug__" : Str)) = false := by decide)
    (star : starEach (e :: es) X.env = (false, eval e X.env) :: starEach es X.env := by rfl) (plain : (backTo pos (starEach es X.env)).any (·.1) = false := by rfl) : PE X (.Call (.Name x p) (e :: es) [] pos) (tCallS sp (WE W) t) := by
  obtain ⟨f, fd, F, m, kp, b⟩ := c
  exact pe_callS F hr gl m kp b (fun σ => passAt tks σ) ha nodebug star plain
def tKwT (n : Nat) (sp : Sp) (is : List Nat) (W : WX) (tk : TA) : TE := fun σ H Q => tk σ H fun zs H2 => zs.length = n ∧ sp (prm is zs) H2 Q (WE W σ)
theorem pe_calKT (c : CalRK X.prog X.w X.K X.mg X.base k x ps ks is sp) (hr : Room k X.A) (gl : Gl X x) (tks : Takes X W) (vals : PK X kws tk)
    (named : (backToKw pos (keywordEach kws X.env)).all (·.1.isSome) = true := by rfl) (names : (backToKw pos (keywordEach kws X.env)).filterMap (·.1) = ks := by rfl) (nodebug : (x == ("__debug__" : Str)) = false := by decide)
    (nostar : ((backTo pos (starEach [] X.env)).any (·.1) || (backToKw pos (keywordEach kws X.env)).any (·.1.isNone)) = false := by rfl) : PE X (.Call (.Name x p) [] kws pos) (tKwT ks.length sp is W tk) := by
  obtain ⟨f, fd, F, m, kp, b⟩ := c
  exact pe_kwS (E := WE W) F hr gl m kp b (fun σ => passAt tks σ) vals named names nodebug nostar
/-! ### C(..), whose __init__ may raise, in a try -/
theorem made_or_raised {CX : CXT} {f : Addr} {fd : FuncData} {pins : List (Addr × Obj)} {σ : L2.St} {H : Hp} {s : Shared} {Q : VK} {E : L2.St → XK} {us zs : List Value} {kwv : List (Str × Value)} {vs : List V} (M : Mk X.K C f) (F : FnOk X.prog X.w X.K X.mg X.base CX k f fd ps sp)
    (room : Room (k + 1) X.A) (lets : PassesAt CX X σ (E σ)) (I : Inv X pins σ H s) (bound : ∀ s2 : Shared, X.K.In s2.heap → BindsTo s2 fd ⟨.ref (s.heap.objs.size + 1) :: us, kwv⟩ (ps.zip zs)) (rel : Vals (.ref (s.heap.objs.size + 1) :: vs) zs)
    (told : ∀ a d, H a = none → H d = none → d ≠ a → sp (.ref a :: vs) (upd (upd H d (.own a)) a (.ins C d [])) (fun v H2 => v = .non ∧ Q (.ref a) H2) (E σ)) : wpAny (model X.prog X.w) X.A (call (.ref C) us kwv) (EP X pins σ Q) X.xe s := by
  have new := I.made (C := C)
  have now := told _ _ (I.hok.fresh (Nat.le_succ s.heap.objs.size)) (I.hok.fresh (Nat.le_refl s.heap.objs.size)) (Nat.ne_of_lt (Nat.lt_succ_self _))
  have ran := F.run _ X.stack _ _ _ zs _ _ (E σ) (room.make C us kwv) (new.env0.make C us kwv) (bound _ new.kIn) rel now
  refine wpAny_call (make_map (f := f) I.kIn M.makes M.init (beq_iff_eq.mp M.fn) (codeAny_mono ran fun out s' z => ?_))
  match out, z with
  | .error err, z => exact lets pins _ _ err s' new z
  | .ok (.ret u), z =>
    obtain ⟨_, H3, J, r, rfl, q⟩ := new.after z
    exact ⟨r, .ref (s.heap.objs.size + 1), H3, J, rfl, q⟩
def tMkT (C : Addr) (sp : Sp) (W : WX) (t : TA) : TE := fun σ H Q => t σ H fun vs H1 => ∀ a d, H1 a = none → H1 d = none → d ≠ a → sp (.ref a :: vs) (upd (upd H1 d (.own a)) a (.ins C d [])) (fun v H2 => v = .non ∧ Q (.ref a) H2) (WE W σ)
theorem pe_mkT (c : CalRC X.prog X.w X.K X.mg X.base k x C ps sp) (room : Room (k + 1) X.A) (gl : Gl X x) (tks : Takes X W) (ha : PA X (e :: es) t) (nodebug : (x == ("__debug__" : Str)) = false := by decide)
    (star : starEach (e :: es) X.env = (false, eval e X.env) :: starEach es X.env := by rfl) (plain : (backTo pos (starEach es X.env)).any (·.1) = false := by rfl) : PE X (.Call (.Name x p) (e :: es) [] pos) (tMkT C sp W t) := by
  obtain ⟨f, fd, F, m, M, b⟩ := c
  constructor
  intro pins s σ H Q I read
  refine wpAny_Call_Name_kw (ld_glob I gl m (PySem.W.callWith_K (h₀ := X.base) I.ok.mod.kin M.kp (thn (ha.run pos pins s σ H _ I read) fun us s1 y => ?_) star plain) nodebug)
  obtain ⟨vs, H1, J, rel, told⟩ := y
  refine ⟨J.kIn, made_or_raised (E := WE W) (zs := .ref (s1.heap.objs.size + 1) :: us) M F room (passAt tks σ) J (fun s2 kin => ?_) (.cons rfl rel) told⟩
  have many : (V.ref (s1.heap.objs.size + 1) :: vs).length = ps.length := F.len _ _ _ _ (told _ _ (J.hok.fresh (Nat.le_succ s1.heap.objs.size)) (J.hok.fresh (Nat.le_refl s1.heap.objs.size)) (Nat.ne_of_lt (Nat.lt_succ_self _)))
  have z := b s2 (.ref (s1.heap.objs.size + 1) :: us) kin (by rw [List.append_nil, List.length_cons, ← rel.length]; exact many)
  rw [List.append_nil] at z
  exact z
def tMkKT (C : Addr) (n : Nat) (sp : Sp) (is : List Nat) (W : WX) (tk : TA) : TE := fun σ H Q => tk σ H fun zs H1 => zs.length = n ∧ ∀ a d, H1 a = none → H1 d = none → d ≠ a → sp (.ref a :: prm is zs) (upd (upd H1 d (.own a)) a (.ins C d [])) (fun v H2 => v = .non ∧ Q (.ref a) H2) (WE W σ)
theorem pe_mkKT (c : CalRCK X.prog X.w X.K X.mg X.base k x C ps ks is sp) (room : Room (k + 1) X.A) (gl : Gl X x) (tks : Takes X W) (vals : PK X kws tk)
    (named : (backToKw pos (keywordEach kws X.env)).all (·.1.isSome) = true := by rfl) (names : (backToKw pos (keywordEach kws X.env)).filterMap (·.1) = ks := by rfl) (nodebug : (x == ("__debug__" : Str)) = false := by decide)
    (nostar : ((backTo pos (starEach [] X.env)).any (·.1) || (backToKw pos (keywordEach kws X.env)).any (·.1.isNone)) = false := by rfl) : PE X (.Call (.Name x p) [] kws pos) (tMkKT C ks.length sp is W tk) := by
  obtain ⟨f, fd, F, m, M, b⟩ := c
  constructor
  intro pins s σ H Q I read
  refine wpAny_Call_Name_kw (ld_glob I gl m (PySem.W.callWith_KW0 (h₀ := X.base) I.ok.mod.kin M.kp named (thn (vals.run pos pins s σ H _ I read) fun ws s1 y => ?_) nostar) nodebug)
  obtain ⟨zs, H1, J, rel, many, told⟩ := y
  rw [names]
  exact ⟨J.kIn, made_or_raised (E := WE W) (us := []) (zs := .ref (s1.heap.objs.size + 1) :: prm is ws) M F room (passAt tks σ) J (fun s2 kin => b.to s2 [.ref (s1.heap.objs.size + 1)] ws kin rfl (rel.length.symm.trans many)) (.cons rfl (prm_rel rel is)) told⟩
end
end Tg

/-! a derivation with a told precondition in the place of the one that is read off -/
namespace Tg
open PySem PySem.Spec PyProof.Rows L2
theorem pss_by {X : Cx} {rest : List Stmt} {u R : TS} (h : PSs X rest u) (hr : ∀ D σ H, R D σ H → u D σ H) : PSs X rest R := ⟨fun pins s σ H D I hw => h.run pins s σ H D I (hr D σ H hw)⟩
theorem pe_by {X : Cx} {e : Expr} {u R : TE} (h : PE X e u) (hr : ∀ σ H Q, R σ H Q → u σ H Q) : PE X e R := ⟨fun pins s σ H Q I hw => h.run pins s σ H Q I (hr σ H Q hw)⟩
theorem pt_by {X : Cx} {e : Expr} {u R : TT} (h : PT X e u) (hr : ∀ σ H Q, R σ H Q → u σ H Q) : PT X e R := ⟨fun pins s σ H Q I hw => h.run pins s σ H Q I (hr σ H Q hw)⟩
end Tg

namespace Tg
open PySem PySem.Spec PyProof.Rows L2
/-! ### promises of defs that are called where no repr is under way (str and repr of lists ask for it) -/
section
variable {P : Program} {w : World} {K : PySem.W.Frag} {mg : Str → Option Value} {base : Heap} {CX : CXT} {k : Nat} {f : Addr} {fd : FuncData} {ps : List Str} {sp : Sp}
/-- FnOk's promise, asked only where no repr is under way -/
structure FnG (P : Program) (w : World) (K : PySem.W.Frag) (mg : Str → Option Value) (base : Heap) (CX : CXT) (k : Nat) (f : Addr) (fd : FuncData) (ps : List Str) (sp : Sp) : Prop where
  arity : ∀ {zs : List V} {H : Hp} {Q : VK} {E : XK}, sp zs H Q E → zs.length = ps.length
  runs : ∀ {A : Around} {outer : List Env} {s : Shared} {H : Hp} {given : Args} {us : List Value} {zs : List V} {Q : VK} {E : XK}, A.guards = some [] → Room k A →
    Env0 P w K mg base A outer s H → BindsTo s fd given (ps.zip us) → Vals zs us → sp zs H Q E → codeAny (model P w) A (.call (.ref f) given) (CR CX outer P w H s Q E) s
theorem FnG.of (F : FnOk P w K mg base CX k f fd ps sp) : FnG P w K mg base CX k f fd ps sp := ⟨fun h => F.len _ _ _ _ h, fun _ r e b v h => F.run _ _ _ _ _ _ _ _ _ r e b v h⟩
end
section
variable {P : Program} {w : World} {K : PySem.W.Frag} {mg : Str → Option Value} {base : Heap}
/-- where a body ends: what its call hands back -/
theorem body_end {CX : CXT} {N : List Str} {qual : Str} {scope : Scope} {f : Addr} {cdv : Value} {A : Around} {outer : List Env} {s s' : Shared} {H : Hp} {Q : VK} {E : XK} {fl : Flow}
    (h : SP (cxOf CX P w K mg base N qual scope f cdv A outer s H E) [] { nx := fun _ H' => Q .non H', rt := Q } fl s') :
    CR CX outer P w H s Q E (match fl with | .ret u => .ok (.ret u) | .next => .ok (.ret .none) | x => .ok x) s' := by
  cases fl with
  | ret u =>
    obtain ⟨v, _, Hx, J, rv, z⟩ := h
    exact ⟨v, Hx, J.os, J.bare, J.base, J.hok, rv, z⟩
  | next =>
    obtain ⟨_, Hx, J, z⟩ := h
    exact ⟨V.non, Hx, J.os, J.bare, J.base, J.hok, rfl, z⟩
  | brk => exact h.elim fun _ z => z.elim fun _ y => y.2.elim
  | cont => exact h.elim fun _ z => z.elim fun _ y => y.2.elim
/-- a def by its body, where no repr is under way -/
theorem okG {x qual : Str} {st : Stmt} {f : Addr} {fd : FuncData} {N ps : List Str} {k : Nat} {sp : Sp} (F : Fun K x qual st f fd) (S : FnScope N ps (defScope st))
    (many : ∀ zs H Q E, sp zs H Q E → zs.length = ps.length)
    (bodies : ∀ (cdv : Value) (A : Around) (outer : List Env) (s : Shared) (H : Hp) (zs : List V) (Q : VK) (E : XK), A.guards = some [] → Room k (A.deeper (envOfC qual (defScope st) s.heap.objs.size f cdv)) → sp zs H Q E →
      ∃ t, PSs (cxOf CX0 P w K mg base N qual (defScope st) f cdv A outer s H E).nox (defBody st) t ∧ t { nx := fun _ H' => Q .non H', rt := Q } (start N zs) H) : FnG P w K mg base CX0 (k + 1) f fd ps sp := by
  obtain ⟨_, _, _, _, _, _, cdv, _, _, rfl, at_f, code⟩ := F.ex
  refine ⟨fun h => many _ _ _ _ h, fun {A outer s H given us zs Q E} hg room e0 binds rel h => ?_⟩
  have stays : ∀ b o, base.get? b = some o → s.heap.get? b = some o := fun b o z => (e0.bs b o z).1
  have written := e0.mod.kin.keeps stays
  have endless := e0.mod.nolimit.keeps stays
  have slots : ∀ y ∈ ps.zip us, (defScope st).names.lookup y.1 = some .local ∨ ((defScope st).names.lookup y.1 = some .cell ∧ ((cellsFrom (s.heap.objs.size + 1) (defScope st).names []).lookup y.1).isSome = true) := fun y hy =>
    (S.par y.1 (List.of_mem_zip hy).1).imp id fun z => ⟨z, PySem.W.cellsFrom_some _ _ _ (.inl z)⟩
  refine codeAny_call_function room.depth (written _ _ at_f) rfl S.co S.gen rfl (PySem.W.codeRec_of written code) (binds _ _ _ _ (wpAny_newFunctionEnv_cells S.kind slots fun env he s1 fresh => ?_))
  subst he
  obtain ⟨t, ht, read⟩ := bodies cdv A outer s H zs Q E hg (room.deeper _) h
  have I := inv_start (CX := CX0) (P := P) (w := w) (E := E) S room.hd e0 (many _ _ _ _ h) rel fresh
  refine ⟨endless.keeps fresh.toInCall.keep, codeAny_func (wpAny_mono (ht.nox.run [] s1 (start N zs) H _ I read) (fun fl s' z => ?_) fun _ _ z => z)⟩
  have told := body_end z
  cases fl with
  | ret u => exact told
  | next => exact told
  | brk => exact False.elim told
  | cont => exact False.elim told
end
section
variable {X : Cx} {CX : CXT} {k : Nat} {f : Addr} {fd : FuncData} {ps : List Str} {sp : Sp} {E : XK} {x : Str} {p pos : Pos} {e : Expr} {es : List Expr} {t : TA}
/-- the reading of f(e, ..) for such a def -/
abbrev tCallG (sp : Sp) (E : XK) (t : TA) : TE := fun σ H Q => t σ H fun zs H1 => sp zs H1 Q E
theorem pe_callG (F : FnG X.prog X.w X.K X.mg X.base CX k f fd ps sp) (quiet : X.A.guards = some []) (room : Room k X.A) (gl : Gl X x) (at_x : X.mg x = some (.ref f)) (kept : PySem.W.keepIn X.K (.ref f) = true)
    (binds : Binds X.K fd ps []) (lets : Passes CX X E) (args : PA X (e :: es) t) (nodebug : (x == ("__debug__" : Str)) = false := by decide)
    (one : starEach (e :: es) X.env = (false, eval e X.env) :: starEach es X.env := by rfl) (nostar : (backTo pos (starEach es X.env)).any (·.1) = false := by rfl) : PE X (.Call (.Name x p) (e :: es) [] pos) (tCallG sp E t) := by
  constructor
  intro pins s σ H Q I read
  refine wpAny_Call_Name_kw (ld_glob I gl at_x (PySem.W.callWith_K (h₀ := X.base) I.ok.mod.kin kept (thn (args.run pos pins s σ H _ I read) fun us s1 y => ?_) one nostar) nodebug)
  obtain ⟨zs, H1, J, rel, h⟩ := y
  have len : (us ++ []).length = ps.length := by
    rw [List.append_nil, ← rel.length]
    exact F.arity h
  have bound := binds s1 us J.kIn len
  rw [List.append_nil] at bound
  refine ⟨J.kIn, wpAny_call (codeAny_mono (F.runs (given := ⟨us, []⟩) quiet room J.env0 bound rel h) fun a s' z => ?_)⟩
  match a, z with
  | .error er, z => exact lets pins σ H1 s1 er s' J z
  | .ok (.ret u), z => exact J.after z
/-! ### str(x) of data -/
def rShow (K : PySem.W.Frag) : List V → Hp → VK → Prop := fun xs H Q => ∃ (a : Addr) (d : PyData), xs = [.ref a] ∧ Dp K H (.ref a) d ∧ d.showable = true ∧ d.hasDict = false ∧ d.depth ≤ 60 ∧ d.shown.length ≤ sizeLine ∧ Q (.str d.shown) H
theorem call_strD (deep : X.A.units + 64 < cLine) (quiet : X.A.guards = some []) : CallR X (.type "str") (rShow X.K) := by
  rintro pins s σ H _ _ Q I (_ | ⟨ra, rb⟩) ⟨a, d, e, dp, h1, h2, h3, h4, h⟩
  · exact nomatch e
  · obtain ⟨rfl, rfl⟩ := List.cons.inj e
    cases rb
    obtain ⟨as, rd⟩ := Dp.reads I d _ _ dp ra
    cases (show _ = Value.ref a from ra)
    exact str_of_reads rd h1 (fun z => absurd (h2.symm.trans z) (by decide)) quiet (by omega) (fun _ _ z => z) (fun hx u tk kp => ⟨.str d.shown, H, I.kept kp, ⟨u, rfl⟩, h⟩) h4
end
/-! ### the law's own head, for such a def -/
/-- a law's promise: of a list of at most 63 ints it gives True -/
def spScript (K : PySem.W.Frag) : Sp := fun zs H Q _ => ∃ (a : Addr) (ns : List Int), zs = [.ref a] ∧ SqL K H a (ns.map V.int) ∧ ns.length ≤ 63 ∧ ∀ Hx, Q (.bl true) Hx
section
variable {P : Program} {w : World} {K : PySem.W.Frag} {mg mb : Str → Option Value} {k : Nat} {fa a : Addr} {fd : FuncData} {x : Str} {s1 : Shared} {vs : List Value} {ns : List Int}
theorem law_from (KX : K.In s1.heap) (globals : s1.heap.Ns mainGlobals mg) (builtins : s1.heap.Ns builtinsNs mb) (boot : ∀ y : Str, y ≠ "__name__" → mb y = bootBuiltins y) (lim : s1.heap.NoLimit) (nogens : s1.gens = #[])
    (script : s1.heap.get? a = some { cls := .type "list", data := .seq vs.toArray }) (room : Room k callerA) (F : ∀ B : Heap, K.In B → B.Ns mainGlobals mg → FnG P w K mg B CX0 k fa fd [x] (spScript K))
    (bind : ∀ (s : Shared) (u : Value), BindsTo s fd ⟨[u], []⟩ [(x, u)]) (H : Hp) (only : Only H) (here : SqL K H a (ns.map V.int)) (few : ns.length ≤ 63) (fine : HOk P w H s1.heap) (alone : ∀ b, H b ≠ none → b = a ∧ K.lookup a = none) :
    codeAny (model P w) callerA (.call (.ref fa) ⟨[.ref a], []⟩) (fun r s' => r = .ok (.ret (.bool true)) ∧ OldK s1.heap s'.heap ∧ s'.os = s1.os ∧ AllBare s'.gens) s1 := by
  have free : ∀ {b : Addr}, (b = a → K.lookup a = none → False) → H b = none := fun {b} z => by
    cases hb : H b with
    | none => rfl
    | some u => exact ((fun y => z y.1 y.2) (alone b (by rw [hb]; exact fun e => nomatch e))).elim
  have dicts : ∀ {b : Addr} {m : Str → Option Value}, s1.heap.Ns b m → (hidT s1.heap H).Ns b m := fun {b m} y => by
    obtain ⟨o, es, ep, e, dd, r⟩ := y
    refine ⟨o, es, ep, hidT_get e (free fun z _ => ?_), dd, r⟩
    rw [z, script] at e
    cases e
    exact nomatch dd
  have kin : K.In (hidT s1.heap H) := fun b o e => hidT_get (KX b o e) (free fun z y => by
    rw [z, y] at e
    exact nomatch e)
  obtain ⟨mc, c1, c2⟩ := lim
  have e0 : Env0 P w K mg (hidT s1.heap H) callerA [] s1 H := {
    frames := rfl
    mod := ⟨kin, dicts globals, ⟨mb, dicts builtins, boot⟩, ⟨mc, dicts c1, c2⟩⟩
    bs := fun _ _ z => of_hidT z
    bsz := Nat.le_of_eq (hidT_size _ _)
    funs := trivial
    frf := fun b z => nomatch (show b ∈ ([] : List Addr) from z)
    hok := fine
    bare := .of_eq nogens }
  have run := (F _ kin (dicts globals)).runs (given := ⟨[.ref a], []⟩) (us := [.ref a]) (zs := [.ref a]) (Q := fun v _ => v = .bl true) (E := fun _ _ _ => False) rfl room e0 (bind s1 (.ref a)) (.cons rfl .nil) ⟨a, ns, rfl, here, few, fun _ => rfl⟩
  refine codeAny_mono run fun r s' told => ?_
  match r, told with
  | .error er, told => exact told.elim
  | .ok (.ret u), told =>
    obtain ⟨v, Hx, os, bare, un, fine2, rel, is_true⟩ := told
    cases (show v = .bl true from is_true)
    cases (show u = Value.bool true from rel)
    refine ⟨rfl, .of_keep fun b o e => ?_, os, bare⟩
    rcases only b with z | ⟨og, _, z⟩
    · exact un.keep b o e z (fun y => nomatch (show b ∈ ([] : List Addr) from y)) (by simp)
    · have still := (fine2 b _ (un.frzs b og _ z)).1
      cases e.symm.trans (fine b _ z).1
      exact still
end
theorem walk_g {l : PySem.W.OpenLaw} {k : Nat} {q : Program} {loose : List Str} {XP : (Str → Option Value) → Heap → Prop} {YP : World → Heap → Prop} {d : DefRec} {K : Params → PySem.W.Frag} {x : Str} (most : l.most = some 63) (plain : d.params.defaults = [])
    (room : Room k callerA) (inK : ∀ w h, YP w h → (K w.params).In h)
    (law : ∀ w mg fa h, (K w.params).In h → h.Ns mainGlobals mg → mg d.name = some (.ref fa) → ∃ fd : FuncData, (∀ (s : Shared) (v : Value), BindsTo s fd ⟨[v], []⟩ [(x, v)]) ∧ ∀ B : Heap, (K w.params).In B → B.Ns mainGlobals mg → FnG l.prog w (K w.params) mg B CX0 k fa fd [x] (spScript (K w.params))) :
    PySem.W.WalkO q loose XP YP l.row.toRowW d [] (fun f zs => PySem.call f zs) := by
  refine Att.attach_call most plain fun w _ s1 mg mb fa _ _ _ _ a vs ns G Y _ _ _ at_law script these few nogens => ?_
  have KX := inK w _ Y
  obtain ⟨fd, bind, F⟩ := law w mg fa _ KX G.T.g at_law
  have rel := vals_ints these
  have line : ns.length ≤ sizeLine := Nat.le_trans few (by decide)
  have go := law_from (ns := ns) KX G.T.g G.T.b G.T.builtins G.T.nolimit nogens script room F bind
  cases look : (K w.params).lookup a with
  | some o =>
    cases script.symm.trans (KX a o look)
    refine go (fun _ => none) (fun _ => .inl rfl) (.inr ⟨_, vs.toArray, _, look, rfl, rfl, rfl, ?_, ?_⟩) few (fun b u z => ((nomatch z : (none : Option HO) = some u → False) z).elim) (fun b z => absurd rfl z)
    · rw [List.size_toArray, these.length]
      exact line
    · rw [List.toList_toArray]
      exact rel
  | none =>
    obtain ⟨o, eo⟩ : ∃ o : HO, o = .frz { cls := .type "list", data := .seq vs.toArray } (.lst (ns.map V.int)) := ⟨_, rfl⟩
    have at_a : ∀ b, (if b = a then some o else none) = none ∨ (b = a ∧ (if b = a then some o else none) = some o) := fun b => by
      by_cases z : b = a
      · exact .inr ⟨z, if_pos z⟩
      · exact .inl (if_neg z)
    refine go (fun b => if b = a then some o else none) (fun b => ?_) (.inl (.inr ⟨_, (if_pos rfl).trans (congrArg some eo)⟩)) few (fun b u z => ?_) (fun b z => ?_)
    · rcases at_a b with z | ⟨_, z⟩
      · exact .inl z
      · exact .inr ⟨_, _, z.trans (congrArg some eo)⟩
    · rcases at_a b with y | ⟨e, y⟩
      · exact nomatch y.symm.trans z
      · cases y.symm.trans z
        subst e
        rw [eo]
        exact ⟨script, by rw [List.length_map]; exact line, vs, _, rel, script⟩
    · rcases at_a b with y | ⟨e, _⟩
      · exact absurd y z
      · exact ⟨e, look⟩
end Tg

/-! repr of own objects by their own __repr__, and {x!r} of data, where no repr is under way -/
namespace Tg
open PySem PySem.Spec PyProof.Rows L2
section
variable {prog : Program} {w : World} {A : Around} {E : Value → Shared → Prop} {s : Shared} {K : PySem.W.Frag} {x C f : Addr} {ox : Obj} {dx : Option Obj}
theorem repr_in {Q : Value → Shared → Prop} (room : A.in1.units < cLine) (inK : K.In s.heap) (I : PySem.W.InstAt s.heap x ox C dx) (at_ : PySem.W.findIn K (.ref C) "__repr__" = some (some (.ref f))) (fn : PySem.W.isFn K (.ref f) = true)
    (h : wpAny (model prog w) A.in1 (call (.ref f) [.ref x]) (fun r s' => ∃ y t, r = .str y t ∧ Q r s') E s) : wpAny (model prog w) A (call (.builtin "repr") [.ref x]) Q E s := by
  refine Calls.call_function_entry (id := "repr") PySem.F.kind_repr PySem.F.plain_repr PySem.F.entry_repr (PySem.F.args_repr1 (.ref x)) ?_
  unfold Builtin.«repr»
  refine wpAny_bind (m := oneArg "repr" _) (wpAny_pure (wpAny_bind (wpAny_cRoomFor room (wpAny_bind (wpAny_bind (I.type.here ((PySem.W.looks_findIn inK at_).here ?_)))))))
  show wpAny _ A.in1 (if (some (Value.ref f)).isNone = true then _ else _) _ E s
  rw [if_neg (fun z => nomatch z)]
  refine wpAny_bind (m := callSpecialIfBound? (.ref x) (Str.ofString "__repr__") _) (PySem.W.ifBound_K inK I at_ fn (wpAny_mono h (fun r s' told => ?_) fun _ _ y => y))
  obtain ⟨y, t, rfl, q⟩ := told
  refine wpAny_bind (m := isInstance (.str y t) (.type "str")) (wpAny_isInstance (T := "str") (typeIs_str _ y t) isSubtype_str_str ?_)
  first
    | exact wpAny_pure ⟨_, rfl, q⟩
    | (rw [if_pos rfl]; exact wpAny_pure ⟨_, rfl, q⟩)
    | (simp only [if_true]; exact wpAny_pure ⟨_, rfl, q⟩)
end
section
variable {X : Cx} {n : Nat}
def rReprO (C : Addr) (sp : Sp) (E : XK) : List V → Hp → VK → Prop := fun vs H Q => ∃ a dx fs, vs = [.ref a] ∧ H a = some (.ins C dx fs) ∧ sp [.ref a] H (fun v H' => ∃ y : Str, v = .str y ∧ Q v H') E
theorem cr_reprO {CX : CXT} {C f : Addr} {fd : FuncData} {sp : Sp} {E : XK} (F : FnG X.prog X.w X.K X.mg X.base CX n f fd ["self"] sp) (at_ : PySem.W.findIn X.K (.ref C) "__repr__" = some (some (.ref f))) (fn : PySem.W.isFn X.K (.ref f) = true) (hb : Binds X.K fd ["self"] []) (hx : Passes CX X E) (hr : Room (n + 1) X.A) (quiet : X.A.guards = some []) :
    CallR X (.builtin "repr") (rReprO C sp E) := by
  rintro pins s σ H vs us Q I r ⟨a, dx, fs, rfl, ha, told⟩
  obtain rfl : us = [.ref a] := by
    cases r with
    | cons p t => cases t; cases p; rfl
  obtain ⟨atA, J, _⟩ := ins_get I.hok ha
  obtain ⟨od, J, _⟩ := J.look
  have sb : Sub X n X.A.in1 := Sub.in1 ⟨hr, rfl⟩
  refine repr_in (by have := hr.units; show X.A.units + 1 < cLine; omega) I.kIn J at_ fn ?_
  have e0 : Env0 X.prog X.w X.K X.mg X.base X.A.in1 X.stack s H := by
    have env := I.env0
    exact ⟨sb.fr.symm ▸ env.frames, env.mod, env.bs, env.bsz, env.funs, env.frf, env.hok, env.bare⟩
  refine wpAny_call (codeAny_mono (F.runs (A := X.A.in1) (outer := X.stack) (s := s) (given := ⟨[.ref a], []⟩) (us := [.ref a]) (zs := [.ref a]) quiet sb.room e0 (by
    have z := hb s [.ref a] I.kIn rfl
    simpa using z) (.cons rfl .nil) told) fun r s' done => ?_)
  cases r with
  | error e => exact hx pins σ H s e s' I done
  | ok fl =>
    cases fl with
    | ret w =>
      obtain ⟨z, H', I', rz, y, ez, q⟩ := I.after done
      subst ez
      obtain ⟨t, rfl⟩ := rz
      exact ⟨y, t, rfl, .str y, H', I', ⟨t, rfl⟩, q⟩
    | next => exact False.elim done
    | brk => exact False.elim done
    | cont => exact False.elim done
/-- f'..' of two parts or more, by a name -/
def tJn (ts : List TE) : TE := fun σ H Q => tJs ts Str.empty σ H fun out H1 => Q (.str out) H1
theorem pe_jn {v1 v2 : Expr} {rest : List Expr} {ts : List TE} {pos : Pos} (h : PJ X (v1 :: v2 :: rest) ts) : PE X (.JoinedStr (v1 :: v2 :: rest) pos) (tJn ts) := pe_joined h
/-! ### {x!r} of data -/
def tFmtRD (K : PySem.W.Frag) (te : TE) : TE := fun σ H Q => te σ H fun x H1 => ∃ d : PyData, Dp K H1 x d ∧ d.showable = true ∧ d.hasDict = false ∧ d.depth ≤ 60 ∧ d.shown.length ≤ sizeLine ∧ Q (.str d.shown) H1
theorem pe_fmtRD {e : Expr} {te : TE} {pos : Pos} (deep : X.A.units + 64 < cLine) (quiet : X.A.guards = some []) (he : PE X e te) : PE X (.FormattedValue e 114 none pos) (tFmtRD X.K te) := by
  refine ⟨fun pins s σ H Q I h => ?_⟩
  refine wpAny_FormattedValue_repr (thn (he.run pins s σ H _ I h) fun v s1 ⟨x, H1, I1, r1, d, dp, h1, h2, h3, h4, q⟩ => ?_)
  obtain ⟨as, rd⟩ := Dp.reads I1 d x v dp r1
  cases dp with
  | non =>
    cases r1
    exact pyReprObj_none (wpAny_formatField_str ⟨.str "None", H1, I1.tok _, ⟨_, rfl⟩, q⟩ ⟨.str "None", H1, I1.tok _, ⟨_, rfl⟩, q⟩ h4)
  | bl b =>
    cases r1
    exact pyReprObj_bool (wpAny_formatField_str ⟨.str _, H1, I1.tok _, ⟨_, rfl⟩, q⟩ ⟨.str _, H1, I1.tok _, ⟨_, rfl⟩, q⟩ h4)
  | int i =>
    obtain ⟨t, rfl⟩ := r1
    exact pyReprObj_int (of_decide_eq_true h1) (wpAny_formatField_str ⟨.str _, H1, I1.tok _, ⟨_, rfl⟩, q⟩ ⟨.str _, H1, I1.tok _, ⟨_, rfl⟩, q⟩ h4)
  | str y =>
    obtain ⟨t, rfl⟩ := r1
    exact pyReprObj_str (wpAny_formatField_str ⟨.str _, H1, I1.tok _, ⟨_, rfl⟩, q⟩ ⟨.str _, H1, I1.tok _, ⟨_, rfl⟩, q⟩ h4) h4
  | lst _ _ =>
    cases r1
    exact pyReprObj_of_reads rd h1 (fun z => absurd (h2.symm.trans z) (by decide)) quiet (by omega) (fun _ _ z => z) (fun hx u tk kp => wpAny_formatField_str ⟨.str _, H1, I1.kept kp, ⟨_, rfl⟩, q⟩ ⟨.str _, H1, (I1.kept (t' := tk) kp).tok _, ⟨_, rfl⟩, q⟩ h4) h4
  | tup _ _ =>
    cases r1
    exact pyReprObj_of_reads rd h1 (fun z => absurd (h2.symm.trans z) (by decide)) quiet (by omega) (fun _ _ z => z) (fun hx u tk kp => wpAny_formatField_str ⟨.str _, H1, I1.kept kp, ⟨_, rfl⟩, q⟩ ⟨.str _, H1, (I1.kept (t' := tk) kp).tok _, ⟨_, rfl⟩, q⟩ h4) h4
end
theorem pe_fmtRDK {X : Cx} {e : Expr} {te : TE} {pos : Pos} (K : PySem.W.Frag) (deep : X.A.units + 64 < cLine) (quiet : X.A.guards = some []) (he : PE X e te) (hK : X.K = K := by rfl) : PE X (.FormattedValue e 114 none pos) (tFmtRD K te) := by
  subst hK
  exact pe_fmtRD deep quiet he
section
variable {P : Program} {w : World} {K : PySem.W.Frag} {mg : Str → Option Value} {base : Heap}
/-- a def that is called where no repr is under way -/
def CalG (P : Program) (w : World) (K : PySem.W.Frag) (mg : Str → Option Value) (base : Heap) (k : Nat) (x : Str) (ps : List Str) (sp : Sp) : Prop := ∃ f fd, FnG P w K mg base CX0 k f fd ps sp ∧ mg x = some (.ref f) ∧ PySem.W.keepIn K (.ref f) = true ∧ Binds K fd ps []
theorem pe_calG {X : Cx} {k : Nat} {x : Str} {ps : List Str} {sp : Sp} {e : Expr} {es : List Expr} {t : TA} {p pos : Pos} (c : CalG X.prog X.w X.K X.mg X.base k x ps sp) (quiet : X.A.guards = some []) (hr : Room k X.A) (gl : Gl X x) (ha : PA X (e :: es) t) (nodebug : (x == ("__debug__" : Str)) = false := by decide)
    (one : starEach (e :: es) X.env = (false, eval e X.env) :: starEach es X.env := by rfl) (nostar : (backTo pos (starEach es X.env)).any (·.1) = false := by rfl) : PE X (.Call (.Name x p) (e :: es) [] pos) (tCallG sp E0 t) := by
  obtain ⟨f, fd, F, hm, hk, hb⟩ := c
  exact pe_callG F quiet hr gl hm hk hb pass0 ha nodebug one nostar
end
end Tg

namespace Tg
open PySem PySem.Spec PyProof.Rows L2
/-! ### enumerate(t), t a tuple -/
set_option maxHeartbeats 1000000 in
theorem enum1_new {v : Value} {o : Obj} {Ok : Heap → Prop} (B : Begins v o Ok) :
    Meets (Builtin.«enumerate.__new__» ⟨[.type "enumerate", v], []⟩) (fun _ R s => Ok s.heap ∧ R (.ok (.ret (.ref (s.heap.push o).objs.size))) { s with heap := (s.heap.push o).push { cls := .type "enumerate", data := .fields #[.none, .bool false, .ref s.heap.objs.size, rawInt 0, .none, .none] } }) :=
  .of_wp fun prog w A R s want => by
    obtain ⟨hp, g, d, tk, os⟩ := s; obtain ⟨ok, want⟩ := want
    have isub := sub_enumerate
    have it0 : ∀ {A' : Around} {E : Value → Shared → Prop} {Q : Value → Shared → Prop}, Q (.ref hp.objs.size) ⟨hp.push o, g, d, tk, os⟩ → wpAny (model prog w) A' (pyIter v) Q E ⟨hp, g, d, tk, os⟩ := fun q => B.iter prog w _ _ ⟨hp, g, d, tk, os⟩ _ ok q
    wp_walk using it0
    apply wpAny_stack_any; intro fr; apply wpAny_pure
    split
    · rename_i c _ _ _ _ _
      cases (c == Value.type "enumerate") <;> (wp_walk using it0; exact ⟨_, rfl, want⟩)
    · wp_walk using it0; exact ⟨_, rfl, want⟩
theorem enum1_made {prog : Program} {w : World} {A : Around} {E : Value → Shared → Prop} {s : Shared} {v : Value} {o : Obj} {Ok : Heap → Prop} {Q : Value → Shared → Prop} (B : Begins v o Ok) (ok : Ok s.heap)
    (h : ∀ h', IsEnum h' (s.heap.objs.size + 1) s.heap.objs.size 0 .none → h'.get? s.heap.objs.size = some o → (∀ b o, s.heap.get? b = some o → h'.get? b = some o) → Q (.ref (s.heap.objs.size + 1)) { s with heap := h' }) :
    wpAny (model prog w) A (call (.type "enumerate") [v]) Q E s := by
  refine callType_new F.called_enumerate (by decide) (F.typeCall_enumerate_1 _) (F.newCall_enumerate_1 _) (fun obj => F.args_object_init_2 obj _) F.entry_enumerate_new (enum1_new B) ⟨ok, ?_⟩
  have more : (s.heap.push o).objs.size = s.heap.objs.size + 1 := by rw [Heap.size_push]
  show _ ∧ _
  rw [more]
  have he : IsEnum ((s.heap.push o).push { cls := .type "enumerate", data := .fields #[.none, .bool false, .ref s.heap.objs.size, rawInt 0, .none, .none] }) (s.heap.objs.size + 1) s.heap.objs.size 0 .none := by
    have z := Heap.get?_push_size (s.heap.push o) (o := { cls := .type "enumerate", data := .fields #[.none, .bool false, .ref s.heap.objs.size, rawInt 0, .none, .none] }) rfl
    rw [more] at z
    exact z
  exact ⟨⟨_, he, rfl⟩, h _ he (Heap.get?_push_of_some _ (Heap.get?_push_size _ B.free)) fun b o x => Heap.get?_push_of_some _ (Heap.get?_push_of_some _ x)⟩
/-- the tuple at a, each item with its place in a new pair -/
def IteT (K : PySem.W.Frag) (a : Addr) : It :=
  ⟨fun i H => ∃ (xs : List V) (x : V), SqT K H a xs ∧ xs[i]? = some x,
    fun i H v H' => ∃ T x, v = .ref T ∧ H T = none ∧ H' = upd H T (.tup [.int (i : Nat), x]) ∧ ∀ xs, SqT K H a xs → xs[i]? = some x,
    fun i H => ∃ xs : List V, SqT K H a xs ∧ xs.length = i⟩
theorem apart_ti {h : Heap} {a it : Addr} {items : Array Value} {i : Nat} (h1 : h.IsTuple a items) (h2 : h.IsTupleIter it a i) : a ≠ it := fun z => by
  obtain ⟨o, e, c, _⟩ := h1
  obtain ⟨o2, e2, c2, _⟩ := h2
  rw [z, e2] at e
  cases e
  rw [c2] at c
  exact absurd c (by decide)
theorem apart_te {h : Heap} {a e it : Addr} {items : Array Value} {k : Int} {old : Value} (h1 : h.IsTuple a items) (h2 : IsEnum h e it k old) : e ≠ a := fun z => by
  obtain ⟨o, e1, c, _⟩ := h1
  have h3 : h.get? a = _ := z ▸ h2
  rw [h3] at e1
  cases e1
  have c' : Value.type "enumerate" = Value.type "tuple" := c
  exact absurd c' (by decide)
theorem turn_enumT {P : Program} {w : World} {K : PySem.W.Frag} {elts : List Expr} {kk : Nat} {tpos : Pos} (a e it : Addr) :
    Turn P w K (.Tuple elts kk tpos) (IteT K a) [e, it] e (fun i h => (∃ old, IsEnum h e it (0 + (i : Int)) old) ∧ h.IsTupleIter it a i ∧ e ≠ it) where
  mem := List.mem_cons_self
  obj := fun i h st b hb => by
    obtain ⟨⟨old, he⟩, ⟨o, ho, _, hd⟩, _⟩ := st
    rw [List.mem_cons, List.mem_singleton] at hb
    rcases hb with rfl | rfl
    · exact ⟨_, he, fun v q => nomatch q⟩
    · exact ⟨o, ho, fun v q => by rw [hd] at q; cases q⟩
  keep := fun i h h' st k => ⟨st.1.imp fun old he => k e List.mem_cons_self _ he, st.2.1.at fun o q => k it (List.mem_cons_of_mem _ List.mem_cons_self) o q, st.2.2⟩
  item := by
    rintro X rfl rfl rfl hc i pins s σ H E I hf ⟨⟨old, he⟩, hit, hne⟩ ⟨xs, x, hq, hx⟩
    obtain ⟨its, rv, ist, _⟩ := I.tuple hq
    obtain ⟨u, hu, ru⟩ := Vals.get rv hx
    have isT : s.heap.IsTuple a its.toArray := ist
    have n1 := apart_ti isT hit
    have n2 := apart_te isT he
    have hil : i < its.toArray.size := by
      have := (List.getElem?_eq_some_iff.mp hu).1
      simpa using this
    have calm : X.A.in1.handled = none := by
      have := I.ok.hd hc
      simp [this]
    have G := GoesN.enumFrom (prog := X.prog) (w := X.w) (A := X.A) (elts := elts) (x1 := kk) (pos := tpos) 0 (Draws.tuple (prog := X.prog) (w := X.w) calm it a n1 its.toArray) e hne (by simp [hne, n2]) List.mem_cons_self
    refine G.goes i s _ E hil ⟨⟨old, he⟩, hit, isT⟩ fun v h' tk hy st' hk _ => ?_
    obtain ⟨T, t, u', ev, hT, hp, isp⟩ := hy
    obtain rfl : u' = u := by
      have z : its.toArray[i]? = some u' := hp
      rw [List.getElem?_toArray, hu] at z
      exact (Option.some.inj z).symm
    have new : ObjOk X.prog X.w (upd H T (.tup [.int (i : Nat), x])) h' T (.tup [.int (i : Nat), x]) := by
      refine ⟨by show 2 ≤ sizeLine; decide, [.int (0 + (i : Int)) t, u'], .cons ⟨_, by rw [Int.zero_add]⟩ (.cons ru .nil), isp⟩
    have J : Inv X pins σ (upd H T (.tup [.int (i : Nat), x])) { s with heap := h', toks := tk } := I.turnedNew (ch := [e, it]) (fun b ob hb q => hk b ob hb q) hf hT new
    refine ⟨.ref T, _, J, by rw [ev]; rfl, ⟨T, x, rfl, I.hok.fresh hT, rfl, fun ys hy => by rw [I.tuple_inj hy hq]; exact hx⟩, ⟨?_, st'.2.1, hne⟩, fun b hb => ?_⟩
    · obtain ⟨old2, he2⟩ := st'.1
      exact ⟨old2, he2⟩
    · have lt : b < s.heap.objs.size := by
        rw [List.mem_cons, List.mem_singleton] at hb
        rcases hb with rfl | rfl
        · exact Heap.lt_size he
        · obtain ⟨_, q, _⟩ := hit
          exact Heap.lt_size q
      rw [upd_ne (Nat.ne_of_lt (Nat.lt_of_lt_of_le lt hT))]
      exact (hf b hb).1
  done := by
    rintro X rfl rfl rfl hc i pins s σ H E I hf ⟨⟨old, he⟩, hit, hne⟩ ⟨xs, hq, hx⟩
    obtain ⟨its, rv, ist, _⟩ := I.tuple hq
    have isT : s.heap.IsTuple a its.toArray := ist
    have n1 := apart_ti isT hit
    have n2 := apart_te isT he
    have calm : X.A.in1.handled = none := by
      have := I.ok.hd hc
      simp [this]
    have ei : its.toArray.size = i := by
      rw [← hx, rv.length]
      simp
    have G := GoesN.enumFrom (prog := X.prog) (w := X.w) (A := X.A) (elts := elts) (x1 := kk) (pos := tpos) 0 (Draws.tuple (prog := X.prog) (w := X.w) calm it a n1 its.toArray) e hne (by simp [hne, n2]) List.mem_cons_self
    refine G.stops s _ E (by rw [ei]; exact ⟨⟨old, he⟩, hit, isT⟩) fun h' tk hk _ => ?_
    exact I.turnedL (t' := tk) (ch := [e, it]) (fun b ob hb q => hk b ob hb q) hf
  self := fun A i s Q E st q => by
    obtain ⟨⟨old, he⟩, _⟩ := st
    exact wpAny_pyIter_enum he q
end Tg

namespace Tg
open PySem PySem.Spec PyProof.Rows L2
def iEnumT (K : PySem.W.Frag) (ta : TA) : TI := fun σ H R => ta σ H fun vs H1 => ∃ (a : Addr) (xs : List V), vs = [.ref a] ∧ SqT K H1 a xs ∧ R (IteT K a) H1
theorem pi_enumT {X : Cx} {e : Expr} {ta : TA} {p pos tpos : Pos} {elts : List Expr} {kk : Nat} (hg : Gl X "enumerate") (hm : X.mg "enumerate" = none) (ha : PA X [e] ta) (hs : starEach [e] X.env = [(false, eval e X.env)] := by rfl) :
    PI X (.Tuple elts kk tpos) (.Call (.Name "enumerate" p) [e] [] pos) (iEnumT X.K ta) := by
  constructor
  intro pins s σ H R I told
  refine Call_ (ld_blt I hg hm boot_enumerate (callWith_type1 (thn (ha.run pos pins s σ H _ I told) fun us s1 come => ?_) hs rfl))
  obtain ⟨_, H1, I1, r1, a, xs, rfl, hq, q⟩ := come
  cases r1 with
  | cons r rr =>
    cases rr
    cases r
    obtain ⟨its, rv, ist, _⟩ := I1.tuple hq
    have isT : s1.heap.IsTuple a its.toArray := ist
    refine enum1_made (begins_tuple a its.toArray) isT fun h' he hit hk => wpAny_pyIter_enum he ?_
    have I2 := I1.kept (t' := s1.toks) hk
    refine ⟨s1.heap.objs.size + 1, [s1.heap.objs.size + 1, s1.heap.objs.size], _, _, H1, rfl, I2, turn_enumT a (s1.heap.objs.size + 1) s1.heap.objs.size, ⟨⟨.none, he⟩, ⟨_, hit, rfl, rfl⟩, Nat.succ_ne_self _⟩, fun b hb => ?_, q⟩
    have late : s1.heap.objs.size ≤ b := by
      rw [List.mem_cons, List.mem_singleton] at hb
      rcases hb with rfl | rfl
      · exact Nat.le_succ _
      · exact Nat.le_refl _
    exact I1.fpOk late (I1.hok.fresh late)
theorem walk_enumT {K : PySem.W.Frag} {a : Addr} {xs : List V} : Walk (IteT K a) xs.length (fun H => SqT K H a xs) (YPair (fun i => some (.int (i : Nat))) (fun i => xs[i]?)) := by
  refine ⟨fun i _ hi q => ⟨xs, xs[i], q, by simp [hi]⟩, fun _ q => ⟨xs, q, rfl⟩, fun i _ _ _ _ q ⟨T, x, e, n, l, at_i⟩ => ?_⟩
  exact ⟨T, .int (i : Nat), x, e, n, l, rfl, at_i xs q⟩
theorem walk_zipTT {K : PySem.W.Frag} {a b : Addr} {xs ys : List V} (hl : xs.length = ys.length) : Walk (RZ.ItzT K a b) xs.length (fun H => SqT K H a xs ∧ SqT K H b ys) (YPair (fun i => xs[i]?) (fun i => ys[i]?)) := by
  refine ⟨fun i _ hi q => ⟨xs, ys, xs[i], ys[i]'(hl ▸ hi), q.1, q.2, by simp [hi], by simp [hl ▸ hi]⟩, fun _ q => ⟨xs, ys, q.1, q.2, .inl (Nat.le_refl _)⟩, fun i _ _ _ _ q ⟨T, x, z, e, n, l, one, two⟩ => ?_⟩
  exact ⟨T, x, z, e, n, l, one xs q.1, two ys q.2⟩
/-! ### zip of three tuples -/
def Itz3 (K : PySem.W.Frag) (a b c : Addr) : It :=
  ⟨fun i H => ∃ (xs ys zs : List V) (x y z : V), SqT K H a xs ∧ SqT K H b ys ∧ SqT K H c zs ∧ xs[i]? = some x ∧ ys[i]? = some y ∧ zs[i]? = some z,
    fun i H v H' => ∃ T x y z, v = .ref T ∧ H T = none ∧ H' = upd H T (.tup [x, y, z]) ∧ (∀ xs, SqT K H a xs → xs[i]? = some x) ∧ (∀ ys, SqT K H b ys → ys[i]? = some y) ∧ ∀ zs, SqT K H c zs → zs[i]? = some z,
    fun i H => ∃ xs ys zs : List V, SqT K H a xs ∧ SqT K H b ys ∧ SqT K H c zs ∧ min (min xs.length ys.length) zs.length = i⟩
theorem mem56 {z TI TO i1 i2 i3 e : Addr} (h : e ∈ [z, TO, i1, i2, i3]) : e ∈ [z, TI, TO, i1, i2, i3] := by
  rw [List.mem_cons] at h ⊢
  exact h.imp id fun q => List.mem_cons_of_mem _ q
theorem turn_zip3T {P : Program} {w : World} {K : PySem.W.Frag} {elts : List Expr} {kk : Nat} {tpos : Pos} {z TI TO i1 i2 i3 a b c : Addr} (S : ZipSep3 z TI TO i1 i2 i3 [i1, a] [i2, b] [i3, c]) (n1 : a ≠ i1) (n2 : b ≠ i2) (n3 : c ≠ i3) :
    Turn P w K (.Tuple elts kk tpos) (Itz3 K a b c) [z, TI, TO, i1, i2, i3] z (fun i h => IsZip h z TI TO .none ∧ IsTupOf3 h TI (.ref i1) (.ref i2) (.ref i3) ∧ (∃ a1 a2 a3, IsTupOf3 h TO a1 a2 a3) ∧ h.IsTupleIter i1 a i ∧ h.IsTupleIter i2 b i ∧ h.IsTupleIter i3 c i) where
  mem := List.mem_cons_self
  obj := fun i h st e he => by
    obtain ⟨hz, hTI, ⟨_, _, _, hTO⟩, ⟨o1, e1, _, d1⟩, ⟨o2, e2, _, d2⟩, ⟨o3, e3, _, d3⟩⟩ := st
    simp only [List.mem_cons, List.not_mem_nil, or_false] at he
    rcases he with rfl | rfl | rfl | rfl | rfl | rfl
    · exact ⟨_, hz, fun v q => nomatch q⟩
    · exact ⟨_, hTI, fun v q => nomatch q⟩
    · exact ⟨_, hTO, fun v q => nomatch q⟩
    · exact ⟨o1, e1, fun v q => by rw [d1] at q; cases q⟩
    · exact ⟨o2, e2, fun v q => by rw [d2] at q; cases q⟩
    · exact ⟨o3, e3, fun v q => by rw [d3] at q; cases q⟩
  keep := fun i h h' st k => by
    obtain ⟨hz, hTI, ⟨a1, a2, a3, hTO⟩, h1, h2, h3⟩ := st
    exact ⟨k z (by simp) _ hz, k TI (by simp) _ hTI, ⟨a1, a2, a3, k TO (by simp) _ hTO⟩, h1.at fun o q => k i1 (by simp) o q, h2.at fun o q => k i2 (by simp) o q, h3.at fun o q => k i3 (by simp) o q⟩
  item := by
    rintro X rfl rfl rfl hc i pins s σ H E I hf ⟨hz, hTI, hTO, h1, h2, h3⟩ ⟨xs, ys, zs, x, y, u, hqx, hqy, hqz, hx, hy, hu⟩
    obtain ⟨l1, rv1, p1, _⟩ := I.tuple hqx
    obtain ⟨l2, rv2, p2, _⟩ := I.tuple hqy
    obtain ⟨l3, rv3, p3, _⟩ := I.tuple hqz
    obtain ⟨u1, hu1, ru1⟩ := rv1.get hx
    obtain ⟨u2, hu2, ru2⟩ := Vals.get rv2 hy
    obtain ⟨u3, hu3, ru3⟩ := rv3.get hu
    have q1 : s.heap.IsTuple a l1.toArray := p1
    have q2 : s.heap.IsTuple b l2.toArray := p2
    have q3 : s.heap.IsTuple c l3.toArray := p3
    have g1 := (List.getElem?_eq_some_iff.mp hu1).1
    have g2 := (List.getElem?_eq_some_iff.mp hu2).1
    have g3 := (List.getElem?_eq_some_iff.mp hu3).1
    have calm : X.A.in1.handled = none := by
      have := I.ok.hd hc
      simp [this]
    have G := GoesN.zip3 (prog := X.prog) (w := X.w) (A := X.A) (elts := elts) (x1 := kk) (pos := tpos) S (Draws.tuple (prog := X.prog) (w := X.w) calm i1 a n1 l1.toArray) (Draws.tuple (prog := X.prog) (w := X.w) calm i2 b n2 l2.toArray) (Draws.tuple (prog := X.prog) (w := X.w) calm i3 c n3 l3.toArray)
    refine G.goes i s _ E (by simp only [List.size_toArray]; omega) ⟨hz, hTI, hTO, ⟨h1, q1⟩, ⟨h2, q2⟩, ⟨h3, q3⟩⟩ fun v h' tk hyl st' hk _ => ?_
    obtain ⟨T, v1, v2, v3, ev, hT, w1, w2, w3, isp⟩ := hyl
    obtain rfl : v1 = u1 := by
      have w1' : l1.toArray[i]? = some v1 := w1
      rw [List.getElem?_toArray, hu1] at w1'
      exact (Option.some.inj w1').symm
    obtain rfl : v2 = u2 := by
      have w2' : l2.toArray[i]? = some v2 := w2
      rw [List.getElem?_toArray, hu2] at w2'
      exact (Option.some.inj w2').symm
    obtain rfl : v3 = u3 := by
      have w3' : l3.toArray[i]? = some v3 := w3
      rw [List.getElem?_toArray, hu3] at w3'
      exact (Option.some.inj w3').symm
    have new : ObjOk X.prog X.w (upd H T (.tup [x, y, u])) h' T (.tup [x, y, u]) :=
      ⟨by show 3 ≤ sizeLine; decide, [v1, v2, v3], .cons ru1 (.cons ru2 (.cons ru3 .nil)), isp⟩
    have J : Inv X pins σ (upd H T (.tup [x, y, u])) { s with heap := h', toks := tk } := I.turnedNew (ch := [z, TI, TO, i1, i2, i3]) (fun e ob hb q => hk e ob (fun hm => hb (mem56 hm)) q) hf hT new
    obtain ⟨sz, sTI, sTO, s1, s2, s3⟩ := st'
    refine ⟨.ref T, _, J, by rw [ev]; rfl, ⟨T, x, y, u, rfl, I.hok.fresh hT, rfl, fun l hl => by rw [I.tuple_inj hl hqx]; exact hx, fun l hl => by rw [I.tuple_inj hl hqy]; exact hy, fun l hl => by rw [I.tuple_inj hl hqz]; exact hu⟩, ⟨sz, sTI, sTO, s1.1, s2.1, s3.1⟩, fun e he => ?_⟩
    have lt : e < s.heap.objs.size := by
      obtain ⟨_, _, _, hTO⟩ := hTO
      obtain ⟨_, e1, _⟩ := h1
      obtain ⟨_, e2, _⟩ := h2
      obtain ⟨_, e3, _⟩ := h3
      simp only [List.mem_cons, List.not_mem_nil, or_false] at he
      rcases he with rfl | rfl | rfl | rfl | rfl | rfl
      · exact Heap.lt_size hz
      · exact Heap.lt_size hTI
      · exact Heap.lt_size hTO
      · exact Heap.lt_size e1
      · exact Heap.lt_size e2
      · exact Heap.lt_size e3
    rw [upd_ne (Nat.ne_of_lt (Nat.lt_of_lt_of_le lt hT))]
    exact (hf e he).1
  done := by
    rintro X rfl rfl rfl hc i pins s σ H E I hf ⟨hz, hTI, hTO, h1, h2, h3⟩ ⟨xs, ys, zs, hqx, hqy, hqz, hn⟩
    obtain ⟨l1, rv1, p1, _⟩ := I.tuple hqx
    obtain ⟨l2, rv2, p2, _⟩ := I.tuple hqy
    obtain ⟨l3, rv3, p3, _⟩ := I.tuple hqz
    have q1 : s.heap.IsTuple a l1.toArray := p1
    have q2 : s.heap.IsTuple b l2.toArray := p2
    have q3 : s.heap.IsTuple c l3.toArray := p3
    have calm : X.A.in1.handled = none := by
      have := I.ok.hd hc
      simp [this]
    have G := GoesN.zip3 (prog := X.prog) (w := X.w) (A := X.A) (elts := elts) (x1 := kk) (pos := tpos) S (Draws.tuple (prog := X.prog) (w := X.w) calm i1 a n1 l1.toArray) (Draws.tuple (prog := X.prog) (w := X.w) calm i2 b n2 l2.toArray) (Draws.tuple (prog := X.prog) (w := X.w) calm i3 c n3 l3.toArray)
    have ei : min (min l1.toArray.size l2.toArray.size) l3.toArray.size = i := by
      rw [← hn, rv1.length, rv2.length, rv3.length]
      simp
    refine G.stops s _ E (by rw [ei]; exact ⟨hz, hTI, hTO, ⟨h1, q1⟩, ⟨h2, q2⟩, ⟨h3, q3⟩⟩) fun h' tk hk _ => ?_
    exact I.turnedL (t' := tk) (ch := [z, TI, TO, i1, i2, i3]) (fun e ob hb q => hk e ob (fun hm => hb (mem56 hm)) q) hf
  self := fun _ _ _ _ _ st => wpAny_pyIter_zip st.1
def iZip3 (K : PySem.W.Frag) (ta : TA) : TI := fun σ H R => ta σ H fun vs H1 => ∃ a b c xs ys zs, vs = [.ref a, .ref b, .ref c] ∧ SqT K H1 a xs ∧ SqT K H1 b ys ∧ SqT K H1 c zs ∧ R (Itz3 K a b c) H1
theorem pi_zip3T {X : Cx} {e e2 e3 : Expr} {ta : TA} {p pos tpos : Pos} {elts : List Expr} {kk : Nat} (hg : Gl X "zip") (hm : X.mg "zip" = none) (ha : PA X [e, e2, e3] ta)
    (hs : starEach [e, e2, e3] X.env = (false, eval e X.env) :: starEach [e2, e3] X.env := by rfl) (hpl : (backTo pos (starEach [e2, e3] X.env)).any (·.1) = false := by rfl) :
    PI X (.Tuple elts kk tpos) (.Call (.Name "zip" p) [e, e2, e3] [] pos) (iZip3 X.K ta) := by
  constructor
  intro pins s σ H R I told
  refine Call_ (ld_blt I hg hm boot_zip (callWith_type1 (thn (ha.run pos pins s σ H _ I told) fun us s1 come => ?_) hs hpl))
  obtain ⟨_, H1, I1, r1, a, b, c, xs, ys, zs, rfl, hqx, hqy, hqz, q⟩ := come
  cases r1 with
  | cons r rr =>
  cases rr with
  | cons r' rr =>
  cases rr with
  | cons r'' rr =>
    cases rr
    cases r
    cases r'
    cases r''
    obtain ⟨l1, rv1, p1, _⟩ := I1.tuple hqx
    obtain ⟨l2, rv2, p2, _⟩ := I1.tuple hqy
    obtain ⟨l3, rv3, p3, _⟩ := I1.tuple hqz
    have q1 : s1.heap.IsTuple a l1.toArray := p1
    have q2 : s1.heap.IsTuple b l2.toArray := p2
    have q3 : s1.heap.IsTuple c l3.toArray := p3
    obtain ⟨o1, e1, _⟩ := id q1
    obtain ⟨o2, e2, _⟩ := id q2
    obtain ⟨o3, e3, _⟩ := id q3
    have la : a < s1.heap.objs.size := Heap.lt_size e1
    have lb : b < s1.heap.objs.size := Heap.lt_size e2
    have lc : c < s1.heap.objs.size := Heap.lt_size e3
    refine zip_begins3 (begins_tuple a l1.toArray) (begins_tuple b l2.toArray) (begins_tuple c l3.toArray) q1 q2 q3 fun h' hz hTI hTO t1 t2 t3 _ hk => wpAny_pyIter_zip hz ?_
    have I2 := I1.kept (t' := s1.toks) hk
    refine ⟨s1.heap.objs.size + 5, [s1.heap.objs.size + 5, s1.heap.objs.size + 3, s1.heap.objs.size + 4, s1.heap.objs.size, s1.heap.objs.size + 1, s1.heap.objs.size + 2], _, _, H1, rfl, I2,
      turn_zip3T (zip_sep3 (N := s1.heap.objs.size) (fp1 := [a]) (fp2 := [b]) (fp3 := [c]) (fun d hd => by simp at hd; rw [hd]; exact la) (fun d hd => by simp at hd; rw [hd]; exact lb) (fun d hd => by simp at hd; rw [hd]; exact lc)) (Nat.ne_of_lt la) (Nat.ne_of_lt (Nat.lt_succ_of_lt lb)) (Nat.ne_of_lt (Nat.lt_succ_of_lt (Nat.lt_succ_of_lt lc))),
      ⟨hz, hTI, ⟨_, _, _, hTO⟩, ⟨_, t1, rfl, rfl⟩, ⟨_, t2, rfl, rfl⟩, ⟨_, t3, rfl, rfl⟩⟩, fun d hd => ?_, q⟩
    have late : s1.heap.objs.size ≤ d := by
      simp only [List.mem_cons, List.not_mem_nil, or_false] at hd
      rcases hd with rfl | rfl | rfl | rfl | rfl | rfl
      · exact Nat.le_add_right _ _
      · exact Nat.le_add_right _ _
      · exact Nat.le_add_right _ _
      · exact Nat.le_refl _
      · exact Nat.le_add_right _ _
      · exact Nat.le_add_right _ _
    exact I1.fpOk late (I1.hok.fresh late)
def YTri (xs ys zs : List V) : Nat → Hp → V → Hp → Prop := fun i H v H' => ∃ T x y z, v = .ref T ∧ H T = none ∧ H' = upd H T (.tup [x, y, z]) ∧ xs[i]? = some x ∧ ys[i]? = some y ∧ zs[i]? = some z
theorem walk_zip3T {K : PySem.W.Frag} {a b c : Addr} {xs ys zs : List V} (h1 : ys.length = xs.length) (h2 : zs.length = xs.length) : Walk (Itz3 K a b c) xs.length (fun H => SqT K H a xs ∧ SqT K H b ys ∧ SqT K H c zs) (YTri xs ys zs) := by
  refine ⟨fun i _ hi q => ⟨xs, ys, zs, xs[i], ys[i]'(h1.symm ▸ hi), zs[i]'(h2.symm ▸ hi), q.1, q.2.1, q.2.2, by simp [hi], by simp [h1.symm ▸ hi], by simp [h2.symm ▸ hi]⟩, fun _ q => ⟨xs, ys, zs, q.1, q.2.1, q.2.2, by omega⟩, fun i H v H' _ q y => ?_⟩
  obtain ⟨T, x, y, z, e1, e2, e3, f1, f2, f3⟩ := y
  exact ⟨T, x, y, z, e1, e2, e3, f1 xs q.1, f2 ys q.2.1, f3 zs q.2.2⟩
/-! ### t.index(x), t a tuple of ints -/
theorem mt_tup_indexI {X : Cx} : MtR X "tuple.index" (fun x xs H Q => ∃ p, ∃ ns : List Int, ∃ k, x = .ref p ∧ xs = [.int k] ∧ SqT X.K H p (ns.map V.int) ∧ k ∈ ns ∧ Q (.int (ns.idxOf k : Nat)) H) := by
  rintro pins s σ H _ _ v us Q I rx rs ⟨p, ns, k, rfl, rfl, hq, hk, q⟩
  cases rx
  obtain ⟨_, rfl, t, rfl⟩ := vals1 rs
  have ⟨its, r, pl, hz⟩ := I.tuple hq
  have isT : s.heap.IsTuple p its.toArray := pl
  have hi : IntsAre its ns := by
    clear hq isT pl hz hk q
    induction ns generalizing its with
    | nil => cases r; exact .nil
    | cons n ns ih =>
      cases r with
      | cons r1 rr =>
        obtain ⟨t', rfl⟩ := r1
        exact .cons _ _ (ih _ rr)
  exact PySem.SeqAt.tuple_index_ints isT hi hk ⟨.int (ns.idxOf k : Nat), H, I.tok _, ⟨_, rfl⟩, q⟩
end Tg

/-! enumerate(t) and enumerate(t, start=k), t a text -/
namespace Tg
open PySem PySem.Spec PyProof.Rows L2
/-- each sign of the text z in a new pair with its place, counted from c on -/
def ItS (z : Str) (c : Int) : It :=
  ⟨fun i _ => i < z.cps.size, fun i H v H' => ∃ T n, v = .ref T ∧ H T = none ∧ H' = upd H T (.tup [.int (c + (i : Int)), .str ⟨#[n]⟩]) ∧ z.cps[i]? = some n, fun i _ => z.cps.size = i⟩
theorem turn_enumS {P : Program} {w : World} {K : PySem.W.Frag} {elts : List Expr} {kk : Nat} {tpos : Pos} (z : Str) (tz : Tok) (c : Int) (e it : Addr) :
    Turn P w K (.Tuple elts kk tpos) (ItS z c) [e, it] e (fun i h => (∃ old, IsEnum h e it (c + (i : Int)) old) ∧ h.IsStrIter it (strIterType z) z tz i ∧ e ≠ it) where
  mem := List.mem_cons_self
  obj := fun i h st b hb => by
    obtain ⟨⟨old, he⟩, ⟨o, ho, _, hd⟩, _⟩ := st
    rw [List.mem_cons, List.mem_singleton] at hb
    rcases hb with rfl | rfl
    · exact ⟨_, he, fun _ q => nomatch q⟩
    · exact ⟨o, ho, fun _ q => by rw [hd] at q; cases q⟩
  keep := fun i h h' st k => by
    obtain ⟨⟨old, he⟩, ⟨o, ho, r⟩, ne⟩ := st
    exact ⟨⟨old, k e List.mem_cons_self _ he⟩, ⟨o, k it (List.mem_cons_of_mem _ List.mem_cons_self) _ ho, r⟩, ne⟩
  item := by
    rintro X rfl rfl rfl hc i pins s σ H E I hf ⟨⟨old, he⟩, hit, hne⟩ lt
    have calm : X.A.in1.handled = none := by
      have := I.ok.hd hc
      simp [this]
    have G := GoesN.enumFrom (prog := X.prog) (w := X.w) (A := X.A) (elts := elts) (x1 := kk) (pos := tpos) c (Draws.text (prog := X.prog) (w := X.w) calm it z tz) e hne (by simp [hne]) List.mem_cons_self
    refine G.goes i s _ E lt ⟨⟨old, he⟩, hit⟩ fun v h' tk hy st' hk _ => ?_
    obtain ⟨T, t, u, ev, hT, ⟨n, tn, hn, rfl⟩, isp⟩ := hy
    have new : ObjOk X.prog X.w (upd H T (.tup [.int (c + (i : Int)), .str ⟨#[n]⟩])) h' T (.tup [.int (c + (i : Int)), .str ⟨#[n]⟩]) :=
      ⟨Nat.le_trans (show 2 ≤ 1000 by decide) (by decide), [.int (c + (i : Int)) t, .str ⟨#[n]⟩ tn], .cons ⟨_, rfl⟩ (.cons ⟨_, rfl⟩ .nil), isp⟩
    have J : Inv X pins σ (upd H T (.tup [.int (c + (i : Int)), .str ⟨#[n]⟩])) { s with heap := h', toks := tk } := I.turnedNew (ch := [e, it]) (fun b ob hb q => hk b ob hb q) hf hT new
    refine ⟨.ref T, _, J, by rw [ev]; rfl, ⟨T, n, rfl, I.hok.fresh hT, rfl, hn⟩, ⟨st'.1, st'.2, hne⟩, fun b hb => ?_⟩
    have low : b < s.heap.objs.size := by
      rw [List.mem_cons, List.mem_singleton] at hb
      rcases hb with rfl | rfl
      · exact Heap.lt_size he
      · obtain ⟨_, q, _⟩ := hit
        exact Heap.lt_size q
    rw [upd_ne (Nat.ne_of_lt (Nat.lt_of_lt_of_le low hT))]
    exact (hf b hb).1
  done := by
    rintro X rfl rfl rfl hc i pins s σ H E I hf ⟨⟨old, he⟩, hit, hne⟩ ei
    have calm : X.A.in1.handled = none := by
      have := I.ok.hd hc
      simp [this]
    have G := GoesN.enumFrom (prog := X.prog) (w := X.w) (A := X.A) (elts := elts) (x1 := kk) (pos := tpos) c (Draws.text (prog := X.prog) (w := X.w) calm it z tz) e hne (by simp [hne]) List.mem_cons_self
    have ei' : z.cps.size = i := ei
    refine G.stops s _ E (by rw [ei']; exact ⟨⟨old, he⟩, hit⟩) fun h' tk hk _ => ?_
    exact I.turnedL (t' := tk) (ch := [e, it]) (fun b ob hb q => hk b ob hb q) hf
  self := fun A i s Q E st q => by
    obtain ⟨⟨old, he⟩, _⟩ := st
    exact wpAny_pyIter_enum he q
theorem walk_enumS {z : Str} {c : Int} : Walk (ItS z c) z.cps.size (fun _ => True) (fun i H v H' => ∃ T n, v = .ref T ∧ H T = none ∧ H' = upd H T (.tup [.int (c + (i : Int)), .str ⟨#[n]⟩]) ∧ z.cps[i]? = some n) :=
  ⟨fun _ _ hi _ => hi, fun _ _ => rfl, fun _ _ _ _ _ _ y => y⟩
def iEnumS (ta : TA) : TI := fun σ H R => ta σ H fun vs H1 => ∃ z, vs = [.str z] ∧ R (ItS z 0) H1
theorem pi_enumS {X : Cx} {e : Expr} {ta : TA} {p pos tpos : Pos} {elts : List Expr} {kk : Nat} (hg : Gl X "enumerate") (hm : X.mg "enumerate" = none) (ha : PA X [e] ta) (one : starEach [e] X.env = [(false, eval e X.env)] := by rfl) :
    PI X (.Tuple elts kk tpos) (.Call (.Name "enumerate" p) [e] [] pos) (iEnumS ta) := by
  constructor
  intro pins s σ H R I told
  refine Call_ (ld_blt I hg hm boot_enumerate (callWith_type1 (thn (ha.run pos pins s σ H _ I told) fun us s1 come => ?_) one rfl))
  obtain ⟨_, H1, I1, r1, z, rfl, q⟩ := come
  obtain ⟨u, rfl, tz, rfl⟩ := vals1 r1
  refine enum1_made (begins_text z tz) trivial fun h' he hit hk => wpAny_pyIter_enum he ?_
  have I2 := I1.kept (t' := s1.toks) hk
  refine ⟨s1.heap.objs.size + 1, [s1.heap.objs.size + 1, s1.heap.objs.size], _, _, H1, rfl, I2, turn_enumS z tz 0 (s1.heap.objs.size + 1) s1.heap.objs.size, ⟨⟨.none, he⟩, ⟨_, hit, rfl, rfl⟩, Nat.succ_ne_self _⟩, fun b hb => ?_, q⟩
  have late : s1.heap.objs.size ≤ b := by
    rw [List.mem_cons, List.mem_singleton] at hb
    rcases hb with rfl | rfl
    · exact Nat.le_succ _
    · exact Nat.le_refl _
  exact I1.fpOk late (I1.hok.fresh late)
/-- a built-in class called with keywords -/
theorem type_kw {M : Model} {A : Around} {E : Value → Shared → Prop} {s : Shared} {env : Env} {pos : Pos} {T : String} {e : Expr} {kws : List Keyword} {Q : Value → Shared → Prop}
    (h : wpAny M A (spliced (backTo pos (starEach [e] env))) (fun vs s1 => wpAny M A (evalAll ((backToKw pos (keywordEach kws env)).map (·.2))) (fun ks s2 => wpAny M A (call (.type T) vs (((backToKw pos (keywordEach kws env)).filterMap (·.1)).zip ks)) Q E s2) E s1) E s)
    (one : backTo pos (starEach [e] env) = (false, eval e env) :: backTo pos (starEach [] env)) (plain : (backTo pos (starEach [e] env)).any (·.1) = false) (named : (backToKw pos (keywordEach kws env)).all (·.1.isSome) = true) (nostar : (backToKw pos (keywordEach kws env)).any (·.1.isNone) = false) :
    wpAny M A (callWith pos (.type T) [] (backTo pos (starEach [e] env)) (backToKw pos (keywordEach kws env))) Q E s := by
  have args : wpAny M A (evalArgs (.type T) true (backTo pos (starEach [e] env)) (backToKw pos (keywordEach kws env))) (fun a s1 => wpAny M A (call (.type T) ([] ++ a.pos) a.kw) Q E s1) E s := by
    rw [one] at h ⊢
    exact evalArgs_kwB named h
  unfold callWith
  refine wpAny_bind (wpAny_holding (wpAny_mono args (fun a s1 told => wpAny_bind (wpAny_standAt ?_)) fun _ _ z => z))
  simp only [plain, nostar, Bool.or_false]
  exact wpAny_bind (wpAny_pure (wpAny_bind (wpAny_mono told (fun r s2 hr => wpAny_bind (wpAny_holding (wpAny_point (wpAny_pure hr)))) fun _ _ z => z)))
def iEnumSK (te tk : TE) : TI := fun σ H R => te σ H fun x H1 => tk σ H1 fun c H2 => ∃ (z : Str) (k : Int), x = .str z ∧ c = .int k ∧ -(2 ^ 63) ≤ k ∧ k < 2 ^ 63 ∧ R (ItS z k) H2
theorem pi_enumSK {X : Cx} {e ke : Expr} {te tk : TE} {p pos tpos kpos : Pos} {elts : List Expr} {kk : Nat} (hg : Gl X "enumerate") (hm : X.mg "enumerate" = none) (he : PE X e te) (hk : PE X ke tk) (one : starEach [e] X.env = (false, eval e X.env) :: starEach [] X.env := by rfl) :
    PI X (.Tuple elts kk tpos) (.Call (.Name "enumerate" p) [e] [⟨some "start", ke, kpos⟩] pos) (iEnumSK te tk) := by
  constructor
  intro pins s σ H R I told
  have first := (pa_cons he pa_nil one).run pos pins s σ H (fun vs H1 => ∃ x, vs = [x] ∧ tk σ H1 fun c H2 => ∃ (z : Str) (k : Int), x = .str z ∧ c = .int k ∧ -(2 ^ 63) ≤ k ∧ k < 2 ^ 63 ∧ R (ItS z k) H2) I (by
    show te σ H (fun x H1 => tNil σ H1 _)
    have ext : (fun x H1 => tk σ H1 fun c H2 => ∃ (z : Str) (k : Int), x = V.str z ∧ c = .int k ∧ -(2 ^ 63) ≤ k ∧ k < 2 ^ 63 ∧ R (ItS z k) H2) = fun x H1 => tNil σ H1 (fun xs H2 => ∃ y, x :: xs = [y] ∧ tk σ H2 fun c H3 => ∃ (z : Str) (k : Int), y = .str z ∧ c = .int k ∧ -(2 ^ 63) ≤ k ∧ k < 2 ^ 63 ∧ R (ItS z k) H3) := by
      funext x H1
      refine propext ⟨fun h => ⟨x, rfl, h⟩, fun h => ?_⟩
      obtain ⟨y, ey, h⟩ := h
      cases ey
      exact h
    rw [← ext]
    exact told)
  refine wpAny_Call_Name_kw (ld_blt I hg hm boot_enumerate (type_kw (thn first fun us s1 come => ?_) (by rw [one]; rfl) (by rw [one]; rfl) rfl rfl))
  obtain ⟨_, H1, I1, r1, x, rfl, q⟩ := come
  refine kws_cons (thn (hk.run pins s1 σ H1 _ I1 q) fun v s2 more => kws_nil ?_)
  obtain ⟨c, H2, I2, rc, z, k, rfl, rfl, k0, k1, q⟩ := more
  obtain ⟨u, rfl, tz, rfl⟩ := vals1 r1
  obtain ⟨tc, rfl⟩ := (show ∃ t, v = Value.int k t from rc)
  refine enum_begins_start (begins_text z tz) trivial k0 k1 fun h' he hit _ hk => wpAny_pyIter_enum he ?_
  have I3 := I2.kept (t' := s2.toks) hk
  refine ⟨s2.heap.objs.size + 1, [s2.heap.objs.size + 1, s2.heap.objs.size], _, _, H2, rfl, I3, turn_enumS z tz k (s2.heap.objs.size + 1) s2.heap.objs.size, ⟨⟨.none, by show IsEnum h' _ _ (k + ((0 : Nat) : Int)) _; rw [show k + ((0 : Nat) : Int) = k by omega]; exact he⟩, ⟨_, hit, rfl, rfl⟩, Nat.succ_ne_self _⟩, fun b hb => ?_, q⟩
  have late : s2.heap.objs.size ≤ b := by
    rw [List.mem_cons, List.mem_singleton] at hb
    rcases hb with rfl | rfl
    · exact Nat.le_succ _
    · exact Nat.le_refl _
  exact I2.fpOk late (I2.hok.fresh late)
end Tg

/-! x.rpartition(sign), where the sign is in x -/
namespace Tg
open PySem PySem.Spec PyProof.Rows L2
open Builtin.Str (lastOccurrence strSub)
section
variable {X : Cx}
theorem mt_rpart : MtR X "str.rpartition" (fun x xs H Q => ∃ (a b : Str) (i : Nat), x = .str a ∧ xs = [.str b] ∧ (b.length == 0) = false ∧ a.length ≤ sizeLine ∧ lastOccurrence a b 0 a.length = some i ∧
    ∀ p, H p = none → Q (.ref p) (upd H p (.tup [.str (strSub a 0 i), .str b, .str (strSub a (i + b.length) a.length)]))) := by
  rintro pins s σ H x xs v us Q I rx rs ⟨a, b, i, rfl, rfl, ne, small, last, q⟩
  obtain ⟨t, rfl⟩ := rx
  obtain ⟨u, rfl, tu, rfl⟩ := vals1 rs
  refine call_meets PySem.F.slot_str_rpartition (typeIs_str _ _ _) PySem.F.entry_str_rpartition (PySem.F.args_str_rpartition_2 _ _) (meets_str_rpartition a b t tu ne small) ?_
  rw [last]
  exact laid_parts I q
end
/-- the last c is where no c comes behind -/
theorem last_at {p q : List Nat} {c : Nat} (no : c ∉ q) : lastOccurrence ⟨(p ++ c :: q).toArray⟩ ⟨#[c]⟩ 0 (⟨(p ++ c :: q).toArray⟩ : Str).length = some p.length := by
  have at_p : StrLaws.At ⟨(p ++ c :: q).toArray⟩ ⟨#[c]⟩ (⟨(p ++ c :: q).toArray⟩ : Str).length p.length := (StrLaws.subAt_one _ c p.length).mpr (by
    show (p ++ c :: q).toArray.toList[p.length]? = some c
    rw [List.getElem?_append_right (Nat.le_refl _), Nat.sub_self]
    rfl)
  rcases StrLaws.last_spec ⟨(p ++ c :: q).toArray⟩ ⟨#[c]⟩ with ⟨_, none_at⟩ | ⟨i, e, at_i, later⟩
  · exact absurd at_p (none_at _)
  · rw [e]
    rcases Nat.lt_trichotomy i p.length with lt | eq | gt
    · exact absurd at_p (later _ lt)
    · rw [eq]
    · have got : (p ++ c :: q).toArray.toList[i]? = some c := (StrLaws.subAt_one _ c i).mp at_i
      have got' : (p ++ c :: q)[i]? = some c := got
      obtain ⟨d, rfl⟩ : ∃ d, i = p.length + 1 + d := ⟨i - (p.length + 1), by omega⟩
      rw [List.getElem?_append_right (by omega), show p.length + 1 + d - p.length = d + 1 by omega, List.getElem?_cons_succ] at got'
      exact absurd (List.mem_of_getElem? got') no
theorem sub_left (p q : List Nat) : strSub ⟨(p ++ q).toArray⟩ 0 p.length = ⟨p.toArray⟩ := by
  unfold strSub
  congr 1
  apply Array.toList_inj.mp
  simp
theorem sub_right (p q : List Nat) : strSub ⟨(p ++ q).toArray⟩ p.length (⟨(p ++ q).toArray⟩ : Str).length = ⟨q.toArray⟩ := by
  unfold strSub
  congr 1
  apply Array.toList_inj.mp
  simp [Str.length]
end Tg

namespace Tg
open PySem PySem.Spec PyProof.Rows L2
/-! ### tuples known to have no dict of their own -/
section
variable {X : Cx}
def tTupF (t : TA) : TE := fun σ H Q => t σ H fun xs H1 => xs.length ≤ sizeLine ∧ ∀ (p : Addr) (ob : Obj), ob.dict = none → H1 p = none → Q (.ref p) (upd H1 p (.frz ob (.tup xs)))
theorem pe_tupF {es : List Expr} {t : TA} {x1 : Nat} {pos : Pos} (h : PA X es t) : PE X (.Tuple es x1 pos) (tTupF t) := by
  constructor
  intro pins s σ H Q I read
  refine wpAny_Tuple_spliced (thn (h.run pos pins s σ H _ I read) fun us s1 y => ?_)
  obtain ⟨xs, H1, J, rel, small, q⟩ := y
  refine ⟨by rw [← rel.length]; exact small, ?_⟩
  have fine : ObjOk X.prog X.w (upd H1 s1.heap.objs.size (.frz { cls := .type "tuple", data := .seq us.toArray } (.tup xs))) (s1.heap.push { cls := .type "tuple", data := .seq us.toArray }) s1.heap.objs.size (.frz { cls := .type "tuple", data := .seq us.toArray } (.tup xs)) :=
    ⟨Heap.get?_push_size _ rfl, small, us, rel, IsTup.new _ _⟩
  exact ⟨.ref s1.heap.objs.size, _, J.laid (t' := s1.toks) (fun b o e => Heap.get?_push_of_some _ e) (Nat.le_refl _) fine, rfl, q _ _ rfl (J.hok.fresh (Nat.le_refl _))⟩
/-- x.m(..), x such a tuple -/
def tBMF (r : V → List V → Hp → VK → Prop) (to : TE) (t : TA) : TE := fun σ H Q => to σ H fun x H1 => (∃ (a : Addr) (ob : Obj) (xs : List V), x = .ref a ∧ ob.dict = none ∧ H1 a = some (.frz ob (.tup xs))) ∧ t σ H1 fun zs H2 => r x zs H2 Q
theorem pe_bmF {o e : Expr} {es : List Expr} {to : TE} {t : TA} {name : Str} {apos cpos : Pos} {id : String} {r : V → List V → Hp → VK → Prop} (slot : Slot "tuple" name id) (kind : typeOf (.builtin id) = pure (.type "method_descriptor")) (meth : MtR X id r) (ho : PE X o to) (ha : PA X (e :: es) t)
    (base : attributeBase o name X.env (eval o X.env) = eval o X.env := by rfl)
    (few : ((backTo cpos (starEach (e :: es) X.env)).all (fun x => !x.1) && (backToKw cpos (keywordEach [] X.env)).all (fun x => x.1.isSome) && decide ((e :: es).length + ([] : List Keyword).length + (if ([] : List Keyword).isEmpty then 0 else 1) < 30)) = true := by rfl)
    (line : (apos.endLine == cpos.line) = true := by rfl) (star : starEach (e :: es) X.env = (false, eval e X.env) :: starEach es X.env := by rfl) (plain : (backTo cpos (starEach es X.env)).any (·.1) = false := by rfl) :
    PE X (.Call (.Attribute o name apos) (e :: es) [] cpos) (tBMF r to t) := by
  constructor
  intro pins s σ H Q I read
  refine wpAny_Call_method_late base few line rfl (thn (ho.run pins s σ H _ I read) fun v s1 y => ?_)
  obtain ⟨x, H1, J, rx, ⟨a, ob, xs, rfl, nod, ea⟩, q⟩ := y
  cases rx
  obtain ⟨obj, small, its, rel, o2, eo, cls, n, data⟩ := J.hok a _ ea
  have eo2 : ob = o2 := by
    rw [obj] at eo
    exact Option.some.inj eo
  refine ⟨"tuple", id, PySem.F.plainAttrs_tuple, slot, kind, ⟨o2, eo, cls⟩, fun b eb => ?_, ?_⟩
  · cases eb
    exact ⟨ob, obj, nod⟩
  · have args := ha.run cpos pins s1 σ H1 _ J q
    rw [star] at args ⊢
    refine Calls.callWith_builtin (by show (false || (backTo cpos (starEach es X.env)).any (·.1)) = false; rw [plain] <;> rfl) (Calls.evalArgs_plain (thn args fun us s2 y => ?_))
    obtain ⟨zs, H2, J2, r2, q2⟩ := y
    exact meth pins s2 σ H2 (.ref a) zs (.ref a) us Q J2 rfl r2 q2
end
/-- such a tuple of numbers -/
def NdT (H : Hp) (a : Addr) (xs : List V) : Prop := ∃ ob : Obj, ob.dict = none ∧ H a = some (.frz ob (.tup xs))
theorem NdT.sq {K : PySem.W.Frag} {H : Hp} {a : Addr} {xs : List V} (h : NdT H a xs) : SqT K H a xs := by
  obtain ⟨ob, _, e⟩ := h
  exact .inl (.inr ⟨ob, e⟩)
theorem NdT.kt {H H' : Hp} {a : Addr} {xs : List V} (h : NdT H a xs) (k : KT H H') : NdT H' a xs := by
  obtain ⟨ob, n, e⟩ := h
  exact ⟨ob, n, k _ _ trivial e⟩
theorem NdT.same {H H' : Hp} {a : Addr} {xs : List V} (h : NdT H a xs) (k : Same H H') : NdT H' a xs := h.kt (KT.of k)
end Tg

namespace Tg
open PySem PySem.Spec PyProof.Rows L2
/-! ### a comprehension without a test whose items are known beforehand -/
/-- the new list at D takes y -/
abbrev Grows (D : Addr) (Nx : Hp → Prop) (y : V) (H : Hp) : Prop := ∃ acc, H D = some (.lst acc) ∧ acc.length < sizeLine ∧ Nx (upd H D (.lst (acc ++ [y])))
/-- the new dict at D takes y: z -/
abbrev Holds2 (D : Addr) (Nx : Hp → Prop) (y z : V) (H : Hp) : Prop := ∃ kvs k, y = kV k ∧ H D = some (.dK kvs) ∧ kvs.length < sizeLine ∧ Nx (upd H D (.dK (putK kvs k z)))
/-- a turn that takes x in, and goes on by fin -/
abbrev Turn1 (g : TG) (vs : List Nat) (σ : L2.St) (fin : L2.St → Hp → Prop) (Nx : Hp → Prop) (x : V) (H' : Hp) : Prop :=
  g x (wipe σ vs) H' fun σ2 H2 => wipe σ2 vs = wipe σ vs ∧ tYes σ2 H2 fun b H3 => if b = true then fin σ2 H3 else Nx H3
abbrev TurnL (g : TG) (te : TE) (vs : List Nat) (σ : L2.St) (D : Addr) (Nx : Hp → Prop) : V → Hp → Prop := Turn1 g vs σ (fun σ2 H3 => te σ2 H3 fun y H4 => Grows D Nx y H4) Nx
abbrev TurnD (g : TG) (tk tv : TE) (vs : List Nat) (σ : L2.St) (D : Addr) (Nx : Hp → Prop) : V → Hp → Prop := Turn1 g vs σ (fun σ2 H3 => tk σ2 H3 fun y H4 => tv σ2 H4 fun z H5 => Holds2 D Nx y z H5) Nx
/-- a walk of J from Z on, each turn by turn, what is wanted behind it Qd -/
abbrev Walked (J : It) (Z : Hp) (turn : (Hp → Prop) → V → Hp → Prop) (Qd : Hp → Prop) : Prop :=
  ∃ Wk : Nat → Nat → Hp → Prop, (∃ m, Wk 0 m Z) ∧ ∀ (i m : Nat) (Hc : Hp), Wk i m Hc →
    (J.stop i Hc ∧ Qd Hc) ∨ (J.go i Hc ∧ ∃ Nx : Hp → Prop, (∀ Hn, Nx Hn → ∃ m', m' < m ∧ Wk (i + 1) m' Hn) ∧ ∀ x Hn, J.yld i Hc x Hn → turn Nx x Hn)
section
variable {K : PySem.W.Frag} {g : TG} {te : TE} {vs : List Nat} {σ : L2.St} {H1 : Hp} {D : Addr} {Qd : Hp → Prop} {J : It}
/-- the walk J, of n turns; x: what it hands out at i (behind it the heap is told by R) -/
theorem lc_walk (n : Nat) (ys : List V) (ly : ys.length = n) (nD : H1 D = none) (small : n < sizeLine)
    (stop : ∀ Hc, Same H1 Hc → J.stop n Hc) (go : ∀ i Hc, i < n → Same H1 Hc → J.go i Hc)
    (hs : ∀ i x y Hc H' (Q : VK), i < n → ys[i]? = some y → Same H1 Hc → J.yld i Hc x H' → (∀ H4, Same H' H4 → Q y H4) → g x (wipe σ vs) H' fun σ2 H2 => wipe σ2 vs = wipe σ vs ∧ te σ2 H2 Q)
    (grow : ∀ i x Hc H', i < n → Same H1 Hc → J.yld i Hc x H' → Same Hc H')
    (hd : ∀ H', Same H1 H' → H' D = some (.lst ys) → Qd H') :
    Walked J (upd H1 D (.lst [])) (TurnL g te vs σ D) Qd := by
  refine ⟨fun i m H => m = n - i ∧ i ≤ n ∧ Same H1 H ∧ H D = some (.lst (ys.take i)), ⟨n, by omega, Nat.zero_le _, fun b o e => ?_, upd_same⟩, ?_⟩
  · rw [upd_ne (ne_of_none e nD)]
    exact e
  rintro i m H ⟨rfl, hi, sm, hD⟩
  by_cases lt : i < n
  · refine .inr ⟨go i H lt sm, fun H' => Same H1 H' ∧ H' D = some (.lst (ys.take (i + 1))), fun H' h => ⟨n - (i + 1), by omega, rfl, lt, h.1, h.2⟩, fun x H' yl => ?_⟩
    obtain ⟨y, ey⟩ : ∃ y, ys[i]? = some y := ⟨_, List.getElem?_eq_getElem (by omega)⟩
    have s2 := grow i x H H' lt sm yl
    have z := hs i x y H H' (fun y H4 => Grows D (fun H' => Same H1 H' ∧ H' D = some (.lst (ys.take (i + 1)))) y H4) lt ey sm yl fun H4 s4 => by
      refine ⟨ys.take i, s4 _ _ (s2 _ _ hD), ?_, fun b o e => ?_, ?_⟩
      · rw [List.length_take]
        omega
      · rw [upd_ne (ne_of_none e nD)]
        exact s4 _ _ (s2 _ _ (sm _ _ e))
      · rw [upd_same, List.take_add_one, ey]
        rfl
    refine cast (congrArg (g x (wipe σ vs) H') (funext fun σ2 => funext fun H2 => ?_)) z
    unfold tYes
    exact congrArg _ (if_pos rfl).symm
  · obtain rfl : i = n := by omega
    refine .inl ⟨stop H sm, hd H sm ?_⟩
    rw [hD, List.take_of_length_le (by omega)]
/-- [.. for x in xs] -/
theorem lc_mapL {a : Addr} {xs : List V} (ys : List V) (ly : ys.length = xs.length) (nD : H1 D = none) (hx : SqL K H1 a xs) (small : xs.length < sizeLine)
    (hs : ∀ (i : Nat) (x y : V) (Hc : Hp) (Q : VK), xs[i]? = some x → ys[i]? = some y → Same H1 Hc → (∀ H4, Same Hc H4 → Q y H4) → g x (wipe σ vs) Hc fun σ2 H2 => wipe σ2 vs = wipe σ vs ∧ te σ2 H2 Q)
    (hd : ∀ H', Same H1 H' → H' D = some (.lst ys) → Qd H') :
    Walked (Itl K a) (upd H1 D (.lst [])) (TurnL g te vs σ D) Qd :=
  lc_walk (J := Itl K a) xs.length ys ly nD small (fun Hc sm => ⟨xs, sm.seq hx, Nat.le_refl _⟩) (fun i Hc lt sm => ⟨xs, xs[i], sm.seq hx, List.getElem?_eq_getElem lt⟩)
    (fun i x y Hc H' Q lt ey sm yl q => by
      obtain ⟨rfl, h⟩ := yl
      exact hs i x y _ Q (h xs (sm.seq hx)) ey sm q) (fun i x Hc H' _ _ yl => by rw [yl.1]; exact Same.refl _) hd
/-- [.. for x, y in zip(xs, ys)] -/
theorem lc_mapZ {a b : Addr} {xs zs : List V} (ys : List V) (n : Nat) (en : n = min xs.length zs.length) (ly : ys.length = n) (nD : H1 D = none) (hx : SqL K H1 a xs) (hz : SqL K H1 b zs) (small : n < sizeLine)
    (hs : ∀ (i : Nat) (x z y : V) (T : Addr) (Hc : Hp) (Q : VK), xs[i]? = some x → zs[i]? = some z → ys[i]? = some y → Same H1 Hc → Hc T = some (.tup [x, z]) → (∀ H4, Same Hc H4 → Q y H4) → g (.ref T) (wipe σ vs) Hc fun σ2 H2 => wipe σ2 vs = wipe σ vs ∧ te σ2 H2 Q)
    (hd : ∀ H', Same H1 H' → H' D = some (.lst ys) → Qd H') :
    Walked (Itz K a b) (upd H1 D (.lst [])) (TurnL g te vs σ D) Qd :=
  lc_walk (J := Itz K a b) n ys ly nD small (fun Hc sm => ⟨xs, zs, sm.seq hx, sm.seq hz, by omega⟩) (fun i Hc lt sm => ⟨xs, zs, xs[i]'(by omega), zs[i]'(by omega), sm.seq hx, sm.seq hz, List.getElem?_eq_getElem (by omega), List.getElem?_eq_getElem (by omega)⟩)
    (fun i x y Hc H' Q lt ey sm yl q => by
      obtain ⟨T, u, v, rfl, nT, rfl, h1, h2⟩ := yl
      exact hs i u v y T _ Q (h1 xs (sm.seq hx)) (h2 zs (sm.seq hz)) ey (sm.trans (fun b o e => by rw [upd_ne (ne_of_none e nT)]; exact e)) upd_same q)
    (fun i x Hc H' _ _ yl => by
      obtain ⟨T, u, v, rfl, nT, rfl, _, _⟩ := yl
      exact fun b o e => by rw [upd_ne (ne_of_none e nT)]; exact e) hd
/-- [.. for i in range(lo, ..)] -/
theorem lc_mapR {lo : Int} {n : Nat} (ys : List V) (ly : ys.length = n) (nD : H1 D = none) (small : n < sizeLine)
    (hs : ∀ (i : Nat) (y : V) (Hc : Hp) (Q : VK), i < n → ys[i]? = some y → Same H1 Hc → (∀ H4, Same Hc H4 → Q y H4) → g (.int (lo + i)) (wipe σ vs) Hc fun σ2 H2 => wipe σ2 vs = wipe σ vs ∧ te σ2 H2 Q)
    (hd : ∀ H', Same H1 H' → H' D = some (.lst ys) → Qd H') :
    Walked (Itr lo n) (upd H1 D (.lst [])) (TurnL g te vs σ D) Qd :=
  lc_walk (J := Itr lo n) n ys ly nD small (fun Hc sm => Nat.le_refl _) (fun i Hc lt sm => lt)
    (fun i x y Hc H' Q lt ey sm yl q => by
      obtain ⟨rfl, rfl⟩ := yl
      exact hs i y _ Q lt ey sm q) (fun i x Hc H' _ _ yl => by rw [yl.1]; exact Same.refl _) hd
/-- [.. for i in range(lo, .., c)] -/
theorem lc_mapC {lo c : Int} {n : Nat} (ys : List V) (ly : ys.length = n) (nD : H1 D = none) (small : n < sizeLine)
    (hs : ∀ (i : Nat) (y : V) (Hc : Hp) (Q : VK), i < n → ys[i]? = some y → Same H1 Hc → (∀ H4, Same Hc H4 → Q y H4) → g (.int (lo + (i : Nat) * c)) (wipe σ vs) Hc fun σ2 H2 => wipe σ2 vs = wipe σ vs ∧ te σ2 H2 Q)
    (hd : ∀ H', Same H1 H' → H' D = some (.lst ys) → Qd H') :
    Walked (Itc lo c n) (upd H1 D (.lst [])) (TurnL g te vs σ D) Qd :=
  lc_walk (J := Itc lo c n) n ys ly nD small (fun Hc sm => Nat.le_refl _) (fun i Hc lt sm => lt)
    (fun i x y Hc H' Q lt ey sm yl q => by
      obtain ⟨rfl, rfl⟩ := yl
      exact hs i y _ Q lt ey sm q) (fun i x Hc H' _ _ yl => by rw [yl.1]; exact Same.refl _) hd
/-! ### a dict comprehension whose entries are known, each key once -/
theorem putK_new {kvs : List (Key × V)} {k : Key} {z : V} (h : k ∉ kvs.map (·.1)) : putK kvs k z = kvs ++ [(k, z)] := by
  have new : (kvs.any fun y => decide (y.1 = k)) = false := by
    rw [List.any_eq_false]
    intro y hy e
    exact h (List.mem_map.mpr ⟨y, hy, of_decide_eq_true e⟩)
  unfold putK
  rw [new, if_neg (by decide)]
theorem dc_walk {tk tv : TE} (n : Nat) (es : List (Key × V)) (le : es.length = n) (nd : (es.map (·.1)).Nodup) (nD : H1 D = none) (small : n < sizeLine)
    (stop : ∀ Hc, Same H1 Hc → J.stop n Hc) (go : ∀ i Hc, i < n → Same H1 Hc → J.go i Hc)
    (hs : ∀ i x k y Hc H' (Q : VK), i < n → es[i]? = some (k, y) → Same H1 Hc → J.yld i Hc x H' → (∀ H4, Same H' H4 → Q y H4) → g x (wipe σ vs) H' fun σ2 H2 => wipe σ2 vs = wipe σ vs ∧ tk σ2 H2 fun u H3 => tv σ2 H3 fun v H4 => u = kV k ∧ v = y ∧ Same H' H4)
    (mono : ∀ σ2 H2 (A B : V → V → Hp → Prop), (∀ u v H', A u v H' → B u v H') → (tk σ2 H2 fun u H3 => tv σ2 H3 fun v H4 => A u v H4) → tk σ2 H2 fun u H3 => tv σ2 H3 fun v H4 => B u v H4)
    (gm : ∀ x σ2 H2 (A B : L2.St → Hp → Prop), (∀ σ3 H3, A σ3 H3 → B σ3 H3) → g x σ2 H2 A → g x σ2 H2 B)
    (grow : ∀ i x Hc H', i < n → Same H1 Hc → J.yld i Hc x H' → Same Hc H')
    (hd : ∀ H', Same H1 H' → H' D = some (.dK es) → Qd H') :
    Walked J (upd H1 D (.dK [])) (TurnD g tk tv vs σ D) Qd := by
  refine ⟨fun i m H => m = n - i ∧ i ≤ n ∧ Same H1 H ∧ H D = some (.dK (es.take i)), ⟨n, by omega, Nat.zero_le _, fun b o e => ?_, upd_same⟩, ?_⟩
  · rw [upd_ne (ne_of_none e nD)]
    exact e
  rintro i m H ⟨rfl, hi, sm, hD⟩
  by_cases lt : i < n
  · refine .inr ⟨go i H lt sm, fun H' => Same H1 H' ∧ H' D = some (.dK (es.take (i + 1))), fun H' h => ⟨n - (i + 1), by omega, rfl, lt, h.1, h.2⟩, fun x H' yl => ?_⟩
    obtain ⟨⟨k, y⟩, ey⟩ : ∃ y, es[i]? = some y := ⟨_, List.getElem?_eq_getElem (by omega)⟩
    have s2 := grow i x H H' lt sm yl
    have z := hs i x k y H H' (fun _ _ => True) lt ey sm yl fun _ _ => trivial
    refine gm _ _ _ _ _ (fun σ2 H2 h => ⟨h.1, ?_⟩) z
    unfold tYes
    dsimp only
    rw [if_pos rfl]
    refine mono _ _ _ _ (fun u v H4 h => ?_) h.2
    obtain ⟨rfl, rfl, s4⟩ := h
    refine ⟨es.take i, k, rfl, s4 _ _ (s2 _ _ hD), ?_, fun b o e => ?_, ?_⟩
    · rw [List.length_take]
      omega
    · rw [upd_ne (ne_of_none e nD)]
      exact s4 _ _ (s2 _ _ (sm _ _ e))
    · rw [upd_same, putK_new, List.take_add_one, ey]
      · rfl
      · intro hk
        rw [List.map_take] at hk
        obtain ⟨j, hj, ej⟩ := List.mem_iff_getElem.mp hk
        rw [List.length_take] at hj
        rw [List.getElem_take] at ej
        have e1 : (es.map (·.1))[j]? = some k := by rw [List.getElem?_eq_getElem (by omega), ej]
        have e2 : (es.map (·.1))[i]? = some k := by rw [List.getElem?_map, ey]; rfl
        have := (List.getElem?_inj (by omega) nd).mp (e1.trans e2.symm)
        omega
  · obtain rfl : i = n := by omega
    refine .inl ⟨stop H sm, hd H sm ?_⟩
    rw [hD, List.take_of_length_le (by omega)]
end
end Tg

namespace Tg
open PySem PySem.Spec PyProof.Rows L2
/-- any walk, by what is known of it -/
theorem walked_w {J : It} {n : Nat} {G : Hp → Prop} {Y : Nat → Hp → V → Hp → Prop} (w : Walk J n G Y) {Z : Hp} {turn : (Hp → Prop) → V → Hp → Prop} {Qd : Hp → Prop} (Pv : Nat → Hp → Prop) (first : Pv 0 Z) (keep : ∀ i H2, i ≤ n → Pv i H2 → G H2)
    (round : ∀ i x H2 H3, i < n → Pv i H2 → Y i H2 x H3 → turn (Pv (i + 1)) x H3) (last : ∀ H2, Pv n H2 → Qd H2) : Walked J Z turn Qd := by
  refine ⟨fun i m H2 => m = n - i ∧ i ≤ n ∧ Pv i H2, ⟨n, by omega, Nat.zero_le _, first⟩, ?_⟩
  rintro i m H2 ⟨rfl, hi, p⟩
  have q := keep i H2 hi p
  by_cases lt : i < n
  · exact .inr ⟨w.goes i H2 lt q, Pv (i + 1), fun H3 p3 => ⟨n - (i + 1), by omega, rfl, lt, p3⟩, fun x H3 y => round i x H2 H3 lt p (w.yields i H2 x H3 lt q y)⟩
  · obtain rfl : i = n := by omega
    exact .inl ⟨w.stops H2 q, last H2 p⟩
theorem yes_b {σ : L2.St} {H : Hp} {Q : Bool → Hp → Prop} (h : Q true H) : tYes σ H Q := h
end Tg

namespace Tg
open PySem PySem.Spec PyProof.Rows L2
/-! ### methods that may raise, asked within a try; and what of a def that may raise never does -/
section
variable (P : Program) (w : World) (K : PySem.W.Frag) (mg : Str → Option Value) (base : Heap)
/-- a method that may raise -/
def CalMR (k : Nat) (C : Addr) (m : Str) (ps : List Str) (sp : Sp) : Prop := ∃ f fd, FnOk P w K mg base (L2.CX P w) k f fd ps sp ∧ Meth K C m f ∧ Binds K fd ps []
end
section
variable {X : Cx} {E : XK} {k : Nat} {C : Addr} {m : Str} {ps : List Str} {sp : Sp} {o e : Expr} {es : List Expr} {to : TE} {t : TA} {pos apos : Pos} {W : WX}
theorem pe_calMR {pl : Sem Bool} (he : PE X o to) (cl : Cls X.K C) (c : CalMR X.prog X.w X.K X.mg X.base k C m ps sp) (hr : Room k X.A) (lets : Passes (L2.CX X.prog X.w) X E) (ha : PA X (e :: es) t)
    (star : starEach (e :: es) X.env = (false, eval e X.env) :: starEach es X.env := by rfl) (plain : (backTo pos (starEach es X.env)).any (·.1) = false := by rfl) (ht : eval (.Call (.Attribute o m apos) (e :: es) [] pos) X.env = (do let ov ← eval o X.env; standAt apos.atName; let (f, first) ← holding [ov] (getMethod ov m pl); callWith pos f first (backTo pos (starEach (e :: es) X.env)) (backToKw pos (keywordEach [] X.env))) := by rfl) :
    PE X (.Call (.Attribute o m apos) (e :: es) [] pos) (tMeth C m sp [] E to t) := by
  obtain ⟨f, fd, F, hm, hb⟩ := c
  exact pe_meth (pl := pl) he cl hm F hr hb .nil lets ha star plain ht
/-- a method that may raise, asked within a try -/
def tMethT (C : Addr) (m : Str) (sp : Sp) (W : WX) (to : TE) (t : TA) : TE := fun σ H Q => to σ H fun x H1 => ∃ a dx fs, x = .ref a ∧ H1 a = some (.ins C dx fs) ∧ fs.lookup m = none ∧ t σ H1 fun vs H2 => sp (x :: vs) H2 Q (WE W σ)
theorem pe_calMT {pl : Sem Bool} (he : PE X o to) (cl : Cls X.K C) (c : CalMR X.prog X.w X.K X.mg X.base k C m ps sp) (hr : Room k X.A) (tks : Takes X W) (ha : PA X (e :: es) t)
    (star : starEach (e :: es) X.env = (false, eval e X.env) :: starEach es X.env := by rfl) (plain : (backTo pos (starEach es X.env)).any (·.1) = false := by rfl) (ht : eval (.Call (.Attribute o m apos) (e :: es) [] pos) X.env = (do let ov ← eval o X.env; standAt apos.atName; let (f, first) ← holding [ov] (getMethod ov m pl); callWith pos f first (backTo pos (starEach (e :: es) X.env)) (backToKw pos (keywordEach [] X.env))) := by rfl) :
    PE X (.Call (.Attribute o m apos) (e :: es) [] pos) (tMethT C m sp W to t) := by
  obtain ⟨f, fd, F, hm, hb⟩ := c
  constructor
  intro pins s σ H Q I read
  refine PySem.W.methodCall_KW (pl := pl) (thn (he.run pins s σ H _ I read) fun u s1 z => ?_) ht
  obtain ⟨_, H1, J, ru, a, dx, fs, rfl, ea, none_, told⟩ := z
  cases ru
  refine getmeth_ok J ea cl hm none_ (PySem.W.callWith_K (first := [.ref a]) (h₀ := X.base) J.ok.mod.kin hm.kp (thn (ha.run pos pins s1 σ H1 _ J told) fun us s2 z => ?_) star plain)
  obtain ⟨vs, H2, J2, rel, said⟩ := z
  exact ⟨J2.kIn, run_fnS (us := .ref a :: us) (vs := .ref a :: vs) F hr hb (passAt tks σ) J2 (.cons rfl rel) said⟩
end
section
variable {P : Program} {w : World} {K : PySem.W.Frag} {mg : Str → Option Value} {base : Heap} {k : Nat} {f : Addr} {fd : FuncData} {ps : List Str} {sp : Sp}
/-- a def that may raise, where it doesn't -/
theorem fn_quiet (F : FnOk P w K mg base (L2.CX P w) k f fd ps sp) : FnOk P w K mg base CX0 k f fd ps (fun vs H Q _ => sp vs H Q fun _ _ _ => False) :=
  ⟨fun vs H Q _ h => F.len vs H Q _ h, fun A outer s H args us vs Q E hr he hb hv hs => codeAny_mono (F.run A outer s H args us vs Q _ hr he hb hv hs) fun r s' told => match r, told with
    | .error e, told => by
      obtain ⟨_, _, _, _, _, _, _, _, _, _, _, _, no⟩ := told
      exact no.elim
    | .ok (.ret v), told => told⟩
end
end Tg

set_option maxHeartbeats 400000
namespace Tg
open PySem PySem.Spec PyProof.Rows L2
section
variable {pins : List (Addr × Obj)} {X : Cx} {s : Shared} {σ : L2.St} {H : Hp}
/-- tuple(xs) of a list: a new object without a dict of its own -/
theorem call_tupleF : CallR X (.type "tuple") (fun xs H Q => ∃ p ys, xs = [.ref p] ∧ SqL X.K H p ys ∧ ∀ (l : Addr) (o : Obj), o.dict = none → H l = none → Q (.ref l) (upd H l (.frz o (.tup ys)))) := by
  intro pins s σ H xs us Q I r hyp
  obtain ⟨p, ys, rfl, at_p, told⟩ := hyp
  obtain ⟨u, rfl, ru⟩ := r.one
  cases ru
  obtain ⟨its, rel, plain, small⟩ := I.list at_p
  have many := rel.length
  refine call_tuple_list plain.isList (fun h' keeps => ?_) (by simp only [List.size_toArray]; omega)
  have J : Inv X pins σ H { s with heap := h' } := I.kept (t' := s.toks) keeps
  have fine : ObjOk X.prog X.w (upd H h'.objs.size (.frz { cls := .type "tuple", data := .seq its.toArray } (.tup ys))) (h'.push { cls := .type "tuple", data := .seq its.toArray }) h'.objs.size (.frz { cls := .type "tuple", data := .seq its.toArray } (.tup ys)) :=
    ⟨Heap.get?_push_size _ rfl, small, its, rel, IsTup.new _ _⟩
  exact ⟨.ref h'.objs.size, _, J.laid (t' := s.toks) (fun b o e => Heap.get?_push_of_some _ e) (Nat.le_refl _) fine, rfl, told _ _ rfl (J.hok.fresh (Nat.le_refl _))⟩
/-- the pairs' keys and worths in the heap -/
theorem pairs_told (I : Inv X pins σ H s) : ∀ {ps : List Addr} {kvs : List (Key × V)}, Paired (fun p kv => SqT X.K H p [kV kv.1, kv.2]) ps kvs →
    ∃ (prs : List (Key × Value)) (us : List (Value × Value)), KV kvs prs ∧ prs.length = ps.length ∧ us.length = ps.length ∧
      ∀ (j : Nat) (k v : Value), us[j]? = some (k, v) → (∃ b, ps[j]? = some b ∧ IsTup s.heap b #[k, v]) ∧ ∃ key, prs[j]? = some (key, v) ∧ keyIs key k = true
  | _, _, .nil => ⟨[], [], .nil, rfl, rfl, fun j k v e => by simp at e⟩
  | _, _, .cons (a := p) (b := kv) first others => by
    obtain ⟨prs, us, h1, h2, h3, h4⟩ := pairs_told I others
    obtain ⟨its, rel, tup, _⟩ := I.tuple first
    obtain ⟨u, y, rfl, ru, ry⟩ := rel.two
    refine ⟨(kv.1, y) :: prs, (u, y) :: us, .cons ⟨rfl, ry⟩ h1, congrArg Nat.succ h2, congrArg Nat.succ h3, fun j k v e => ?_⟩
    cases j with
    | zero =>
      cases (Option.some.inj e : (u, y) = (k, v))
      exact ⟨⟨p, rfl, tup⟩, kv.1, rfl, kV_is (P := X.prog) (w := X.w) ru⟩
    | succ j => exact h4 j k v e
/-- dict(t) of such a tuple of pairs -/
theorem call_dictF (calm : X.calm = true) : CallR X (.type "dict") (fun xs H Q => ∃ (a : Addr) (o : Obj) (ps : List Addr) (kvs : List (Key × V)), xs = [.ref a] ∧ o.dict = none ∧ H a = some (.frz o (.tup (ps.map V.ref))) ∧ Paired (fun p kv => SqT X.K H p [kV kv.1, kv.2]) ps kvs ∧
    ∀ l, H l = none → Q (.ref l) (upd H l (.dK (mergeK [] kvs)))) := by
  intro pins s σ H xs us Q I r hyp
  obtain ⟨a, o, ps, kvs, rfl, nodict, at_a, pairs, told⟩ := hyp
  obtain ⟨u, rfl, ru⟩ := r.one
  cases ru
  obtain ⟨obj, small, its, rel, tup⟩ := I.hok a _ at_a
  have eits := refs_at rel
  subst eits
  have small' : ps.length ≤ sizeLine := by
    have z : (ps.map V.ref).length ≤ sizeLine := small
    rwa [List.length_map] at z
  obtain ⟨prs, us, kv, len1, len2, at_j⟩ := pairs_told I pairs
  obtain ⟨o', obj', cls, n, data⟩ := tup
  rw [obj] at obj'
  cases obj'
  have okA : PlainSeq "tuple" s.heap a (ps.map Value.ref).toArray ∧ PairItems s.heap (ps.map Value.ref).toArray (fun j => (ps[j]?).getD 0) us := by
    refine ⟨⟨o, n, obj, cls, nodict, data⟩, by simp [len2], fun j k v e => ?_⟩
    obtain ⟨⟨b, eb, tb⟩, _⟩ := at_j j k v e
    refine ⟨by simp [eb], .inl ?_⟩
    show s.heap.IsTuple ((ps[j]?).getD 0) #[k, v]
    rw [eb]
    exact tb
  refine PySem.call_dict_pairs (knd := mixKind X.prog X.w) (kvs := prs) (PairArg.tuple a (ps.map Value.ref).toArray (fun j => (ps[j]?).getD 0) us) (I.ok.hd calm) okA ⟨by rw [len1, len2], fun j k v e => ?_⟩ (by rw [len2]; exact small') fun h' tk dct keeps => ?_
  · obtain ⟨_, key, e1, e2⟩ := at_j j k v e
    exact ⟨key, e1, e2⟩
  · have apart : (s.heap.objs.size == sysModules) = false := beq_eq_false_iff_ne.mpr (Nat.ne_of_gt I.big)
    have few : (mergeK [] kvs).length ≤ sizeLine := by
      have z := kv.length
      refine Nat.le_trans (length_mergeK kvs ([] : List (Key × V))) ?_
      rw [List.length_nil, Nat.zero_add, z, len1]
      exact small'
    have fine : ObjOk X.prog X.w (upd H s.heap.objs.size (.dK (mergeK [] kvs))) h' s.heap.objs.size (.dK (mergeK [] kvs)) := ⟨few, apart, merged [] prs, KV.merge kv .nil, dct⟩
    exact ⟨.ref s.heap.objs.size, _, I.laid (t' := tk) (fun b o e => keeps b o (by simp) e) (Nat.le_refl _) fine, rfl, told _ (I.hok.fresh (Nat.le_refl _))⟩
end
end Tg

/-! a != b of an own class with an own __eq__ and no __ne__, where the own == says True -/
namespace Tg
open PySem PySem.Spec PyProof.Rows L2
/-- what stands of such a class -/
structure NeC (K : PySem.W.Frag) (C f : Addr) : Prop where
  cls : ∃ (nm q : Str) (N : Addr) (bs : List Value) (hd : Bool) (sn : List Str) (sub : List Value) (ab : Bool) (col : Option Bool) (dd : Option Addr) (k0 k1 k2 k3 k5 : Option Value) (id : String),
    K.lookup C = some (excClassObj nm q C N bs [.type "object"] hd sn sub ab col dd k0 k1 k2 k3 k5 id) ∧ PySem.W.nsOkIn K N = true ∧ PySem.W.nsIn K N "__eq__" = some (some (.ref f)) ∧ PySem.W.nsIn K N "__ne__" = some none
  fn : ∃ o, K.lookup f = some o ∧ o.cls = .type "function"
/-- a name that stands in a written namespace -/
theorem ns_has {K : PySem.W.Frag} {h : Heap} {N : Addr} {x : Str} {v : Value} (inK : K.In h) (okN : PySem.W.nsOkIn K N = true) (e : PySem.W.nsIn K N x = some (some v)) : h.nsMap N x = some v := by
  obtain ⟨ob, es, ep, stands, isD, _, tells⟩ : h.Ns N (h.nsMap N) := .of_isNs (PySem.W.isNs_of_in inK okN)
  rw [← tells]
  unfold PySem.W.nsIn at e
  cases lk : K.lookup N with
  | none =>
    rw [lk] at e
    cases e
  | some ob2 =>
    have same := (inK N ob2 lk).symm.trans stands
    cases same
    obtain ⟨c, d, dt, sl⟩ := ob
    obtain rfl : dt = .dict es ep := isD
    rw [lk] at e
    dsimp only at e
    unfold nsFind findBy
    rw [← Array.find?_toList]
    cases fnd : es.toList.find? (·.key.isStr x) with
    | none =>
      rw [fnd] at e
      dsimp only at e
      split at e <;> cases e
    | some en =>
      rw [fnd] at e
      cases e
      rfl
section
variable {X : Cx} {n : Nat}
def rNeG (C : Addr) (R : Addr → Addr → Hp → Prop) : R2 := fun x y H Q => DIns C R x y H ∧ ∀ H', Ext H H' → Q (.bl false) H'
theorem op_neG {CX : CXT} {C f : Addr} {fd : FuncData} {ps : List Str} {R : Addr → Addr → Hp → Prop} {E : XK} (F : FnOk X.prog X.w X.K X.mg X.base CX n f fd ps (spEq R)) (N : NeC X.K C f) (hb : Binds X.K fd ps []) (hx : Passes CX X E) (hr : Room (n + 1) X.A) :
    OpR X (compareOp .NotEq) (rNeG C R) := by
  rintro pins s σ H x y v u Q I rx ry ⟨⟨a, b, dx, dy, fs, gs, rfl, rfl, ha, hb', holds⟩, q⟩
  cases rx
  cases ry
  obtain ⟨atA, J, _⟩ := ins_get I.hok ha
  obtain ⟨atB, J', _⟩ := ins_get I.hok hb'
  obtain ⟨od, J, _⟩ := J.look
  obtain ⟨odB, J', _⟩ := J'.look
  have there : ∀ p o, X.K.lookup p = some o → s.heap.get? p = some o := fun p o h => I.kIn p o h
  obtain ⟨nm, qn, Ns, bs, hd, sn, sub, ab, col, dd, k0, k1, k2, k3, k5, id_, eC, okN, eE, eN⟩ := N.cls
  obtain ⟨of, eF, cF⟩ := N.fn
  have own : s.heap.OwnEqNoNe a C f "object" [.type "object"] := by
    refine ⟨_, of, nm, qn, Ns, bs, hd, sn, sub, ab, col, dd, k0, k1, k2, k3, k5, id_, s.heap.nsMap Ns, _, J.at_, J.cls, there _ _ eC, .of_isNs (PySem.W.isNs_of_in I.kIn okN), ?_, there _ _ eF, cF, PySem.F.cmp_object.mro, PySem.F.cmp_object.eq.lookup, PySem.W.nsMap_none_of_in I.kIn okN eN⟩
    exact ns_has I.kIn okN eE
  have sb : Sub X n X.A.in1 := Sub.in1 ⟨hr, rfl⟩
  refine compareOp_ne_ownEq PySem.F.cmp_object own J'.at_ J'.cls (by have := hr.units; omega) ?_
  have hsp : spEq R [.ref a, .ref b] H (fun v H' => v = .bl true ∧ Ext H H') E := ⟨a, b, rfl, holds, fun H' e => ⟨rfl, e⟩⟩
  have e0 : Env0 X.prog X.w X.K X.mg X.base X.A.in1 X.stack s H := by
    have env := I.env0
    exact ⟨sb.fr.symm ▸ env.frames, env.mod, env.bs, env.bsz, env.funs, env.frf, env.hok, env.bare⟩
  have len2 := F.len _ _ _ _ hsp
  refine wpAny_call (codeAny_mono (F.run X.A.in1 X.stack s H ⟨[.ref a, .ref b], []⟩ [.ref a, .ref b] [.ref a, .ref b] _ E sb.room e0 (by
    have z := hb s [.ref a, .ref b] I.kIn (by simpa using len2)
    simpa using z) (.cons rfl (.cons rfl .nil)) hsp) fun r s' told => ?_)
  cases r with
  | error e => exact hx pins σ H s e s' I told
  | ok fl =>
    cases fl with
    | ret w =>
      obtain ⟨z, H', I', rz, ez, ex⟩ := I.after told
      subst ez
      cases rz
      exact ⟨true, rfl, .bl false, H', I', rfl, q H' ex⟩
    | next => exact False.elim told
    | brk => exact False.elim told
    | cont => exact False.elim told
end
end Tg

namespace Tg
open PySem PySem.Spec PyProof.Rows L2
/-! ### a thing that is reached within an expression, and held (read, not written) from there to the expression's end -/
section
variable {X : Cx} {e : Expr} {t : TE}
def tHold (H0 : Hp) (t : TE) : TE := fun σ H Q => t σ H fun x H1 => ∃ d u, x = .ref d ∧ H1 d = some u ∧ Mut (some u) ∧ ∀ od, (∀ o' u', H0 d ≠ some (.frz o' u')) → Q x (upd H1 d (.frz od u))
theorem pe_hold (h : PE X e t) : PE X e (tHold X.H_0 t) := by
  constructor
  intro pins s σ H Q I read
  refine thn (h.run pins s σ H _ I read) fun v s1 y => ?_
  obtain ⟨x, H1, J, r, d, u, ex, hd, mu, q⟩ := y
  obtain ⟨od, J2⟩ := J.lock hd mu
  exact ⟨x, _, J2, r, q od (J.nofrz hd mu)⟩
def tThaw (H0 : Hp) (t : TE) : TE := fun σ H Q => t σ H fun v H1 => ∃ d od u, H1 d = some (.frz od u) ∧ (∀ o' u', H0 d ≠ some (.frz o' u')) ∧ Q v (upd H1 d u)
theorem pe_thaw (h : PE X e t) : PE X e (tThaw X.H_0 t) := by
  constructor
  intro pins s σ H Q I read
  refine thn (h.run pins s σ H _ I read) fun v s1 y => ?_
  obtain ⟨x, H1, J, r, d, od, u, hd, hn, q⟩ := y
  exact ⟨x, _, J.unlock hd hn, r, q⟩
end
end Tg

namespace Tg
open PySem PySem.Spec PyProof.Rows L2
/-! ### d.update(e), two dicts -/
def rUpd : V → List V → Hp → VK → Prop := fun x vs H Q => ∃ (a b : Addr) (k1 k2 : List (Key × V)), x = .ref a ∧ vs = [.ref b] ∧ a ≠ b ∧ H a = some (.dK k1) ∧ H b = some (.dK k2) ∧ k1.length + k2.length ≤ sizeLine ∧ Q .non (upd H a (.dK (mergeK k1 k2)))
theorem mt_upd {X : Cx} : MtR X "dict.update" rUpd := by
  rintro pins s σ H x vs v us Q I rx rv ⟨a, b, k1, k2, rfl, rfl, ne, ea, eb, room, q⟩
  cases rx
  obtain ⟨u, rfl, ru⟩ := vals1 rv
  cases ru
  obtain ⟨z1, h1, vs1, r1, d1⟩ := dk_of I.hok ea
  obtain ⟨z2, h2, vs2, r2, d2⟩ := dk_of I.hok eb
  have few : (mergeK k1 k2).length ≤ sizeLine := Nat.le_trans (length_mergeK k2 k1) room
  refine call_meetsIn PySem.F.slot_dict_update d1.typeIs PySem.F.entry_dict_update (PySem.F.args_dict_update_2 _ _) (meets_dict_update (mixKind X.prog X.w) a b ne h2) ⟨vs1, vs2, d1, d2, ?_, fun h' d' _ sb => ?_⟩
  · rw [← r1.length, ← r2.length]
    exact room
  · have there : ∃ q, h'.get? a = some q := let ⟨q, _, _, hq, _⟩ := d'; ⟨q, hq⟩
    exact ⟨.non, _, d_write (t' := s.toks) I (by rw [ea]; exact True.intro) sb there (dk_new few h1 (KV.merge r2 r1) d'), rfl, q⟩
end Tg

namespace Tg
open PySem PySem.Spec PyProof.Rows L2
/-! ### try: body finally: suite, where nothing is raised -/
def tFinQ (tb tf : TS) : TS := fun D σ H => tb { nx := fun σ1 H1 => tf D σ1 H1, rt := fun _ _ => False } σ H
section
variable {X : Cx} {body : List Stmt} {f₀ : Stmt} {fs : List Stmt} {pos : Pos} {tb tf : TS}
theorem ps_finQ (calmly : PSs X.nox body tb) (behind : PSs X.nox (f₀ :: fs) tf) : PS X (.Try body [] [] (f₀ :: fs) pos) (tFinQ tb tf) := by
  constructor
  intro pins s σ H D I told
  refine wpAny_Try_finally (wpAny_mono (calmly.run pins s σ H _ (I.wish _) told) (fun g s1 z => ?_) fun _ _ z => z.elim)
  match g, z with
  | .next, z =>
    obtain ⟨σ1, H1, J, more⟩ := z
    refine wpAny_execs_nil (wpAny_mono (behind.run pins s1 σ1 H1 D J more) (fun g2 s2 z2 => ?_) fun _ _ z2 => z2.elim)
    have z3 : SP X pins D g2 s2 := z2.unwish
    cases g2 <;> exact z3
  | .ret u, z =>
    obtain ⟨_, _, _, _, _, no⟩ := z
    exact no.elim
  | .brk, z =>
    obtain ⟨_, _, _, no⟩ := z
    exact no.elim
  | .cont, z =>
    obtain ⟨_, _, _, no⟩ := z
    exact no.elim
end
end Tg

namespace Tg
open PySem PySem.Spec PyProof.Rows L2
/-! ### d.values(), list(d.values()) -/
theorem vals_map {κ : Type} [DecidableEq κ] {kvs : List (κ × V)} {vs : List (κ × Value)} (r : KV kvs vs) {us : List Value} (size : us.length = vs.length) (each : ∀ (j : Nat) (u : Value), us[j]? = some u → ∃ k, vs[j]? = some (k, u)) : Vals (kvs.map (·.2)) us := by
  refine vals_of_at (by rw [List.length_map, size]; exact KV.length r) fun j x u hx hu => ?_
  obtain ⟨k, e1⟩ := each j u hu
  rw [List.getElem?_map] at hx
  obtain ⟨kv, e2, rfl⟩ := Option.map_eq_some_iff.mp hx
  obtain ⟨y, e3, ry⟩ := KV.at' r e1
  rw [e2] at e3
  cases e3
  exact ry
section
variable {X : Cx}
/-- the view of d's values, at p -/
def vvO (p d : Addr) : HO := .ext fun h => h.IsValuesView p d
def rValsV : V → List V → Hp → VK → Prop := fun x xs H Q => ∃ (d : Addr) (kvs : List (Key × V)), x = .ref d ∧ xs = [] ∧ H d = some (.dK kvs) ∧ ∀ p, H p = none → Q (.ref p) (upd H p (vvO p d))
theorem mt_valsV : MtR X "dict.values" rValsV := by
  rintro pins s σ H x xs v us Q I rx rxs ⟨d, kvs, rfl, rfl, hd, q⟩
  cases rx
  cases rxs
  obtain ⟨_, off, vs, _, isd⟩ := (show ObjOk X.prog X.w H s.heap d (.dK kvs) from I.hok d _ hd)
  have at1 : (s.heap.push { cls := .type "dict_values", data := .fields #[.ref d] }).get? s.heap.objs.size = some { cls := .type "dict_values", data := .fields #[.ref d] } := Heap.get?_push_size _ rfl
  have seen : ObjOk X.prog X.w (upd H s.heap.objs.size (vvO s.heap.objs.size d)) (s.heap.push { cls := .type "dict_values", data := .fields #[.ref d] }) s.heap.objs.size (vvO s.heap.objs.size d) :=
    ⟨⟨_, at1, rfl, rfl⟩, ⟨_, at1⟩, fun h1 h2 z k => let ⟨o, ho, r⟩ := z; ⟨o, k o ho, r⟩⟩
  exact call_meetsIn PySem.F.slot_dict_values isd.typeIs PySem.F.entry_dict_values (PySem.F.args_dict_values_1 _) (meets_dict_values (mixKind X.prog X.w) d off) ⟨⟨vs, isd⟩, .ref s.heap.objs.size, _, I.laid (t' := s.toks) (fun b u e => Heap.get?_push_of_some _ e) (Nat.le_refl _) seen, rfl, q _ (I.hok.fresh (Nat.le_refl _))⟩
def rListVV : List V → Hp → VK → Prop := fun xs H Q => ∃ (p d : Addr) (kvs : List (Key × V)), xs = [.ref p] ∧ H p = some (vvO p d) ∧ H d = some (.dK kvs) ∧ ∀ q, H q = none → Q (.ref q) (upd H q (.lst (kvs.map (·.2))))
theorem call_listVV (calm : X.calm = true) : CallR X (.type "list") rListVV := by
  rintro pins s σ H xs us Q I r ⟨p, d, kvs, rfl, hp, hd, q⟩
  rw [Vals.ref1 r]
  have isv : s.heap.IsValuesView p d := (show ObjOk X.prog X.w H s.heap p (vvO p d) from I.hok p _ hp).1
  obtain ⟨few, _, vs, rk, isd⟩ := (show ObjOk X.prog X.w H s.heap d (.dK kvs) from I.hok d _ hd)
  obtain ⟨ep, isat⟩ := isd.dictAt
  have many : kvs.length = vs.length := KV.length rk
  refine PySem.W.kdl_call (PySem.W.kdl_values (knd := mixKind X.prog X.w) (kvs := vs) (ep := ep)) (I.ok.hd calm) ⟨isv, isat⟩ (many ▸ few) fun h' tk acc c keep made items => ?_
  have rel : Vals (kvs.map (·.2)) acc.toList := vals_map rk (Array.length_toList.trans items.1) fun j u hu => items.2 j u (by rw [← hu, Array.getElem?_toList])
  refine ⟨.ref s.heap.objs.size, _, I.laid (t' := tk) keep (Nat.le_refl _) (show ObjOk X.prog X.w _ _ _ (.lst (kvs.map (·.2))) from ⟨?_, acc.toList, c, rel, ?_⟩), rfl, q _ (I.hok.fresh (Nat.le_refl _))⟩
  · rw [List.length_map]
    exact few
  · rw [Array.toArray_toList]
    exact made
end
end Tg

set_option maxHeartbeats 4000000
namespace Tg
open PySem PySem.Spec PyProof.Rows L2 PpSet
/-! ### {number for .. in ..} -/
section
variable {X : Cx}
theorem setO_add {pins : List (Addr × Obj)} {σ : L2.St} {H : Hp} {s : Shared} {E : Value → Shared → Prop} {D : Addr} {S : Int → Bool} {n : Nat} {z : Int} {tk : Tok} {Q : Value → Shared → Prop} (I : Inv X pins σ H s) (has : H D = some (SetO X.w D S n)) (room : n + 1 < scanBound)
    (told : ∀ s', Inv X pins σ (upd H D (SetO X.w D (fun j => S j || decide (j = z)) (if S z = true then n else n + 1))) s' → Q .none s') : wpAny (model X.prog X.w) X.A (call (.builtin "set.add") [.ref D, .int z tk]) Q E s := by
  refine setR_add (setO_get I has) room fun h' sb new => ?_
  have there : ∃ u, h'.get? D = some u := let ⟨o, _, _, _, ho, _⟩ := new; ⟨o, ho⟩
  exact told _ (I.write (e := D) (t' := s.toks + 1) (by rw [has]; trivial) (.inl rfl) (fun b u hb hu => (sb.2 b hb).trans hu) there (setO_new new))
end
def tScI (w : World) (wi : TI) (g : TG) (tt : TT) (te : TE) (vs : List Nat) : TE := fun σ H Q => wi σ H fun J H1 => ∀ D, H1 D = none → ∃ W : Nat → Nat → Hp → Prop, (∃ m, W 0 m (upd H1 D (SetO w D (fun _ => false) 0))) ∧
  ∀ i m H, W i m H → (J.stop i H ∧ Q (.ref D) H) ∨ (J.go i H ∧ ∃ Nx : Hp → Prop, (∀ H', Nx H' → ∃ m', m' < m ∧ W (i + 1) m' H') ∧ ∀ x H', J.yld i H x H' → g x (wipe σ vs) H' fun σ2 H2 => wipe σ2 vs = wipe σ vs ∧ tt σ2 H2 fun b H3 =>
    if b = true then te σ2 H3 fun y H4 => ∃ (z : Int) (S : Int → Bool) (n : Nat), y = .int z ∧ H4 D = some (SetO w D S n) ∧ n + 1 < scanBound ∧ Nx (upd H4 D (SetO w D (fun j => S j || decide (j = z)) (if S z = true then n else n + 1))) else Nx H3)
section
variable {X : Cx}
theorem pe_scI {elt tg iter : Expr} {ifs : List Expr} {scope : Scope} {own : List (Str × Nat)} {pos : Pos} {wi : TI} {g : TG} {tt : TT} {te : TE} (hc : X.calm = true) (hN : X.N.Nodup) (hi : PI X tg iter wi) (ok : BlkOk X.N X.env.scope scope own)
    (own0 : ∀ (s0 : Shared) (H0 : Hp) (C : Addr) (cl : List (Str × Addr)) (fp : List Addr), PG (X.blk s0 H0 scope (compEnvC scope cl C X.env) fp) tg g) (asks0 : ∀ (s0 : Shared) (H0 : Hp) (C : Addr) (cl : List (Str × Addr)) (fp : List Addr), PTs (X.blk s0 H0 scope (compEnvC scope cl C X.env) fp) ifs tt)
    (says0 : ∀ (s0 : Shared) (H0 : Hp) (C : Addr) (cl : List (Str × Addr)) (fp : List Addr), PE (X.blk s0 H0 scope (compEnvC scope cl C X.env) fp) elt te) (hs : ∀ x, foldedSetIterable iter X.env x = pure x := by intro _; rfl) :
    PE X (.SetComp elt [⟨tg, iter, ifs, 0⟩] scope pos) (tScI X.w wi g tt te (own.map (·.2))) := by
  refine ⟨fun pins s σ H Q I h => ?_⟩
  rw [eval_SetComp]
  have caught : ∀ y ∈ scope.names, y.2 = .free → ∃ c, X.env.cells.lookup y.1 = some c := fun y hy e => (ok.free y hy e).elim (fun k => I.ok.has _ (.inl k)) fun k => I.ok.has _ (.inr k)
  refine wpAny_comprehension_free rfl hs (closure_ok caught) ok.kind (fun y hy e => by rw [ok.uniq y hy, e]) (thn (hi.run pins s σ H _ I h) fun src s1 q1 => thn q1 fun itv s2 q2 => ?_)
  obtain ⟨it, fp, tn, J, H2, rfl, I2, T, at0, fp2, q⟩ := q2
  apply newSet_ok
  refine newEnv_comp ?_
  obtain ⟨D, eD⟩ : ∃ D, D = s2.heap.objs.size := ⟨_, rfl⟩
  obtain ⟨W, ⟨m0, w0⟩, turn⟩ := q D (I2.hok.fresh (Nat.le_of_eq eD.symm))
  rw [← eD]
  obtain ⟨s3, e3⟩ : ∃ s3 : Shared, s3 = { s2 with heap := s2.heap.push { cls := .type "set", dict := none, data := .set #[] 0 (.fresh 0 0 (!X.w.params.followText "set-order")) } } := ⟨_, rfl⟩
  have grew : s3.heap = s2.heap.push { cls := .type "set", dict := none, data := .set #[] 0 (.fresh 0 0 (!X.w.params.followText "set-order")) } := by rw [e3]
  obtain ⟨H3, eH⟩ : ∃ H3, H3 = upd H2 D (SetO X.w D (fun _ => false) 0) := ⟨_, rfl⟩
  rw [← eH] at w0
  have I3 : Inv X pins σ H3 s3 := by
    rw [e3, eH]
    refine I2.laid (t' := s2.toks) (fun b o e => Heap.get?_push_of_some _ e) (Nat.le_of_eq eD.symm) ?_
    rw [eD]
    exact setO_new (setR_fresh X.w)
  have below : ∀ b ∈ fp, b < s2.heap.objs.size := fun b hb => let ⟨o, e, _⟩ := T.obj _ _ at0 b hb; Heap.lt_size e
  have fp3 : ∀ b ∈ fp, FpOk X pins H3 b ∧ b < s3.heap.objs.size := fun b hb => by
    have lt := below b hb
    refine ⟨⟨?_, (fp2 b hb).2⟩, by rw [grew, Heap.size_push]; exact Nat.lt_succ_of_lt lt⟩
    rw [eH, upd_ne (by rw [eD]; exact Nat.ne_of_lt lt)]
    exact (fp2 b hb).1
  have at3 : tn 0 s3.heap := T.keep _ _ _ at0 fun b _ o e => by rw [grew]; exact Heap.get?_push_of_some _ e
  have I4 := block_start I3 ok hN fp3
  obtain ⟨ce, ece⟩ : ∃ ce, ce = compEnvC scope (cellsFrom (s3.heap.objs.size + 1) scope.names (cloFrom X.env.cells scope.names [])) s3.heap.objs.size X.env := ⟨_, rfl⟩
  have pg := own0 s3 H3 s3.heap.objs.size (cellsFrom (s3.heap.objs.size + 1) scope.names (cloFrom X.env.cells scope.names [])) fp
  have pt := asks0 s3 H3 s3.heap.objs.size (cellsFrom (s3.heap.objs.size + 1) scope.names (cloFrom X.env.cells scope.names [])) fp
  have pe := says0 s3 H3 s3.heap.objs.size (cellsFrom (s3.heap.objs.size + 1) scope.names (cloFrom X.env.cells scope.names [])) fp
  rw [← e3]
  rw [← ece] at I4 pg pt pe
  have cL : ce.locals = s3.heap.objs.size := by rw [ece]; rfl
  have nfp : ∀ b ∈ fp, H3 b = none := fun b hb => (fp3 b hb).1.1
  obtain ⟨s4, e4⟩ : ∃ s4 : Shared, s4 = { s3 with heap := pushCells (s3.heap.push { cls := .type "dict", data := .dict #[] }) scope.names } := ⟨_, rfl⟩
  rw [← e4] at I4
  have at4 : tn 0 s4.heap := T.keep _ _ _ at3 fun b _ o e => by rw [e4]; exact pushCells_keeps _ _ _ _ (Heap.get?_push_of_some _ e)
  have stat : ∀ {σ1 : L2.St} {H1 : Hp} {s1 : Shared}, Inv (X.blk s3 H3 scope ce fp) [] σ1 H1 s1 → (∀ b ∈ fp, H1 b = none) → ∀ b ∈ fp, FpOk (X.blk s3 H3 scope ce fp) [] H1 b := fun {σ1 H1 s1} I1 hn b hb =>
    ⟨hn b hb, (I1.ok.exf b hb).1, I1.ok.exfs b hb, .inl hb, fun x c e => (I1.ok.exf b hb).2 x c e, fun p hp => absurd (show p ∈ ([] : List (Addr × Obj)) ++ [] from hp) (by simp)⟩
  have goal4 : codeAny (model X.prog X.w) X.A (.compStart (.SetComp elt [⟨tg, iter, ifs, 0⟩] scope pos) 0 (.ref it) (.ref D) ce) (compPost (model X.prog X.w) X.A X.xe none (fun v s' => ∃ (y : V) (H' : Hp), Inv X pins σ H' s' ∧ RelV y v ∧ Q y H') (.ref D) s3.heap.objs.size) s4 := by
    have far : codeAny (model X.prog X.w) X.A (.compLoop (.SetComp elt [⟨tg, iter, ifs, 0⟩] scope pos) 0 (.ref it) (.ref D) ce) (compPost (model X.prog X.w) X.A X.xe none (fun v s' => ∃ (y : V) (H' : Hp), Inv X pins σ H' s' ∧ RelV y v ∧ Q y H') (.ref D) s3.heap.objs.size) s4 := by
      refine compLoopS_any (fun n s1 => ∃ i H1, Inv (X.blk s3 H3 scope ce fp) [] (wipe σ (own.map (·.2))) H1 s1 ∧ tn i s1.heap ∧ (∀ b ∈ fp, H1 b = none) ∧ W i n H1) ?_ m0 ⟨0, H3, I4, at4, nfp, w0⟩
      rintro n s5 ⟨i, H5, I5, at5, n5, w5⟩
      rcases turn i n H5 w5 with ⟨stop, there⟩ | ⟨go, Nx, goes, step⟩
      · refine thnF (T.done (X.blk s3 H3 scope ce fp) rfl rfl rfl hc i [] s5 _ H5 (fun _ _ => False) I5 (stat I5 n5) at5 stop) fun r s6 ⟨hr, I6⟩ => ?_
        subst hr
        have I7 : Inv X pins σ H5 s6 := I3.call' (ch := fp) I6.os I6.base I6.hok I6.bare fun b hb => ⟨(fp3 b hb).1.2.2.2.1, (fp3 b hb).1.2.1, (fp3 b hb).1.2.2.2.2.1, (fp3 b hb).1.2.2.2.2.2⟩
        have nC : H5 s3.heap.objs.size = none := cL ▸ (show H5 ce.locals = none from I6.free)
        obtain ⟨m, hn, _⟩ := I6.loc
        refine ⟨m, cL ▸ (show s6.heap.Ns ce.locals m from hn), fun h1 sb => ?_⟩
        obtain ⟨f0, f1, f2, f3, f4, f5⟩ := I3.fpOk (Nat.le_refl _) nC
        exact ⟨.ref D, H5, I7.turned (t' := s6.toks) (fun b o hb e => (sb.2 b hb).trans e) f0 f1 f3 f4 f5, rfl, there⟩
      · refine thnF (T.item (X.blk s3 H3 scope ce fp) rfl rfl rfl hc i [] s5 _ H5 (fun _ _ => False) I5 (stat I5 n5) at5 go) fun r s6 ⟨u, hr, q6⟩ => ?_
        subst hr
        refine thnF q6 fun _ s7 ⟨x, H7, I7, r7, y7, at7, n7⟩ => ?_
        refine thnF (pg.run _ s7 _ H7 x u _ (I7.pinned (stat I7 n7) (T.obj _ _ at7)) r7 (step x H7 y7)) fun _ s8 ⟨σ8, H8, I8, back, q8⟩ => ?_
        refine thnF (pt.run _ s8 σ8 H8 _ I8 q8) fun b s9 come => ?_
        obtain ⟨H9, I9, q9⟩ := come
        have close : ∀ {s1 : Shared} {H1 : Hp}, Inv (X.blk s3 H3 scope ce fp) ([] ++ pinsAt fp s7.heap) σ8 H1 s1 → Nx H1 → ∃ m, m < n ∧ ∃ i H', Inv (X.blk s3 H3 scope ce fp) [] (wipe σ (own.map (·.2))) H' s1 ∧ tn i s1.heap ∧ (∀ b ∈ fp, H' b = none) ∧ W i m H' := fun {s1 H1} J1 nx => by
          obtain ⟨m1, less, w1⟩ := goes H1 nx
          have held : ∀ b ∈ fp, ∀ o, s7.heap.get? b = some o → s1.heap.get? b = some o ∧ H1 b = none := fun b hb o e =>
            let z := J1.pin (b, o) (List.mem_append_right _ (List.mem_append_right _ (mem_pinsAt hb e)))
            ⟨z.1, z.2.1⟩
          exact ⟨m1, less, i + 1, H1, (J1.unpinned (pins := [])).weak (by rw [← back, wipe_length]) (fun j v e => (wipe_some (back ▸ e)).1), T.keep _ _ _ at7 fun b hb o e => (held b hb o e).1, fun b hb => let ⟨o, e, _⟩ := T.obj _ _ at7 b hb; (held b hb o e).2, w1⟩
        match b, q9 with
        | false, q9 => exact close I9 q9
        | true, q9 =>
          refine thnF (pe.run _ s9 σ8 H9 _ I9 q9) fun v s10 ⟨y, H10, I10, r10, z, S, c, ey, has, room, nx⟩ => ?_
          subst ey
          obtain ⟨tk, rfl⟩ := (show ∃ t, v = Value.int z t from r10)
          exact setO_add (X := X.blk s3 H3 scope ce fp) I10 has room fun s11 I11 => close I11 nx
    exact codeAny_compStart_set far (T.self X.A 0 _ _ _ at4 far)
  rw [e4, ece] at goal4
  exact goal4
end
end Tg

namespace Tg
open PySem PySem.Spec PyProof.Rows L2
/-! ### sorted of a set of numbers, however many (the library's own rule ends at 63) -/
/-- a set's members, handed out in some order: whole numbers, the set's keys -/
theorem keys_out {es : Array (Int × Value)} {vs : List Value} (good : ∀ e ∈ es.toList, GoodE e) (pm : vs.Perm (es.toList.map (·.2))) :
    IntsAre vs (vs.map Builtin.Re.reRawOf) ∧ (vs.map Builtin.Re.reRawOf).Perm (es.toList.map keyOf) := by
  refine ⟨ints_of vs fun v hv => ?_, ?_⟩
  · have there := pm.mem_iff.mp hv
    rw [List.mem_map] at there
    obtain ⟨e, he, rfl⟩ := there
    have ⟨k, tk, h1, _⟩ := good e he
    exact ⟨k, tk, h1⟩
  · exact List.map_map (f := (·.2)) (g := Builtin.Re.reRawOf) (l := es.toList) ▸ pm.map Builtin.Re.reRawOf
/-- the rising list of just the n numbers of S -/
def Rising (S : Int → Bool) (n : Nat) (ns : List Int) : Prop := ns.Pairwise (· < ·) ∧ (∀ k : Int, k ∈ ns ↔ S k = true) ∧ ns.length = n
/-- what stood before a list was made and sorted stands behind it -/
theorem sorted_keeps {h : Heap} {o u : Obj} {vs : List Value} {out : Array Value} {b : Addr} (q : h.get? b = some u) : (sortedHeap (h.push o) h.objs.size vs out).get? b = some u := by
  have lt := Heap.lt_size q
  exact (sortedHeap_old (Nat.ne_of_lt lt) (size_push' h o ▸ Nat.lt_succ_of_lt lt)).trans (Heap.get?_push_of_some o q)
section
variable {P : Program} {w : World} {A : Around} {s : Shared} {E : Value → Shared → Prop} {a : Addr}
theorem sorted_setA {S : Int → Bool} {n : Nat} {Q : Value → Shared → Prop} (R : SetR w s.heap a S n) (free : A.handled = none) (few : n ≤ sizeLine)
    (told : ∀ s' p (out : List Value) (c : Nat) (ns : List Int), (∀ b o, s.heap.get? b = some o → s'.heap.get? b = some o) → s'.gens = s.gens → s'.os = s.os → s.heap.objs.size ≤ p →
      s'.heap.get? p = some (seqObj "list" out.toArray c) → IntsAre out ns → Rising S n ns → Q (.ref p) s') : wpAny (model P w) A (call (.builtin "sorted") [.ref a]) Q E s := by
  have ⟨o, es, ep, tbl, at_a, exact_set, dat, good, once, mem, bound, fits, count, ris, led⟩ := R
  apply Calls.call_function_entry kind_sorted plain_sorted entry_sorted (args_sorted1 _)
  unfold Builtin.«sorted»
  apply wpAny_bind
  apply wpAny_pure
  apply wpAny_bind
  apply collect_set (A := A.in1) free ⟨o, at_a, exact_set.1, dat⟩ fits bound ris led
  intro s1 vs kept more gens1 os1 pm
  obtain ⟨are, perm⟩ := keys_out good pm
  have many : vs.length = n := by
    have := pm.length_eq
    rw [List.length_map] at this
    exact this.trans (Array.length_toList.trans count)
  have room : vs.length ≤ sizeLine := many ▸ few
  have at_l := Heap.get?_push_size s1.heap (o := seqObj "list" vs.toArray 0) rfl
  apply wpAny_bind
  refine wpAny_newList (hsz := room) (wpAny_bind (wpAny_holding (wpAny_call_entry slot_list_sort ⟨_, at_l, rfl⟩ entry_list_sort ?_ (args_list_sort _))))
  refine SrtO.list_sort_ord SrtO.swo_int at_l room (SrtO.ints_sortable are) fun out up stable => ⟨_, rfl, ?_⟩
  have ⟨a1, a2, a3⟩ := SrtO.ints_out are up stable
  have pn := a2.trans perm
  have ⟨c, hc⟩ := sortedHeap_at (out := out.toArray) at_l
  refine wpAny_pure ⟨_, rfl, told _ s1.heap.objs.size out c _ (fun b u e => ?_) gens1 os1 more hc a1 ⟨lt_of_le_nodup _ a3 (pn.nodup_iff.mpr once), fun k => pn.mem_iff.trans (mem k).symm, ?_⟩⟩
  · exact sorted_keeps (kept b u e)
  · rw [pn.length_eq, List.length_map]
    exact Array.length_toList.trans count
end
def rSortedSetA (w : World) : List V → Hp → VK → Prop := fun vs H Q => ∃ (a : Addr) (S : Int → Bool) (n : Nat), vs = [V.ref a] ∧ H a = some (SetO w a S n) ∧ n ≤ sizeLine ∧
  ∀ ns p, Rising S n ns → H p = none → Q (.ref p) (upd H p (.lst (ns.map V.int)))
theorem cr_sortedSetA {X : Cx} (calm : X.calm = true) : CallR X (.builtin "sorted") (rSortedSetA X.w) := by
  rintro pins s σ H vs us Q I rel ⟨a, S, n, rfl, ha, few, q⟩
  rw [Vals.ref1 rel]
  refine sorted_setA (setO_get I ha) (I.ok.hd calm) few fun s' p out c ns k g o hp hg hi up => ?_
  have len : (ns.map V.int).length ≤ sizeLine := by
    rw [List.length_map, up.2.2]
    exact few
  have new := I.hok.fresh hp
  have J := I.call' (s' := s') (ch := []) (H' := upd H p (.lst (ns.map V.int))) o (Un.laid k hp new) (I.hok.laid k hp ⟨len, out, c, vals_of_ints hi, hg⟩) (g.symm ▸ I.bare) (fun _ z => nomatch z)
  exact ⟨.ref p, _, J, rfl, q ns p up new⟩
end Tg

set_option maxHeartbeats 1000000
namespace Tg
open PySem PySem.Spec PyProof.Rows L2
/-! ### lists or tuples; sorted of a tuple of ints, of a dict by ints -/
section
variable {X : Cx}
/-- a list or a tuple -/
def SqA (K : PySem.W.Frag) (H : Hp) (a : Addr) (xs : List V) : Prop := SqL K H a xs ∨ SqT K H a xs
def iSeq (K : PySem.W.Frag) (tl : TE) : TI := fun σ H R => tl σ H fun x H1 => ∃ a, x = .ref a ∧ (((∃ xs, SqL K H1 a xs) ∧ R (Itl K a) H1) ∨ ((∃ xs, SqT K H1 a xs) ∧ R (Itt K a) H1))
theorem pi_seq {tg l : Expr} {tl : TE} (hl : PE X l tl) : PI X tg l (iSeq X.K tl) := by
  refine ⟨fun pins s σ H R I want => thn (hl.run pins s σ H _ I want) fun v s1 ⟨x, H1, I1, r1, told⟩ => ?_⟩
  obtain ⟨a, rfl, q⟩ := told
  cases r1
  rcases q with ⟨⟨xs, hq⟩, q⟩ | ⟨⟨xs, hq⟩, q⟩
  · obtain ⟨its, rv, at_, hz⟩ := I1.list hq
    refine wpAny_pyIter_list at_.isList ⟨s1.heap.objs.size, [s1.heap.objs.size], _, _, H1, rfl, I1.kept (t' := s1.toks) fun b o e => Heap.get?_push_of_some _ e, turn_list a _, ⟨_, Heap.get?_push_size _ rfl, rfl, rfl⟩, fun b hb => ?_, q⟩
    rw [List.mem_singleton.mp hb]
    exact I1.fpOk Nat.le.refl (I1.hok.fresh Nat.le.refl)
  · obtain ⟨its, rv, at_, hz⟩ := I1.tuple hq
    refine wpAny_pyIter_tuple (show s1.heap.IsTuple a its.toArray from at_) ⟨s1.heap.objs.size, [s1.heap.objs.size], _, _, H1, rfl, I1.kept (t' := s1.toks) fun b o e => Heap.get?_push_of_some _ e, turn_tuple a _, ⟨_, Heap.get?_push_size _ rfl, rfl, rfl⟩, fun b hb => ?_, q⟩
    rw [List.mem_singleton.mp hb]
    exact I1.fpOk Nat.le.refl (I1.hok.fresh Nat.le.refl)
/-- sorted of what is walked to ints -/
theorem sorted_of {pins : List (Addr × Obj)} {σ : L2.St} {H : Hp} {s : Shared} {a : Addr} {ns : List Int} {Q : VK} (I : Inv X pins σ H s) (few : ns.length ≤ sizeLine)
    (col : ∀ (R : List Value → Shared → Prop) (E : Value → Shared → Prop), (∀ (h' : Heap) (tk : Nat) (vs : List Value), (∀ b o, s.heap.get? b = some o → h'.get? b = some o) → IntsAre vs ns → R vs { s with heap := h', toks := tk }) → wpAny (model X.prog X.w) X.A.in1 (collect (.ref a)) R E s)
    (q : ∀ (ns' : List Int) (p : Addr), ns'.Perm ns → ns'.Pairwise (· ≤ ·) → H p = none → Q (.ref p) (upd H p (.lst (ns'.map V.int)))) :
    wpAny (model X.prog X.w) X.A (call (.builtin "sorted") [.ref a]) (EP X pins σ Q) X.xe s := by
  apply Calls.call_function_entry kind_sorted plain_sorted entry_sorted (args_sorted1 _)
  unfold Builtin.«sorted»
  refine wpAny_bind (m := checkCount "sorted" 1 1 _) (wpAny_pure (wpAny_bind (col _ _ fun h' tk vs kept are => ?_)))
  have I1 : Inv X pins σ H { s with heap := h', toks := tk } := I.kept kept
  have many : vs.length = ns.length := by
    have z := congrArg List.length (SrtO.iv_ints are)
    rw [List.length_map] at z
    exact z
  have room : vs.length ≤ sizeLine := many ▸ few
  refine wpAny_bind (wpAny_newList ?_ room)
  have new : (h'.push (seqObj "list" vs.toArray 0)).get? h'.objs.size = some (seqObj "list" vs.toArray 0) := Heap.get?_push_size _ rfl
  show wpAny _ _ _ _ _ { s with heap := h'.push (seqObj "list" vs.toArray 0), toks := tk }
  refine wpAny_bind (wpAny_holding (wpAny_call_entry slot_list_sort ⟨_, new, rfl⟩ entry_list_sort ?_ (args_list_sort _)))
  refine SrtO.list_sort_ord (s := { s with heap := h'.push (seqObj "list" vs.toArray 0), toks := tk }) SrtO.swo_int new room (SrtO.ints_sortable are) fun out up stable => ⟨_, rfl, ?_⟩
  have ⟨a1, a2, a3⟩ := SrtO.ints_out are up stable
  have ⟨c, hc⟩ := sortedHeap_at (vs := vs) (out := out.toArray) new
  have len : ((out.map SrtO.iv).map V.int).length ≤ sizeLine := by
    rw [List.length_map, a2.length_eq]
    exact few
  refine wpAny_pure ⟨_, rfl, .ref h'.objs.size, upd H h'.objs.size (.lst ((out.map SrtO.iv).map V.int)), I1.laid (t' := tk) (fun b u e => ?_) (Nat.le_refl _) (show ObjOk X.prog X.w _ _ _ (.lst ((out.map SrtO.iv).map V.int)) from ⟨len, out, c, vals_of_ints a1, hc⟩), rfl, q _ _ a2 a3 (I1.hok.fresh (Nat.le_refl _))⟩
  have lt : b < h'.objs.size := Heap.lt_size e
  rw [sortedHeap_old (Nat.ne_of_lt lt) (by rw [size_push']; exact Nat.lt_succ_of_lt lt)]
  refine Heap.get?_push_of_some _ ?_
  exact e
/-- sorted of a list or a tuple of ints -/
def rSortedA (K : PySem.W.Frag) : List V → Hp → VK → Prop := fun vs H Q => ∃ (a : Addr) (ns : List Int), vs = [V.ref a] ∧ SqA K H a (ns.map V.int) ∧
  ∀ (ms : List Int) (l : Addr), ms.Perm ns → ms.Pairwise (· ≤ ·) → H l = none → Q (.ref l) (upd H l (.lst (ms.map V.int)))
theorem cr_sortedA : CallR X (.builtin "sorted") (rSortedA X.K) := by
  rintro pins s σ H vs us Q I r ⟨a, ns, rfl, hs, q⟩
  rcases hs with hs | hs
  · exact cr_sortedI pins s σ H _ us Q I r ⟨a, ns, rfl, hs, q⟩
  · rw [Vals.ref1 r]
    obtain ⟨its, rv, at_, hz⟩ := I.tuple hs
    have few : ns.length ≤ sizeLine := by
      rw [List.length_map] at hz
      exact hz
    obtain ⟨o, ho, hc, n, hd⟩ := at_
    refine sorted_of I few (fun R E told => ?_) q
    refine wpAny_collect_seq a (.inr rfl) ho hc hd (fun h' kept => ?_) (by rw [List.size_toArray, ← rv.length, List.length_map]; exact few)
    exact told h' s.toks its kept rv.ints
/-- sorted of a dict whose keys are ints: its keys -/
def rSortedDI : List V → Hp → VK → Prop := fun vs H Q => ∃ (a : Addr) (kvs : List (Key × V)) (ks : List Int), vs = [V.ref a] ∧ Rd H a (.dK kvs) ∧ kvs.map (·.1) = ks.map Sum.inl ∧
  ∀ (ns' : List Int) (p : Addr), ns'.Perm ks → ns'.Pairwise (· ≤ ·) → H p = none → Q (.ref p) (upd H p (.lst (ns'.map V.int)))
theorem cr_sortedDI (calm : X.calm = true) : CallR X (.builtin "sorted") rSortedDI := by
  rintro pins s σ H vs us Q I r ⟨a, kvs, ks, rfl, hd, hks, q⟩
  rw [Vals.ref1 r]
  obtain ⟨z, lo, ws, rel, dd⟩ := dk_rd I.hok hd
  obtain ⟨ep, hat⟩ := dd.dictAt
  have hkeys : ws.map (·.1) = ks.map Sum.inl := rel.keys.symm.trans hks
  have hl : ws.length = ks.length := by
    have many := congrArg List.length hkeys
    simpa only [List.length_map] using many
  have kl : kvs.length = ks.length := by
    have many := congrArg List.length hks
    simpa only [List.length_map] using many
  refine sorted_of I (kl ▸ z) (fun R E told => ?_) q
  refine PySem.W.kdu_collect (A := X.A.in1) (PySem.W.kdl_dict (knd := mixKind X.prog X.w) (kvs := ws) (ep := ep) lo) (I.ok.hd calm) hat (by rw [hl, ← kl]; exact z) fun h' tk acc hk hacc => ?_
  refine told h' tk acc.toList hk ?_
  have size : acc.toList.length = ks.length := by rw [Array.length_toList, hacc.1, hl]
  have rv : Vals (ks.map V.int) acc.toList := vals_of_at (by rw [List.length_map, size]) fun j x u hx hu => by
    obtain ⟨k, y, e1, e2⟩ := hacc.2 j u (by rw [← hu, Array.getElem?_toList])
    have e3 : (ws.map (·.1))[j]? = some k := by
      rw [List.getElem?_map, e1]
      rfl
    rw [List.getElem?_map] at hx
    simp only [hkeys, List.getElem?_map] at e3
    obtain ⟨n, en, rfl⟩ := Option.map_eq_some_iff.mp hx
    rw [en] at e3
    have e4 : Sum.inl n = k := Option.some.inj e3
    subst e4
    exact keyIs_rel (k := .inl n) (v := u) e2
  exact rv.ints
end
/-! ### walking a list or a tuple -/
section
variable {K : PySem.W.Frag} {a : Addr} {xs : List V} {H H' : Hp}
theorem sqL_at (k : ∀ o, H a = some o → H' a = some o) (h : SqL K H a xs) : SqL K H' a xs := h.imp (fun r => r.imp (k _) fun ⟨o, e⟩ => ⟨o, k _ e⟩) id
theorem sqT_at (k : ∀ o, H a = some o → H' a = some o) (h : SqT K H a xs) : SqT K H' a xs := h.imp (fun r => r.imp (k _) fun ⟨o, e⟩ => ⟨o, k _ e⟩) id
theorem sqA_at (k : ∀ o, H a = some o → H' a = some o) (h : SqA K H a xs) : SqA K H' a xs := h.imp (sqL_at k) (sqT_at k)
/-- all rounds of a loop over J -/
abbrev Rounds (J : It) (g : TG) (tb : TS) (D : Ends) (σ : L2.St) (H : Hp) : Prop :=
  ∃ W : Nat → Nat → L2.St → Hp → Prop, (∃ m, W 0 m σ H) ∧ ∀ i m σ1 H1, W i m σ1 H1 → (J.stop i H1 ∧ D.nx σ1 H1) ∨
    (J.go i H1 ∧ ∃ N : L2.St → Hp → Prop, (∀ σ2 H2, N σ2 H2 → ∃ m2, m2 < m ∧ W (i + 1) m2 σ2 H2) ∧ ∀ x H2, J.yld i H1 x H2 → g x σ1 H2 fun σ3 H3 => tb { D with nx := N, ct := N, bk := D.nx } σ3 H3)
theorem for_seq {Hb : Hp} {g : TG} {tb : TS} {D : Ends} {σ : L2.St} (sq : SqA K Hb a xs) (Pv : Nat → L2.St → Hp → Prop) (first : Pv 0 σ H) (keep : ∀ i σ1 H1, Pv i σ1 H1 → ∀ o, Hb a = some o → H1 a = some o)
    (round : ∀ i x σ1 H1, xs[i]? = some x → Pv i σ1 H1 → g x σ1 H1 fun σ2 H2 => tb { D with nx := Pv (i + 1), ct := Pv (i + 1), bk := D.nx } σ2 H2) (last : ∀ σ1 H1, Pv xs.length σ1 H1 → D.nx σ1 H1) :
    ((∃ ys, SqL K H a ys) ∧ Rounds (Itl K a) g tb D σ H) ∨ ((∃ ys, SqT K H a ys) ∧ Rounds (Itt K a) g tb D σ H) :=
  sq.imp (fun h => ⟨⟨_, sqL_at (keep 0 σ H first) h⟩, for_list Pv first (fun i σ1 H1 _ p => sqL_at (keep i σ1 H1 p) h) round last⟩) fun h => ⟨⟨_, sqT_at (keep 0 σ H first) h⟩, for_tup Pv first (fun i σ1 H1 _ p => sqT_at (keep i σ1 H1 p) h) round last⟩
abbrev RoundsL (J : It) (g : TG) (tt : TT) (te : TE) (vs : List Nat) (σ : L2.St) (H : Hp) (D : Addr) (Qd : Hp → Prop) : Prop :=
  ∃ W : Nat → Nat → Hp → Prop, (∃ m, W 0 m (upd H D (.lst []))) ∧ ∀ i m H1, W i m H1 → (J.stop i H1 ∧ Qd H1) ∨
    (J.go i H1 ∧ ∃ Nx : Hp → Prop, (∀ H2, Nx H2 → ∃ m2, m2 < m ∧ W (i + 1) m2 H2) ∧ ∀ x H2, J.yld i H1 x H2 → g x (wipe σ vs) H2 fun σ3 H3 => wipe σ3 vs = wipe σ vs ∧ tt σ3 H3 fun b H4 =>
      if b = true then te σ3 H4 fun y H5 => ∃ acc, H5 D = some (.lst acc) ∧ acc.length < sizeLine ∧ Nx (upd H5 D (.lst (acc ++ [y]))) else Nx H4)
theorem lc_seq {g : TG} {tt : TT} {te : TE} {vs : List Nat} {σ : L2.St} {Qd : Addr → Hp → Prop} (sq : SqA K H a xs) (Pv : Addr → Nat → Hp → Prop) (first : ∀ D, H D = none → Pv D 0 (upd H D (.lst []))) (keep : ∀ D i H1, H D = none → Pv D i H1 → ∀ o, H a = some o → H1 a = some o)
    (round : ∀ D (i : Nat) (x : V) H1, H D = none → xs[i]? = some x → Pv D i H1 → g x (wipe σ vs) H1 fun σ2 H2 => wipe σ2 vs = wipe σ vs ∧ tt σ2 H2 fun b H3 =>
      if b = true then te σ2 H3 fun y H4 => ∃ acc, H4 D = some (.lst acc) ∧ acc.length < sizeLine ∧ Pv D (i + 1) (upd H4 D (.lst (acc ++ [y]))) else Pv D (i + 1) H3) (last : ∀ D H1, H D = none → Pv D xs.length H1 → Qd D H1) :
    ((∃ ys, SqL K H a ys) ∧ ∀ D, H D = none → RoundsL (Itl K a) g tt te vs σ H D (Qd D)) ∨ ((∃ ys, SqT K H a ys) ∧ ∀ D, H D = none → RoundsL (Itt K a) g tt te vs σ H D (Qd D)) :=
  sq.imp (fun h => ⟨⟨_, h⟩, fun D nD => lc_list (Pv D) (first D nD) (fun i H1 _ p => sqL_at (keep D i H1 nD p) h) (fun i x H1 e p => round D i x H1 nD e p) fun H1 p => last D H1 nD p⟩)
    fun h => ⟨⟨_, h⟩, fun D nD => lc_tup (Pv D) (first D nD) (fun i H1 _ p => sqT_at (keep D i H1 nD p) h) (fun i x H1 e p => round D i x H1 nD e p) fun H1 p => last D H1 nD p⟩
/-- {k: v for x in xs} of a list -/
theorem dc_lst {g : TG} {tt : TT} {tk tv : TE} {vs : List Nat} {σ : L2.St} {H1 : Hp} {D : Addr} {Qd : Hp → Prop} (Pv : Nat → Hp → Prop) (first : Pv 0 (upd H1 D (.dK []))) (keep : ∀ i H2, Pv i H2 → SqL K H2 a xs)
    (round : ∀ i x H2, xs[i]? = some x → Pv i H2 → g x (wipe σ vs) H2 fun σ2 H3 => wipe σ2 vs = wipe σ vs ∧ tt σ2 H3 fun b H4 =>
      if b = true then tk σ2 H4 fun y H5 => tv σ2 H5 fun z H6 => ∃ kvs k, y = kV k ∧ H6 D = some (.dK kvs) ∧ kvs.length < sizeLine ∧ Pv (i + 1) (upd H6 D (.dK (putK kvs k z))) else Pv (i + 1) H4) (last : ∀ H2, Pv xs.length H2 → Qd H2) :
    ∃ W : Nat → Nat → Hp → Prop, (∃ m, W 0 m (upd H1 D (.dK []))) ∧ ∀ i m H2, W i m H2 →
      ((Itl K a).stop i H2 ∧ Qd H2) ∨ ((Itl K a).go i H2 ∧ ∃ Nx : Hp → Prop, (∀ H3, Nx H3 → ∃ m2, m2 < m ∧ W (i + 1) m2 H3) ∧ ∀ x H3, (Itl K a).yld i H2 x H3 → g x (wipe σ vs) H3 fun σ2 H4 => wipe σ2 vs = wipe σ vs ∧ tt σ2 H4 fun b H5 =>
        if b = true then tk σ2 H5 fun y H6 => tv σ2 H6 fun z H7 => ∃ kvs k, y = kV k ∧ H7 D = some (.dK kvs) ∧ kvs.length < sizeLine ∧ Nx (upd H7 D (.dK (putK kvs k z))) else Nx H5) := by
  refine ⟨fun i m H2 => m = xs.length - i ∧ i ≤ xs.length ∧ Pv i H2, ⟨xs.length, by omega, Nat.zero_le _, first⟩, ?_⟩
  rintro i m H2 ⟨rfl, hi, p⟩
  have q := keep i H2 p
  by_cases lt : i < xs.length
  · refine .inr ⟨⟨xs, xs[i], q, List.getElem?_eq_getElem lt⟩, Pv (i + 1), fun H3 p3 => ⟨xs.length - (i + 1), by omega, rfl, lt, p3⟩, fun x H3 y => ?_⟩
    obtain ⟨rfl, y⟩ := y
    exact round i x H3 (y xs q) p
  · obtain rfl : i = xs.length := by omega
    exact .inl ⟨⟨xs, q, Nat.le_refl _⟩, last H2 p⟩
end
end Tg

set_option maxHeartbeats 1000000
namespace Tg
open PySem PySem.Spec PyProof.Rows L2
/-! ### name = {k: v for .. in ..}, the name plain: stored in the midst of the comprehension's end -/
section
variable {X : Cx}
theorem sw_dict {kx vx : Expr} {gs : List Comprehension} {scope : Scope} {pos py : Pos} {y : Str} {l : Nat} {env : Env} (fn : env.scope.kind = .function) (plain : env.scope.names.lookup y = some .local) (row : (py.line == pos.line) = true)
    (apart : (scope.names.any fun (n, k) => n == y && (k == .local || k == .cell)) = false) : swapsWith (.DictComp kx vx gs scope pos) (some (.Name y py)) l env = pure true := by
  have kind : env.kindOf y = some .local := plain
  have block : env.blockKind = .function := by
    unfold Env.blockKind
    rw [fn]
    rfl
  unfold swapsWith
  simp only [block, kind, apart, Expr.pos, row]
  rfl
theorem ps_setDc {i : Nat} {y : Str} {py pos spos : Pos} {kx vx tg iter : Expr} {ifs : List Expr} {scope : Scope} {own : List (Str × Nat)} {wi : TI} {g : TG} {tt : TT} {tk tv : TE} (calm : X.calm = true) (names : X.N.Nodup) (at_ : X.N[i]? = some y) (plain : X.env.scope.names.lookup y = some .local)
    (sw : swapsWith (.DictComp kx vx [⟨tg, iter, ifs, 0⟩] scope pos) (some (.Name y py)) spos.line X.env = pure true) (over : PI X tg iter wi) (blk : BlkOk X.N X.env.scope scope own)
    (pg : ∀ (s : Shared) (H : Hp) (C : Addr) (cl : List (Str × Addr)) (fp : List Addr), PG (X.blk s H scope (compEnvC scope cl C X.env) fp) tg g)
    (pt : ∀ (s : Shared) (H : Hp) (C : Addr) (cl : List (Str × Addr)) (fp : List Addr), PTs (X.blk s H scope (compEnvC scope cl C X.env) fp) ifs tt)
    (pk : ∀ (s : Shared) (H : Hp) (C : Addr) (cl : List (Str × Addr)) (fp : List Addr), PE (X.blk s H scope (compEnvC scope cl C X.env) fp) kx tk)
    (pw : ∀ (s : Shared) (H : Hp) (C : Addr) (cl : List (Str × Addr)) (fp : List Addr), PE (X.blk s H scope (compEnvC scope cl C X.env) fp) vx tv) (flat : ∀ x, foldedSetIterable iter X.env x = pure x := by intro _; rfl) :
    PS X (.Assign [.Name y py] (.DictComp kx vx [⟨tg, iter, ifs, 0⟩] scope pos) spos) (tAsg (tDc wi g tt tk tv (own.map (·.2))) (gName i)) := by
  refine ⟨fun pins s σ H D I read => ?_⟩
  rw [exec_Assign_Name_used _ _ _ _ sw]
  apply wpAny_bind
  refine wpAny_standAt (wpAny_bind ?_)
  show wpAny _ X.A (do let _ ← comprehension (.DictComp kx vx [⟨tg, iter, ifs, 0⟩] scope pos) scope X.env (firstIterPos [⟨tg, iter, ifs, 0⟩] pos) newDict false (eval iter X.env) (some (assign (.Name y py) X.env))) _ _ s
  have read2 : tDc wi g tt tk tv (own.map (·.2)) σ H (fun x H1 => gName i x σ H1 D.nx) := read
  refine wpAny_bind (thn (dc_core (Qf := fun _ s2 => SP X pins D .next s2) calm names I over blk pg pt pk pw flat read2 fun L C s2 m H2 I2 q ns f => ?_) fun _ s2 done => wpAny_pure (wpAny_pure done))
  rcases f with ⟨f0, f1, _, f3, f4, f5⟩
  change wpAny _ _ (assign (.Name y py) X.env (.ref L)) _ _ _
  refine wpAny_assign_Name (store_ok2 (v := V.ref L) I2 names at_ (.inl plain) rfl (fun s3 I3 ⟨a, sb, ha⟩ => ?_) (.inr plain))
  have apart : C ≠ a := by
    rcases ha with z | z
    · rw [z]
      exact f1
    · exact (f4 y a z).symm
  exact ⟨m, ns.sameBut sb apart, fun h3 sb3 => ⟨_, H2, I3.turned (t' := s3.toks) (fun b o hb e => (sb3.2 b hb).trans e) f0 f1 f3 f4 f5, q⟩⟩
end
end Tg

namespace Tg
open PySem PySem.Spec PyProof.Rows L2
/-! ### methods that may raise, called by keywords alone, in a def that lets errors out -/
def CalMRK (P : Program) (w : World) (K : PySem.W.Frag) (mg : Str → Option Value) (base : Heap) (k : Nat) (C : Addr) (m : Str) (ps ks : List Str) (is : List Nat) (sp : Sp) : Prop := ∃ f fd, FnOk P w K mg base (L2.CX P w) k f fd ps sp ∧ Meth K C m f ∧ KBn K fd ps 1 ks (fun us ws => us ++ prm is ws) (fun vs zs => vs ++ prm is zs)
section
variable {X : Cx} {E : XK} {k : Nat} {C : Addr} {m : Str} {ps ks : List Str} {is : List Nat} {sp : Sp} {o : Expr} {to : TE} {tk : TA} {pos apos : Pos} {kws : List Keyword}
theorem pe_calMRK {pl : Sem Bool} (he : PE X o to) (cl : Cls X.K C) (c : CalMRK X.prog X.w X.K X.mg X.base k C m ps ks is sp) (hr : Room k X.A) (lets : Passes (L2.CX X.prog X.w) X E) (vals : PK X kws tk)
    (named : (backToKw pos (keywordEach kws X.env)).all (·.1.isSome) = true := by rfl) (names : (backToKw pos (keywordEach kws X.env)).filterMap (·.1) = ks := by rfl)
    (nostar : ((backTo pos (starEach [] X.env)).any (·.1) || (backToKw pos (keywordEach kws X.env)).any (·.1.isNone)) = false := by rfl)
    (ht : eval (.Call (.Attribute o m apos) [] kws pos) X.env = (do let ov ← eval o X.env; standAt apos.atName; let (f, first) ← holding [ov] (getMethod ov m pl); callWith pos f first (backTo pos (starEach [] X.env)) (backToKw pos (keywordEach kws X.env))) := by rfl) :
    PE X (.Call (.Attribute o m apos) [] kws pos) (tMethK C m ks.length sp is E to tk) := by
  obtain ⟨f, fd, F, hm, hb⟩ := c
  constructor
  intro pins s σ H Q I read
  refine PySem.W.methodCall_KW (pl := pl) (thn (he.run pins s σ H _ I read) fun u s1 z => ?_) ht
  obtain ⟨_, H1, J, ru, a, dx, fs, rfl, ea, none_, told⟩ := z
  cases ru
  refine getmeth_ok J ea cl hm none_ (PySem.W.callWith_KW0 (first := [.ref a]) (h₀ := X.base) J.ok.mod.kin hm.kp named (thn (vals.run pos pins s1 σ H1 _ J told) fun ws s2 z => ?_) nostar)
  obtain ⟨zs, H2, J2, rel, many, said⟩ := z
  rw [names]
  exact ⟨J2.kIn, run_fnN (E := E) (us := [.ref a]) (vs := [.ref a]) F hr hb lets J2 (.cons rfl .nil) rel rfl many said⟩
end
end Tg

namespace Tg
open PySem PySem.Spec PyProof.Rows L2
/-! ### rules whose reading names K, said for a comprehension -/
theorem call_lenK {X : Cx} {K : PySem.W.Frag} (hK : X.K = K := by rfl) : CallR X (.builtin "len") (fun xs H Q => ∃ p ys, xs = [V.ref p] ∧ (SqL K H p ys ∨ SqT K H p ys) ∧ Q (V.int (ys.length : Nat)) H) := by
  subst hK
  exact call_len_seq
theorem mt_indexK {X : Cx} {K : PySem.W.Frag} (hK : X.K = K := by rfl) : MtR X "list.index" (rIndex K) := by
  subst hK
  exact mt_index
/-- a rule over X.K is one over K -/
theorem pe_overK {X : Cx} {K : PySem.W.Frag} {e : Expr} (t : PySem.W.Frag → TE) (h : PE X e (t X.K)) (hK : X.K = K := by rfl) : PE X e (t K) := hK ▸ h
theorem yes_i {σ : L2.St} {H : Hp} {Q : Bool → Hp → Prop} (h : Q true H) : tYes σ H Q := h
end Tg

set_option maxHeartbeats 2000000
namespace Tg
open PySem PySem.Spec PyProof.Rows L2
section
variable {prog : Program} {s : Shared} {E : Value → Shared → Prop} {w : World} {A : Around}
/-- (lambda v: v[0])(t), t a tuple -/
theorem lam_first {f c t : Addr} {pm ctv u : Value} {qual nm : Str} {params : Arguments} {scope : Scope} {p1 p2 p3 : Pos} {kk : Nat} {its : List Value} {Q : Value → Shared → Prop} (room : A.depth < recursionLimit) (lim : s.heap.NoLimit)
    (at_f : s.heap.get? f = some (PySem.W.kla_obj "<lambda>" qual params (.Subscript (.Name nm p1) (.Constant (.int 0) kk p2) p3) scope [] pm c ctv)) (code : s.heap.CodeRec (.ref c) qual)
    (binds : ∀ v, bindArgs (PySem.W.kla_fn "<lambda>" qual params (.Subscript (.Name nm p1) (.Constant (.int 0) kk p2) p3) scope [] pm (.ref c) ctv) ⟨[v], []⟩ = pure [(nm, v)])
    (loc : scope.names.lookup nm = some .local) (nocell : ∀ x ∈ scope.names, x.2 ≠ .cell) (kind : scope.kind = .function) (co : scope.isCoroutine = false) (gen : scope.isGenerator = false) (nodebug : (nm == ("__debug__" : Str)) = false) (tup : PyProof.Rows.IsTup s.heap t its.toArray) (first : its[0]? = some u)
    (told : ∀ h tk, (∀ b o, s.heap.get? b = some o → h.get? b = some o) → Q u { s with heap := h, toks := tk }) :
    wpAny (model prog w) A (call (.ref f) [.ref t]) Q E s := by
  refine wpAny_call (PySem.W.kla_callFunE room at_f rfl co gen rfl code ?_)
  rw [binds]
  refine wpAny_pure (wpAny_newFunctionEnv nocell (fun x hx => by
    cases List.mem_singleton.mp hx
    exact loc) (fun h1 ns sb => ⟨lim.fresh _ sb, PySem.W.kla_codeExpr (Subscript_ ?_)⟩) kind)
  have keeps : ∀ b o, s.heap.get? b = some o → h1.get? b = some o := fun b o e => sb.extBut b o (Nat.ne_of_lt (Heap.lt_size e)) (Heap.get?_push_of_some _ e)
  have tup1 : PyProof.Rows.IsTup h1 t its.toArray := by
    obtain ⟨o, e, r⟩ := tup
    exact ⟨o, keeps _ _ e, r⟩
  obtain ⟨m, ix, get, _, _, _⟩ := atI_get (atI_nat (j := 0) first)
  refine wpAny_Name (wpAny_loadName_local kind loc ns (v := .ref t) (by simp [List.lookup]) ?_) nodebug
  refine wpAny_Constant_int ?_
  refine subscriptTail_builtinR (x := u) tup1.typeIs slot_tuple_getitem.lookup (PyProof.Rows.getItem_tuple (j := m) tup1 (by decide) (by decide) ?_ ?_ ⟨rfl, told _ _ keeps⟩)
  · rw [List.size_toArray]
    exact ix
  · simpa using get
end
end Tg

set_option maxHeartbeats 400000
namespace Tg
open PySem PySem.Spec PyProof.Rows L2 LamX
/-- a tuple of two, its place, its first (a text), its second -/
abbrev KP := Addr × Str × V
def KTp (H : Hp) (q : KP) : Prop := H q.1 = some (.tup [.str q.2.1, q.2.2])
def kRefs (L : List KP) : List V := L.map fun q => V.ref q.1
def sortK (L : List KP) : List KP := L.mergeSort fun a b => decide (a.2.1.cps.toList ≤ b.2.1.cps.toList)
/-- sorted(e, key=lambda v: v[0]) of a list of such tuples -/
def tSortK (T : List (Addr × Str)) (te : TE) : TE := fun σ H Q => te σ H fun v H1 => ∃ (l : Addr) (L : List KP), [v] = [V.ref l] ∧ H1 l = some (.lst (kRefs L)) ∧ (∀ q, q ∈ L → KTp H1 q) ∧ Tabs T H1 ∧
  ∀ (H2 : Hp) (p : Addr), ExtN H1 H2 → Tabs T H2 → H2 p = none → Q (.ref p) (upd H2 p (.lst (kRefs (sortK L))))
theorem kRefs_vals : ∀ {L : List KP} {us : List Value}, Vals (kRefs L) us → us = L.map fun q => Value.ref q.1
  | [], us, r => by cases r; rfl
  | q :: L, us, r => by
    cases r with
    | cons a b =>
      cases a
      rw [kRefs_vals b]
      rfl
theorem each_refs : ∀ (L : List KP), PySem.W.EachIs (fun (v : Value) (q : KP) => v = .ref q.1) (L.map fun q => Value.ref q.1) L
  | [] => .nil
  | q :: L => .cons rfl (each_refs L)
theorem vals_each : ∀ {out : List Value} {L : List KP}, PySem.W.EachIs (fun (v : Value) (q : KP) => v = .ref q.1) out L → Vals (kRefs L) out
  | _, _, .nil => .nil
  | _, _, .cons a b => by
    subst a
    exact .cons rfl (vals_each b)
section
variable {X : Cx} {T : List (Addr × Str)} {c P : Addr} {k kk : Nat} {e : Expr} {te : TE} {params : Arguments} {scope : Scope} {nm : Str} {p p1 p2 p3 lpos kpos pos : Pos}
theorem sortK_call {pins : List (Addr × Obj)} {σ : L2.St} {H : Hp} {s : Shared} {E : Value → Shared → Prop} {f c l : Addr} {pm ctv : Value} {qual : Str} {L : List KP} {Q : VK} (I : Inv X pins σ H s) (room : Room k X.A) (at_l : H l = some (.lst (kRefs L))) (tups : ∀ q, q ∈ L → KTp H q)
    (at_f : s.heap.get? f = some (PySem.W.kla_obj "<lambda>" qual params (.Subscript (.Name nm p1) (.Constant (.int 0) kk p2) p3) scope [] pm c ctv)) (code : s.heap.CodeRec (.ref c) qual)
    (binds : ∀ v, bindArgs (PySem.W.kla_fn "<lambda>" qual params (.Subscript (.Name nm p1) (.Constant (.int 0) kk p2) p3) scope [] pm (.ref c) ctv) ⟨[v], []⟩ = pure [(nm, v)])
    (loc : scope.names.lookup nm = some .local) (nocell : ∀ x ∈ scope.names, x.2 ≠ .cell) (kind : scope.kind = .function) (co : scope.isCoroutine = false) (gen : scope.isGenerator = false) (nodebug : (nm == ("__debug__" : Str)) = false)
    (told : ∀ p, H p = none → Q (.ref p) (upd H p (.lst (kRefs (sortK L))))) :
    wpAny (model X.prog X.w) X.A (call (.builtin "sorted") [.ref l] [(Str.ofString "key", .ref f)]) (EP X pins σ Q) E s := by
  obtain ⟨small, its, n, rel, obj⟩ := I.hok l _ at_l
  have eits := kRefs_vals rel
  have lenL : L.length ≤ sizeLine := by
    have z : (kRefs L).length ≤ sizeLine := small
    rw [kRefs, List.length_map] at z
    exact z
  have each0 : PySem.W.EachIs (fun (v : Value) (q : KP) => v = .ref q.1) its L := by
    rw [eits]
    exact each_refs L
  have depth0 : ∀ q : KP, q ∈ L → X.A.units + 2 + (PyData.str q.2.1).depth < cLine := fun q _ => by
    have := room.units
    have d : (PyData.str q.2.1).depth = 0 := by simp [PyData.depth]
    omega
  have turn : ∀ (v : Value) (q : KP), v = .ref q.1 → q ∈ L → ∀ (h : Heap) (tk : Nat), (∀ b o, s.heap.get? b = some o → h.get? b = some o) →
      wpAny (model X.prog X.w) X.A.in1.in1 (call (.ref f) [v]) (PySem.W.KeyPure (.str q.2.1) { s with heap := h, toks := tk }) (fun _ _ => False) { s with heap := h, toks := tk } := by
    intro v q ev hq h tk keeps
    subst ev
    obtain ⟨_, its2, rel2, tup⟩ := I.hok q.1 _ (tups q hq)
    obtain ⟨u1, u2, rfl, ⟨t1, rfl⟩, _⟩ := rel2.two
    exact lam_first (s := { s with heap := h, toks := tk }) (A := X.A.in1.in1) (u := .str q.2.1 t1) room.depth (I.nolimit.keeps keeps) (keeps _ _ at_f) (code.keeps keeps) binds loc nocell kind co gen nodebug (tup.keeps keeps) rfl fun h3 tk3 k3 => ⟨h3, tk3, rfl, k3, .str _ _⟩
  refine PySem.W.sorted_key_data (f := .ref f) (b := false) (R := fun (v : Value) (q : KP) => v = .ref q.1) (bs := L) (vs := its) (fun q : KP => .str q.2.1) (PySem.IsL.isList obj) each0 (PySem.W.AllAlike.of fun _ _ => by simp [PySem.W.alike]) (PySem.W.Sortable.others fun _ => ⟨by simp, by simp⟩) lenL
      depth0 (ksk_s1 _ _) (fun _ => ksk_l1 _ _) (fun _ => ksk_t1 _ _) turn fun out cc h' tk keeps _ at_p len each => ?_
  rw [PySem.W.dataLe_str] at each
  have rel3 : Vals (kRefs (sortK L)) out := vals_each each
  have len3 : (kRefs (sortK L)).length ≤ sizeLine := by
    rw [rel3.length, len]
    exact lenL
  exact ⟨.ref _, upd H (s.heap.objs.size + 1) (.lst (kRefs (sortK L))), I.laid (t' := tk) keeps (Nat.le_succ _) ⟨len3, out, cc, rel3, at_p⟩, rfl, told _ (I.hok.fresh (Nat.le_succ _))⟩
theorem pe_sortK (list : PE X e te) (room : Room k X.A) (table : TabB X.base X.mg c P) (coded : X.env.code = .ref c) (among : (P, X.env.qual ++ "<lambda>") ∈ T) (alone : ∀ p ∈ T, p.1 = P → p.2 = X.env.qual ++ "<lambda>") (nodefaults : defaultsOf params X.env = ([], []))
    (glob : Gl X "sorted") (unset : X.mg "sorted" = none) (nostar : starEach [e] X.env = (false, eval e X.env) :: starEach [] X.env) (closed : cloFrom X.env.cells scope.names [] = [])
    (binds : ∀ qual pm c ctv v, bindArgs (PySem.W.kla_fn "<lambda>" qual params (.Subscript (.Name nm p1) (.Constant (.int 0) kk p2) p3) scope [] pm (.ref c) ctv) ⟨[v], []⟩ = pure [(nm, v)])
    (loc : scope.names.lookup nm = some .local) (nocell : ∀ x ∈ scope.names, x.2 ≠ .cell) (nofree : ∀ x ∈ scope.names, x.2 ≠ .free) (kind : scope.kind = .function) (co : scope.isCoroutine = false) (gen : scope.isGenerator = false) (nodebug : (nm == ("__debug__" : Str)) = false) :
    PE X (.Call (.Name "sorted" p) [e] [⟨some "key", .Lambda params (.Subscript (.Name nm p1) (.Constant (.int 0) kk p2) p3) scope lpos, kpos⟩] pos) (tSortK T te) := by
  constructor
  intro pins s σ H Q I read
  have args := (pa_cons list pa_nil nostar).run pos pins s σ H (fun vs H1 => ∃ (l : Addr) (L : List KP), vs = [.ref l] ∧ H1 l = some (.lst (kRefs L)) ∧ (∀ q, q ∈ L → KTp H1 q) ∧ Tabs T H1 ∧ ∀ (H2 : Hp) (p : Addr), ExtN H1 H2 → Tabs T H2 → H2 p = none → Q (.ref p) (upd H2 p (.lst (kRefs (sortK L))))) I ?_
  · refine wpAny_Call_Name_kw (ld_blt I glob unset PyProof.Rows.boot_sorted (PyProof.Rows.callWith_kw (thn args fun us s1 ⟨vs, H1, I1, r1, q1⟩ => ?_) ?_ ?_ ?_ ?_))
    · obtain ⟨l, L, ev, at_l, tups, tabs, told⟩ := q1
      subst ev
      obtain ⟨u, rfl, ru⟩ := r1.one
      cases ru
      refine PyProof.Rows.evalAll_cons (wpAny_bind (lam_make2 I1 table coded among alone tabs nodefaults (fun y hy z => absurd z (nofree y hy)) fun f c' pm ctv H2 s2 I2 ext tabs2 at_f nf _ at_c => wpAny_bind (wpAny_standAt (wpAny_pure (PyProof.Rows.evalAll_nil ?_)))))
      rw [closed] at at_f
      have codeR : s2.heap.CodeRec (.ref c') (X.env.qual ++ "<lambda>") := by
        obtain ⟨⟨oc, vs, t, z1, z2, z3⟩, _⟩ := I2.hok c' _ at_c
        exact ⟨c', oc, vs, t, rfl, z1, z2, z3⟩
      exact sortK_call I2 room (ext _ _ at_l fun ps z => by cases z) (fun q hq => ext _ _ (tups q hq) fun ps z => by cases z) at_f codeR (binds _ _ _ _) loc nocell kind co gen nodebug fun p np => told H2 p ext tabs2 np
    · rw [nostar]
      rfl
    · rw [nostar]
      rfl
    · rfl
    · rfl
  · exact read
end
end Tg

set_option maxHeartbeats 400000
namespace Tg
open PySem PySem.Spec PyProof.Rows L2 LamX
/-! ### a def that makes lambdas: its code object is known -/
structure FunC (K : PySem.W.Frag) (x qual : Str) (st : Stmt) (c : Addr) (f : Addr) (fd : FuncData) : Prop where
  ex : ∃ (oc : Value) (od : Option Addr) (kV doc pm : Value) (an : Option Addr) (ct : Value) (osl : Array (Option Value)),
    fd = PySem.W.fnOf x qual (defArgs st) (defBody st) (defScope st) .none kV doc pm an (.ref c) ct ∧ K.lookup f = some ⟨oc, od, .func fd, osl⟩ ∧ PySem.W.codeIn K (.ref c) qual = true
  kept : PySem.W.keepIn K (.ref f) = true
section
variable {P : Program} {w : World} {K : PySem.W.Frag} {mg : Str → Option Value} {base : Heap}
theorem FunC.ok {x qual : Str} {st : Stmt} {c f : Addr} {fd : FuncData} {N ps : List Str} {k : Nat} {sp : Sp} (F : FunC K x qual st c f fd) (S : FnScope N ps (defScope st)) (len : ∀ vs H Q E, sp vs H Q E → vs.length = ps.length)
    (hbody : ∀ (A : Around) (outer : List Env) (s : Shared) (H : Hp) (vs : List V) (Q : VK) (E : XK), Room k (A.deeper (envOfC qual (defScope st) s.heap.objs.size f (.ref c))) → sp vs H Q E →
      ∃ t, PSs (cxOf CX0 P w K mg base N qual (defScope st) f (.ref c) A outer s H E).nox (defBody st) t ∧ t { nx := fun _ H' => Q .non H', rt := Q } (start N vs) H) : FnOk P w K mg base CX0 (k + 1) f fd ps sp := by
  obtain ⟨oc, od, kV, doc, pm, an, ct, osl, rfl, lk, hcd⟩ := F.ex
  refine fn_of lk hcd S len fun A outer s H vs Q E hr told => ?_
  obtain ⟨t, h, q⟩ := hbody A outer s H vs Q E hr told
  exact ⟨t, h.nox, q⟩
theorem FunC.fn {x qual : Str} {st : Stmt} {c f : Addr} {fd : FuncData} (F : FunC K x qual st c f fd) : Fun K x qual st f fd := by
  obtain ⟨oc, od, kV, doc, pm, an, ct, osl, h1, h2, h3⟩ := F.ex
  exact ⟨⟨oc, od, kV, doc, pm, an, .ref c, ct, osl, h1, h2, h3⟩, F.kept⟩
theorem func_mk {x qual : Str} {st : Stmt} {c f : Addr} {oc : Value} {od an : Option Addr} {osl : Array (Option Value)} {kV doc pm ct : Value} (l : K.lookup f = some ⟨oc, od, .func (PySem.W.fnOf x qual (defArgs st) (defBody st) (defScope st) .none kV doc pm an (.ref c) ct), osl⟩)
    (h : PySem.W.codeIn K (.ref c) qual = true) (k : PySem.W.keepIn K (.ref f) = true) : FunC K x qual st c f (PySem.W.fnOf x qual (defArgs st) (defBody st) (defScope st) .none kV doc pm an (.ref c) ct) := ⟨⟨oc, od, kV, doc, pm, an, ct, osl, rfl, l, h⟩, k⟩
end
/-! ### what stands where a table may have grown -/
/-- T's tables are well, all but tables stands -/
structure Grow (T : List (Addr × Str)) (H H' : Hp) : Prop where
  ext : ExtN H H'
  tabs : Tabs T H'
theorem Grow.trans {T : List (Addr × Str)} {H H1 H2 : Hp} (a : Grow T H H1) (b : Grow T H1 H2) : Grow T H H2 := ⟨a.ext.trans b.ext, b.tabs⟩
theorem Grow.same {T : List (Addr × Str)} {H H1 H2 : Hp} (a : Grow T H H1) (b : Same H1 H2) : Grow T H H2 := ⟨a.ext.trans (.of b), a.tabs.ext b⟩
theorem Grow.of {T : List (Addr × Str)} {H H' : Hp} (t : Tabs T H) (s : Same H H') : Grow T H H' := ⟨.of s, t.ext s⟩
theorem fix_tbl {o : HO} (f : Fix o) : ∀ ps, o ≠ .tbl ps := fun ps z => by
  rw [z] at f
  exact f
theorem ExtN.kt {H H' : Hp} (e : ExtN H H') : KT H H' := fun a o f h => e a o h (fix_tbl f)
theorem rd_ext {H H' : Hp} {a : Addr} {o : HO} (s : ExtN H H') (n : ∀ ps, o ≠ .tbl ps) (h : Rd H a o) : Rd H' a o := by
  rcases h with h | ⟨ob, h⟩
  · exact .inl (s _ _ h n)
  · exact .inr ⟨ob, s _ _ h (fun ps z => nomatch z)⟩
theorem sqL_ext {K : PySem.W.Frag} {H H' : Hp} {a : Addr} {xs : List V} (s : ExtN H H') (h : SqL K H a xs) : SqL K H' a xs := h.imp (rd_ext s fun _ z => nomatch z) id
theorem sqT_ext {K : PySem.W.Frag} {H H' : Hp} {a : Addr} {xs : List V} (s : ExtN H H') (h : SqT K H a xs) : SqT K H' a xs := h.imp (rd_ext s fun _ z => nomatch z) id
mutual
theorem dp_ext {K : PySem.W.Frag} {H H' : Hp} (s : ExtN H H') : ∀ {x : V} {d : PyData}, Dp K H x d → Dp K H' x d
  | _, _, .non => .non
  | _, _, .bl b => .bl b
  | _, _, .int i => .int i
  | _, _, .str z => .str z
  | _, _, .lst a b => .lst (sqL_ext s a) (dpAll_ext s b)
  | _, _, .tup a b => .tup (sqT_ext s a) (dpAll_ext s b)
theorem dpAll_ext {K : PySem.W.Frag} {H H' : Hp} (s : ExtN H H') : ∀ {xs : List V} {ds : List PyData}, DpAll K H xs ds → DpAll K H' xs ds
  | _, _, .nil => .nil
  | _, _, .cons a b => .cons (dp_ext s a) (dpAll_ext s b)
end
theorem ext_new {H H1 : Hp} {p : Addr} {o : HO} (e : ExtN H H1) (h : H p = none) : ExtN H (upd H1 p o) := fun b x y n => by
  rw [upd_ne (ne_of_none y h)]
  exact e _ _ y n
theorem tabs_kp {T : List (Addr × Str)} {p : Addr} {o : HO} {H H' : Hp} (k : Kp p H H') (h : H p = some o) (n1 : ∀ ps, o ≠ .tbl ps) (n2 : ∀ φ, o ≠ .ext φ) (t : Tabs T H) : Tabs T H' := fun r hr => by
  obtain ⟨ps, h1, h2, h3⟩ := t r hr
  refine ⟨ps, k _ _ (fun z => n1 ps (Option.some.inj (h.symm.trans (by rw [← z]; exact h1)))) h1, h2, fun pos cv hc => ?_⟩
  obtain ⟨code, e1, e2⟩ := h3 pos cv hc
  exact ⟨code, e1, k _ _ (fun z => n2 _ (Option.some.inj (h.symm.trans (by rw [← z]; exact e2)))) e2⟩
end Tg

namespace Tg
open PySem PySem.Spec PyProof.Rows L2 LamX
/-! ### a lambda that is only handed on -/
def tLamV (T : List (Addr × Str)) : TE := fun _ H Q => Tabs T H ∧ ∀ f H1, ExtN H H1 → Tabs T H1 → H1 f = none → Q (.ref f) H1
theorem pe_lamV {X : Cx} {T : List (Addr × Str)} {c P : Addr} {params : Arguments} {body : Expr} {scope : Scope} {pos : Pos} (TB : TabB X.base X.mg c P) (code : X.env.code = .ref c) (there : (P, X.env.qual ++ "<lambda>") ∈ T) (one : ∀ p ∈ T, p.1 = P → p.2 = X.env.qual ++ "<lambda>")
    (plain : defaultsOf params X.env = ([], []) := by rfl) (closed : (scope.names.all fun y => !decide (y.2 = .free)) = true := by decide +kernel) : PE X (.Lambda params body scope pos) (tLamV T) := by
  constructor
  intro pins s σ H Q I read
  obtain ⟨tabs, q⟩ := read
  have nofree : ∀ y ∈ scope.names, y.2 = .free → ∃ c, X.env.cells.lookup y.1 = some c := fun y hy e => by
    have z := List.all_eq_true.mp closed y hy
    rw [decide_eq_true e] at z
    cases z
  exact lam_make2 I TB code there one tabs plain nofree fun f c' pm ctv H1 s' J grow tabs1 _ free _ _ => ⟨.ref f, H1, J, rfl, q f H1 grow tabs1 free⟩
end Tg

namespace Tg
open PySem PySem.Spec PyProof.Rows L2
/-! ### dicts compared, their values data -/
def DpK (K : PySem.W.Frag) (H : Hp) (kvs : List (Key × V)) (ds : List (Key × PyData)) : Prop := Paired (fun (p : Key × V) (q : Key × PyData) => p.1 = q.1 ∧ Dp K H p.2 q.2 ∧ SeqAt.shaped q.2 = true) kvs ds
def findD (ds : List (Key × PyData)) (k : Key) : Option PyData := (ds.find? fun p => decide (p.1 = k)).map (·.2)
def hitsD (da db : List (Key × PyData)) : Bool := da.all fun p => match findD db p.1 with
  | none => false
  | some e => PyData.eqv p.2 e
def eqvK (da db : List (Key × PyData)) : Bool := da.length == db.length && hitsD da db
section
variable {H : Hp} {X : Cx} {s : Shared} {σ : L2.St} {pins : List (Addr × Obj)}
theorem find_both {k : Key} : ∀ {kb : List (Key × V)} {db : List (Key × PyData)} {vb : List (Key × Value)}, DpK X.K H kb db → KV kb vb →
    (valueAt vb k = none ∧ findD db k = none) ∨ ∃ y u e, valueAt vb k = some u ∧ findD db k = some e ∧ RelV y u ∧ Dp X.K H y e ∧ SeqAt.shaped e = true
  | _, _, _, .nil, .nil => .inl ⟨rfl, rfl⟩
  | p :: kb, q :: db, v :: vb, .cons ⟨e1, d1, s1⟩ t1, .cons ⟨e2, r2⟩ t2 => by
    have ih := find_both (k := k) t1 t2
    unfold valueAt findD at ih ⊢
    rw [List.find?_cons, List.find?_cons]
    by_cases h : v.1 = k
    · rw [decide_eq_true h, decide_eq_true (e1.symm.trans (e2.trans h))]
      exact .inr ⟨p.2, v.2, q.2, rfl, rfl, r2, d1, s1⟩
    · rw [decide_eq_false h, decide_eq_false (fun z => h (e2.symm.trans (e1.trans z)))]
      exact ih
theorem hits_of {A : Around} (hu : A.in1.units + 64 < cLine) (I : Inv X pins σ H s) {kb : List (Key × V)} {db : List (Key × PyData)} {vb : List (Key × Value)} (pb : DpK X.K H kb db) (rb : KV kb vb) :
    ∀ {ka : List (Key × V)} {da : List (Key × PyData)} {va : List (Key × Value)}, DpK X.K H ka da → KV ka va → PySem.W.KeqHits A.in1 s vb va (hitsD da db)
  | _, _, _, .nil, .nil => .nil
  | p :: ka, q :: da, v :: va, .cons ⟨e1, d1, s1⟩ t1, .cons ⟨e2, r2⟩ t2 => by
    have ih := hits_of hu I pb rb t1 t2
    obtain ⟨k, u⟩ := v
    have ek : k = q.1 := e2.symm.trans e1
    subst ek
    rcases find_both (X := X) (k := q.1) pb rb with ⟨n1, n2⟩ | ⟨y, z, e, f1, f2, ry, dy, sy⟩
    · have eh : hitsD (q :: da) db = false := by
        unfold hitsD
        rw [List.all_cons, n2]
        rfl
      rw [eh]
      exact .miss n1
    · have eh : hitsD (q :: da) db = (PyData.eqv q.2 e && hitsD da db) := by
        unfold hitsD
        rw [List.all_cons, f2]
      rw [eh]
      obtain ⟨as, ra⟩ := Dp.reads I q.2 p.2 u d1 r2
      obtain ⟨bs, rz⟩ := Dp.reads I e y z dy ry
      exact .hit f1 (PySem.W.keq_at ra rz s1 sy hu) ih
def rEqK (K : PySem.W.Frag) (neg : Bool) : R2 := fun x y H Q => ∃ (a b : Addr) (ka kb : List (Key × V)) (da db : List (Key × PyData)), x = .ref a ∧ y = .ref b ∧ H a = some (.dK ka) ∧ H b = some (.dK kb) ∧ DpK K H ka da ∧ DpK K H kb db ∧ Q (.bl (if neg = true then !eqvK da db else eqvK da db)) H
theorem sizes_of {K : PySem.W.Frag} {ka : List (Key × V)} {da : List (Key × PyData)} {va : List (Key × Value)} (p : DpK K H ka da) (r : KV ka va) : va.length = da.length := (Paired.length r).symm.trans (Paired.length p)
theorem op_eqK (hu : X.A.units + 65 < cLine) : OpR X (compareOp .Eq) (rEqK X.K false) := by
  rintro pins s σ H x y v u Q I rx ry ⟨a, b, ka, kb, da, db, rfl, rfl, ha, hb, pa, pb, q⟩
  cases rx
  cases ry
  obtain ⟨_, la, va, ra, oa⟩ := (show ObjOk X.prog X.w H s.heap a (.dK ka) from I.hok a _ ha)
  obtain ⟨_, lb, vb, rb, ob⟩ := (show ObjOk X.prog X.w H s.heap b (.dK kb) from I.hok b _ hb)
  refine PySem.W.keq_eq la lb oa ob (by omega) (fun _ => hits_of (A := X.A) (by show X.A.units + 1 + 64 < cLine; omega) I pb rb pa ra) ?_
  rw [sizes_of pa ra, sizes_of pb rb]
  exact ⟨.bl _, H, I, rfl, q⟩
theorem op_neK (hu : X.A.units + 65 < cLine) : OpR X (compareOp .NotEq) (rEqK X.K true) := by
  rintro pins s σ H x y v u Q I rx ry ⟨a, b, ka, kb, da, db, rfl, rfl, ha, hb, pa, pb, q⟩
  cases rx
  cases ry
  obtain ⟨_, la, va, ra, oa⟩ := (show ObjOk X.prog X.w H s.heap a (.dK ka) from I.hok a _ ha)
  obtain ⟨_, lb, vb, rb, ob⟩ := (show ObjOk X.prog X.w H s.heap b (.dK kb) from I.hok b _ hb)
  refine PySem.W.keq_ne la lb oa ob (by omega) (fun _ => hits_of (A := X.A) (by show X.A.units + 1 + 64 < cLine; omega) I pb rb pa ra) ?_
  rw [sizes_of pa ra, sizes_of pb rb]
  exact ⟨.bl _, H, I, rfl, q⟩
end
end Tg

set_option maxHeartbeats 1000000
namespace Tg
open PySem PySem.Spec PyProof.Rows L2
/-! ### min(xs, default=None), max(xs, default=None), xs a list of areI -/
theorem minOf_is : ∀ (ys : List Int) (y : Int), PySem.W.minOf y ys ∈ y :: ys ∧ ∀ z, z ∈ y :: ys → PySem.W.minOf y ys ≤ z
  | [], y => ⟨List.mem_cons_self, fun z hz => by
    rw [List.mem_singleton.mp hz]
    exact Int.le_refl _⟩
  | x :: ys, y => by
    have e : PySem.W.minOf y (x :: ys) = PySem.W.minOf (if decide (x < y) = true then x else y) ys := rfl
    obtain ⟨i1, i2⟩ := minOf_is ys (if decide (x < y) = true then x else y)
    rw [e]
    have a0 := i2 _ List.mem_cons_self
    by_cases c : x < y
    · rw [if_pos (decide_eq_true c)] at i1 i2 a0 ⊢
      refine ⟨List.mem_cons_of_mem _ i1, fun z inside => ?_⟩
      rcases List.mem_cons.mp inside with rfl | inside
      · omega
      · exact i2 z inside
    · rw [if_neg (fun z => c (of_decide_eq_true z))] at i1 i2 a0 ⊢
      refine ⟨?_, fun z inside => ?_⟩
      · rcases List.mem_cons.mp i1 with h | h
        · rw [h]
          exact List.mem_cons_self
        · exact List.mem_cons_of_mem _ (List.mem_cons_of_mem _ h)
      · rcases List.mem_cons.mp inside with rfl | inside
        · exact a0
        · rcases List.mem_cons.mp inside with rfl | inside
          · omega
          · exact i2 z (List.mem_cons_of_mem _ inside)
theorem maxOf_is : ∀ (ys : List Int) (y : Int), PySem.W.maxOf y ys ∈ y :: ys ∧ ∀ z, z ∈ y :: ys → z ≤ PySem.W.maxOf y ys
  | [], y => ⟨List.mem_cons_self, fun z hz => by
    rw [List.mem_singleton.mp hz]
    exact Int.le_refl _⟩
  | x :: ys, y => by
    have e : PySem.W.maxOf y (x :: ys) = PySem.W.maxOf (if decide (y < x) = true then x else y) ys := rfl
    obtain ⟨i1, i2⟩ := maxOf_is ys (if decide (y < x) = true then x else y)
    rw [e]
    have a0 := i2 _ List.mem_cons_self
    by_cases c : y < x
    · rw [if_pos (decide_eq_true c)] at i1 i2 a0 ⊢
      refine ⟨List.mem_cons_of_mem _ i1, fun z inside => ?_⟩
      rcases List.mem_cons.mp inside with rfl | inside
      · omega
      · exact i2 z inside
    · rw [if_neg (fun z => c (of_decide_eq_true z))] at i1 i2 a0 ⊢
      refine ⟨?_, fun z inside => ?_⟩
      · rcases List.mem_cons.mp i1 with h | h
        · rw [h]
          exact List.mem_cons_self
        · exact List.mem_cons_of_mem _ (List.mem_cons_of_mem _ h)
      · rcases List.mem_cons.mp inside with rfl | inside
        · exact a0
        · rcases List.mem_cons.mp inside with rfl | inside
          · omega
          · exact i2 z (List.mem_cons_of_mem _ inside)
section
variable {X : Cx} {e : Expr} {te : TE} {p pos cpos kpos : Pos} {j : Nat}
/-- a number or None -/
def vO : Option Int → V
  | none => .non
  | some m => .int m
def tMinDef (K : PySem.W.Frag) (te : TE) : TE := fun σ H Q => te σ H fun x H1 => ∃ (l : Addr) (ns : List Int), x = .ref l ∧ SqL K H1 l (ns.map V.int) ∧ Q (vO ns.min?) H1
def tMaxDef (K : PySem.W.Frag) (te : TE) : TE := fun σ H Q => te σ H fun x H1 => ∃ (l : Addr) (ns : List Int), x = .ref l ∧ SqL K H1 l (ns.map V.int) ∧ Q (vO ns.max?) H1
theorem pe_minDef (calm : X.calm = true) (room : X.A.units + 1 < cLine) (glob : Gl X "min") (unset : X.mg "min" = none) (he : PE X e te) (nostar : starEach [e] X.env = (false, eval e X.env) :: starEach [] X.env := by rfl) :
    PE X (.Call (.Name "min" p) [e] [⟨some "default", .Constant .none j cpos, kpos⟩] pos) (tMinDef X.K te) := by
  constructor
  intro pins s σ H Q I read
  refine wpAny_Call_Name_kw (ld_blt I glob unset boot_min (callWith_kw (thn ((pa_cons he pa_nil nostar).run pos pins s σ H (fun vs H1 => ∃ (l : Addr) (ns : List Int), vs = [.ref l] ∧ SqL X.K H1 l (ns.map V.int) ∧ Q (vO ns.min?) H1) I ?_) fun us s1 come => ?_) (by rw [nostar]; rfl) (by rw [nostar]; rfl) rfl rfl))
  · have mono : ∀ x H1, (∃ (l : Addr) (ns : List Int), x = .ref l ∧ SqL X.K H1 l (ns.map V.int) ∧ Q (vO ns.min?) H1) → tNil σ H1 (fun xs H2 => ∃ (l : Addr) (ns : List Int), x :: xs = [.ref l] ∧ SqL X.K H2 l (ns.map V.int) ∧ Q (vO ns.min?) H2) := fun x H1 h => by
      obtain ⟨l, ns, ex, r⟩ := h
      exact ⟨l, ns, by rw [ex], r⟩
    have ext : (fun x H1 => ∃ (l : Addr) (ns : List Int), x = V.ref l ∧ SqL X.K H1 l (ns.map V.int) ∧ Q (vO ns.min?) H1) = fun x H1 => tNil σ H1 (fun xs H2 => ∃ (l : Addr) (ns : List Int), x :: xs = [.ref l] ∧ SqL X.K H2 l (ns.map V.int) ∧ Q (vO ns.min?) H2) := by
      funext x H1
      refine propext ⟨mono x H1, fun h => ?_⟩
      obtain ⟨l, ns, ex, r⟩ := h
      exact ⟨l, ns, (List.cons.inj ex).1, r⟩
    show te σ H (fun x H1 => tNil σ H1 _)
    rw [← ext]
    exact read
  · obtain ⟨_, H1, J, rel, l, ns, rfl, hl, fin⟩ := come
    rw [Vals.ref1 rel]
    obtain ⟨its, rv, isl, _⟩ := J.list hl
    have areI : IntsAre its ns := intsAre_of rv
    refine evalAll_cons (wpAny_bind (wpAny_Constant_none (wpAny_bind (wpAny_standAt (wpAny_pure (evalAll_nil ?_))))))
    refine PySem.W.min_list_datum_default (α := Int) (xs := ns) (J.ok.hd calm) isl.isList ⟨[], areI.reads s1.heap⟩ room (fun en h' tk kp => ?_) fun y ys i v h' tk en at_i holds kp => ?_
    · refine ⟨.non, H1, J.kept kp, rfl, ?_⟩
      rw [en] at fin
      exact fin
    · obtain ⟨as, rd⟩ := holds
      obtain ⟨h1, h2⟩ := minOf_is ys y
      have rd' : Reads h' v (.int (PySem.W.minOf y ys)) as := rd
      cases rd'
      refine ⟨.int _, H1, J.kept kp, ⟨_, rfl⟩, ?_⟩
      rw [en, List.min?_eq_some_iff.mpr ⟨h1, h2⟩] at fin
      exact fin
theorem pe_maxDef (calm : X.calm = true) (room : X.A.units + 1 < cLine) (glob : Gl X "max") (unset : X.mg "max" = none) (he : PE X e te) (nostar : starEach [e] X.env = (false, eval e X.env) :: starEach [] X.env := by rfl) :
    PE X (.Call (.Name "max" p) [e] [⟨some "default", .Constant .none j cpos, kpos⟩] pos) (tMaxDef X.K te) := by
  constructor
  intro pins s σ H Q I read
  refine wpAny_Call_Name_kw (ld_blt I glob unset boot_max (callWith_kw (thn ((pa_cons he pa_nil nostar).run pos pins s σ H (fun vs H1 => ∃ (l : Addr) (ns : List Int), vs = [.ref l] ∧ SqL X.K H1 l (ns.map V.int) ∧ Q (vO ns.max?) H1) I ?_) fun us s1 come => ?_) (by rw [nostar]; rfl) (by rw [nostar]; rfl) rfl rfl))
  · have ext : (fun x H1 => ∃ (l : Addr) (ns : List Int), x = V.ref l ∧ SqL X.K H1 l (ns.map V.int) ∧ Q (vO ns.max?) H1) = fun x H1 => tNil σ H1 (fun xs H2 => ∃ (l : Addr) (ns : List Int), x :: xs = [.ref l] ∧ SqL X.K H2 l (ns.map V.int) ∧ Q (vO ns.max?) H2) := by
      funext x H1
      refine propext ⟨fun h => ?_, fun h => ?_⟩
      · obtain ⟨l, ns, ex, r⟩ := h
        exact ⟨l, ns, by rw [ex], r⟩
      · obtain ⟨l, ns, ex, r⟩ := h
        exact ⟨l, ns, (List.cons.inj ex).1, r⟩
    show te σ H (fun x H1 => tNil σ H1 _)
    rw [← ext]
    exact read
  · obtain ⟨_, H1, J, rel, l, ns, rfl, hl, fin⟩ := come
    rw [Vals.ref1 rel]
    obtain ⟨its, rv, isl, _⟩ := J.list hl
    have areI : IntsAre its ns := intsAre_of rv
    refine evalAll_cons (wpAny_bind (wpAny_Constant_none (wpAny_bind (wpAny_standAt (wpAny_pure (evalAll_nil ?_))))))
    refine PySem.W.max_list_datum_default (α := Int) (xs := ns) (J.ok.hd calm) isl.isList ⟨[], areI.reads s1.heap⟩ room (fun en h' tk kp => ?_) fun y ys i v h' tk en at_i holds kp => ?_
    · refine ⟨.non, H1, J.kept kp, rfl, ?_⟩
      rw [en] at fin
      exact fin
    · obtain ⟨as, rd⟩ := holds
      obtain ⟨h1, h2⟩ := maxOf_is ys y
      have rd' : Reads h' v (.int (PySem.W.maxOf y ys)) as := rd
      cases rd'
      refine ⟨.int _, H1, J.kept kp, ⟨_, rfl⟩, ?_⟩
      rw [en, List.max?_eq_some_iff.mpr ⟨h1, h2⟩] at fin
      exact fin
end
end Tg

namespace Tg
open PySem PySem.Spec PyProof.Rows L2
/-! ### set(xs), xs a list of ints; sorted of it -/
section
variable {w : World} {P : Program} {s : Shared} {A : Around} {E : Value → Shared → Prop}
/-- a set without members, as it is laid -/
def emp (w : World) : Obj := { cls := .type "set", dict := none, data := .set #[] 0 (.fresh 0 0 (!w.params.followText "set-order")) }
/-- what has to come of it -/
def Came (w : World) (s : Shared) (ns : List Int) (h' : Heap) (c : Nat) : Prop := SetR w h' s.heap.objs.size (fun j => decide (j ∈ ns)) c ∧ c ≤ ns.length ∧ ∀ b o, s.heap.get? b = some o → h'.get? b = some o
theorem isl_plain {l : Addr} {items : Array Value} {hp : Heap} (h : hp.IsList l items) : ∃ o, hp.get? l = some o ∧ o.cls = .type "list" ∧ ∃ n, o.data = .seq items n := by
  exact h
set_option maxHeartbeats 3200000 in
theorem call_setL {l : Addr} {items : Array Value} (ns : List Int) {Q : Value → Shared → Prop} (calm : A.handled = none) (hl : s.heap.IsList l items) (are : IntsAre items.toList ns) (few : ns.length + 1 < scanBound)
    (out : ∀ (h' : Heap) (tk c : Nat), Came w s ns h' c → Q (.ref s.heap.objs.size) { s with heap := h', toks := tk }) : wpAny (model P w) A (call (.type "set") [.ref l]) Q E s := by
  have many : items.size = ns.length := by
    have z := IntsAre.length are
    rwa [Array.length_toList] at z
  obtain ⟨cc, rest, line⟩ := F.called_set.mro
  have f1 := F.called_set.made
  have f2 := F.called_set.sub
  refine wpAny_call (codeAny_of_tree (show wpAny _ _ (callAny (.type "set") _) _ _ _ from wpAny_pure ⟨Code.quiet_builtin _ (by decide +kernel), codeAny_builtin F.entry_type_call ?_⟩))
  rw [Around.under_plain (weight_type_call_type "set" [.ref l] []) rfl]; have f3 := F.called_set.notType
  have f4 := F.called_set.canCreate
  have f5 := F.typeCall_set_1 (.ref l); repeat (any_goals (first | assumption | wp_step))
  refine codeAny_mono (code_set_led1 (.ref l) (E := E) (Q₁ := fun obj s₁ => obj = .ref s.heap.objs.size ∧ s₁ = { s with heap := s.heap.push (emp w) }) ⟨rfl, rfl⟩) fun r s₁ hr => ?_
  match r, hr with
  | .error e, hr => exact hr
  | .ok .next, hr => exact hr.elim
  | .ok .brk, hr => exact hr.elim
  | .ok .cont, hr => exact hr.elim
  | .ok (.ret obj), ⟨eo, es⟩ =>
    subst eo
    subst es
    have at0 : (s.heap.push (emp w)).get? s.heap.objs.size = some (emp w) := Heap.get?_push_size _ rfl
    have ty0 : Shared.TypeIs { s with heap := s.heap.push (emp w) } (.ref s.heap.objs.size) "set" := ⟨_, at0, rfl⟩
    have f6 := F.called_set.init.lookup
    have f7 := F.called_set.init.bind (.ref s.heap.objs.size); repeat (any_goals (first | assumption | wp_step))
    refine codeAny_mono (codeAny_call_builtin (R := wants (fun r s₂ => r = .none ∧ ∃ h' tk c, s₂ = { s with heap := h', toks := tk } ∧ Came w s ns h' c) E) F.called_set.init.plain F.entry_set_init (check_set_init_1 ty0 ?_)) fun r₂ s₂ hr₂ => ?_
    · obtain ⟨⟨ocls, odict, odata, oslots⟩, hol, hcl, nl, hdl⟩ := isl_plain hl
      simp only at hcl hdl
      subst hcl
      subst hdl
      have below : l < s.heap.objs.size := Heap.lt_size hol
      have at1 : (s.heap.push (emp w)).get? l = some { cls := .type "list", dict := odict, data := .seq items nl, slots := oslots } := Heap.get?_push_of_some _ hol
      have g1 := F.sub_list_set
      have g2 := F.sub_list_frozenset
      have g3 : (Value.type "list" == Value.type "dict") = false := by decide
      have hl1 : (s.heap.push (emp w)).IsList l items := hl.push _
      unfold Builtin.«set.__init__» noKeywords Builtin.Frozenset.updateFrom; generalize hPI : pyIter = PI
      wp_walk
      subst hPI
      refine wpAny_pyIter_list hl1 (wpAny_bind (wpAny_runValue ?_))
      have hh3 : A.in1.in1.in1.handled = none := by simp [calm]
      have apart : l ≠ (s.heap.push (emp w)).objs.size := by
        rw [Heap.size_push]
        exact Nat.ne_of_lt (Nat.lt_succ_of_lt below)
      have off : s.heap.objs.size ∉ [(s.heap.push (emp w)).objs.size, l] := by
        rw [Heap.size_push]
        simp only [List.mem_cons, List.mem_singleton, List.not_mem_nil, or_false, not_or]
        exact ⟨Nat.ne_of_lt (Nat.lt_succ_self _), Nat.ne_of_gt below⟩
      have vals : ∀ (i : Nat) (v : Value), items[i]? = some v → ∃ k t, ns[i]? = some k ∧ v = .int k t := fun i v hv => by
        have hi : i < ns.length := many ▸ (Array.getElem?_eq_some_iff.mp hv).1
        obtain ⟨t, e⟩ := PyProof.Rows.IntsAre.int_at are i v (by rw [Array.getElem?_toList]; exact hv)
        rw [List.getD_eq_getElem?_getD, List.getElem?_eq_getElem hi] at e
        exact ⟨ns[i], t, List.getElem?_eq_getElem hi, e⟩
      refine set_update_ints ((Walks.list hh3 _ l apart items).toS) s.heap.objs.size off ns many few vals (items.size - 0) 0 _ (by omega) (Nat.zero_le _) ⟨⟨_, Heap.get?_push_size _ rfl, rfl, rfl⟩, hl1.push _⟩ ?_ ?_
      · exact ⟨0, Nat.le_refl 0, setR_new_at (Heap.get?_push_of_some _ at0)⟩
      · intro s' c' hm hc' hS'
        obtain ⟨h', g2', d', tk', os'⟩ := s'
        obtain rfl : g2' = s.gens := hm.gens
        obtain rfl : d' = s.drawn := hm.drawn
        obtain rfl : os' = s.os := hm.os
        show wpAny _ _ _ _ _ _
        refine wpAny_pure (show wpAny _ _ (ret Value.none) _ _ _ from wpAny_pure ⟨rfl, h', tk', c', rfl, hS', many ▸ hc', fun b o e => ?_⟩)
        have lt := Heap.lt_size e
        refine hm.heap b o ?_ (Heap.get?_push_of_some _ (Heap.get?_push_of_some _ e))
        simp only [List.mem_cons, List.mem_singleton, List.not_mem_nil, or_false, not_or]
        rw [Heap.size_push]
        exact ⟨Nat.ne_of_lt lt, Nat.ne_of_lt (Nat.lt_succ_of_lt lt)⟩
    · match r₂, hr₂ with
      | .error e, hr₂ => exact hr₂
      | .ok .next, hr₂ => exact hr₂.elim
      | .ok .brk, hr₂ => exact hr₂.elim
      | .ok .cont, hr₂ => exact hr₂.elim
      | .ok (.ret r), ⟨e1, h', tk, c', e2, come⟩ =>
        subst e1
        subst e2; repeat (any_goals (first | assumption | wp_step))
        exact out _ _ _ come
end
section
variable {X : Cx}
theorem few_of : ∀ {rs L : List Int}, rs.Nodup → (∀ r, r ∈ rs → r ∈ L) → rs.length ≤ L.length
  | [], L, _, _ => Nat.zero_le _
  | r :: rs, L, nd, h => by
    have n1 := (List.nodup_cons.mp nd).1
    have hr : r ∈ L := h r List.mem_cons_self
    have i := few_of (rs := rs) (L := L.erase r) (List.nodup_cons.mp nd).2 fun q hq => (List.mem_erase_of_ne (fun z : q = r => n1 (by rw [← z]; exact hq))).mpr (h q (List.mem_cons_of_mem _ hq))
    rw [List.length_erase_of_mem hr] at i
    have := List.length_pos_of_mem hr
    show rs.length + 1 ≤ L.length
    omega
/-- a set has no more members than any list that has them -/
theorem setR_few {w : World} {h : Heap} {a : Addr} {S : Int → Bool} {n : Nat} (R : SetR w h a S n) {L : List Int} (all : ∀ k, S k = true → k ∈ L) : n ≤ L.length := by
  obtain ⟨o, es, ep, t, _, _, _, _, nd, mem, _, _, size, _⟩ := R
  have z := few_of nd fun r hr => all r ((mem r).mpr hr)
  rw [List.length_map, Array.length_toList, size] at z
  exact z
/-- set(xs) -/
def rSetL (K : PySem.W.Frag) (w : World) : List V → Hp → VK → Prop := fun vs H Q => ∃ (l : Addr) (ns : List Int), vs = [V.ref l] ∧ SqL K H l (ns.map V.int) ∧ ns.length ≤ 1000 ∧ ∀ (a : Addr) (c : Nat), H a = none → (∀ L : List Int, (∀ k, k ∈ ns → k ∈ L) → c ≤ L.length) → Q (.ref a) (upd H a (SetO w a (fun j => decide (j ∈ ns)) c))
theorem cr_setL (hc : X.calm = true) : CallR X (.type "set") (rSetL X.K X.w) := by
  intro pins s σ H vs us Q I r want
  obtain ⟨l, ns, rfl, hl, few, q⟩ := want
  rw [Vals.ref1 r]
  obtain ⟨its, rv, isl, _⟩ := I.list hl
  refine call_setL ns (I.ok.hd hc) isl.isList ?_ (by unfold scanBound; omega) fun h' tk c come => ?_
  · exact intsAre_of rv
  · obtain ⟨R, le, kp⟩ := come
    exact ⟨.ref s.heap.objs.size, _, I.laid (t' := tk) kp (Nat.le_refl _) (setO_new R), rfl, q _ c (I.hok.fresh (Nat.le_refl _)) fun L hL => setR_few R fun k hk => hL k (of_decide_eq_true hk)⟩
end
end Tg

set_option maxHeartbeats 2000000
/-! A function made within a def that outlives the def: its captured cells are told by the abstract heap, so a callee that gets it may call it. -/
namespace CloX
open PySem PySem.Spec PyProof.Rows L2 LamX NdefX
open Classical
/-- the object at c is o, all of it -/
def CellX (c : Addr) (o : Obj) : HO := .ext fun h => h.get? c = some o
theorem cellx_at {P : Program} {w : World} {H : Hp} {h : Heap} {c : Addr} {o : Obj} (ok : HOk P w H h) (e : H c = some (CellX c o)) : h.get? c = some o := (ok c _ e).1
theorem cellx_ok {P : Program} {w : World} {H : Hp} {h : Heap} {c : Addr} {o : Obj} (e : h.get? c = some o) : ObjOk P w H h c (CellX c o) := ⟨e, ⟨o, e⟩, fun _ _ p st => st _ p⟩
/-- c is one of the captured cells -/
def Caught (cl : List (Str × Addr)) (c : Addr) : Prop := ∃ y, cl.lookup y = some c
/-- the captured cells are told by H, each with what it holds -/
structure Told (cl : List (Str × Addr)) (fr : List Str) (ws : List (Option V)) (H : Hp) : Prop where
  len : ws.length = fr.length
  all : ∀ c, Caught cl c → ∃ o v, H c = some (CellX c o) ∧ o.data = .cell v
  inj : ∀ y z c, cl.lookup y = some c → cl.lookup z = some c → y = z
  has : ∀ (i : Nat) (y : Str), fr[i]? = some y → ∃ c, cl.lookup y = some c ∧ ∀ v, ws[i]? = some (some v) → ∃ o u, H c = some (CellX c o) ∧ o.data = .cell (some u) ∧ L2.RelV v u
/-- what is known of the function at f in H: its object, its code, its cells -/
structure CloAt (f : Addr) (F : NF) (fr : List Str) (ws : List (Option V)) (H : Hp) : Prop where
  fn : H f = some (FnO f F)
  code : H F.c = some (CodeO F.c F.qual)
  told : Told F.cl fr ws H
/-- H without the cells -/
structure Less (cl : List (Str × Addr)) (H L : Hp) : Prop where
  inn : ∀ b, Caught cl b → L b = none
  out : ∀ b, ¬ Caught cl b → L b = H b
/-- B: H1, the cells as in H; of them H1 tells nothing -/
structure Back (cl : List (Str × Addr)) (H H1 B : Hp) : Prop where
  inn : ∀ b, Caught cl b → B b = H b
  out : ∀ b, ¬ Caught cl b → B b = H1 b
  gone : ∀ b, Caught cl b → H1 b = Option.none
noncomputable def lessF (cl : List (Str × Addr)) (H : Hp) : Hp := fun b => if Caught cl b then none else H b
noncomputable def backF (cl : List (Str × Addr)) (H H1 : Hp) : Hp := fun b => if Caught cl b then H b else H1 b
theorem less_f (cl : List (Str × Addr)) (H : Hp) : Less cl H (lessF cl H) := ⟨fun b h => if_pos h, fun b h => if_neg h⟩
theorem back_f (cl : List (Str × Addr)) (H H1 : Hp) (n : ∀ b, Caught cl b → H1 b = Option.none) : Back cl H H1 (backF cl H H1) := ⟨fun b h => if_pos h, fun b h => if_neg h, n⟩
section
variable {P : Program} {w : World} {K : PySem.W.Frag} {mg : Str → Option Value} {base : Heap} {A : Around} {outer : List Env} {s s' : Shared} {H L H1 B : Hp} {h : Heap} {cl : List (Str × Addr)} {fr : List Str} {ws : List (Option V)} {f : Addr} {F : NF}
theorem Less.none_of (l : Less cl H L) {b : Addr} (e : H b = Option.none) : L b = Option.none := by
  by_cases hb : Caught cl b
  · exact l.inn b hb
  · rw [l.out b hb]
    exact e
theorem Less.some_of (l : Less cl H L) {b : Addr} {o : HO} (e : L b = some o) : H b = some o := by
  by_cases hb : Caught cl b
  · rw [l.inn b hb] at e
    cases e
  · rw [l.out b hb] at e
    exact e
/-- a cell that is told so is nothing else -/
theorem Told.other (t : Told cl fr ws H) {b : Addr} {o : HO} (e : H b = some o) (hn : ∀ φ, o ≠ .ext φ) : ¬ Caught cl b := fun hb => by
  obtain ⟨ob, v, q, _⟩ := t.all b hb
  rw [e] at q
  exact hn _ (Option.some.inj q)
theorem Less.hok (l : Less cl H L) (t : Told cl fr ws H) (ok : HOk P w H h) : HOk P w L h := fun a o e =>
  (ok a o (l.some_of e)).stay (fun _ _ _ q => q) (fun b q => by rw [l.out b (t.other q fun _ z => by cases z)]; exact q) fun b xs q => by rw [l.out b (t.other q fun _ z => by cases z)]; exact q
theorem Less.env0 (l : Less cl H L) (t : Told cl fr ws H) (e : Env0 P w K mg base A outer s H) : Env0 P w K mg base A outer s L :=
  ⟨e.frames, e.mod, fun b o q => ⟨(e.bs b o q).1, l.none_of (e.bs b o q).2⟩, e.bsz, e.funs, fun b hb => l.none_of (e.frf b hb), l.hok t e.hok, e.bare⟩
/-- the cells lie as the function's promise wants them -/
theorem Told.cells (t : Told cl fr ws H) (l : Less cl H L) (ok : HOk P w H h) : CellsAt cl fr ws h L := by
  refine ⟨t.len, fun y c e => ⟨l.inn c ⟨y, e⟩, ?_⟩, t.inj, fun i y e => ?_⟩
  · obtain ⟨o, v, q, d⟩ := t.all c ⟨y, e⟩
    exact ⟨v, o, cellx_at ok q, d⟩
  · obtain ⟨c, ec, hv⟩ := t.has i y e
    refine ⟨c, ec, fun v ev => ?_⟩
    obtain ⟨o, u, q, d, r⟩ := hv v ev
    exact ⟨u, r, o, cellx_at ok q, d⟩
/-- behind the call: all but the cells as the callee says, the cells as they were -/
theorem un_back {fs : List Addr} {h' : Heap} (l : Less cl H L) (t : Told cl fr ws H) (b : Back cl H H1 B) (un : Un fs [] L H1 h h') (ok : HOk P w H h) (hf : ∀ a ∈ fs, H a = Option.none) (ok1 : HOk P w H1 h') : Un fs [] H B h h' ∧ HOk P w B h' := by
  have nin : ∀ {a : Addr}, H a = Option.none → ¬ Caught cl a := fun {a} e hb => by
    obtain ⟨ob, v, q, _⟩ := t.all a hb
    rw [e] at q
    cases q
  have n1 := b.gone
  refine ⟨⟨fun a o e n hb hx => un.keep a o e (l.none_of n) hb hx, fun a o e n hb hx => un.slot a o e (l.none_of n) hb hx, fun a o e n hx => ?_, un.there, fun a xs q => ?_, fun a o u q => ?_, fun a ps q => ?_⟩, fun a o e => ?_⟩
  · rw [b.out a (nin n)]
    exact un.free a o e (l.none_of n) hx
  · have na := t.other q fun _ z => by cases z
    rw [b.out a na]
    exact un.tups a xs (by rw [l.out a na]; exact q)
  · have na := t.other q fun _ z => by cases z
    rw [b.out a na]
    exact un.frzs a o u (by rw [l.out a na]; exact q)
  · have na := t.other q fun _ z => by cases z
    obtain ⟨more, q2⟩ := un.tbls a ps (by rw [l.out a na]; exact q)
    exact ⟨more, by rw [b.out a na]; exact q2⟩
  · by_cases ha : Caught cl a
    · obtain ⟨ob, v, q, _⟩ := t.all a ha
      rw [b.inn a ha, q] at e
      cases e
      refine cellx_ok (un.keep a ob (cellx_at ok q) (l.inn a ha) (fun z => ?_) (by simp))
      rw [hf a z] at q
      cases q
    · rw [b.out a ha] at e
      have gone : ∀ {c : Addr} {u : HO}, H1 c = some u → B c = some u := fun {c u} q => by
        rw [b.out c fun z => by rw [n1 c z] at q; cases q]
        exact q
      exact (ok1 a o e).stay (fun _ _ _ q => q) (fun c q => gone q) fun c xs q => gone q
theorem ce_back {Q : VK} {u : Value} (l : Less cl H L) (t : Told cl fr ws H) (e0 : Env0 P w K mg base A outer s H) (c : CE outer P w L s (fun v H1 => ∀ B, Back cl H H1 B → Q v B) u s') : CE outer P w H s Q u s' := by
  obtain ⟨v, H1, os, bare, un, ok1, r, q⟩ := c
  have b := back_f cl H H1 fun a ha => by
    obtain ⟨ob, v, q, _⟩ := t.all a ha
    exact un.free a ob (cellx_at e0.hok q) (l.inn a ha) (by simp)
  obtain ⟨u2, k2⟩ := un_back l t b un e0.hok e0.frf ok1
  exact ⟨v, _, os, bare, u2, k2, r, q _ b⟩
end
/-- what a function that outlives its maker promises of any call: all that it needs stands in H -/
structure CloOk (P : Program) (w : World) (K : PySem.W.Frag) (mg : Str → Option Value) (base : Heap) (CX : CXT) (k : Nat) (f : Addr) (ps : List Str) (sp : Sp) : Prop where
  many : ∀ vs H Q E, sp vs H Q E → vs.length = ps.length
  run : ∀ (A : Around) (outer : List Env) (s : Shared) (H : Hp) (us : List Value) (vs : List V) (Q : VK) (E : XK), Room k A → Env0 P w K mg base A outer s H → Vals vs us → sp vs H Q E → codeAny (model P w) A (.call (.ref f) ⟨us, []⟩) (CR CX outer P w H s Q E) s
/-- the promise of a nested def as one that outlives its maker gives it -/
def spClo (f : Addr) (F : NF) (fr : List Str) (sp : List (Option V) → Sp) : Sp := fun vs H Q E => ∃ ws, CloAt f F fr ws H ∧ ∀ L, Less F.cl H L → sp ws vs L (fun v H1 => ∀ B, Back F.cl H H1 B → Q v B) E
section
variable {P : Program} {w : World} {K : PySem.W.Frag} {mg : Str → Option Value} {base : Heap} {f : Addr} {F : NF} {k j : Nat} {ps fr : List Str} {sp : List (Option V) → Sp}
theorem CloAt.less {H L : Hp} {h : Heap} {ws : List (Option V)} (c : CloAt f F fr ws H) (l : Less F.cl H L) (ok : HOk P w H h) : L f = some (FnO f F) ∧ L F.c = some (CodeO F.c F.qual) := by
  have nf : ¬ Caught F.cl f := fun hb => by
    obtain ⟨ob, v, q, d⟩ := c.told.all f hb
    obtain ⟨od, sl, doc, pm, ctv, ho⟩ := fnO_at ok c.fn
    rw [cellx_at ok q] at ho
    cases ho
    cases d
  have nc : ¬ Caught F.cl F.c := fun hb => by
    obtain ⟨ob, v, q, d⟩ := c.told.all F.c hb
    obtain ⟨a, oc, vs, t, e, h1, h2, h3⟩ := codeO_at ok c.code
    cases e
    rw [cellx_at ok q] at h1
    cases h1
    rw [d] at h2
    cases h2
  exact ⟨by rw [l.out _ nf]; exact c.fn, by rw [l.out _ nc]; exact c.code⟩
theorem clo_ok (N : NOk P w K mg base CX0 k f F ps fr sp) : CloOk P w K mg base CX0 k f ps (spClo f F fr sp) := by
  refine ⟨fun vs H Q E h => ?_, fun A outer s H us vs Q E hr e0 r h => ?_⟩
  · obtain ⟨ws, c, q⟩ := h
    exact N.len _ _ _ _ _ (q _ (less_f F.cl H))
  · obtain ⟨ws, c, q⟩ := h
    have l := less_f F.cl H
    obtain ⟨h1, h2⟩ := c.less l e0.hok
    refine codeAny_mono (N.run A outer s _ us vs ws _ E hr (l.env0 c.told e0) h1 h2 (c.told.cells l e0.hok) r (q _ l)) fun z s' hz => ?_
    cases z with
    | error e => exact False.elim (show False from hz)
    | ok fl =>
      cases fl with
      | ret u => exact ce_back l c.told e0 hz
      | next => exact hz
      | brk => exact hz
      | cont => exact hz
theorem CloOk.mono {ss : Sp} (o : CloOk P w K mg base CX0 j f ps ss) (h : j ≤ k) : CloOk P w K mg base CX0 k f ps ss := ⟨o.many, fun A outer s H us vs Q E hr => o.run A outer s H us vs Q E (hr.mono h)⟩
theorem CloOk.imp {ss st : Sp} (o : CloOk P w K mg base CX0 k f ps ss) (h : ∀ vs H Q E, st vs H Q E → ss vs H Q E) : CloOk P w K mg base CX0 k f ps st :=
  ⟨fun vs H Q E q => o.many vs H Q E (h _ _ _ _ q), fun A outer s H us vs Q E hr e0 r q => o.run A outer s H us vs Q E hr e0 r (h _ _ _ _ q)⟩
end
/-! ### the call of a name that holds such a function -/
/-- x(..): the slot i holds a function; its promise is among those known (ok) -/
def tClo (i : Nat) (sp : Addr → Sp) (E : XK) (t : TA) : TE := fun σ H Q => ∃ f F, σ[i]? = some (some (.ref f)) ∧ H f = some (FnO f F) ∧ t σ H fun vs H1 => H1 f = some (FnO f F) ∧ sp f vs H1 Q E
section
variable {X : Cx} {ps : List Str} {i j k : Nat} {x : Str} {sp : Addr → Sp} {E : XK} {t : TA} {e : Expr} {es : List Expr} {p pos : Pos}
theorem pe_clo (Fn : ∀ f, CloOk X.prog X.w X.K X.mg X.base CX0 k f ps (sp f)) (hr : Room j X.A) (hk : k ≤ j) (hx : Passes CX0 X E) (hN : X.N[i]? = some x) (hv : Vis X.env.scope x) (ha : PA X (e :: es) t)
    (nodebug : (x == ("__debug__" : Str)) = false := by decide) (noclass : (x == ("__classdict__" : Str)) = false := by decide)
    (each : starEach (e :: es) X.env = (false, eval e X.env) :: starEach es X.env := by rfl) (plain : (backTo pos (starEach es X.env)).any (·.1) = false := by rfl) : PE X (.Call (.Name x p) (e :: es) [] pos) (tClo i sp E t) := by
  constructor
  intro pins s σ H Q I told
  obtain ⟨f, F, at_i, is_fn, args⟩ := told
  have name := (pe_var (pos := p) hN hv nodebug noclass).run pins s σ H (fun v H1 => v = .ref f ∧ H1 = H) I ⟨.ref f, at_i, rfl, rfl⟩
  apply wpAny_Call_Name_kw
  refine thn name ?_
  rintro u s1 ⟨_, _, I1, same, rfl, rfl⟩
  cases (show u = Value.ref f from same)
  refine PySem.W.callWith_F (first := []) (fnAt_of I1 is_fn) (thn (ha.run pos pins s1 σ _ _ I1 args) ?_) each plain
  rintro us s2 ⟨vs, H2, I2, vals, still, wants⟩
  refine ⟨fnAt_of I2 still, wpAny_call (codeAny_mono ((Fn f).run X.A X.stack s2 H2 us vs Q E (hr.mono hk) I2.env0 vals wants) ?_)⟩
  intro z s' ends
  match z, ends with
  | .error er, ends => exact hx pins σ H2 s2 er s' I2 ends
  | .ok (.ret u), ends => exact I2.after ends
end
end CloX

set_option maxHeartbeats 2000000
/-! A def that returns a def made within it: behind the call its cells are told. -/
namespace CloX
open PySem PySem.Spec PyProof.Rows L2 LamX NdefX Tg
open Classical
/-- B: H and the cells, each with what it holds -/
structure Outs (cl : List (Str × Addr)) (fr : List Str) (ws : List (Option V)) (H B : Hp) : Prop where
  told : Told cl fr ws B
  out : ∀ b, ¬ Caught cl b → B b = H b
  new : ∀ b, Caught cl b → H b = none
noncomputable def outF (cl : List (Str × Addr)) (h : Heap) (H : Hp) : Hp := fun b => if Caught cl b then (h.get? b).map (CellX b) else H b
section
variable {P : Program} {w : World} {H B : Hp} {h : Heap} {cl : List (Str × Addr)} {fr : List Str} {ws : List (Option V)}
theorem outF_in {b : Addr} {o : Obj} (hb : Caught cl b) (e : h.get? b = some o) : outF cl h H b = some (CellX b o) := by
  unfold outF
  rw [if_pos hb, e] <;> rfl
theorem outs_of (C : CellsAt cl fr ws h H) : Outs cl fr ws H (outF cl h H) := by
  refine ⟨⟨C.len, fun c hc => ?_, C.inj, fun i y e => ?_⟩, fun b hb => if_neg hb, fun b hb => ?_⟩
  · obtain ⟨y, e⟩ := id hc
    obtain ⟨_, v, o, ho, d⟩ := C.all y c e
    exact ⟨o, v, outF_in hc ho, d⟩
  · obtain ⟨c, ec, hv⟩ := C.has i y e
    refine ⟨c, ec, fun v ev => ?_⟩
    obtain ⟨u, r, o, ho, d⟩ := hv v ev
    exact ⟨o, u, outF_in ⟨y, ec⟩ ho, d, r⟩
  · obtain ⟨y, e⟩ := hb
    exact (C.all y b e).1
theorem out_keep {b : Addr} {o : HO} (C : CellsAt cl fr ws h H) (e : H b = some o) : outF cl h H b = some o := by
  have nb : ¬ Caught cl b := fun ⟨y, z⟩ => by
    rw [(C.all y b z).1] at e
    cases e
  unfold outF
  rw [if_neg nb]
  exact e
theorem out_hok (C : CellsAt cl fr ws h H) (ok : HOk P w H h) : HOk P w (outF cl h H) h := fun a o e => by
  by_cases ha : Caught cl a
  · obtain ⟨y, z⟩ := id ha
    obtain ⟨_, v, ob, ho, _⟩ := C.all y a z
    rw [outF_in ha ho] at e
    cases e
    exact cellx_ok ho
  · have e2 : H a = some o := by
      unfold outF at e
      rw [if_neg ha] at e
      exact e
    exact (ok a o e2).stay (fun _ _ _ q => q) (fun _ q => out_keep C q) fun _ _ q => out_keep C q
theorem out_un {fs : List Addr} {H0 : Hp} {h0 : Heap} (C : CellsAt cl fr ws h H) (un : Un fs [] H0 H h0 h) (above : ∀ c, Caught cl c → h0.objs.size ≤ c) : Un fs [] H0 (outF cl h H) h0 h := by
  refine ⟨un.keep, un.slot, fun b o e n hx => ?_, un.there, fun b xs q => out_keep C (un.tups b xs q), fun b o u q => out_keep C (un.frzs b o u q), fun b ps q => ?_⟩
  · have nb : ¬ Caught cl b := fun z => absurd (Nat.lt_of_lt_of_le (Heap.lt_size e) (above b z)) (Nat.lt_irrefl _)
    unfold outF
    rw [if_neg nb]
    exact un.free b o e n hx
  · obtain ⟨more, z⟩ := un.tbls b ps q
    exact ⟨more, out_keep C z⟩
end
/-! ### a body whose end may look at the names' values -/
abbrev RK := V → L2.St → Hp → Prop
structure PR (X : Cx) (body : List Stmt) (t : RK → L2.St → Hp → Prop) : Prop where
  run : ∀ (s : Shared) (σ : L2.St) (H : Hp) (R : RK), Inv X [] σ H s → t R σ H → wpAny (model X.prog X.w) X.A (execs body X.env) (fun fl s' => ∃ u v σ' H', fl = .ret u ∧ Inv X [] σ' H' s' ∧ L2.RelV v u ∧ R v σ' H') X.xe s
section
variable {X : Cx} {st : Stmt} {rest : List Stmt} {t : TS} {u : RK → L2.St → Hp → Prop} {i : Nat} {g : Str} {p1 p2 : Pos}
theorem pr_cons (h1 : PS X st t) (h2 : PR X rest u) : PR X (st :: rest) fun R => t { nx := u R, rt := fun _ _ => False } := by
  refine ⟨fun s σ H R I h => ?_⟩
  refine wpAny_execs_cons (thn (h1.run [] s σ H _ I h) fun f s1 q => ?_)
  cases f with
  | next =>
    obtain ⟨σ', H', I', q⟩ := q
    exact h2.run s1 σ' H' R I' q
  | ret v =>
    obtain ⟨_, _, _, _, _, z⟩ := q
    exact False.elim z
  | brk =>
    obtain ⟨_, _, _, z⟩ := q
    exact False.elim z
  | cont =>
    obtain ⟨_, _, _, z⟩ := q
    exact False.elim z
theorem pr_ret (hN : X.N[i]? = some g) (hv : Vis X.env.scope g) (hd : (g == ("__debug__" : Str)) = false := by decide) (hcd : (g == ("__classdict__" : Str)) = false := by decide) : PR X [.Return (some (.Name g p1)) p2] fun R σ H => ∃ v, σ[i]? = some (some v) ∧ R v σ H := by
  refine ⟨fun s σ H R I h => ?_⟩
  obtain ⟨v, e, h⟩ := h
  refine wpAny_execs_cons (wpAny_Return_some (thn ((pe_var (pos := p1) hN hv hd hcd).run [] s σ H (fun v' H1 => R v' σ H1) I ⟨v, e, h⟩) fun u s1 q => ?_))
  obtain ⟨v1, H1, I1, r, q⟩ := q
  exact ⟨u, v1, σ, H1, rfl, I1, r, q⟩
end
section
variable {P : Program} {w : World} {K : PySem.W.Frag} {mg : Str → Option Value} {base : Heap}
/-- a def that gives out a function made in it: what is promised speaks of the heap with the cells told -/
theorem clo_fn {x qual : Str} {st : Stmt} {c f : Addr} {fd : FuncData} {N ps : List Str} {k : Nat} {sp : Sp} (F : FunC K x qual st c f fd) (S : FnScope N ps (defScope st)) (len : ∀ vs H Q E, sp vs H Q E → vs.length = ps.length)
    (hbody : ∀ (A : Around) (outer : List Env) (s : Shared) (H : Hp) (vs : List V) (Q : VK) (E : XK), Room k (A.deeper (envOfC qual (defScope st) s.heap.objs.size f (.ref c))) → sp vs H Q E →
      ∃ t, PR (cxOf CX0 P w K mg base N qual (defScope st) f (.ref c) A outer s H E) (defBody st) t ∧
        t (fun v σ H' => ∃ (cl : List (Str × Addr)) (fr : List Str) (js : List Nat), ((cxOf CX0 P w K mg base N qual (defScope st) f (.ref c) A outer s H E).Ok → Caps (cxOf CX0 P w K mg base N qual (defScope st) f (.ref c) A outer s H E) cl fr js) ∧ ∀ B, Outs cl fr (js.map (slotAt σ)) H' B → Q v B) (start N vs) H) :
    FnOk P w K mg base CX0 (k + 1) f fd ps sp := by
  obtain ⟨oc, od, kV, doc, pm, an, ct, osl, is_fd, at_f, named⟩ := F.ex
  subst is_fd
  constructor
  · exact len
  intro A outer s H args us vs Q E room here bound vals told
  have stands : ∀ {b o}, base.get? b = some o → s.heap.get? b = some o := fun z => (here.bs _ _ z).1
  have inK : K.In s.heap := here.mod.kin.keeps fun _ _ => stands
  have own : ∀ y ∈ ps.zip us, (defScope st).names.lookup y.1 = some .local ∨ ((defScope st).names.lookup y.1 = some .cell ∧ ((cellsFrom (s.heap.objs.size + 1) (defScope st).names []).lookup y.1).isSome = true) := by
    rintro ⟨y, u⟩ hy
    exact (S.par y (List.of_mem_zip hy).1).imp_right fun z => ⟨z, PySem.W.cellsFrom_some _ _ _ (Or.inl z)⟩
  apply codeAny_call_function room.depth (inK f _ at_f) rfl S.co S.gen rfl (PySem.W.codeRec_of inK named)
  apply bound
  apply wpAny_newFunctionEnv_cells S.kind own
  intro env is_env s1 began
  subst is_env
  constructor
  · exact (here.mod.nolimit.keeps fun _ _ => stands).keeps began.toInCall.keep
  apply codeAny_func
  obtain ⟨t, reads, wants⟩ := hbody A outer s H vs Q E (room.deeper _) told
  have first : Inv (cxOf CX0 P w K mg base N qual (defScope st) f (.ref c) A outer s H E) [] (start N vs) H s1 := inv_start S room.hd here (len _ _ _ _ told) vals began
  refine wpAny_mono (reads.run s1 _ H _ first wants) ?_ ?_
  · rintro fl s' ⟨u, v, σ', H', is_ret, J, rv, cl, fr, js, cp, q⟩
    subst is_ret
    have C := cells_of J (cp J.ok)
    have new : ∀ c, Caught cl c → s.heap.objs.size ≤ c := fun c ⟨y, e⟩ => J.ok.cab y c rfl ((cp J.ok).sub y c e)
    exact ⟨v, outF cl s'.heap H', J.os, J.bare, out_un C J.base new, out_hok C J.hok, rv, q _ (outs_of C)⟩
  · exact fun _ _ z => z
end
end CloX

namespace Tg
open PySem PySem.Spec PyProof.Rows L2
/-! ### data that may be compared: written plainly, at most n deep, and equal to itself -/
structure Form (d : PyData) (n : Nat) : Prop where
  lay : d.canLay0 = true
  deep : d.depth ≤ n
  own : PyData.eqv d d = true
structure Forms (ds : List PyData) (n : Nat) : Prop where
  lay : PyData.canLayAll0 ds = true
  deep : PyData.depthAll ds ≤ n
  own : PyData.eqvAll ds ds = true
theorem Form.shaped {d : PyData} {n : Nat} (h : Form d n) (few : n ≤ 64) : SeqAt.shaped d = true := shaped_of h.lay (Nat.le_trans h.deep few)
theorem Form.up {d : PyData} {n m : Nat} (h : Form d n) (le : n ≤ m) : Form d m := ⟨h.lay, Nat.le_trans h.deep le, h.own⟩
theorem Form.int (i : Int) (n : Nat) : Form (.int i) n := ⟨rfl, Nat.zero_le _, by show (i == i) = true; exact beq_self_eq_true i⟩
theorem Form.bl (b : Bool) (n : Nat) : Form (.bool b) n := ⟨rfl, Nat.zero_le _, by show (b == b) = true; exact beq_self_eq_true b⟩
theorem Form.non (n : Nat) : Form .none n := ⟨rfl, Nat.zero_le _, rfl⟩
theorem Form.str {z : Str} (h : PyData.strOk z = true) (n : Nat) : Form (.str z) n := ⟨h, Nat.zero_le _, by show (z == z) = true; exact beq_self_eq_true z⟩
theorem Forms.nil (n : Nat) : Forms [] n := ⟨rfl, Nat.zero_le _, rfl⟩
theorem Forms.cons {d : PyData} {ds : List PyData} {n : Nat} (a : Form d n) (b : Forms ds n) : Forms (d :: ds) n :=
  ⟨by show (d.canLay0 && PyData.canLayAll0 ds) = true; rw [a.lay, b.lay]; rfl, Nat.max_le.mpr ⟨a.deep, b.deep⟩, by show (PyData.eqv d d && PyData.eqvAll ds ds) = true; rw [a.own, b.own]; rfl⟩
theorem Forms.of {n : Nat} : ∀ {ds : List PyData}, (∀ d, d ∈ ds → Form d n) → Forms ds n
  | [], _ => .nil n
  | d :: r, h => .cons (h d (.head _)) (.of fun e he => h e (.tail _ he))
theorem Forms.map {α : Type} {f : α → PyData} {n : Nat} (h : ∀ x, Form (f x) n) (xs : List α) : Forms (xs.map f) n := .of fun d hd => by
  obtain ⟨x, _, rfl⟩ := List.mem_map.mp hd
  exact h x
theorem Form.list {ds : List PyData} {n : Nat} (h : Forms ds n) : Form (.list ds) (n + 1) := ⟨h.lay, Nat.succ_le_succ h.deep, h.own⟩
theorem Form.tup {ds : List PyData} {n : Nat} (h : Forms ds n) : Form (.tuple ds) (n + 1) := ⟨h.lay, Nat.succ_le_succ h.deep, h.own⟩
end Tg

set_option maxHeartbeats 1000000
namespace Tg
open PySem PySem.Spec PyProof.Rows L2
/-! ### sorted(d), the keys of d pairs of ints -/
/-- the two ints of a tuple in the heap -/
def two (H : Hp) (b : Addr) : Int × Int := match H b with
  | some (.tup [.int x, .int y]) => (x, y)
  | _ => (0, 0)
theorem two_of {H : Hp} {b : Addr} {x y : Int} (h : H b = some (.tup [.int x, .int y])) : two H b = (x, y) := by
  unfold two
  rw [h]
def vAddr : Value → Addr
  | .ref b => b
  | _ => 0
def rSortDT : List V → Hp → VK → Prop := fun vs H Q => ∃ (d : Addr) (kvs : List (List Key × V)), vs = [.ref d] ∧ H d = some (.dT kvs) ∧ (∀ e, e ∈ kvs → ∃ x y : Int, e.1 = [Sum.inl x, Sum.inl y]) ∧
  ∀ (bs ys : List Addr) (p : Addr), IsKeys H kvs bs → ys.Perm bs → ys.Pairwise (fun a b => ¬ ((two H b).1 < (two H a).1 ∨ ((two H b).1 = (two H a).1 ∧ (two H b).2 < (two H a).2))) → H p = none → Q (.ref p) (upd H p (.lst (ys.map V.ref)))
theorem keys_two {H : Hp} : ∀ {kvs : List (List Key × V)} {bs : List Addr}, IsKeys H kvs bs → (∀ e, e ∈ kvs → ∃ x y : Int, e.1 = [Sum.inl x, Sum.inl y]) → ∀ b, b ∈ bs → ∃ x y : Int, H b = some (.tup [.int x, .int y])
  | _, _, .nil, _, b, hb => nomatch hb
  | _, _, .cons h r, all, b, hb => by
    rcases List.mem_cons.mp hb with here | there
    · obtain ⟨x, y, e⟩ := all _ List.mem_cons_self
      rw [e] at h
      rw [here]
      exact ⟨x, y, h⟩
    · exact keys_two r (fun e he => all e (List.mem_cons_of_mem _ he)) b there
section
variable {X : Cx}
theorem cr_sortDT (calm : X.calm = true) : CallR X (.builtin "sorted") rSortDT := by
  rintro pins s σ H _ us Q I rel ⟨d, kvs, rfl, hd, pairs, q⟩
  rw [Vals.ref1 rel]
  obtain ⟨small, low, ks, pr, o, es, ep, at_d, exact_, data, entries, _⟩ := (show ObjOk X.prog X.w H s.heap d (.dT kvs) from I.hok d _ hd)
  have m1 : es.size = ks.length := size_of_entries entries
  have m2 : kvs.length = ks.length := Paired.length pr
  have isk : IsKeys H kvs (ks.map fun x => x.2.1) := isKeys_of pr
  apply Calls.call_function_entry kind_sorted plain_sorted entry_sorted (args_sorted1 _)
  unfold Builtin.«sorted»
  refine wpAny_bind (m := checkCount "sorted" 1 1 _) (wpAny_pure (wpAny_bind (PySem.W.kdu_collect (kdl_raw low exact_ data) (I.ok.hd calm) at_d (by omega) fun h' tk acc kp items => ?_)))
  -- what was collected: the keys, in order
  have got : acc.toList = (ks.map fun x => x.2.1).map Value.ref := by
    apply List.ext_getElem?; intro j
    have len : acc.toList.length = ks.length := by rw [Array.length_toList, items.1, m1]
    simp only [List.getElem?_map]
    by_cases c : j < ks.length
    · have hv : acc.toList[j]? = some (acc.toList[j]'(by omega)) := List.getElem?_eq_getElem _
      obtain ⟨en, at_j, is⟩ := items.2 j _ (by rw [← Array.getElem?_toList]; exact hv)
      have z := entry_at entries j
      rw [at_j, List.getElem?_eq_getElem c] at z
      rw [hv, is, Option.some.inj z, List.getElem?_eq_getElem c]
      rfl
    · rw [List.getElem?_eq_none (by omega), List.getElem?_eq_none (show ks.length ≤ j by omega)]
      rfl
  have I1 : Inv X pins σ H { s with heap := h', toks := tk } := I.kept kp
  have few : acc.toList.length ≤ sizeLine := by
    rw [got, List.length_map, List.length_map]
    omega
  refine wpAny_bind (wpAny_newList ?_ few)
  have new : (h'.push (seqObj "list" acc.toList.toArray 0)).get? h'.objs.size = some (seqObj "list" acc.toList.toArray 0) := Heap.get?_push_size _ rfl
  have isp : ∀ v, v ∈ acc.toList → Srt.IsPair (h'.push (seqObj "list" acc.toList.toArray 0)) v (two H (vAddr v)).1 (two H (vAddr v)).2 := fun v hv => by
    rw [got] at hv
    obtain ⟨b, hb, rfl⟩ := List.mem_map.mp hv
    obtain ⟨x, y, hxy⟩ := keys_two isk pairs b hb
    obtain ⟨_, its, r2, ob, ho, hc, n, hdt⟩ := (show ObjOk X.prog X.w H h' b (.tup [.int x, .int y]) from I1.hok b _ hxy)
    obtain ⟨u1, u2, rfl, ⟨t1, rfl⟩, ⟨t2, rfl⟩⟩ := vals2 r2
    have e : two H (vAddr (.ref b)) = (x, y) := two_of hxy
    rw [e]
    exact ⟨b, ob, t1, t2, n, rfl, Heap.get?_push_of_some _ ho, hc, hdt⟩
  show wpAny _ _ _ _ _ { s with toks := tk, heap := h'.push (seqObj "list" acc.toList.toArray 0) }
  refine wpAny_bind (wpAny_holding (wpAny_call_entry slot_list_sort ⟨_, new, rfl⟩ entry_list_sort (SrtO.list_sort_ord (s := { s with heap := h'.push (seqObj "list" acc.toList.toArray 0), toks := tk }) (SrtO.swo_lex fun v => two H (vAddr v)) new few (fun h2 => SrtO.pairs_sortableO (s := { s with heap := h'.push (seqObj "list" acc.toList.toArray 0), toks := tk }) (by omega) isp fun ob eb => ?_) fun out srt stb => ⟨_, rfl, ?_⟩) (args_list_sort _)))
  · have z : some ob = some (seqObj "list" acc.toList.toArray 0) := eb.symm.trans new
    cases z
    exact fun c => absurd (Value.type.inj c) (by decide)
  · obtain ⟨n, at_new⟩ := sortedHeap_at (vs := acc.toList) (out := out.toArray) new
    have refs : ∀ v, v ∈ out → v = Value.ref (vAddr v) := fun v hv => by
      have m := stb.perm.mem_iff.mp hv
      rw [got] at m
      obtain ⟨b, _, rfl⟩ := List.mem_map.mp m
      rfl
    have eo : out = (out.map vAddr).map Value.ref := by
      rw [List.map_map]
      conv => lhs; rw [← List.map_id out]
      exact List.map_congr_left refs
    have perm : (out.map vAddr).Perm (ks.map fun x => x.2.1) := by
      have z := stb.perm.map vAddr
      rw [got, List.map_map, List.map_map] at z
      rw [List.map_map] at *
      exact z
    have order : (out.map vAddr).Pairwise (fun a b => ¬ ((two H b).1 < (two H a).1 ∨ ((two H b).1 = (two H a).1 ∧ (two H b).2 < (two H a).2))) := by
      rw [List.pairwise_map]
      exact srt.imp fun z => SrtO.lexB_no.mp z
    have rv : Vals ((out.map vAddr).map V.ref) out := by
      conv => rhs; rw [eo]
      exact vals_refs _
    refine wpAny_pure ⟨_, rfl, .ref h'.objs.size, _, I1.laid (t' := tk) (fun b ob eb => ?_) (Nat.le_refl _) (show ObjOk X.prog X.w _ _ _ (.lst ((out.map vAddr).map V.ref)) from ⟨?_, out, n, rv, at_new⟩), rfl, q _ _ _ isk perm order (I1.hok.fresh (Nat.le_refl _))⟩
    · have lt : b < h'.objs.size := Heap.lt_size eb
      rw [sortedHeap_old (Nat.ne_of_lt lt) (by rw [size_push']; exact Nat.lt_succ_of_lt lt)]
      exact Heap.get?_push_of_some _ eb
    · rw [List.length_map, perm.length_eq, List.length_map]
      omega
end
end Tg

namespace Tg
open PySem PySem.Spec PyProof.Rows L2
/-! ### a method called with values, then with keywords, which are its last parameters -/
section
variable (P : Program) (w : World) (K : PySem.W.Frag) (mg : Str → Option Value) (base : Heap)
def CalMN (k : Nat) (C : Addr) (m : Str) (ps : List Str) (n : Nat) (ks : List Str) (sp : Sp) : Prop := ∃ f fd, FnOk P w K mg base CX0 k f fd ps sp ∧ Meth K C m f ∧ KBn K fd ps n ks (fun us ws => us ++ ws) (fun vs zs => vs ++ zs)
end
section
variable {X : Cx} {k n : Nat} {C : Addr} {m : Str} {ps ks : List Str} {sp : Sp} {o e : Expr} {es : List Expr} {to : TE} {t tk : TA} {pos apos : Pos} {kws : List Keyword}
def tMethN (C : Addr) (m : Str) (n c : Nat) (sp : Sp) (E : XK) (to : TE) (t tk : TA) : TE := fun σ H Q => to σ H fun x H1 => ∃ a dx fs, x = .ref a ∧ H1 a = some (.ins C dx fs) ∧ fs.lookup m = none ∧ t σ H1 fun vs H2 => tk σ H2 fun zs H3 => vs.length + 1 = n ∧ zs.length = c ∧ sp (x :: (vs ++ zs)) H3 Q E
theorem pe_calMN {pl : Sem Bool} (he : PE X o to) (cl : Cls X.K C) (c : CalMN X.prog X.w X.K X.mg X.base k C m ps n ks sp) (hr : Room k X.A) (args : PA X (e :: es) t) (vals : PK X kws tk)
    (named : (backToKw pos (keywordEach kws X.env)).all (·.1.isSome) = true := by rfl) (names : (backToKw pos (keywordEach kws X.env)).filterMap (·.1) = ks := by rfl)
    (one : starEach (e :: es) X.env = (false, eval e X.env) :: starEach es X.env := by rfl) (nostar : ((backTo pos (starEach (e :: es) X.env)).any (·.1) || (backToKw pos (keywordEach kws X.env)).any (·.1.isNone)) = false := by rfl)
    (ht : eval (.Call (.Attribute o m apos) (e :: es) kws pos) X.env = (do let ov ← eval o X.env; standAt apos.atName; let (f, first) ← holding [ov] (getMethod ov m pl); callWith pos f first (backTo pos (starEach (e :: es) X.env)) (backToKw pos (keywordEach kws X.env))) := by rfl) :
    PE X (.Call (.Attribute o m apos) (e :: es) kws pos) (tMethN C m n ks.length sp E0 to t tk) := by
  obtain ⟨f, fd, F, hm, hb⟩ := c
  constructor
  intro pins s σ H Q I read
  refine PySem.W.methodCall_KW (pl := pl) (thn (he.run pins s σ H _ I read) fun u s1 z => ?_) ht
  obtain ⟨x, H1, I1, rx, a, dx, fs, rfl, ea, l, q⟩ := z
  cases rx
  refine getmeth_ok I1 ea cl hm l ?_
  refine PySem.W.callWith_KW (first := [.ref a]) (h₀ := X.base) I.ok.mod.kin hm.kp named (thn (args.run pos pins s1 σ H1 _ I1 q) fun us s2 y => ?_) nostar one
  obtain ⟨vs, H2, I2, r, q2⟩ := y
  refine thn (vals.run pos pins s2 σ H2 _ I2 q2) fun ws s3 y3 => ?_
  obtain ⟨zs, H3, I3, rz, l1, l2, told⟩ := y3
  refine ⟨I3.kIn, ?_⟩
  rw [names]
  have l1' : (V.ref a :: vs).length = n := l1
  exact run_fnN (E := E0) (us := .ref a :: us) (vs := .ref a :: vs) F hr hb pass0 I3 (.cons rfl r) rz l1' l2 told
end
end Tg

set_option maxHeartbeats 2000000
/-! A lambda that a running def hands on: for the call the def's cells are told, behind it they are its own again. -/
namespace CloX
open PySem PySem.Spec PyProof.Rows L2 LamX NdefX Tg
open Classical
/-! ### the call of a name that holds any function -/
/-- at f a function -/
def FnH (H : Hp) (f : Addr) : Prop := ∃ φ, H f = some (.ext φ) ∧ ∀ h, φ h → PySem.W.FnAt f h
theorem fnh_at {P : Program} {w : World} {H : Hp} {h : Heap} {f : Addr} (ok : HOk P w H h) (e : FnH H f) : PySem.W.FnAt f h := by
  obtain ⟨φ, e, q⟩ := e
  exact q _ (ok f _ e).1
theorem fnh_of {H : Hp} {f : Addr} {F : NF} (e : H f = some (FnO f F)) : FnH H f := ⟨_, e, fun h ⟨od, sl, doc, pm, ctv, z⟩ => ⟨_, od, _, sl, z⟩⟩
/-- x(..): the slot i holds a function; its promise is among those known (ok) -/
def tCloH (i : Nat) (sp : Addr → Sp) (E : XK) (t : TA) : TE := fun σ H Q => ∃ f, σ[i]? = some (some (.ref f)) ∧ FnH H f ∧ t σ H fun vs H1 => FnH H1 f ∧ sp f vs H1 Q E
section
variable {X : Cx} {ps : List Str} {i j k : Nat} {x : Str} {sp : Addr → Sp} {E : XK} {t : TA} {e : Expr} {es : List Expr} {p pos : Pos}
theorem pe_cloH (Fn : ∀ f, CloOk X.prog X.w X.K X.mg X.base CX0 k f ps (sp f)) (hr : Room j X.A) (hk : k ≤ j) (hx : Passes CX0 X E) (hN : X.N[i]? = some x) (hv : Vis X.env.scope x) (ha : PA X (e :: es) t)
    (nodebug : (x == ("__debug__" : Str)) = false := by decide) (noclass : (x == ("__classdict__" : Str)) = false := by decide)
    (each : starEach (e :: es) X.env = (false, eval e X.env) :: starEach es X.env := by rfl) (plain : (backTo pos (starEach es X.env)).any (·.1) = false := by rfl) : PE X (.Call (.Name x p) (e :: es) [] pos) (tCloH i sp E t) := by
  constructor
  intro pins s σ H Q I told
  obtain ⟨f, at_i, is_fn, args⟩ := told
  have name := (pe_var (pos := p) hN hv nodebug noclass).run pins s σ H (fun v H1 => v = .ref f ∧ H1 = H) I ⟨.ref f, at_i, rfl, rfl⟩
  apply wpAny_Call_Name_kw
  refine thn name ?_
  rintro u s1 ⟨_, _, I1, same, rfl, rfl⟩
  cases (show u = Value.ref f from same)
  refine PySem.W.callWith_F (first := []) (fnh_at I1.hok is_fn) (thn (ha.run pos pins s1 σ _ _ I1 args) ?_) each plain
  rintro us s2 ⟨vs, H2, I2, vals, still, wants⟩
  refine ⟨fnh_at I2.hok still, wpAny_call (codeAny_mono ((Fn f).run X.A X.stack s2 H2 us vs Q E (hr.mono hk) I2.env0 vals wants) ?_)⟩
  intro z s' ends
  match z, ends with
  | .error er, ends => exact hx pins σ H2 s2 er s' I2 ends
  | .ok (.ret u), ends => exact I2.after ends
end
/-! ### lambdas -/
/-- a lambda: its words, the cells that it captured, its code object -/
structure LF where
  qual : Str
  params : Arguments
  body : Expr
  scope : Scope
  cl : List (Str × Addr)
  c : Addr
/-- as if a def with no rows -/
abbrev LF.nf (F : LF) : NF := ⟨"<lambda>", F.qual, F.params, [], F.scope, F.cl, F.c⟩
/-- the object at f is the lambda F -/
def LamO (f : Addr) (F : LF) : HO := .ext fun h => ∃ (pm ctv : Value), h.get? f = some (PySem.W.kla_obj "<lambda>" F.qual F.params F.body F.scope F.cl pm F.c ctv)
theorem lamO_at {P : Program} {w : World} {H : Hp} {h : Heap} {f : Addr} {F : LF} (hok : HOk P w H h) (e : H f = some (LamO f F)) : ∃ (pm ctv : Value), h.get? f = some (PySem.W.kla_obj "<lambda>" F.qual F.params F.body F.scope F.cl pm F.c ctv) := (hok f _ e).1
theorem fnh_lam {H : Hp} {f : Addr} {F : LF} (e : H f = some (LamO f F)) : FnH H f := ⟨_, e, fun h ⟨pm, ctv, z⟩ => ⟨_, _, _, _, z⟩⟩
section
variable {X : Cx} {H : Hp} {s : Shared} {σ : L2.St} {pins : List (Addr × Obj)}
/-- a lambda just made is known from now on -/
theorem inv_lam {F : LF} {t' : Nat} {pm ctv : Value} (I : Inv X pins σ H s) :
    Inv X pins σ (upd H s.heap.objs.size (LamO s.heap.objs.size F)) { s with heap := s.heap.push (PySem.W.kla_obj "<lambda>" F.qual F.params F.body F.scope F.cl pm F.c ctv), toks := t' } := by
  refine I.laid (a := s.heap.objs.size) (fun p o stood => Heap.get?_push_of_some _ stood) (Nat.le_refl _) ?_
  have e : (s.heap.push (PySem.W.kla_obj "<lambda>" F.qual F.params F.body F.scope F.cl pm F.c ctv)).get? s.heap.objs.size = some (PySem.W.kla_obj "<lambda>" F.qual F.params F.body F.scope F.cl pm F.c ctv) := Heap.get?_push_size _ rfl
  exact ⟨⟨pm, ctv, e⟩, ⟨_, e⟩, fun h1 h2 ⟨p, t, z⟩ st => ⟨p, t, st _ z⟩⟩
/-- making such a lambda, whether or not its code object stands in the table yet -/
theorem lam_made {T : List (Addr × Str)} {c P : Addr} {params : Arguments} {body : Expr} {scope : Scope} {place : Pos} {E : Value → Shared → Prop} {Q : Value → Shared → Prop} (I : Inv X pins σ H s) (TB : TabB X.base X.mg c P) (code : X.env.code = .ref c)
    (there : (P, X.env.qual ++ "<lambda>") ∈ T) (one : ∀ p ∈ T, p.1 = P → p.2 = X.env.qual ++ "<lambda>") (tabs : Tabs T H) (plain : defaultsOf params X.env = ([], [])) (frees : ∀ y ∈ scope.names, y.2 = .free → ∃ c, X.env.cells.lookup y.1 = some c)
    (wants : ∀ (f c' : Addr) (H1 : Hp) (s' : Shared), Inv X pins σ H1 s' → ExtN H H1 → Tabs T H1 → H f = none → H1 f = some (LamO f ⟨X.env.qual ++ "<lambda>", params, body, scope, cloFrom X.env.cells scope.names [], c'⟩) → H1 c' = some (CodeO c' (X.env.qual ++ "<lambda>")) → Q (.ref f) s') :
    wpAny (model X.prog X.w) X.A (eval (.Lambda params body scope place) X.env) Q E s := by
  obtain ⟨ps, at_P, trip, among⟩ := tabs _ there
  apply PySem.W.kla_eval plain
  have built : s.heap.BuiltinsAt X.mg P := TB.bm.keeps I.bk
  have got_P : s.heap.get? P = some { cls := .none, data := .fields ps } := I.hok P _ at_P
  cases seen : codeAmong place ps.toList with
  | none =>
    refine PySem.W.kla_makeFunction (mg := X.mg) (c := c) (P := P) (ps := ps) (closure_ok frees) I.ok.glob (I.mod.glob.keeps I.bk) code (TB.code.keeps I.bk) got_P trip seen TB.gP built fun c' ctv h' tk grew low high rec tab => ?_
    obtain ⟨c2, oc, vs, t, same, got_c, data_c, name_c⟩ := rec
    cases same
    have fresh_c : H c' = none := I.hok.fresh low
    have I1 := inv_table (t' := tk) (more := #[rawInt place.line, rawInt place.col, .ref c']) (h' := h') I at_P (fun b o hb e => grew b o hb e) tab low ⟨oc, vs, t, got_c, data_c, name_c⟩
    have still : ExtN H (upd (upd H P (.tbl (ps ++ #[rawInt place.line, rawInt place.col, .ref c']))) c' (CodeO c' (X.env.qual ++ "<lambda>"))) := fun b o e n => by
      rw [upd_ne (ne_of_none e fresh_c), upd_ne (fun z => n ps (Option.some.inj (e.symm.trans (by rw [z]; exact at_P))))]
      exact e
    have more : (ps ++ #[rawInt place.line, rawInt place.col, .ref c']).toList = ps.toList ++ [rawInt place.line, rawInt place.col, .ref c'] := by simp
    have tabs1 : Tabs T (upd (upd H P (.tbl (ps ++ #[rawInt place.line, rawInt place.col, .ref c']))) c' (CodeO c' (X.env.qual ++ "<lambda>"))) := fun p hp => by
      by_cases hb : p.1 = P
      · rw [one p hp hb, hb]
        refine ⟨_, by rw [upd_ne (ne_of_none at_P fresh_c), upd_same], by rw [more]; exact PySem.TriplesOk_snoc _ _ _ _ trip, fun p' cv hcv => ?_⟩
        rw [more] at hcv
        rcases among_app _ trip hcv with z | z
        · obtain ⟨c0, e1, e2⟩ := among p' cv z
          exact ⟨c0, e1, still _ _ e2 codeO_ne⟩
        · exact ⟨c', z, upd_same⟩
      · obtain ⟨ps', a1, a2, a3⟩ := tabs p hp
        refine ⟨ps', by rw [upd_ne (ne_of_none a1 fresh_c), upd_ne hb]; exact a1, a2, fun p' cv hcv => ?_⟩
        obtain ⟨cO, isC, atC⟩ := a3 p' cv hcv
        exact ⟨cO, isC, still _ _ atC codeO_ne⟩
    have fresh_f := I1.hok.fresh (Nat.le_refl _)
    have I2 := inv_lam (F := ⟨X.env.qual ++ "<lambda>", params, body, scope, cloFrom X.env.cells scope.names [], c'⟩) (t' := tk) (pm := (X.mg "__name__").getD .none) (ctv := ctv) I1
    refine wants h'.objs.size c' _ _ I2 (fun b o e n => ?_) (tabs1.ext fun b o e => ?_) (I.hok.fresh (Nat.le_trans low (Nat.le_of_lt high))) upd_same ?_
    · have e1 := still b o e n
      exact (upd_ne (ne_of_none e1 fresh_f)).trans e1
    · exact (upd_ne (ne_of_none e fresh_f)).trans e
    · exact (upd_ne (Nat.ne_of_lt high)).trans upd_same
  | some cv =>
    obtain ⟨c', rfl, at_c⟩ := among place cv seen
    refine PySem.W.kla_makeFunctionHit (mg := X.mg) (c := c) (P := P) (ps := ps) (closure_ok frees) I.ok.glob (I.mod.glob.keeps I.bk) code (TB.code.keeps I.bk) got_P trip seen built fun ctv h' tk grew low => ?_
    have I1 : Inv X pins σ H { s with heap := h', toks := tk } := I.kept grew
    have fresh_f : H h'.objs.size = none := I1.hok.fresh (Nat.le_refl _)
    have I2 := inv_lam (F := ⟨X.env.qual ++ "<lambda>", params, body, scope, cloFrom X.env.cells scope.names [], c'⟩) (t' := tk) (pm := (X.mg "__name__").getD .none) (ctv := ctv) I1
    refine wants h'.objs.size c' _ _ I2 (fun b o e n => ?_) (tabs.ext fun b o e => ?_) fresh_f upd_same ?_
    · exact (upd_ne (ne_of_none e fresh_f)).trans e
    · exact (upd_ne (ne_of_none e fresh_f)).trans e
    · exact (upd_ne (ne_of_none at_c fresh_f)).trans at_c
end
end CloX

set_option maxHeartbeats 2000000
namespace CloX
open PySem PySem.Spec PyProof.Rows L2 LamX NdefX Tg
open Classical
/-! ### what a lambda promises -/
/-- the promise of the lambda F at f: sp ws, ws what its captured cells hold at the call -/
structure LOk (P : Program) (w : World) (K : PySem.W.Frag) (mg : Str → Option Value) (base : Heap) (k : Nat) (f : Addr) (F : LF) (ps fr : List Str) (sp : List (Option V) → Sp) : Prop where
  many : ∀ ws vs H Q E, sp ws vs H Q E → vs.length = ps.length
  run : ∀ (A : Around) (outer : List Env) (s : Shared) (H : Hp) (us : List Value) (vs : List V) (ws : List (Option V)) (Q : VK) (E : XK), Room k A → Env0 P w K mg base A outer s H → H f = some (LamO f F) → H F.c = some (CodeO F.c F.qual) →
    CellsAt F.cl fr ws s.heap H → Vals vs us → sp ws vs H Q E → codeAny (model P w) A (.call (.ref f) ⟨us, []⟩) (CR CX0 outer P w H s Q E) s
section
variable {P : Program} {w : World} {K : PySem.W.Frag} {mg : Str → Option Value} {base : Heap} {N ps fr : List Str} {F : LF} {f : Addr} {k : Nat} {sp : List (Option V) → Sp}
/-- a lambda by its body -/
theorem lok_of (S : NScope N ps fr F.scope) (binds : ∀ (pm ctv : Value) (us : List Value), us.length = ps.length → bindArgs (PySem.W.kla_fn "<lambda>" F.qual F.params F.body F.scope F.cl pm (.ref F.c) ctv) ⟨us, []⟩ = pure (ps.zip us)) (many : ∀ ws vs H Q E, sp ws vs H Q E → vs.length = ps.length)
    (body : ∀ (A : Around) (outer : List Env) (s : Shared) (H : Hp) (vs : List V) (ws : List (Option V)) (Q : VK) (E : XK), Room k (A.deeper (envF F.nf f s.heap.objs.size)) → ws.length = fr.length → sp ws vs H Q E →
      ∃ t, PE (ncx CX0 P w K mg base N F.nf f A outer s H E) F.body t ∧ t (startF N vs ws) H Q) :
    LOk P w K mg base (k + 1) f F ps fr sp := by
  refine ⟨many, fun A outer s H us vs ws Q E room here is_f is_c C vals told => ?_⟩
  have size := many _ _ _ _ _ told
  have lim : s.heap.NoLimit := here.mod.nolimit.keeps fun b o e => (here.bs b o e).1
  obtain ⟨pm, ctv, at_f⟩ := lamO_at here.hok is_f
  refine PySem.W.kla_callFunE room.depth at_f rfl S.co S.gen rfl (codeO_at here.hok is_c) ?_
  rw [binds pm ctv us (by rw [← vals.length]; exact size)]
  refine wpAny_pure (wpAny_newFunctionEnv S.nocell (fun ⟨x, _⟩ both => S.par x (List.of_mem_zip both).1) (fun h₁ hns hsb => ⟨lim.fresh _ hsb, ?_⟩) S.kind)
  show codeAny _ _ (.expr F.body (envF F.nf f s.heap.objs.size)) _ _
  have keeps : ∀ b o, s.heap.get? b = some o → h₁.get? b = some o := fun b o e => hsb.extBut b o (Nat.ne_of_lt (Heap.lt_size e)) (Heap.get?_push_of_some _ e)
  obtain ⟨t, reads, wants⟩ := body A outer s H vs ws Q E (room.deeper _) C.len told
  have I : Inv (ncx CX0 P w K mg base N F.nf f A outer s H E) [] (startF N vs ws) H { s with heap := h₁, toks := s.toks + (ps.zip us).length } := inv_startN S room.hd here size vals C hns keeps
  refine PySem.W.kla_codeExpr (wpAny_mono (reads.run [] _ _ H Q I wants) (fun v s' hq => ?_) fun e s' hq => hq)
  obtain ⟨w', H', J, rv, q⟩ := hq
  exact ⟨w', H', J.os, J.bare, J.base, J.hok, rv, q⟩
end
/-- what is known of the lambda at f in H: its object, its code, its cells -/
structure LamAt (f : Addr) (F : LF) (fr : List Str) (ws : List (Option V)) (H : Hp) : Prop where
  fn : H f = some (LamO f F)
  code : H F.c = some (CodeO F.c F.qual)
  told : Told F.cl fr ws H
/-- its promise where its cells are told -/
def spLam (f : Addr) (F : LF) (fr : List Str) (sp : List (Option V) → Sp) : Sp := fun vs H Q E => ∃ ws, LamAt f F fr ws H ∧ ∀ L, Less F.cl H L → sp ws vs L (fun v H1 => ∀ B, Back F.cl H H1 B → Q v B) E
section
variable {P : Program} {w : World} {K : PySem.W.Frag} {mg : Str → Option Value} {base : Heap} {f : Addr} {F : LF} {k : Nat} {ps fr : List Str} {sp : List (Option V) → Sp}
theorem LamAt.less {H L : Hp} {h : Heap} {ws : List (Option V)} (c : LamAt f F fr ws H) (l : Less F.cl H L) (ok : HOk P w H h) : L f = some (LamO f F) ∧ L F.c = some (CodeO F.c F.qual) := by
  have nf : ¬ Caught F.cl f := fun hb => by
    obtain ⟨ob, v, q, d⟩ := c.told.all f hb
    obtain ⟨pm, ctv, ho⟩ := lamO_at ok c.fn
    rw [cellx_at ok q] at ho
    cases ho
    cases d
  have nc : ¬ Caught F.cl F.c := fun hb => by
    obtain ⟨ob, v, q, d⟩ := c.told.all F.c hb
    obtain ⟨a, oc, vs, t, e, h1, h2, h3⟩ := codeO_at ok c.code
    cases e
    rw [cellx_at ok q] at h1
    cases h1
    rw [d] at h2
    cases h2
  exact ⟨(l.out _ nf).trans c.fn, (l.out _ nc).trans c.code⟩
theorem lam_ok (N : LOk P w K mg base k f F ps fr sp) : CloOk P w K mg base CX0 k f ps (spLam f F fr sp) := by
  refine ⟨fun vs H Q E ⟨ws, c, q⟩ => N.many _ _ _ _ _ (q _ (less_f F.cl H)), fun A outer s H us vs Q E room here vals ⟨ws, c, q⟩ => ?_⟩
  have l := less_f F.cl H
  obtain ⟨is_f, is_c⟩ := c.less l here.hok
  refine codeAny_mono (N.run A outer s _ us vs ws _ E room (l.env0 c.told here) is_f is_c (c.told.cells l here.hok) vals (q _ l)) ?_
  intro z s' ends
  match z, ends with
  | .error e, ends => exact False.elim (show False from ends)
  | .ok (.ret u), ends => exact ce_back l c.told here ends
end
/-! ### a lambda made and handed on -/
def tLamL (T : List (Addr × Str)) (mk : Addr → LF) : TE := fun _ H Q => Tabs T H ∧ ∀ (f c' : Addr) (H1 : Hp), ExtN H H1 → Tabs T H1 → H f = none → H1 f = some (LamO f (mk c')) → H1 c' = some (CodeO c' (mk c').qual) → Q (.ref f) H1
theorem pe_lamL {X : Cx} {T : List (Addr × Str)} {c P : Addr} {params : Arguments} {body : Expr} {scope : Scope} {pos : Pos} (TB : TabB X.base X.mg c P) (code : X.env.code = .ref c) (there : (P, X.env.qual ++ "<lambda>") ∈ T) (one : ∀ p ∈ T, p.1 = P → p.2 = X.env.qual ++ "<lambda>")
    (frees : ∀ y ∈ scope.names, y.2 = .free → X.env.scope.names.lookup y.1 = some .cell ∨ X.env.scope.names.lookup y.1 = some .free) (plain : defaultsOf params X.env = ([], []) := by rfl) :
    PE X (.Lambda params body scope pos) (tLamL T fun c' => ⟨X.env.qual ++ "<lambda>", params, body, scope, cloFrom X.env.cells scope.names [], c'⟩) := by
  constructor
  intro pins s σ H Q I read
  obtain ⟨tabs, q⟩ := read
  exact lam_made I TB code there one tabs plain (fun y hy e => (frees y hy e).elim (fun z => I.ok.has _ (.inl z)) fun z => I.ok.has _ (.inr z)) fun f c' H1 s' J grow tabs1 new is_f is_c => ⟨.ref f, H1, J, rfl, q f c' H1 grow tabs1 new is_f is_c⟩
/-! ### the cells lent for a call -/
section
variable {P : Program} {w : World} {K : PySem.W.Frag} {mg : Str → Option Value} {base : Heap} {A : Around} {outer : List Env} {s s' : Shared} {H : Hp} {cl : List (Str × Addr)} {fr : List Str} {ws : List (Option V)}
theorem lent_env0 (C : CellsAt cl fr ws s.heap H) (e : Env0 P w K mg base A outer s H) (above : ∀ c, Caught cl c → base.objs.size ≤ c) (nofr : ∀ b ∈ frs outer, ¬ Caught cl b) : Env0 P w K mg base A outer s (outF cl s.heap H) := by
  have out : ∀ {b : Addr}, ¬ Caught cl b → outF cl s.heap H b = H b := fun {b} h => (outs_of C).out b h
  refine ⟨e.frames, e.mod, fun b o q => ⟨(e.bs b o q).1, ?_⟩, e.bsz, e.funs, fun b hb => ?_, out_hok C e.hok, e.bare⟩
  · exact (out fun z => Nat.lt_irrefl _ (Nat.lt_of_lt_of_le (Heap.lt_size q) (above b z))).trans (e.bs b o q).2
  · exact (out (nofr b hb)).trans (e.frf b hb)
theorem told_at {H1 : Hp} (t : Told cl fr ws H) (e : ∀ b, Caught cl b → H1 b = H b) : Told cl fr ws H1 := by
  refine ⟨t.len, fun c hc => ?_, t.inj, fun i y h => ?_⟩
  · rw [e c hc]
    exact t.all c hc
  · obtain ⟨c, hc, hv⟩ := t.has i y h
    exact ⟨c, hc, fun v ev => by
      rw [e c ⟨y, hc⟩]
      exact hv v ev⟩
theorem lent_back {Q : VK} {u : Value} (C : CellsAt cl fr ws s.heap H) (nofr : ∀ b ∈ frs outer, ¬ Caught cl b)
    (c : CE outer P w (outF cl s.heap H) s (fun v H1 => (∀ b, Caught cl b → H1 b = outF cl s.heap H b) ∧ ∀ L, Less cl H1 L → Q v L) u s') : CE outer P w H s Q u s' := by
  obtain ⟨v, H1, os, bare, un, ok1, r, same, q⟩ := c
  have O := outs_of C
  have l := less_f cl H1
  have t1 := told_at O.told same
  have free : ∀ {b : Addr}, Caught cl b → H b = none := fun {b} h => O.new b h
  have nb : ∀ {b : Addr} {o : HO}, H b = some o → ¬ Caught cl b := fun {b o} e z => by
    rw [free z] at e
    cases e
  refine ⟨v, _, os, bare, ⟨fun b o e n hb hx => ?_, fun b o e n hb hx => ?_, fun b o e n hx => ?_, un.there, fun b xs e => ?_, fun b o u e => ?_, fun b ps e => ?_⟩, l.hok t1 ok1, r, q _ l⟩
  · by_cases z : Caught cl b
    · have z2 := same b z
      rw [outF_in z e] at z2
      exact cellx_at ok1 z2
    · exact un.keep b o e ((O.out b z).trans n) hb hx
  · exact un.slot b o e ((O.out b (nofr b hb)).trans n) hb hx
  · by_cases z : Caught cl b
    · exact l.inn b z
    · exact (l.out b z).trans (un.free b o e ((O.out b z).trans n) hx)
  · exact (l.out b (nb e)).trans (un.tups b xs ((O.out b (nb e)).trans e))
  · exact (l.out b (nb e)).trans (un.frzs b o u ((O.out b (nb e)).trans e))
  · obtain ⟨more, z⟩ := un.tbls b ps ((O.out b (nb e)).trans e)
    exact ⟨more, (l.out b (nb e)).trans z⟩
end
section
variable {X : Cx} {k n : Nat} {C : Addr} {m : Str} {ps ks fr : List Str} {sp : Sp} {o e : Expr} {es : List Expr} {to : TE} {t tk : TA} {pos apos : Pos} {kws : List Keyword} {cl : List (Str × Addr)} {js : List Nat}
/-- o.m(.., k = ..), the running def's cells lent -/
def tMethL (C : Addr) (m : Str) (n c : Nat) (sp : Sp) (cl : List (Str × Addr)) (fr : List Str) (js : List Nat) (to : TE) (t tk : TA) : TE := fun σ H Q => to σ H fun x H1 => ∃ a dx fs, x = .ref a ∧ H1 a = some (.ins C dx fs) ∧ fs.lookup m = none ∧ t σ H1 fun vs H2 => tk σ H2 fun zs H3 => vs.length + 1 = n ∧ zs.length = c ∧
  ∀ B, Outs cl fr (js.map (slotAt σ)) H3 B → sp (x :: (vs ++ zs)) B (fun v H4 => (∀ b, Caught cl b → H4 b = B b) ∧ ∀ L, Less cl H4 L → Q v L) E0
theorem pe_calML {pl : Sem Bool} (he : PE X o to) (cls : Cls X.K C) (c : CalMN X.prog X.w X.K X.mg X.base k C m ps n ks sp) (hr : Room k X.A) (args : PA X (e :: es) t) (vals : PK X kws tk) (caps : X.Ok → Caps X cl fr js) (own : X.Ok → ∀ y c, X.env.cells.lookup y = some c → X.s_0.heap.objs.size ≤ c)
    (named : (backToKw pos (keywordEach kws X.env)).all (·.1.isSome) = true := by rfl) (names : (backToKw pos (keywordEach kws X.env)).filterMap (·.1) = ks := by rfl)
    (one : starEach (e :: es) X.env = (false, eval e X.env) :: starEach es X.env := by rfl) (nostar : ((backTo pos (starEach (e :: es) X.env)).any (·.1) || (backToKw pos (keywordEach kws X.env)).any (·.1.isNone)) = false := by rfl)
    (ht : eval (.Call (.Attribute o m apos) (e :: es) kws pos) X.env = (do let ov ← eval o X.env; standAt apos.atName; let (f, first) ← holding [ov] (getMethod ov m pl); callWith pos f first (backTo pos (starEach (e :: es) X.env)) (backToKw pos (keywordEach kws X.env))) := by rfl) :
    PE X (.Call (.Attribute o m apos) (e :: es) kws pos) (tMethL C m n ks.length sp cl fr js to t tk) := by
  obtain ⟨f, fd, F, hm, hb⟩ := c
  constructor
  intro pins s σ H Q I read
  refine PySem.W.methodCall_KW (pl := pl) (thn (he.run pins s σ H _ I read) fun u s1 z => ?_) ht
  obtain ⟨x, H1, I1, rx, a, dx, fs, rfl, ea, l, q⟩ := z
  cases rx
  refine getmeth_ok I1 ea cls hm l ?_
  refine PySem.W.callWith_KW (first := [.ref a]) (h₀ := X.base) I1.ok.mod.kin hm.kp named (thn (args.run pos pins s1 σ H1 _ I1 q) fun us s2 y => ?_) nostar one
  obtain ⟨vs, H2, I2, r, q2⟩ := y
  refine thn (vals.run pos pins s2 σ H2 _ I2 q2) fun ws s3 y3 => ?_
  obtain ⟨zs, H3, I3, rz, l1, l2, told⟩ := y3
  refine ⟨I3.kIn, ?_⟩
  rw [names]
  have l1' : (V.ref a :: vs).length = n := l1
  have cp := caps I3.ok
  have CA := cells_of I3 cp
  have above : ∀ b, Caught cl b → X.s_0.heap.objs.size ≤ b := fun b ⟨y, e⟩ => own I3.ok y b (cp.sub y b e)
  have nofr : ∀ b ∈ frs X.stack, ¬ Caught cl b := fun b hb hc => by
    obtain ⟨y, ey⟩ := id hc
    rcases List.mem_cons.mp (I3.stkSub b hb) with z | z
    · exact I3.cne y b (cp.sub y b ey) z
    · obtain ⟨_, ob, ho, _⟩ := I3.ok.funs.mem z
      exact Nat.lt_irrefl _ (Nat.lt_of_lt_of_le (Heap.lt_size ho) (above b hc))
  have env := lent_env0 CA I3.env0 (fun b hb => Nat.le_trans I3.ok.bsz (above b hb)) nofr
  have rel : Vals (V.ref a :: vs) (Value.ref a :: us) := .cons rfl r
  refine wpAny_call (codeAny_mono (F.run X.A X.stack s3 _ ⟨.ref a :: us, ks.zip ws⟩ (Value.ref a :: us ++ ws) (V.ref a :: vs ++ zs) _ E0 hr env (hb.to s3 (.ref a :: us) ws I3.kIn (rel.length.symm.trans l1') (rz.length.symm.trans l2)) (hb.rel rel rz) (told _ (outs_of CA))) ?_)
  intro z s' ends
  match z, ends with
  | .error er, ends => exact False.elim (show False from ends)
  | .ok (.ret u), ends => exact I3.after (lent_back CA nofr ends)
end
end CloX

set_option maxHeartbeats 2000000
namespace Tg
open PySem PySem.Spec PyProof.Rows L2
/-! ### the text -/
set_option maxHeartbeats 2000000
def topS (i : Nat) : Stmt := PySem.Challenge.pw_timegranary_k53_right_points.main.body.getD i (.Pass ⟨0, 0, 0, 0⟩)
abbrev sMixed : Stmt := topS 27
abbrev sPurse : Stmt := topS 28
abbrev sDraw : Stmt := topS 29
theorem scMixed : FnScope ["_law_cell_here", "_law_k", "_law_a_number"] ["_law_cell_here", "_law_k"] (defScope sMixed) := ⟨rfl, rfl, rfl, by decide +kernel, rfl, by decide +kernel, by decide +kernel⟩
theorem scPurse : FnScope ["_law_script", "_law_at", "_law_cell_here", "_law_cut", "_law_k"] ["_law_script", "_law_at"] (defScope sPurse) := ⟨rfl, rfl, rfl, by decide +kernel, rfl, by decide +kernel, by decide +kernel⟩
theorem scDraw : FnScope ["_law_purse_here", "_law_out_of", "_law_drawn", "_law_a_number", "_law_k"] ["_law_purse_here", "_law_out_of"] (defScope sDraw) := ⟨rfl, rfl, rfl, by decide +kernel, rfl, by decide +kernel, by decide +kernel⟩
/-! ### purses: what is drawn from -/
/-- a purse at p, from which at most n were drawn -/
def Pu (H : Hp) (p : Addr) (n : Nat) : Prop := ∃ a c k : Int, H p = some (.lst [.int a, .int c, .int k]) ∧ 0 ≤ k ∧ k ≤ n
theorem Pu.same {H H' : Hp} {p : Addr} {n : Nat} (s : Same H H') (h : Pu H p n) : Pu H' p n := by
  obtain ⟨a, c, k, e, r⟩ := h
  exact ⟨a, c, k, s _ _ e, r⟩
theorem Pu.ne {H : Hp} {p l : Addr} {n : Nat} (d : Pu H p n) (h : H l = none) : l ≠ p := fun z => by
  obtain ⟨_, _, _, z2, _⟩ := d
  rw [z, z2] at h
  cases h
theorem Pu.kt {H H' : Hp} {p : Addr} {n : Nat} (d : Pu H p n) (k : Kp p H H') : KT H H' := by
  obtain ⟨_, _, _, z2, _⟩ := d
  exact KT.kp k z2 nfix_lst
theorem Pu.mono {H : Hp} {p : Addr} {n m : Nat} (d : Pu H p n) (h : n ≤ m) : Pu H p m := by
  obtain ⟨a, c, k, e, r0, r1⟩ := d
  exact ⟨a, c, k, e, r0, by omega⟩
section
variable {P : Program} {w : World} {K : PySem.W.Frag} {mg : Str → Option Value} {base : Heap}
def spMixed : Sp := fun vs H Q _ => ∃ c k : Int, vs = [.int c, .int k] ∧ 0 ≤ k ∧ k < 2 ^ 40 ∧ ∀ v : Int, Q (.int v) H
theorem ok_mixed {f : Addr} {fd : FuncData} {k : Nat} (F : Fun K "_law_mixed" "_law_mixed" sMixed f fd) : FnOk P w K mg base CX0 (k + 1) f fd ["_law_cell_here", "_law_k"] spMixed := by
  refine F.ok scMixed (fun vs H Q E h => ?_) (fun cdv A outer s H vs Q E hr h => ?_)
  · obtain ⟨c, k, rfl, _⟩ := h
    rfl
  · obtain ⟨c, k, rfl, k0, k1, q⟩ := h
    refine ⟨_, pss_cons (ps_set (i := 2) scMixed.nd rfl (.inl rfl) (pe_op op_mod (pe_op op_add (pe_op op_add (pe_op op_add (pe_op op_mul (pv 0) pe_int) (pe_op op_mul (pe_op op_mul pe_int (pv 1)) (pv 1))) (pv 1)) pe_int) pe_int))
      (pss_cons (ps_set (i := 2) scMixed.nd rfl (.inl rfl) (pe_op op_mod (pe_op op_add (pe_op op_mul (pv 2) (pv 2)) pe_int) pe_int))
      (pss_one (ps_ret (pe_op op_mod (pe_op op_mul (pv 2) pe_int) pe_int)))), ?_⟩
    refine ⟨_, rfl, _, _, rfl, rfl, .inr ⟨by decide, by decide⟩, _, rfl, _, _, rfl, rfl, .inl ⟨by decide, by decide⟩, _, rfl, _, _, rfl, rfl, .inr ⟨by omega, by omega⟩, _, _, rfl, rfl, _, rfl, _, _, rfl, rfl, _, _, rfl, rfl, _, _, rfl, rfl, (by show (0 : Int) < 2147483647; decide), ?_⟩
    generalize (c * 1103515245 + 7919 * k * k + k + 1) = y
    have y0 := Int.emod_nonneg y (show (2147483647 : Int) ≠ 0 by decide)
    have y1 := Int.emod_lt_of_pos y (show (0 : Int) < 2147483647 by decide)
    refine ⟨_, rfl, _, rfl, _, _, rfl, rfl, .inl ⟨by omega, by omega⟩, _, _, rfl, rfl, _, _, rfl, rfl, (by show (0 : Int) < 2147483629; decide), ?_⟩
    exact ⟨_, rfl, _, _, rfl, rfl, .inr ⟨by decide, by decide⟩, _, _, rfl, rfl, (by show (0 : Int) < 2147483587; decide), q _⟩
def spDraw : Sp := fun vs H Q _ => ∃ (p : Addr) (n : Nat) (m : Int), vs = [.ref p, .int m] ∧ Pu H p n ∧ n < 2 ^ 38 ∧ 0 < m ∧ m < 2 ^ 50 ∧
  ∀ (v : Int) (H' : Hp), Kp p H H' → Pu H' p (n + 2) → 0 ≤ v → v < m → Q (.int v) H'
theorem ok_draw {f : Addr} {fd : FuncData} {k : Nat} (F : Fun K "_law_draw" "_law_draw" sDraw f fd) (C_mixed : Cal P w K mg base k "_law_mixed" ["_law_cell_here", "_law_k"] spMixed) (m_range : mg "range" = none) :
    FnOk P w K mg base CX0 (k + 1) f fd ["_law_purse_here", "_law_out_of"] spDraw := by
  refine F.ok scDraw (fun vs H Q E h => ?_) (fun cdv A outer s H vs Q E hr h => ?_)
  · obtain ⟨p, n, m, rfl, _⟩ := h
    rfl
  · obtain ⟨p, n, m, rfl, ⟨a, c, k, hp, k0, k1⟩, hn, m0, m1, q⟩ := h
    refine ⟨_, pss_cons (ps_if (pt_cmpR op_gt (pe_ix ix_list (pv 0) pe_int (fun _ _ => rfl)) pe_int (nomark _))
        (pss_cons (ps_set (i := 2) scDraw.nd rfl (.inl rfl) (pe_op op_mod (pe_ix ix_list (pv 0) pe_int (fun _ _ => rfl)) (pv 1)))
        (pss_cons (ps_asg (pe_op op_fdivW (pe_ix ix_list (pv 0) pe_int (fun _ _ => rfl)) (pv 1)) (pg_sub (pv 0) pe_int set_list))
        (pss_one (ps_ret (pv 2)))))
        pss_nil)
      (pss_cons (ps_set (i := 3) scDraw.nd rfl (.inl rfl) pe_int)
      (pss_cons (ps_for PassesOwn.never rfl (pi_range1 (by rfl) m_range (pa_cons (pe_op op_add pe_int (pe_op op_fdiv (pe_bits (pv 1)) pe_int)) pa_nil)) (pg_name (i := 4) scDraw.nd rfl (.inl rfl))
        (pss_cons (ps_asg (pe_op op_add (pe_ix ix_list (pv 0) pe_int (fun _ _ => rfl)) pe_int) (pg_sub (pv 0) pe_int set_list))
        (pss_one (ps_set (i := 3) scDraw.nd rfl (.inl rfl) (pe_op op_add (pe_op op_mul (pv 3) pe_int) (pe_cal C_mixed (hr.mono (by omega)) (by rfl) (pa_cons (pe_ix ix_list (pv 0) pe_int (fun _ _ => rfl)) (pa_cons (pe_ix ix_list (pv 0) pe_int (fun _ _ => rfl)) pa_nil))))))))
      (pss_one (ps_ret (pe_op op_mod (pv 3) (pv 1)))))), ?_⟩
    have e0 := Int.emod_nonneg a (show m ≠ 0 by omega)
    have e1 := Int.emod_lt_of_pos a m0
    refine ⟨_, rfl, p, _, 0, .int a, rfl, rfl, SqL.of hp, rfl, _, _, rfl, rfl, _, rfl, ite2 (fun g => ?_) (fun g => ?_)⟩
    · refine ⟨_, rfl, p, _, 0, .int a, rfl, rfl, SqL.of hp, rfl, _, rfl, _, _, rfl, rfl, m0, ?_⟩
      refine ⟨_, rfl, p, _, 0, .int a, rfl, rfl, SqL.of hp, rfl, _, rfl, _, _, rfl, rfl, wide_div (b := 50) m0 (by omega) (by decide) (by decide), _, rfl, p, _, 0, 0, rfl, rfl, hp, rfl, _, rfl, ?_⟩
      exact q _ _ Kp.put ⟨_, _, _, upd_same, k0, by omega⟩ e0 e1
    · have b0 : Builtin.Int.intBits m ≤ 50 := intBits_le_iff.mpr (by omega)
      refine ⟨_, rfl, _, rfl, _, _, rfl, rfl, ⟨by decide, by decide⟩, _, _, rfl, rfl, _, rfl, ?_, ?_, ?_⟩
      · omega
      · omega
      · obtain ⟨cn, ec⟩ : ∃ cn : Nat, (1 + ((Builtin.Int.intBits m : Nat) : Int) / 30).toNat = cn := ⟨_, rfl⟩
        have c2 : cn ≤ 2 := by omega
        rw [ec]
        refine for_range (n := cn) (fun i σ H2 => ∃ (num k' : Int) (z : Option V), σ = [some (.ref p), some (.int m), none, some (.int num), z] ∧ Kp p H H2 ∧ H2 p = some (.lst [.int a, .int c, .int k']) ∧ 0 ≤ k' ∧ k' ≤ n + i) ?_ ?_ ?_
        · exact ⟨0, k, none, rfl, Kp.refl _ _, hp, k0, by omega⟩
        · rintro i σ H2 hi ⟨num, k', z, rfl, kp, h2, k0', k1'⟩
          refine ⟨_, rfl, p, _, 2, .int k', rfl, rfl, SqL.of h2, rfl, _, _, rfl, rfl, _, rfl, p, _, 2, 2, rfl, rfl, h2, rfl, ?_⟩
          have h3 : (upd H2 p (.lst [.int a, .int c, .int (k' + 1)])) p = some (.lst [.int a, .int c, .int (k' + 1)]) := upd_same
          refine ⟨_, rfl, _, _, rfl, rfl, .inr ⟨by decide, by decide⟩, _, rfl, p, _, 1, .int c, rfl, rfl, SqL.of h3, rfl, _, rfl, p, _, 2, .int (k' + 1), rfl, rfl, SqL.of h3, rfl, c, k' + 1, rfl, by omega, by omega, fun v => ?_⟩
          exact ⟨_, _, rfl, rfl, _, _, _, rfl, kp.trans Kp.put, h3, by omega, by omega⟩
        · rintro σ H2 ⟨num, k', z, rfl, kp, h2, k0', k1'⟩
          refine ⟨_, rfl, _, rfl, _, _, rfl, rfl, m0, ?_⟩
          exact q _ _ kp ⟨_, _, _, h2, k0', by omega⟩ (Int.emod_nonneg _ (by omega)) (Int.emod_lt_of_pos _ m0)
def spPurse (K : PySem.W.Frag) : Sp := fun vs H Q _ => ∃ (sa : Addr) (ns : List Int) (at_ : Int), vs = [.ref sa, .int at_] ∧ SqL K H sa (ns.map V.int) ∧ ns.length ≤ 63 ∧ 0 ≤ at_ ∧ at_ ≤ 1000 ∧
  ∀ (p : Addr) (H' : Hp), Same H H' → H p = none → Pu H' p 1000000 → Q (.ref p) H'
theorem cut_ints (ns : List Int) (lo hi : Option Int) : ∃ ms : List Int, cutV (ns.map V.int) lo hi = ms.map V.int ∧ ms.length ≤ ns.length := by
  unfold cutV
  refine ⟨(ns.drop (HT.sIx (ns.map V.int).length 0 lo)).take (HT.sIx (ns.map V.int).length (ns.map V.int).length hi - HT.sIx (ns.map V.int).length 0 lo), ?_, ?_⟩
  · rw [List.map_take, List.map_drop]
  · rw [List.length_take, List.length_drop]
    omega
theorem ok_purse {f : Addr} {fd : FuncData} {k : Nat} (F : Fun K "_law_purse" "_law_purse" sPurse f fd) (m_range : mg "range" = none) (m_max : mg "max" = none) :
    FnOk P w K mg base CX0 (k + 1) f fd ["_law_script", "_law_at"] (spPurse K) := by
  refine F.ok scPurse (fun vs H Q E h => ?_) (fun cdv A outer s H vs Q E hr h => ?_)
  · obtain ⟨sa, ns, at_, rfl, _⟩ := h
    rfl
  · obtain ⟨sa, ns, at_, rfl, hS, hl, a0, a1, q⟩ := h
    refine ⟨_, pss_cons (ps_set (i := 2) scPurse.nd rfl (.inl rfl) (pe_ix ix_list (pe_op op_cat (pe_slice sl_list (pv 0) (po_some (pv 1)) (po_some (pe_op op_add (pv 1) pe_int))) (pe_lst (pa_cons pe_int pa_nil))) pe_int (fun _ _ => rfl)))
      (pss_cons (ps_set (i := 3) scPurse.nd rfl (.inl rfl) (pe_op op_pow pe_int pe_int))
      (pss_cons (ps_for PassesOwn.never rfl (pi_range1 (by rfl) m_range (pa_cons pe_int pa_nil)) (pg_name (i := 4) scPurse.nd rfl (.inl rfl))
        (pss_one (ps_set (i := 3) scPurse.nd rfl (.inl rfl) (pe_op op_mulW (pv 3) (pv 3)))))
      (pss_one (ps_ret (pe_lst (pa_cons (pe_op op_mod (pe_callB (call_max2 rfl) (by rfl) m_max boot_max (pa_cons (pe_op op_sub (pv 2) (pe_op op_pow pe_int pe_int)) (pa_cons pe_int pa_nil))) (pv 3)) (pa_cons (pe_op op_mod (pv 2) pe_int) (pa_cons (pe_op op_mul pe_int (pv 1)) pa_nil)))))))), ?_⟩
    obtain ⟨ms, em, lm⟩ := cut_ints ns (some at_) (some (at_ + 1))
    refine ⟨_, rfl, _, rfl, at_, rfl, _, rfl, _, _, rfl, rfl, at_ + 1, rfl, sa, _, rfl, hS, fun l1 n1 => ?_⟩
    rw [em]
    refine ⟨by show 1 ≤ sizeLine; decide, fun l2 n2 => ?_⟩
    have s1 : Same H (upd H l1 (.lst (ms.map V.int))) := same_new n1
    have s2 := same_new (o := .lst [.int 0]) n2
    have m1 : (upd (upd H l1 (.lst (ms.map V.int))) l2 (.lst [.int 0])) l1 = some (.lst (ms.map V.int)) := s2 _ _ upd_same
    refine ⟨l1, l2, _, _, rfl, rfl, m1, upd_same, ?_, fun l3 n3 => ?_⟩
    · rw [List.length_map]
      exact Nat.le_of_lt (small1000 (by show ms.length + 1 ≤ 1000; omega))
    · have s3 := same_new (o := .lst (ms.map V.int ++ [.int 0])) n3
      obtain ⟨c, ec⟩ : ∃ c : Int, atI (ms.map V.int ++ [.int 0]) 0 = some (.int c) := by
        cases ms with
        | nil => exact ⟨0, rfl⟩
        | cons x r =>
          refine ⟨x, ?_⟩
          show atI _ ((0 : Nat) : Int) = _
          exact atI_nat rfl
      have s4 : Same H (upd (upd (upd H l1 (.lst (ms.map V.int))) l2 (.lst [.int 0])) l3 (.lst (ms.map V.int ++ [.int 0]))) := (s1.trans s2).trans s3
      refine ⟨l3, _, 0, .int c, rfl, rfl, SqL.of upd_same, ec, ?_⟩
      refine ⟨10, 60, rfl, rfl, ⟨by decide, by decide, by decide⟩, ?_⟩
      revert s4
      generalize upd (upd (upd H l1 (.lst (ms.map V.int))) l2 (.lst [.int 0])) l3 (.lst (ms.map V.int ++ [.int 0])) = H4
      intro s4
      refine ⟨5, rfl, by decide, by decide, for_range (n := 5) (fun i σ H2 => ∃ (x : Int) (y : Option V), σ = [some (.ref sa), some (.int at_), some (.int c), some (.int x), y] ∧ H2 = H4 ∧ 0 < x ∧ x.natAbs < 2 ^ (200 * 2 ^ i)) ?_ ?_ ?_⟩
      · exact ⟨_, none, rfl, rfl, by decide, by decide⟩
      · rintro i σ H2 hi ⟨x, y, rfl, rfl, hx, hb⟩
        refine ⟨_, rfl, _, rfl, x, x, rfl, rfl, ?_, x * x, _, rfl, rfl, Int.mul_pos hx hx, ?_⟩
        · have h7 : 2 ^ i ≤ 2 ^ 6 := Nat.pow_le_pow_right (by decide) (by omega)
          have h0 : 0 < 2 ^ i := Nat.pow_pos (by decide)
          exact wide_mul hb hb (by omega) (by omega) (by omega)
        · have e := wide_lt hb hb
          rw [show 200 * 2 ^ (i + 1) = 200 * 2 ^ i + 200 * 2 ^ i by rw [Nat.pow_succ]; omega]
          exact e
      · rintro σ H2 ⟨x, y, rfl, rfl, hx, _⟩
        refine ⟨_, rfl, 10, 18, rfl, rfl, ⟨by decide, by decide, by decide⟩, _, _, rfl, rfl, _, _, rfl, _, rfl, _, _, rfl, rfl, hx, _, rfl, _, _, rfl, rfl, (by show (0 : Int) < 2147483647; decide), _, rfl, _, _, rfl, rfl, .inl ⟨by decide, by decide⟩, by show 3 ≤ sizeLine; decide, fun p np => ?_⟩
        exact q p _ (s4.trans (same_new np)) (s4.free np) ⟨_, _, _, upd_same, by omega, by omega⟩
end
theorem if_n {c : Bool} {A B : Prop} (h : c = false) (b : B) : if c = true then A else B := by
  subst h
  exact if_f b
theorem if_y {c : Bool} {A B : Prop} (h : c = true) (a : A) : if c = true then A else B := by
  subst h
  exact if_t a
theorem vi_ne {i j : Int} (h : i ≠ j) : decide (V.int i = V.int j) = false := decide_eq_false fun z => h (V.int.inj z)
theorem at_pred {xs : List V} {i : Nat} {v : V} (h : xs[i]? = some v) : atI xs (((i + 1 : Nat) : Int) - 1) = some v := by
  rw [show (((i + 1 : Nat) : Int) - 1) = ((i : Nat) : Int) by omega]
  exact atI_nat h
/-! ### numbers or None -/
section
variable {P : Program} {w : World} {K : PySem.W.Frag} {mg : Str → Option Value} {base : Heap}
end
section
variable {P : Program} {w : World} {K : PySem.W.Frag} {mg : Str → Option Value} {base : Heap} {C CB CD CG CK CL CO CN CP CT : Addr}
end
section
variable {P : Program} {w : World} {K : PySem.W.Frag} {mg : Str → Option Value} {base : Heap} {C CB CD CG CK CL CO CN CP CT : Addr}
end
end Tg

set_option maxHeartbeats 2000000
namespace Tg
open PySem PySem.Spec PyProof.Rows L2 LamX
/-! ### points of a table, by times -/
set_option maxHeartbeats 2000000
set_option maxHeartbeats 2000000
abbrev sPs : Stmt := topS 32
abbrev NPs : List Str := ["_law_table", "_law_start", "_law_end", "_law_time_here"]
theorem scPs : FnScope NPs ["_law_table", "_law_start", "_law_end"] (defScope sPs) := ⟨rfl, rfl, rfl, by decide +kernel, rfl, by decide +kernel, by decide +kernel⟩
/-- a table as a dict holds it -/
def tb (ps : List (Int × Int)) : List (Key × V) := ps.map fun p => ((.inl p.1 : Key), V.int p.2)
theorem tb_keys (ps : List (Int × Int)) : (tb ps).map (·.1) = (ps.map (·.1)).map Sum.inl := by
  unfold tb
  simp only [List.map_map]
  rfl
theorem tb_val : ∀ {ps : List (Int × Int)} {p : Int × Int}, p ∈ ps → (ps.map (·.1)).Nodup → valV (tb ps) (.inl p.1) = some (.int p.2)
  | q :: ps, p, hp, nd => by
    rcases List.mem_cons.mp hp with first | hp
    · rw [first]
      exact valV_pos rfl
    · have nd2 := List.nodup_cons.mp nd
      have ne : q.1 ≠ p.1 := fun z => nd2.1 (List.mem_map.mpr ⟨p, hp, z.symm⟩)
      refine (valV_neg fun z => ne (Sum.inl.inj z)).trans ?_
      exact tb_val hp nd2.2
theorem key_one {ps : List (Int × Int)} {x y : Int × Int} (nd : (ps.map (·.1)).Nodup) (hx : x ∈ ps) (hy : y ∈ ps) (e : x.1 = y.1) : x = y := by
  have h1 := tb_val hx nd
  have h2 := tb_val hy nd
  rw [e, h2] at h1
  exact Prod.ext e (V.int.inj (Option.some.inj h1)).symm
theorem ups_lt {ns : List Int} (up : ns.Pairwise (· ≤ ·)) (nd : ns.Nodup) : ns.Pairwise (· < ·) :=
  (up.and nd).imp fun h => by have h1 := h.1; have h2 := h.2; omega
theorem small1k {n : Nat} (few : n ≤ 1000) : n < sizeLine := Nat.lt_of_le_of_lt few (by decide)
/-- qs: the points of ps from a on, below b, by rising times -/
structure Cut (ps : List (Int × Int)) (a b : Int) (qs : List (Int × Int)) : Prop where
  up : (qs.map (·.1)).Pairwise (· < ·)
  all : ∀ p, p ∈ qs ↔ p ∈ ps ∧ a ≤ p.1 ∧ p.1 < b
section
variable {P : Program} {w : World} {K : PySem.W.Frag} {mg : Str → Option Value} {base : Heap}
def spPs (K : PySem.W.Frag) : Sp := fun vs H Q _ => ∃ (d : Addr) (ps : List (Int × Int)) (a b : Int), vs = [.ref d, .int a, .int b] ∧ H d = some (.dK (tb ps)) ∧ (ps.map (·.1)).Nodup ∧ ps.length ≤ 1000 ∧ ∀ l qs H', Same H H' → H l = none → Cut ps a b qs → LD K H' l (qs.map pd) → Q (.ref l) H'
theorem ok_ps {f : Addr} {fd : FuncData} {k : Nat} (F : Fun K "_law_points" "_law_points" sPs f fd) (m_sorted : mg "sorted" = none) : FnOk P w K mg base CX0 (k + 1) f fd ["_law_table", "_law_start", "_law_end"] (spPs K) := by
  refine F.ok scPs (fun vs H Q E h => ?_) (fun cdv A outer s H vs Q E hr h => ?_)
  · obtain ⟨d, ps, a, b, rfl, _⟩ := h
    rfl
  · obtain ⟨d, ps, a, b, rfl, hd, nd, few, q⟩ := h
    have hu := hu_of hr
    refine ⟨_, pss_one (ps_ret (pe_lc (own := [("_law_time_here", 3)]) (g := (gName 3)) rfl scPs.nd (pi_list (pe_callB (cr_sortedDI rfl) (by rfl) m_sorted (by decide +kernel) (pa_cons (pv 0) pa_nil))) (blkOk_by (own := [("_law_time_here", 3)]) (N := NPs) (sc := defScope sPs) (by decide +kernel)) (fun _ _ _ _ _ => (pg_name (i := 3) scPs.nd rfl (.inl rfl))) (fun _ _ _ _ _ => pts_one (pt_chain op_le op_lt (pv 1) (pv 3) (pv 2))) (fun _ _ _ _ _ => (pe_tup (pa_cons (pv 3) (pa_cons (pe_dget hu (pv 0) (pv 3) (fun _ _ => rfl)) pa_nil)))))), ?_⟩
    refine ⟨_, rfl, d, _, _, rfl, .inl hd, tb_keys ps, fun ns p pm up np => ?_⟩
    obtain ⟨H1, e1⟩ : ∃ H1, upd H p (.lst (ns.map V.int)) = H1 := ⟨_, rfl⟩
    have s1 := same_new (o := .lst (ns.map V.int)) np
    have hp1 : H1 p = some (.lst (ns.map V.int)) := by
      rw [← e1]
      exact upd_same
    rw [e1] at s1 ⊢
    have hd1 := s1 _ _ hd
    have nl : ns.length = ps.length := by
      rw [pm.length_eq, List.length_map]
    refine ⟨p, rfl, ⟨_, SqL.of hp1⟩, fun D nD => lc_list (K := K) (a := p) (xs := ns.map V.int) (fun i Hc => ∃ qs : List (Int × Int), LD K Hc D (qs.map pd) ∧ qs.map (·.1) = (ns.take i).filter (fun t => decide (a ≤ t) && decide (t < b)) ∧ (∀ x, x ∈ qs → x ∈ ps) ∧ ∀ c o, c ≠ D → H1 c = some o → Hc c = some o)
      ⟨[], ⟨[], upd_same, .nil⟩, rfl, (fun x h => by cases h), fun c o n e => (upd_ne n).trans e⟩ (fun i Hc _ ⟨_, _, _, _, kc⟩ => SqL.of (kc _ _ (ne_of_none hp1 nD) hp1)) ?_ ?_⟩
    · rintro i v Hc hv ⟨qs, ⟨xs, hx, dx⟩, em, sub, kc⟩
      rw [List.getElem?_map] at hv
      obtain ⟨t, et, rfl⟩ := Option.map_eq_some_iff.mp hv
      have tp : t ∈ ps.map (·.1) := pm.mem_iff.mp (List.mem_of_getElem? et)
      obtain ⟨⟨t, x⟩, hx2, rfl⟩ := List.mem_map.mp tp
      refine ⟨rfl, ?_⟩
      have tk : ns.take (i + 1) = ns.take i ++ [t] := take_snoc et
      have il : qs.length ≤ 1000 := by
        have h1 := congrArg List.length em
        rw [List.length_map] at h1
        have h2 := List.length_filter_le (fun t => decide (a ≤ t) && decide (t < b)) (ns.take i)
        have h3 := List.length_take_le i ns
        have h4 := List.length_take_le' i ns
        omega
      have stay : (decide (a ≤ t) && decide (t < b)) = false → ∃ qs : List (Int × Int), LD K Hc D (qs.map pd) ∧ qs.map (·.1) = (ns.take (i + 1)).filter (fun t => decide (a ≤ t) && decide (t < b)) ∧ (∀ x, x ∈ qs → x ∈ ps) ∧ ∀ c o, c ≠ D → H1 c = some o → Hc c = some o := fun no =>
        ⟨qs, ⟨xs, hx, dx⟩, by rw [tk, List.filter_append, em, List.filter_cons, if_neg (by rw [no]; exact Bool.false_ne_true)]; exact (List.append_nil _).symm, sub, kc⟩
      refine ⟨_, rfl, _, rfl, _, _, rfl, rfl, decide (a ≤ t), rfl, ?_⟩
      by_cases c1 : a ≤ t
      case neg =>
        rw [decide_eq_false c1]
        refine if_f ⟨false, rfl, if_f (stay ?_)⟩
        rw [decide_eq_false c1] <;> rfl
      rw [decide_eq_true c1]
      refine if_t ⟨_, rfl, _, _, rfl, rfl, decide (t < b), rfl, ?_⟩
      by_cases c2 : t < b
      case neg =>
        rw [decide_eq_false c2]
        refine if_f (stay ?_)
        rw [decide_eq_false c2, Bool.and_false]
      rw [decide_eq_true c2]
      have gd : DGet Hc d (kV (.inl t)) (valV (tb ps) (.inl t)) := DGet.k (kc _ _ (ne_of_none hd1 nD) hd1)
      rw [tb_val hx2 nd] at gd
      refine if_t ⟨_, rfl, _, rfl, _, rfl, d, _, rfl, gd, (by show 2 ≤ sizeLine; decide), fun u nu => ?_⟩
      have st := same_new (o := .tup [.int t, .int x]) nu
      have hu2 : upd Hc u (.tup [.int t, .int x]) u = some (.tup [.int t, .int x]) := upd_same
      refine ⟨xs, st _ _ hx, small1k (by rw [dl_len dx]; exact il), qs ++ [(t, x)], ?_, ?_, fun y hy => ?_, fun c o n e => ?_⟩
      · rw [List.map_append]
        exact .snoc (KT.of st) (st _ _ hx) dx (td_pds qs) (pd_new (x := (t, x)) hu2) (td_pd (t, x))
      · rw [List.map_append, em, tk, List.filter_append, List.filter_cons, if_pos (by rw [decide_eq_true c1, decide_eq_true c2] <;> rfl)] <;> rfl
      · rcases List.mem_append.mp hy with h | h
        · exact sub y h
        · rw [List.mem_singleton.mp h]
          exact hx2
      · rw [upd_ne n]
        exact st _ _ (kc c o n e)
    · rintro Hc ⟨qs, ld, em, sub, kc⟩
      rw [List.length_map, List.take_length] at em
      have nk : H D = none := by
        cases h : H D with
        | none => rfl
        | some o =>
          rw [s1 _ _ h] at nD
          cases nD
      refine q D qs Hc (fun c o e => kc c o (ne_of_none e nk) (s1 _ _ e)) nk ⟨?_, fun y => ⟨fun hy => ⟨sub y hy, ?_⟩, fun hy => ?_⟩⟩ ld
      · rw [em]
        refine List.Pairwise.filter _ (ups_lt up (pm.nodup_iff.mpr nd))
      · have h : y.1 ∈ qs.map (·.1) := List.mem_map.mpr ⟨y, hy, rfl⟩
        rw [em] at h
        have h := (List.mem_filter.mp h).2
        rw [Bool.and_eq_true, decide_eq_true_eq, decide_eq_true_eq] at h
        exact h
      · obtain ⟨hy, h1, h2⟩ := hy
        have h : y.1 ∈ qs.map (·.1) := by
          rw [em]
          exact List.mem_filter.mpr ⟨pm.mem_iff.mpr (List.mem_map.mpr ⟨y, hy, rfl⟩), by rw [decide_eq_true h1, decide_eq_true h2] <;> rfl⟩
        obtain ⟨z, hz, ez⟩ := List.mem_map.mp h
        rw [key_one nd (sub z hz) hy ez] at hz
        exact hz
end
end Tg

set_option maxHeartbeats 2000000
namespace Tg
open PySem PySem.Spec PyProof.Rows L2
set_option maxHeartbeats 2000000
set_option maxHeartbeats 2000000
abbrev sCellOf : Stmt := topS 16
abbrev sWhole : Stmt := topS 6
abbrev sCkW : Stmt := topS 19
abbrev sCkw : Stmt := topS 20
theorem scCellOf : FnScope ["time", "width"] ["time", "width"] (defScope sCellOf) := ⟨rfl, rfl, rfl, by decide +kernel, rfl, by decide +kernel, by decide +kernel⟩
theorem scWhole : FnScope ["thing"] ["thing"] (defScope sWhole) := ⟨rfl, rfl, rfl, by decide +kernel, rfl, by decide +kernel, by decide +kernel⟩
theorem scCkW : FnScope ["widths", "at", "width"] ["widths"] (defScope sCkW) := ⟨rfl, rfl, rfl, by decide +kernel, rfl, by decide +kernel, by decide +kernel⟩
theorem scCkw : FnScope ["widths", "width"] ["widths", "width"] (defScope sCkw) := ⟨rfl, rfl, rfl, by decide +kernel, rfl, by decide +kernel, by decide +kernel⟩
/-! ### numbers or None -/
/-- widths as the check lets them by -/
structure WOk (ws : List Int) : Prop where
  ne : ws ≠ []
  le : ws.length ≤ 4
  pos : ∀ (i : Nat) (x : Int), ws[i]? = some x → 1 ≤ x ∧ x ≤ 10 ^ 13
  up : ∀ (i : Nat) (x y : Int), ws[i]? = some x → ws[i + 1]? = some y → y ≠ x ∧ y % x = 0
section
variable {P : Program} {w : World} {K : PySem.W.Frag} {mg : Str → Option Value} {base : Heap}
def spCell : Sp := fun vs H Q _ => ∃ t d : Int, vs = [.int t, .int d] ∧ 0 < d ∧ Q (.int (t - t % d)) H
theorem ok_cell {f : Addr} {fd : FuncData} {k : Nat} (F : Fun K "cell_of" "cell_of" sCellOf f fd) : FnOk P w K mg base CX0 (k + 1) f fd ["time", "width"] spCell := by
  refine F.ok scCellOf (fun vs H Q E h => ?_) (fun cdv A outer s H vs Q E hr h => ?_)
  · obtain ⟨t, d, rfl, _⟩ := h
    rfl
  · obtain ⟨t, d, rfl, d0, q⟩ := h
    refine ⟨_, pss_one (ps_ret (pe_op op_sub (pv 0) (pe_op op_mod (pv 0) (pv 1)))), ?_⟩
    exact ⟨_, rfl, _, rfl, _, rfl, _, _, rfl, rfl, d0, _, _, rfl, rfl, q⟩
def spWhole : Sp := fun vs H Q _ => ∃ t : Int, vs = [.int t] ∧ Q (.bl true) H
theorem ok_whole {f : Addr} {fd : FuncData} {k : Nat} (F : Fun K "is_whole" "is_whole" sWhole f fd) (m_isinstance : mg "isinstance" = none) (m_int : mg "int" = none) (m_bool : mg "bool" = none) : FnOk P w K mg base CX0 (k + 1) f fd ["thing"] spWhole := by
  refine F.ok scWhole (fun vs H Q E h => ?_) (fun cdv A outer s H vs Q E hr h => ?_)
  · obtain ⟨t, rfl, _⟩ := h
    rfl
  · obtain ⟨t, rfl, q⟩ := h
    refine ⟨_, pss_one (ps_ret (pe_and (pe_callB call_isi (by rfl) m_isinstance (by decide +kernel) (pa_cons (pv 0) (pa_cons (pe_bltn (v := .ty "int") (by rfl) m_int (by decide +kernel) rfl) pa_nil))) (pe_one (pe_not (pe_callB call_isi (by rfl) m_isinstance (by decide +kernel) (pa_cons (pv 0) (pa_cons (pe_bltn (v := .ty "bool") (by rfl) m_bool (by decide +kernel) rfl) pa_nil))))))), ?_⟩
    refine ⟨_, rfl, _, _, _, _, true, rfl, .ty "int", .base (.int t), rfl, true, rfl, if_t ?_⟩
    exact ⟨_, rfl, _, _, _, _, false, rfl, .ty "bool", .base (.int t), rfl, _, rfl, q⟩
theorem inV_mem {ws : List Int} {x : Int} (h : x ∈ ws) : inV (.int x) (ws.map V.int) = true := by
  unfold inV
  rw [List.any_map, List.any_eq_true]
  exact ⟨x, h, by show eqV (V.int x) (V.int x) = true; simp [eqV]⟩
theorem flat_ints (ws : List Int) : (ws.map V.int).all flatV = true := by
  rw [List.all_map, List.all_eq_true]
  exact fun _ _ => rfl
end
/-! ### the mathematics: the first wrong keep -/
section
variable {P : Program} {w : World} {K : PySem.W.Frag} {mg : Str → Option Value} {base : Heap} {C CK : Addr}
end
end Tg

set_option maxHeartbeats 2000000
namespace Tg
open PySem PySem.Spec PyProof.Rows L2
set_option maxHeartbeats 2000000
set_option maxHeartbeats 2000000
abbrev sFI : Stmt := inCls (topS 8) 0
abbrev sRisen : Stmt := topS 10
abbrev sHB : Stmt := topS 11
abbrev sCkR : Stmt := topS 12
abbrev NFI : List Str := ["self", "count", "total", "squares", "least", "greatest", "first", "last", "rise", "held"]
theorem scFI : FnScope NFI NFI (defScope sFI) := ⟨rfl, rfl, rfl, by decide +kernel, rfl, by decide +kernel, by decide +kernel⟩
theorem scRisen : FnScope ["ahead", "behind"] ["ahead", "behind"] (defScope sRisen) := ⟨rfl, rfl, rfl, by decide +kernel, rfl, by decide +kernel, by decide +kernel⟩
theorem scHB : FnScope ["ahead", "behind"] ["ahead", "behind"] (defScope sHB) := ⟨rfl, rfl, rfl, by decide +kernel, rfl, by decide +kernel, by decide +kernel⟩
theorem scCkR : FnScope ["points", "at"] ["points"] (defScope sCkR) := ⟨rfl, rfl, rfl, by decide +kernel, rfl, by decide +kernel, by decide +kernel⟩
/-! ### points and their folds -/
abbrev Pt := Int × Int
def riz (a b : Int) : Int := if b ≥ a then b - a else if 0 > b then 0 else b
def hld (p q : Pt) : Int := p.2 * (q.1 - p.1)
def wts (ps : List Pt) : List Int := ps.map (·.2)
structure FD where
  cnt : Int
  tot : Int
  sq : Int
  lo : Option Int
  hi : Option Int
  fst : Option Pt
  lst : Option Pt
  ris : Int
  hel : Int
def fOf (ps : List Pt) : FD := ⟨ps.length, (wts ps).sum, ((wts ps).map fun w => w * w).sum, (wts ps).min?, (wts ps).max?, ps.head?, ps.getLast?, (List.zipWith riz (wts ps) ((wts ps).drop 1)).sum, (List.zipWith hld ps (ps.drop 1)).sum⟩
theorem min_is {ns : List Int} {m : Int} (h : m ∈ ns) (le : ∀ y, y ∈ ns → m ≤ y) : ns.min? = some m := List.min?_eq_some_iff.mpr ⟨h, le⟩
theorem max_is {ns : List Int} {m : Int} (h : m ∈ ns) (le : ∀ y, y ∈ ns → y ≤ m) : ns.max? = some m := List.max?_eq_some_iff.mpr ⟨h, le⟩
/-- points whose times rise, of some size -/
structure POk (ps : List Pt) : Prop where
  len : ps.length < 1000
  up : ∀ (i : Nat) (p q : Pt), ps[i]? = some p → ps[i + 1]? = some q → p.1 < q.1
  sz : ∀ p, p ∈ ps → p.2.natAbs < 2 ^ 60
section
variable {K : PySem.W.Frag} {H H' : Hp}
/-- a point or None -/
def PO (K : PySem.W.Frag) (H : Hp) (v : V) : Option Pt → Prop
  | none => v = .non
  | some p => ∃ t, v = .ref t ∧ SqT K H t [.int p.1, .int p.2]
theorem PO.same {v : V} (s : Same H H') : ∀ {o : Option Pt}, PO K H v o → PO K H' v o
  | none, h => h
  | some p, ⟨t, e, h⟩ => ⟨t, e, sqT_same s h⟩
theorem dp_pd {v : V} {x : Pt} (h : Dp K H v (pd x)) : ∃ a, v = .ref a ∧ SqT K H a [.int x.1, .int x.2] := by
  cases h with
  | tup a b =>
    cases b with
    | cons h1 b =>
      cases b with
      | cons h2 b =>
        cases b
        cases h1
        cases h2
        exact ⟨_, rfl, a⟩
def flds (F : FD) (vf vl : V) : List (Str × V) := [("count", .int F.cnt), ("total", .int F.tot), ("squares", .int F.sq), ("least", vw F.lo), ("greatest", vw F.hi), ("first", vf), ("last", vl), ("rise", .int F.ris), ("held", .int F.hel)]
/-- a Fold in the heap -/
def FdO (K : PySem.W.Frag) (C : Addr) (H : Hp) (a : Addr) (F : FD) : Prop := ∃ dx vf vl, H a = some (.ins C dx (flds F vf vl)) ∧ PO K H vf F.fst ∧ PO K H vl F.lst
theorem FdO.same {C a : Addr} {F : FD} (s : Same H H') (h : FdO K C H a F) : FdO K C H' a F := by
  obtain ⟨dx, vf, vl, e, h1, h2⟩ := h
  exact ⟨dx, vf, vl, s _ _ e, h1.same s, h2.same s⟩
/-- points in a list -/
def PtL (K : PySem.W.Frag) (H : Hp) (l : Addr) (ps : List Pt) : Prop := ∃ xs, SqL K H l xs ∧ DpAll K H xs (ps.map pd)
theorem PtL.same {l : Addr} {ps : List Pt} (s : Same H H') (h : PtL K H l ps) : PtL K H' l ps := by
  obtain ⟨xs, h1, h2⟩ := h
  exact ⟨xs, sqL_same s h1, dpAll_same s h2⟩
structure TFold (K : PySem.W.Frag) (C : Addr) : Prop where
  cl : Cls K C
  no : ∀ n, n ∈ ["count", "total", "squares", "least", "greatest", "first", "last", "rise", "held"] → PySem.W.findIn K (.ref C) n = some none
end
section
variable {P : Program} {w : World} {K : PySem.W.Frag} {mg : Str → Option Value} {base : Heap} {C : Addr}
/-- C(k = v, ..), keywords alone -/
def CalCK (P : Program) (w : World) (K : PySem.W.Frag) (mg : Str → Option Value) (base : Heap) (k : Nat) (x : Str) (C : Addr) (ps ks : List Str) (gV : List V → List V → List V) (sp : Sp) : Prop := ∃ f fd g, FnOk P w K mg base CX0 k f fd ps sp ∧ mg x = some (.ref C) ∧ Mk K C f ∧ KBn K fd ps 1 ks g gV
theorem pe_calCK {X : Cx} {k : Nat} {x : Str} {ps ks : List Str} {gV : List V → List V → List V} {sp : Sp} {kws : List Keyword} {tk : TA} {p pos : Pos} (c : CalCK X.prog X.w X.K X.mg X.base k x C ps ks gV sp) (hr : Room (k + 1) X.A) (gl : Gl X x) (vals : PK X kws tk)
    (named : (backToKw pos (keywordEach kws X.env)).all (·.1.isSome) = true := by rfl) (names : (backToKw pos (keywordEach kws X.env)).filterMap (·.1) = ks := by rfl) (nodebug : (x == ("__debug__" : Str)) = false := by decide)
    (nostar : ((backTo pos (starEach [] X.env)).any (·.1) || (backToKw pos (keywordEach kws X.env)).any (·.1.isNone)) = false := by rfl) :
    PE X (.Call (.Name x p) [] kws pos) (tMakeK C 0 ks.length sp gV E0 tNil tk) := by
  obtain ⟨f, fd, g, F, hm, M, hb⟩ := c
  exact pe_makeK0 M F hr gl hm hb pass0 vals named names nodebug nostar
/-! ### Fold.__init__ -/
def spFI (C : Addr) : Sp := fun vs H Q _ => ∃ (p dx : Addr) (a b c d e f g h i : V), vs = [.ref p, a, b, c, d, e, f, g, h, i] ∧ H p = some (.ins C dx []) ∧
  Q .non (upd H p (.ins C dx [("count", a), ("total", b), ("squares", c), ("least", d), ("greatest", e), ("first", f), ("last", g), ("rise", h), ("held", i)]))
theorem ok_fi {f : Addr} {fd : FuncData} {kws : List (Str × V)} {k : Nat} (F : FunD K "__init__" "Fold.__init__" (defArgs sFI) (defBody sFI) (defScope sFI) [] kws f fd) (T : TFold K C) : FnOk P w K mg base CX0 (k + 1) f fd NFI (spFI C) := by
  refine F.ok scFI (fun vs H Q E h => ?_) (fun cdv A outer s H vs Q E hr h => ?_)
  · obtain ⟨p, dx, a, b, c, d, e, f, g, h, i, rfl, _⟩ := h
    rfl
  · obtain ⟨p, dx, a, b, c, d, e, f, g, h, i, rfl, hp, q⟩ := h
    refine ⟨_, pss_cons (ps_fld (pv 0) (pv 1) rfl) (pss_cons (ps_fld (pv 0) (pv 2) rfl) (pss_cons (ps_fld (pv 0) (pv 3) rfl) (pss_cons (ps_fld (pv 0) (pv 4) rfl) (pss_cons (ps_fld (pv 0) (pv 5) rfl)
      (pss_cons (ps_fld (pv 0) (pv 6) rfl) (pss_cons (ps_fld (pv 0) (pv 7) rfl) (pss_cons (ps_fld (pv 0) (pv 8) rfl) (pss_one (ps_fld (pv 0) (pv 9) rfl))))))))), ?_⟩
    refine ⟨_, rfl, _, rfl, p, C, dx, _, rfl, hp, T.cl, T.no _ (by decide), (by show 0 < 1000; decide), ?_⟩
    refine ⟨_, rfl, _, rfl, p, C, dx, _, rfl, upd_same, T.cl, T.no _ (by decide), (by show 1 < 1000; decide), ?_⟩
    rw [upd_upd]
    refine ⟨_, rfl, _, rfl, p, C, dx, _, rfl, upd_same, T.cl, T.no _ (by decide), (by show 2 < 1000; decide), ?_⟩
    rw [upd_upd]
    refine ⟨_, rfl, _, rfl, p, C, dx, _, rfl, upd_same, T.cl, T.no _ (by decide), (by show 3 < 1000; decide), ?_⟩
    rw [upd_upd]
    refine ⟨_, rfl, _, rfl, p, C, dx, _, rfl, upd_same, T.cl, T.no _ (by decide), (by show 4 < 1000; decide), ?_⟩
    rw [upd_upd]
    refine ⟨_, rfl, _, rfl, p, C, dx, _, rfl, upd_same, T.cl, T.no _ (by decide), (by show 5 < 1000; decide), ?_⟩
    rw [upd_upd]
    refine ⟨_, rfl, _, rfl, p, C, dx, _, rfl, upd_same, T.cl, T.no _ (by decide), (by show 6 < 1000; decide), ?_⟩
    rw [upd_upd]
    refine ⟨_, rfl, _, rfl, p, C, dx, _, rfl, upd_same, T.cl, T.no _ (by decide), (by show 7 < 1000; decide), ?_⟩
    rw [upd_upd]
    refine ⟨_, rfl, _, rfl, p, C, dx, _, rfl, upd_same, T.cl, T.no _ (by decide), (by show 8 < 1000; decide), ?_⟩
    rw [upd_upd]
    exact q
/-! ### risen, held_between, check_rising -/
def spRisen : Sp := fun vs H Q _ => ∃ a b : Int, vs = [.int a, .int b] ∧ Q (.int (riz a b)) H
theorem ok_risen {f : Addr} {fd : FuncData} {k : Nat} (F : Fun K "risen" "risen" sRisen f fd) (m_max : mg "max" = none) : FnOk P w K mg base CX0 (k + 1) f fd ["ahead", "behind"] spRisen := by
  refine F.ok scRisen (fun vs H Q E h => ?_) (fun cdv A outer s H vs Q E hr h => ?_)
  · obtain ⟨a, b, rfl, _⟩ := h
    rfl
  · obtain ⟨a, b, rfl, q⟩ := h
    refine ⟨_, pss_cons (ps_if (pt_cmpR op_ge (pv 1) (pv 0) (nomark _))
        (pss_one (ps_ret (pe_op op_sub (pv 1) (pv 0))))
        pss_nil)
      (pss_one (ps_ret (pe_callB (call_max2 rfl) (by rfl) m_max (by decide +kernel) (pa_cons (pv 1) (pa_cons pe_int pa_nil))))), ?_⟩
    unfold riz at q
    refine ⟨_, rfl, _, rfl, _, _, rfl, rfl, _, rfl, ite2 (fun g => ?_) (fun g => ?_)⟩
    · rw [if_pos (of_decide_eq_true g)] at q
      exact ⟨_, rfl, _, rfl, _, _, rfl, rfl, q⟩
    · rw [if_neg (fun z => g (decide_eq_true z))] at q
      exact ⟨_, rfl, _, _, rfl, q⟩
def spHB (K : PySem.W.Frag) : Sp := fun vs H Q _ => ∃ (a b : Addr) (p q : Pt), vs = [.ref a, .ref b] ∧ SqT K H a [.int p.1, .int p.2] ∧ SqT K H b [.int q.1, .int q.2] ∧ p.2.natAbs < 2 ^ 60 ∧ Q (.int (hld p q)) H
theorem small_mul {i j : Int} (h : i.natAbs < 2 ^ 60) : CMul i j := .inl ⟨by omega, by omega⟩
theorem ok_hb {f : Addr} {fd : FuncData} {k : Nat} (F : Fun K "held_between" "held_between" sHB f fd) : FnOk P w K mg base CX0 (k + 1) f fd ["ahead", "behind"] (spHB K) := by
  refine F.ok scHB (fun vs H Q E h => ?_) (fun cdv A outer s H vs Q E hr h => ?_)
  · obtain ⟨a, b, p, q, rfl, _⟩ := h
    rfl
  · obtain ⟨a, b, p, q, rfl, ha, hb, hs, fin⟩ := h
    refine ⟨_, pss_one (ps_ret (pe_op op_mul (pe_ix ix_tup (pv 0) pe_int (fun _ _ => rfl)) (pe_op op_sub (pe_ix ix_tup (pv 1) pe_int (fun _ _ => rfl)) (pe_ix ix_tup (pv 0) pe_int (fun _ _ => rfl))))), ?_⟩
    exact ⟨_, rfl, a, _, _, _, rfl, rfl, ha, rfl, _, rfl, b, _, _, _, rfl, rfl, hb, rfl, _, rfl, a, _, _, _, rfl, rfl, ha, rfl, _, _, rfl, rfl, _, _, rfl, rfl, small_mul hs, fin⟩
def spCkR (K : PySem.W.Frag) : Sp := fun vs H Q _ => ∃ (l : Addr) (ps : List Pt), vs = [.ref l] ∧ PtL K H l ps ∧ POk ps ∧ Q .non H
theorem ok_ckR {f : Addr} {fd : FuncData} {k : Nat} (F : Fun K "check_rising" "check_rising" sCkR f fd) (m_range : mg "range" = none) (m_len : mg "len" = none) : FnOk P w K mg base CX0 (k + 1) f fd ["points"] (spCkR K) := by
  refine F.ok scCkR (fun vs H Q E h => ?_) (fun cdv A outer s H vs Q E hr h => ?_)
  · obtain ⟨l, ps, rfl, _⟩ := h
    rfl
  · obtain ⟨l, ps, rfl, ⟨xs, hl, hd⟩, ok, q⟩ := h
    refine ⟨_, pss_one (ps_for PassesOwn.never rfl (pi_range2 (by rfl) m_range (pa_cons pe_int (pa_cons (pe_callB call_len_seq (by rfl) m_len (by decide +kernel) (pa_cons (pv 0) pa_nil)) pa_nil))) (pg_name (i := 1) scCkR.nd rfl (.inl rfl))
        (pss_one (ps_if (pt_cmpR op_le (pe_ix ix_tup (pe_ix ix_list (pv 0) (pv 1) (fun _ _ => rfl)) pe_int (fun _ _ => rfl)) (pe_ix ix_tup (pe_ix ix_list (pv 0) (pe_op op_sub (pv 1) pe_int) (fun _ _ => rfl)) pe_int (fun _ _ => rfl)) (nomark _))
          (pss_one ps_dead)
          pss_nil))), ?_⟩
    have ll := dl_len hd
    have l40 := ok.len
    refine ⟨_, rfl, l, xs, rfl, .inl hl, 1, _, rfl, ⟨by decide, by decide, by omega, by omega⟩, ?_⟩
    rw [show (((xs.length : Nat) : Int) - 1).toNat = xs.length - 1 by omega]
    refine for_range (n := xs.length - 1) (fun i σ H2 => ∃ z : Option V, σ = [some (.ref l), z] ∧ H2 = H) ⟨none, rfl, rfl⟩ ?_ ?_
    · rintro i σ H2 hi ⟨z, rfl, rfl⟩
      obtain ⟨p, hp⟩ : ∃ p, ps[i]? = some p := ⟨_, List.getElem?_eq_getElem (by omega)⟩
      obtain ⟨r, hr2⟩ : ∃ r, ps[i + 1]? = some r := ⟨_, List.getElem?_eq_getElem (by omega)⟩
      obtain ⟨v1, e1, d1⟩ := dl_get hd hp
      obtain ⟨v2, e2, d2⟩ := dl_get hd hr2
      obtain ⟨t1, rfl, h1⟩ := dp_pd d1
      obtain ⟨t2, rfl, h2⟩ := dp_pd d2
      have lt := ok.up i p r hp hr2
      refine ⟨_, rfl, _, rfl, l, xs, _, .ref t2, rfl, rfl, hl, ?_, t2, _, _, _, rfl, rfl, h2, rfl, _, rfl, _, rfl, _, _, rfl, rfl, l, xs, _, .ref t1, rfl, rfl, hl, ?_, t1, _, _, _, rfl, rfl, h1, rfl, _, _, rfl, rfl, _, rfl, if_n ?_ ⟨_, rfl, rfl⟩⟩
      · rw [show (1 + ((i : Nat) : Int)) = ((i + 1 : Nat) : Int) by omega]
        exact atI_nat e2
      · rw [show (1 + ((i : Nat) : Int)) - 1 = ((i : Nat) : Int) by omega]
        exact atI_nat e1
      · exact decide_eq_false (by omega)
    · rintro σ H2 ⟨z, rfl, rfl⟩
      exact q
end
end Tg

set_option maxHeartbeats 2000000
namespace Tg
open PySem PySem.Spec PyProof.Rows L2
set_option maxHeartbeats 2000000
set_option maxHeartbeats 2000000
abbrev sFO : Stmt := topS 13
abbrev NFO : List Str := ["points", "told", "worths", "time", "worth", "ahead", "behind"]
theorem scFO : FnScope NFO ["points"] (defScope sFO) := ⟨rfl, rfl, rfl, by decide +kernel, rfl, by decide +kernel, by decide +kernel⟩
theorem cut_from (xs : List V) (a : Nat) : cutV xs (some (a : Int)) none = xs.drop a := by
  unfold cutV
  rw [HT.sIx_none, HT.sIx_nat]
  rcases Nat.le_total a xs.length with h | h
  · rw [Nat.min_eq_left h]
    exact List.take_of_length_le (by rw [List.length_drop]; exact Nat.le_refl _)
  · rw [Nat.min_eq_right h, List.drop_length, List.drop_of_length_le h, List.take_nil]
theorem cut_1 (xs : List V) : cutV xs (some 1) none = xs.drop 1 := cut_from xs 1
theorem fd_made {K : PySem.W.Frag} {C x dx : Addr} {H : Hp} (nx : H x = none) (nd : H dx = none) (ne : dx ≠ x) {F : FD} {vf vl : V} (h1 : PO K H vf F.fst) (h2 : PO K H vl F.lst) :
    Same H (upd (upd (upd H dx (.own x)) x (.ins C dx [])) x (.ins C dx (flds F vf vl))) ∧ FdO K C (upd (upd (upd H dx (.own x)) x (.ins C dx [])) x (.ins C dx (flds F vf vl))) x F := by
  have sm : Same H (upd (upd (upd H dx (.own x)) x (.ins C dx [])) x (.ins C dx (flds F vf vl))) := same_put nx (same_put nx (same_new nd))
  exact ⟨sm, dx, vf, vl, upd_same, h1.same sm, h2.same sm⟩
theorem fOf_nil : fOf [] = ⟨0, 0, 0, none, none, none, none, 0, 0⟩ := rfl
theorem wts_at {ps : List Pt} {i : Nat} {p : Pt} (h : ps[i]? = some p) : (wts ps)[i]? = some p.2 := by
  unfold wts
  rw [List.getElem?_map, h]
  rfl
theorem wts_len (ps : List Pt) : (wts ps).length = ps.length := List.length_map ..
theorem zw_at {α β γ : Type} {f : α → β → γ} {xs : List α} {ys : List β} {i : Nat} {a : α} {b : β} (h1 : xs[i]? = some a) (h2 : ys[i]? = some b) : (List.zipWith f xs ys)[i]? = some (f a b) := by
  rw [List.getElem?_zipWith, h1, h2]
theorem mapi_at {ns : List Int} {i : Nat} {v : V} (h : (ns.map V.int)[i]? = some v) : ∃ a, ns[i]? = some a ∧ v = .int a := by
  rw [List.getElem?_map] at h
  obtain ⟨a, h1, rfl⟩ := Option.map_eq_some_iff.mp h
  exact ⟨a, h1, rfl⟩
theorem atI_end {xs : List V} {v : V} (h : xs.getLast? = some v) : atI xs (-1) = some v := by
  obtain ⟨ys, rfl⟩ := List.getLast?_eq_some_iff.mp h
  exact atI_last ys v
theorem pt_ends {K : PySem.W.Frag} {H : Hp} {xs : List V} {ps : List Pt} (hd : DpAll K H xs (ps.map pd)) (ne : ps ≠ []) :
    (∃ t p, atI xs 0 = some (.ref t) ∧ ps.head? = some p ∧ SqT K H t [.int p.1, .int p.2]) ∧ ∃ t p, atI xs (-1) = some (.ref t) ∧ ps.getLast? = some p ∧ SqT K H t [.int p.1, .int p.2] := by
  have l0 : 0 < ps.length := List.length_pos_iff.mpr ne
  have ll := dl_len hd
  constructor
  · obtain ⟨p, hp⟩ : ∃ p, ps[0]? = some p := ⟨_, List.getElem?_eq_getElem l0⟩
    obtain ⟨v, e, d⟩ := dl_get hd hp
    obtain ⟨t, rfl, h⟩ := dp_pd d
    exact ⟨t, p, atI_nat e, by rw [List.head?_eq_getElem?]; exact hp, h⟩
  · obtain ⟨p, hp⟩ : ∃ p, ps[ps.length - 1]? = some p := ⟨_, List.getElem?_eq_getElem (by omega)⟩
    obtain ⟨v, e, d⟩ := dl_get hd hp
    obtain ⟨t, rfl, h⟩ := dp_pd d
    exact ⟨t, p, atI_end (by rw [List.getLast?_eq_getElem?, ll]; exact e), by rw [List.getLast?_eq_getElem?]; exact hp, h⟩
abbrev kFold : List Str := ["count", "total", "squares", "least", "greatest", "first", "last", "rise", "held"]
section
variable {P : Program} {w : World} {K : PySem.W.Frag} {mg : Str → Option Value} {base : Heap} {C : Addr}
abbrev KF9 (P : Program) (w : World) (K : PySem.W.Frag) (mg : Str → Option Value) (base : Heap) (C : Addr) (k : Nat) : Prop := CalCK P w K mg base k "Fold" C NFI kFold (fun vs zs => vs ++ zs) (spFI C)
abbrev KF0 (P : Program) (w : World) (K : PySem.W.Frag) (mg : Str → Option Value) (base : Heap) (C : Addr) (k : Nat) : Prop := CalCK P w K mg base k "Fold" C NFI [] (fun vs _ => vs ++ [.int 0, .int 0, .int 0, .non, .non, .non, .non, .int 0, .int 0]) (spFI C)
def spFO (K : PySem.W.Frag) (C : Addr) : Sp := fun vs H Q _ => ∃ (l : Addr) (ps : List Pt), vs = [.ref l] ∧ PtL K H l ps ∧ POk ps ∧ ∀ a H', Same H H' → FdO K C H' a (fOf ps) → Q (.ref a) H'
theorem ok_fo {f : Addr} {fd : FuncData} {k : Nat} (F : Fun K "fold_of" "fold_of" sFO f fd) (C_check_rising : Cal P w K mg base k "check_rising" ["points"] (spCkR K)) (K_Fold0 : KF0 P w K mg base C k) (K_Fold9 : KF9 P w K mg base C k) (C_risen : Cal P w K mg base k "risen" ["ahead", "behind"] spRisen) (C_held_between : Cal P w K mg base k "held_between" ["ahead", "behind"] (spHB K))
    (m_list : mg "list" = none) (m_len : mg "len" = none) (m_sum : mg "sum" = none) (m_min : mg "min" = none) (m_max : mg "max" = none) (m_zip : mg "zip" = none) : FnOk P w K mg base CX0 (k + 2) f fd ["points"] (spFO K C) := by
  refine F.ok scFO (fun vs H Q E h => ?_) (fun cdv A outer s H vs Q E hr h => ?_)
  · obtain ⟨l, ps, rfl, _⟩ := h
    rfl
  · obtain ⟨l, ps, rfl, ⟨xs, hl, hd⟩, ok, q⟩ := h
    refine ⟨_, pss_cons (ps_set (i := 1) scFO.nd rfl (.inl rfl) (pe_callTy call_list_of (by rfl) m_list (by decide +kernel) (pa_cons (pv 0) pa_nil)))
      (pss_cons (ps_expr (pe_cal C_check_rising (hr.mono (by omega)) (by rfl) (pa_cons (pv 1) pa_nil)))
      (pss_cons (ps_if (pt_not (pt_truth (pv 1) (fun _ => rfl)))
        (pss_one (ps_ret (pe_calCK K_Fold0 (hr.mono (by omega)) (by rfl) pk_nil)))
        pss_nil)
      (pss_cons (ps_setLc (i := 2) (own := [("time", 3), ("worth", 4)]) (g := gTup K 2 _) (tt := tYes) rfl scFO.nd rfl rfl (sw_true rfl rfl rfl (by decide +kernel)) (pi_list (pv 1)) (blkOk_by (own := [("time", 3), ("worth", 4)]) (N := NFO) (sc := defScope sFO) (by decide +kernel)) (fun _ _ _ _ _ => (pg_tup rfl (pgs_cons (pg_name (i := 3) scFO.nd rfl (.inl rfl)) (pgs_cons (pg_name (i := 4) scFO.nd rfl (.inl rfl)) pgs_nil)))) (fun _ _ _ _ _ => pts_nil) (fun _ _ _ _ _ => (pv 4)))
      (pss_one (ps_ret (pe_calCK K_Fold9 (hr.mono (by omega)) (by rfl) (pk_cons (pe_callB call_len_seq (by rfl) m_len (by decide +kernel) (pa_cons (pv 1) pa_nil)) (pk_cons (pe_callB (cr_sum rfl) (by rfl) m_sum (by decide +kernel) (pa_cons (pv 2) pa_nil)) (pk_cons (pe_callB (cr_sum rfl) (by rfl) m_sum (by decide +kernel) (pa_cons (pe_lc (own := [("worth", 4)]) (g := (gName 4)) (tt := tYes) rfl scFO.nd (pi_list (pv 2)) (blkOk_by (own := [("worth", 4)]) (N := NFO) (sc := defScope sFO) (by decide +kernel)) (fun _ _ _ _ _ => (pg_name (i := 4) scFO.nd rfl (.inl rfl))) (fun _ _ _ _ _ => pts_nil) (fun _ _ _ _ _ => (pe_op op_mul (pv 4) (pv 4)))) pa_nil)) (pk_cons (pe_callB (cr_min rfl) (by rfl) m_min (by decide +kernel) (pa_cons (pv 2) pa_nil)) (pk_cons (pe_callB (cr_max rfl) (by rfl) m_max (by decide +kernel) (pa_cons (pv 2) pa_nil)) (pk_cons (pe_ix ix_list (pv 1) pe_int (fun _ _ => rfl)) (pk_cons (pe_ix ix_list (pv 1) (pe_un un_neg pe_int) (fun _ _ => rfl)) (pk_cons (pe_callB (cr_sum rfl) (by rfl) m_sum (by decide +kernel) (pa_cons (pe_lc (own := [("ahead", 5), ("behind", 6)]) (g := gTup K 2 _) (tt := tYes) rfl scFO.nd (pi_zip (by rfl) m_zip (pa_cons (pv 2) (pa_cons (pe_slice sl_list (pv 2) (po_some pe_int) po_none) pa_nil))) (blkOk_by (own := [("ahead", 5), ("behind", 6)]) (N := NFO) (sc := defScope sFO) (by decide +kernel)) (fun _ _ _ _ _ => (pg_tup rfl (pgs_cons (pg_name (i := 5) scFO.nd rfl (.inl rfl)) (pgs_cons (pg_name (i := 6) scFO.nd rfl (.inl rfl)) pgs_nil)))) (fun _ _ _ _ _ => pts_nil) (fun _ _ _ _ _ => (pe_cal C_risen (hr.mono (by omega)) (by rfl) (pa_cons (pv 5) (pa_cons (pv 6) pa_nil))))) pa_nil)) (pk_cons (pe_callB (cr_sum rfl) (by rfl) m_sum (by decide +kernel) (pa_cons (pe_lc (own := [("ahead", 5), ("behind", 6)]) (g := gTup K 2 _) (tt := tYes) rfl scFO.nd (pi_zip (by rfl) m_zip (pa_cons (pv 1) (pa_cons (pe_slice sl_list (pv 1) (po_some pe_int) po_none) pa_nil))) (blkOk_by (own := [("ahead", 5), ("behind", 6)]) (N := NFO) (sc := defScope sFO) (by decide +kernel)) (fun _ _ _ _ _ => (pg_tup rfl (pgs_cons (pg_name (i := 5) scFO.nd rfl (.inl rfl)) (pgs_cons (pg_name (i := 6) scFO.nd rfl (.inl rfl)) pgs_nil)))) (fun _ _ _ _ _ => pts_nil) (fun _ _ _ _ _ => (pe_cal C_held_between (hr.mono (by omega)) (by rfl) (pa_cons (pv 5) (pa_cons (pv 6) pa_nil))))) pa_nil)) pk_nil))))))))))))))), ?_⟩
    have ll := dl_len hd
    have l40 := ok.len
    refine ⟨_, rfl, l, xs, rfl, .inl hl, fun t nt => ?_⟩
    have s1 : Same H (upd H t (.lst xs)) := same_new nt
    obtain ⟨H1, e1⟩ : ∃ H1, upd H t (.lst xs) = H1 := ⟨_, rfl⟩
    have ht1 : H1 t = some (.lst xs) := by
      rw [← e1]
      exact upd_same
    rw [e1] at s1
    rw [e1]
    have hd1 := dpAll_same s1 hd
    refine ⟨_, rfl, t, ps, rfl, ⟨xs, SqL.of ht1, hd1⟩, ok, ?_⟩
    refine ⟨_, rfl, !xs.isEmpty, .inl ⟨xs, SqL.of ht1, rfl⟩, ?_⟩
    cases ps with
    | nil =>
      obtain rfl : xs = [] := List.length_eq_zero_iff.mp ll
      refine if_t ⟨rfl, rfl, fun x dx nx nd ne => ⟨x, dx, _, _, _, _, _, _, _, _, _, rfl, upd_same, rfl, ?_⟩⟩
      have z := fd_made (K := K) (C := C) nx nd ne (F := fOf []) (vf := .non) (vl := .non) rfl rfl
      exact q x _ (s1.trans z.1) z.2
    | cons p0 pr =>
      obtain ⟨ps, eps⟩ : ∃ ps, p0 :: pr = ps := ⟨_, rfl⟩
      have h0 : ps[0]? = some p0 := by
        rw [← eps]
        rfl
      have hne : ps ≠ [] := by
        rw [← eps]
        exact List.cons_ne_nil _ _
      rw [eps] at hd hd1 ok ll l40 q
      have l0 : 0 < ps.length := List.length_pos_iff.mpr hne
      have xe : xs.isEmpty = false := by
        cases xs with
        | nil => rw [← ll] at l0; cases l0
        | cons a b => rfl
      rw [xe]
      refine if_f ⟨_, rfl, t, rfl, ⟨_, SqL.of ht1⟩, fun D1 nD1 => lc_list (K := K) (a := t) (xs := xs) (fun j Hc => Same H1 Hc ∧ Hc D1 = some (.lst (((wts ps).take j).map V.int))) ⟨same_new nD1, upd_same⟩ (fun j Hc _ h => SqL.of (h.1 _ _ ht1)) ?_ ?_⟩
      · rintro j v Hc hj ⟨sc, hD⟩
        obtain ⟨r, hr1, dr⟩ := dl_at hd1 hj
        obtain ⟨a, rfl, ha⟩ := dp_pd (dp_same sc dr)
        refine ⟨a, _, rfl, ha, rfl, _, _, rfl, _, [], rfl, rfl, rfl, ?_⟩
        unfold tYes
        dsimp only
        rw [if_pos rfl]
        refine ⟨_, rfl, _, hD, ?_, same_put nD1 sc, ?_⟩
        · rw [List.length_map, List.length_take, wts_len]
          exact small1000 (by omega)
        · rw [upd_same, take_snoc (wts_at hr1), List.map_append]
          rfl
      · rintro H2 ⟨s2, hD1⟩
        rw [ll, ← wts_len, List.take_length] at hD1
        have hd2 := dpAll_same s2 hd1
        have ht2 := s2 _ _ ht1
        have lw0 : 0 < (wts ps).length := by
          rw [wts_len]
          exact l0
        -- the squares
        refine ⟨_, rfl, t, xs, rfl, .inl (SqL.of ht2), _, rfl, D1, wts ps, rfl, SqL.of hD1, _, rfl, D1, rfl, ⟨_, SqL.of hD1⟩, fun D3 nD3 => lc_list (K := K) (a := D1) (xs := (wts ps).map V.int) (fun j Hc => Same H2 Hc ∧ Hc D3 = some (.lst ((((wts ps).map fun w => w * w).take j).map V.int))) ⟨same_new nD3, upd_same⟩ (fun j Hc _ h => SqL.of (h.1 _ _ hD1)) ?_ ?_⟩
        · rintro j v Hc hj ⟨sc, hD⟩
          obtain ⟨a, ha, rfl⟩ := mapi_at hj
          refine ⟨rfl, ?_⟩
          unfold tYes
          dsimp only
          rw [if_pos rfl]
          have sz : a.natAbs < 2 ^ 60 := by
            obtain ⟨p, hp, rfl⟩ := List.mem_map.mp (List.mem_of_getElem? ha)
            exact ok.sz p hp
          have e2 : ((wts ps).map fun w => w * w)[j]? = some (a * a) := by rw [List.getElem?_map, ha]; rfl
          refine ⟨_, rfl, _, rfl, _, _, rfl, rfl, small_mul sz, _, hD, ?_, same_put nD3 sc, ?_⟩
          · rw [List.length_map, List.length_take, List.length_map, wts_len]
            exact small1000 (by omega)
          · rw [upd_same, take_snoc e2, List.map_append]
            rfl
        · rintro H3 ⟨s3, hD3⟩
          rw [List.length_map, ← List.length_map (as := wts ps) (f := fun w => w * w), List.take_length] at hD3
          have hD1' := s3 _ _ hD1
          have ht3 := s3 _ _ ht2
          have hd3 := dpAll_same s3 hd2
          obtain ⟨⟨ta, pa, ea, eA, hA⟩, ⟨tz, pz, ez, eZ, hZ⟩⟩ := pt_ends hd3 hne
          refine ⟨D3, _, rfl, SqL.of hD3, _, rfl, D1, wts ps, rfl, SqL.of hD1', lw0, fun mn mn1 mn2 => ⟨_, rfl, D1, wts ps, rfl, SqL.of hD1', lw0, fun mx mx1 mx2 => ?_⟩⟩
          refine ⟨_, rfl, t, xs, _, _, rfl, rfl, SqL.of ht3, ea, _, rfl, 1, rfl, t, xs, _, _, rfl, rfl, SqL.of ht3, ez, ?_⟩
          -- the rises
          refine ⟨_, rfl, _, rfl, 1, rfl, D1, _, rfl, SqL.of hD1', fun S4 nS4 => ?_⟩
          rw [cut_1, ← List.map_drop]
          have s4 : Same H3 (upd H3 S4 (.lst (((wts ps).drop 1).map V.int))) := same_new nS4
          obtain ⟨H4, e4⟩ : ∃ H4, upd H3 S4 (.lst (((wts ps).drop 1).map V.int)) = H4 := ⟨_, rfl⟩
          have hS4 : H4 S4 = some (.lst (((wts ps).drop 1).map V.int)) := by
            rw [← e4]
            exact upd_same
          rw [e4] at s4
          rw [e4]
          have hD4 := s4 _ _ hD1'
          have ln : (List.zipWith riz (wts ps) ((wts ps).drop 1)).length = min ((wts ps).map V.int).length (((wts ps).drop 1).map V.int).length := by rw [List.length_zipWith, List.length_map, List.length_map]
          have lz : (List.zipWith riz (wts ps) ((wts ps).drop 1)).length ≤ ps.length := by
            rw [List.length_zipWith, wts_len]
            omega
          refine ⟨D1, S4, _, _, rfl, SqL.of hD4, SqL.of hS4, fun D5 nD5 => lc_it (walk_zip ln) (fun j Hc => Same H4 Hc ∧ Hc D5 = some (.lst (((List.zipWith riz (wts ps) ((wts ps).drop 1)).take j).map V.int))) ⟨same_new nD5, upd_same⟩ (fun j Hc _ h => ⟨SqL.of (h.1 _ _ hD4), SqL.of (h.1 _ _ hS4)⟩) ?_ ?_⟩
          · rintro j v Hc Hc' hj ⟨sc, hD⟩ ⟨T, x, y, rfl, nT, rfl, ex, ey⟩
            dsimp only at ex ey
            obtain ⟨a, ha, rfl⟩ := mapi_at ex
            obtain ⟨b, hb, rfl⟩ := mapi_at ey
            have sT : Same Hc (upd Hc T (.tup [.int a, .int b])) := same_new nT
            refine ⟨T, _, rfl, SqT.of upd_same, rfl, _, _, rfl, _, [], rfl, rfl, rfl, ?_⟩
            unfold tYes
            dsimp only
            rw [if_pos rfl]
            refine ⟨_, rfl, _, rfl, a, b, rfl, _, sT _ _ hD, ?_, same_put nD5 (sc.trans sT), ?_⟩
            · rw [List.length_map, List.length_take]
              exact small1000 (by omega)
            · rw [upd_same, take_snoc (zw_at ha hb), List.map_append]
              rfl
          · rintro H5 ⟨s5, hD5⟩
            rw [List.take_length] at hD5
            have s35 := s4.trans s5
            have ht5 := s35 _ _ ht3
            have hd5 := dpAll_same s35 hd3
            refine ⟨D5, _, rfl, SqL.of hD5, ?_⟩
            -- what was held
            refine ⟨_, rfl, _, rfl, 1, rfl, t, _, rfl, SqL.of ht5, fun S6 nS6 => ?_⟩
            rw [cut_1]
            have s6 : Same H5 (upd H5 S6 (.lst (xs.drop 1))) := same_new nS6
            obtain ⟨H6, e6⟩ : ∃ H6, upd H5 S6 (.lst (xs.drop 1)) = H6 := ⟨_, rfl⟩
            have hS6 : H6 S6 = some (.lst (xs.drop 1)) := by
              rw [← e6]
              exact upd_same
            rw [e6] at s6
            rw [e6]
            have ht6 := s6 _ _ ht5
            have hd6 := dpAll_same s6 hd5
            have ln6 : (List.zipWith hld ps (ps.drop 1)).length = min xs.length (xs.drop 1).length := by rw [List.length_zipWith, List.length_drop, List.length_drop, ll]
            have lz6 : (List.zipWith hld ps (ps.drop 1)).length ≤ ps.length := by
              rw [List.length_zipWith]
              omega
            refine ⟨t, S6, _, _, rfl, SqL.of ht6, SqL.of hS6, fun D7 nD7 => lc_it (walk_zip ln6) (fun j Hc => Same H6 Hc ∧ Hc D7 = some (.lst (((List.zipWith hld ps (ps.drop 1)).take j).map V.int))) ⟨same_new nD7, upd_same⟩ (fun j Hc _ h => ⟨SqL.of (h.1 _ _ ht6), SqL.of (h.1 _ _ hS6)⟩) ?_ ?_⟩
            · rintro j v Hc Hc' hj ⟨sc, hD⟩ ⟨T, x, y, rfl, nT, rfl, ex, ey⟩
              dsimp only at ex ey
              rw [List.getElem?_drop] at ey
              obtain ⟨pa1, ha, da⟩ := dl_at hd6 ex
              obtain ⟨pb1, hb, db⟩ := dl_at hd6 ey
              have sT : Same Hc (upd Hc T (.tup [x, y])) := same_new nT
              obtain ⟨ra, rfl, sa⟩ := dp_pd (dp_same (sc.trans sT) da)
              obtain ⟨rb, rfl, sb⟩ := dp_pd (dp_same (sc.trans sT) db)
              refine ⟨T, _, rfl, SqT.of upd_same, rfl, _, _, rfl, _, [], rfl, rfl, rfl, ?_⟩
              unfold tYes
              dsimp only
              rw [if_pos rfl]
              have hb2 : (ps.drop 1)[j]? = some pb1 := by
                rw [List.getElem?_drop]
                exact hb
              refine ⟨_, rfl, _, rfl, ra, rb, pa1, pb1, rfl, sa, sb, ok.sz _ (List.mem_of_getElem? ha), _, sT _ _ hD, ?_, same_put nD7 (sc.trans sT), ?_⟩
              · rw [List.length_map, List.length_take]
                exact small1000 (by omega)
              · rw [upd_same, take_snoc (zw_at ha hb2), List.map_append]
                rfl
            · rintro H7 ⟨s7, hD7⟩
              rw [List.take_length] at hD7
              have s37 := (s35.trans s6).trans s7
              refine ⟨D7, _, rfl, SqL.of hD7, rfl, rfl, fun x dx nx nd ne => ⟨x, dx, _, _, _, _, _, _, _, _, _, rfl, upd_same, rfl, ?_⟩⟩
              have z := fd_made (K := K) (C := C) nx nd ne (F := fOf ps) (vf := .ref ta) (vl := .ref tz) (by show PO K H7 _ ps.head?; rw [eA]; exact ⟨ta, rfl, sqT_same s37 hA⟩) (by show PO K H7 _ ps.getLast?; rw [eZ]; exact ⟨tz, rfl, sqT_same s37 hZ⟩)
              have efl : flds (fOf ps) (.ref ta) (.ref tz) = ([("count", .int ((xs.length : Nat) : Int)), ("total", .int (wts ps).sum), ("squares", .int ((wts ps).map fun w => w * w).sum), ("least", .int mn), ("greatest", .int mx), ("first", .ref ta), ("last", .ref tz), ("rise", .int (List.zipWith riz (wts ps) ((wts ps).drop 1)).sum), ("held", .int (List.zipWith hld ps (ps.drop 1)).sum)] : List (Str × V)) := by
                unfold flds fOf
                rw [min_is mn1 mn2, max_is mx1 mx2, ll]
                rfl
              rw [efl] at z
              exact q x _ ((((s1.trans s2).trans s3).trans s37).trans z.1) z.2
end
end Tg

set_option maxHeartbeats 2000000
namespace Tg
open PySem PySem.Spec PyProof.Rows L2
set_option maxHeartbeats 2000000
set_option maxHeartbeats 2000000
abbrev sEq : Stmt := inCls (topS 8) 1
abbrev sTg : Stmt := topS 14
theorem scEq : FnScope ["self", "other"] ["self", "other"] (defScope sEq) := ⟨rfl, rfl, rfl, by decide +kernel, rfl, by decide +kernel, by decide +kernel⟩
theorem scTg : FnScope ["one", "two"] ["one", "two"] (defScope sTg) := ⟨rfl, rfl, rfl, by decide +kernel, rfl, by decide +kernel, by decide +kernel⟩
/-- what isinstance asks of the class -/
structure TIns (K : PySem.W.Frag) (C : Addr) : Prop where
  cc : PySem.W.findIn K (.ref C) "__class__" = some (some (.builtin "object.__class__"))
  get : PySem.W.specialIn K (.builtin "object.__class__") "__get__" = some (some (.builtin "getset_descriptor.__get__"))
  takes : PySem.W.takesIn K (.builtin "object.__class__") = some true
  obj : PySem.W.mroIn K C (.type "object") = some true
  kit : PySem.W.kitOne K (.ref C) (.ref C) = some true
def od : Option Pt → PyData
  | none => .none
  | some p => pd p
theorem PO.dp {K : PySem.W.Frag} {H : Hp} {v : V} : ∀ {o : Option Pt}, PO K H v o → Dp K H v (od o)
  | none, h => by
    obtain rfl : v = .non := h
    exact .non
  | some p, ⟨t, e, h⟩ => by
    subst e
    exact .tup h (.cons (.int _) (.cons (.int _) .nil))
theorem od_form : ∀ o : Option Pt, SeqAt.shaped (od o) = true ∧ PyData.eqv (od o) (od o) = true
  | none => ⟨by decide +kernel, rfl⟩
  | some p => ⟨shaped_of rfl (by show 1 ≤ 64; decide), ref_pd p⟩
theorem dw_form : ∀ o : Option Int, SeqAt.shaped (dw o) = true ∧ PyData.eqv (dw o) (dw o) = true := fun o => ⟨shaped_of (lay_dw o) (by rw [dep_dw]; decide), by rw [eq_dw]; exact decide_eq_true rfl⟩
section
variable {P : Program} {w : World} {K : PySem.W.Frag} {mg : Str → Option Value} {base : Heap} {C : Addr}
/-- two folds that tell the same -/
def SameF (K : PySem.W.Frag) (C : Addr) (a b : Addr) (H : Hp) : Prop := ∃ F, FdO K C H a F ∧ FdO K C H b F
theorem ok_eq {f : Addr} {fd : FuncData} {k : Nat} (F : Fun K "__eq__" "Fold.__eq__" sEq f fd) (T : TFold K C) (TI : TIns K C) (g_Fold : mg "Fold" = some (.ref C)) (m_isinstance : mg "isinstance" = none) : FnOk P w K mg base CX0 (k + 1) f fd ["self", "other"] (spEq (SameF K C)) := by
  refine F.ok scEq (fun vs H Q E h => ?_) (fun cdv A outer s H vs Q E hr h => ?_)
  · obtain ⟨a, b, rfl, _⟩ := h
    rfl
  · obtain ⟨a, b, rfl, ⟨F, ⟨dA, fA, lA, eA, pA, zA⟩, ⟨dB, fB, lB, eB, pB, zB⟩⟩, q⟩ := h
    have hu := hr.units
    refine ⟨_, pss_one (ps_ret (pe_and (pe_callB call_isi (by rfl) m_isinstance (by decide +kernel) (pa_cons (pv 1) (pa_cons (pe_glob (v := .ref C) rfl g_Fold rfl) pa_nil))) (pe_and (pe_cmpR op_eq (pe_fld (pv 0) rfl) (pe_fld (pv 1) rfl) (nomark _)) (pe_and (pe_cmpR op_eq (pe_fld (pv 0) rfl) (pe_fld (pv 1) rfl) (nomark _)) (pe_and (pe_cmpR op_eq (pe_fld (pv 0) rfl) (pe_fld (pv 1) rfl) (nomark _)) (pe_and (pe_cmpR (op_eqD hu) (pe_fld (pv 0) rfl) (pe_fld (pv 1) rfl) (nomark _)) (pe_and (pe_cmpR (op_eqD hu) (pe_fld (pv 0) rfl) (pe_fld (pv 1) rfl) (nomark _)) (pe_and (pe_cmpR (op_eqD hu) (pe_fld (pv 0) rfl) (pe_fld (pv 1) rfl) (nomark _)) (pe_and (pe_cmpR (op_eqD hu) (pe_fld (pv 0) rfl) (pe_fld (pv 1) rfl) (nomark _)) (pe_and (pe_cmpR op_eq (pe_fld (pv 0) rfl) (pe_fld (pv 1) rfl) (nomark _)) (pe_one (pe_cmpR op_eq (pe_fld (pv 0) rfl) (pe_fld (pv 1) rfl) (nomark _))))))))))))), ?_⟩
    refine ⟨_, rfl, .ref b, .ref C, .ref C, .ref C, true, rfl, .own _, .base (.ins eB T.cl TI.cc TI.get TI.takes TI.obj), TI.kit, true, rfl, if_t ?_⟩
    refine ⟨_, rfl, a, C, dA, _, _, rfl, eA, T.cl, T.no _ (by decide), rfl, _, rfl, b, C, dB, _, _, rfl, eB, T.cl, T.no _ (by decide), rfl, rfl, true, congrArg V.bl (decide_eq_true rfl), if_t ?_⟩
    refine ⟨_, rfl, a, C, dA, _, _, rfl, eA, T.cl, T.no _ (by decide), rfl, _, rfl, b, C, dB, _, _, rfl, eB, T.cl, T.no _ (by decide), rfl, rfl, true, congrArg V.bl (decide_eq_true rfl), if_t ?_⟩
    refine ⟨_, rfl, a, C, dA, _, _, rfl, eA, T.cl, T.no _ (by decide), rfl, _, rfl, b, C, dB, _, _, rfl, eB, T.cl, T.no _ (by decide), rfl, rfl, true, congrArg V.bl (decide_eq_true rfl), if_t ?_⟩
    refine ⟨_, rfl, a, C, dA, _, _, rfl, eA, T.cl, T.no _ (by decide), rfl, _, rfl, b, C, dB, _, _, rfl, eB, T.cl, T.no _ (by decide), rfl, _, _, dp_vw F.lo, dp_vw F.lo, (dw_form _).1, (dw_form _).1, true, congrArg V.bl (dw_form _).2, if_t ?_⟩
    refine ⟨_, rfl, a, C, dA, _, _, rfl, eA, T.cl, T.no _ (by decide), rfl, _, rfl, b, C, dB, _, _, rfl, eB, T.cl, T.no _ (by decide), rfl, _, _, dp_vw F.hi, dp_vw F.hi, (dw_form _).1, (dw_form _).1, true, congrArg V.bl (dw_form _).2, if_t ?_⟩
    refine ⟨_, rfl, a, C, dA, _, _, rfl, eA, T.cl, T.no _ (by decide), rfl, _, rfl, b, C, dB, _, _, rfl, eB, T.cl, T.no _ (by decide), rfl, _, _, pA.dp, pB.dp, (od_form _).1, (od_form _).1, true, congrArg V.bl (od_form _).2, if_t ?_⟩
    refine ⟨_, rfl, a, C, dA, _, _, rfl, eA, T.cl, T.no _ (by decide), rfl, _, rfl, b, C, dB, _, _, rfl, eB, T.cl, T.no _ (by decide), rfl, _, _, zA.dp, zB.dp, (od_form _).1, (od_form _).1, true, congrArg V.bl (od_form _).2, if_t ?_⟩
    refine ⟨_, rfl, a, C, dA, _, _, rfl, eA, T.cl, T.no _ (by decide), rfl, _, rfl, b, C, dB, _, _, rfl, eB, T.cl, T.no _ (by decide), rfl, rfl, true, congrArg V.bl (decide_eq_true rfl), if_t ?_⟩
    refine ⟨_, rfl, a, C, dA, _, _, rfl, eA, T.cl, T.no _ (by decide), rfl, _, rfl, b, C, dB, _, _, rfl, eB, T.cl, T.no _ (by decide), rfl, rfl, ?_⟩
    rw [decide_eq_true rfl]
    exact q H Ext.rfl'
end
end Tg

set_option maxHeartbeats 2000000
namespace Tg
open PySem PySem.Spec PyProof.Rows L2
/-! ### folds of points behind points -/
set_option maxHeartbeats 2000000
set_option maxHeartbeats 2000000
def zch {α : Type} (f : α → α → Int) (xs : List α) : Int := (List.zipWith f xs (xs.drop 1)).sum
theorem zch_cons {α : Type} (f : α → α → Int) (a b : α) (r : List α) : zch f (a :: b :: r) = f a b + zch f (b :: r) := by
  unfold zch
  show (f a b :: List.zipWith f (b :: r) r).sum = _
  rw [List.sum_cons]
  rfl
theorem zch_app {α : Type} (f : α → α → Int) {y : α} {ys : List α} {z : α} : ∀ {xs : List α}, xs.getLast? = some z → zch f (xs ++ y :: ys) = zch f xs + f z y + zch f (y :: ys)
  | [], h => nomatch h
  | [a], h => by
    cases h
    show zch f (a :: y :: ys) = zch f [a] + f a y + zch f (y :: ys)
    rw [zch_cons]
    show f a y + _ = 0 + f a y + _
    omega
  | a :: b :: r, h => by
    have e := zch_app f (y := y) (ys := ys) (z := z) (xs := b :: r) (by rw [← h]; rfl)
    show zch f (a :: b :: (r ++ y :: ys)) = _
    rw [zch_cons, zch_cons]
    have e2 : zch f (b :: (r ++ y :: ys)) = zch f (b :: r) + f z y + zch f (y :: ys) := e
    rw [e2]
    omega
theorem min_app {xs ys : List Int} {a b : Int} (h1 : xs.min? = some a) (h2 : ys.min? = some b) : (xs ++ ys).min? = some (if b < a then b else a) := by
  obtain ⟨i1, l1⟩ := List.min?_eq_some_iff.mp h1
  obtain ⟨i2, l2⟩ := List.min?_eq_some_iff.mp h2
  refine min_is ?_ fun y hy => ?_
  · split
    · exact List.mem_append_right _ i2
    · exact List.mem_append_left _ i1
  · rcases List.mem_append.mp hy with h | h
    · have := l1 y h
      split <;> omega
    · have := l2 y h
      split <;> omega
theorem max_app {xs ys : List Int} {a b : Int} (h1 : xs.max? = some a) (h2 : ys.max? = some b) : (xs ++ ys).max? = some (if b > a then b else a) := by
  obtain ⟨i1, l1⟩ := List.max?_eq_some_iff.mp h1
  obtain ⟨i2, l2⟩ := List.max?_eq_some_iff.mp h2
  refine max_is ?_ fun y hy => ?_
  · split
    · exact List.mem_append_right _ i2
    · exact List.mem_append_left _ i1
  · rcases List.mem_append.mp hy with h | h
    · have := l1 y h
      split <;> omega
    · have := l2 y h
      split <;> omega
theorem wts_app (ps qs : List Pt) : wts (ps ++ qs) = wts ps ++ wts qs := List.map_append
theorem fOf_app {ps qs : List Pt} {z y : Pt} {a b c d : Int} (hz : ps.getLast? = some z) (hy : qs.head? = some y) (h1 : (fOf ps).lo = some a) (h2 : (fOf qs).lo = some b) (h3 : (fOf ps).hi = some c) (h4 : (fOf qs).hi = some d) :
    fOf (ps ++ qs) = ⟨(fOf ps).cnt + (fOf qs).cnt, (fOf ps).tot + (fOf qs).tot, (fOf ps).sq + (fOf qs).sq, some (if b < a then b else a), some (if d > c then d else c), (fOf ps).fst, (fOf qs).lst, (fOf ps).ris + riz z.2 y.2 + (fOf qs).ris, (fOf ps).hel + hld z y + (fOf qs).hel⟩ := by
  obtain ⟨qr, rfl⟩ : ∃ qr, qs = y :: qr := by
    cases qs with
    | nil => cases hy
    | cons q r => cases hy; exact ⟨r, rfl⟩
  have e1 : wts (ps ++ y :: qr) = wts ps ++ y.2 :: wts qr := wts_app ps (y :: qr)
  have lz : (wts ps).getLast? = some z.2 := by
    unfold wts
    rw [List.getLast?_map, hz]
    rfl
  have c1 : zch riz (wts (ps ++ y :: qr)) = zch riz (wts ps) + riz z.2 y.2 + zch riz (wts (y :: qr)) := by
    rw [e1]
    exact zch_app riz lz
  have c2 : zch hld (ps ++ y :: qr) = zch hld ps + hld z y + zch hld (y :: qr) := zch_app hld hz
  have t1 : (wts (ps ++ y :: qr)).sum = (wts ps).sum + (wts (y :: qr)).sum := by rw [wts_app, List.sum_append]
  have t2 : ((wts (ps ++ y :: qr)).map fun w => w * w).sum = ((wts ps).map fun w => w * w).sum + ((wts (y :: qr)).map fun w => w * w).sum := by rw [wts_app, List.map_append, List.sum_append]
  have m1 : (wts (ps ++ y :: qr)).min? = some (if b < a then b else a) := by
    rw [wts_app]
    exact min_app h1 h2
  have m2 : (wts (ps ++ y :: qr)).max? = some (if d > c then d else c) := by
    rw [wts_app]
    exact max_app h3 h4
  have n1 : (((ps ++ y :: qr).length : Nat) : Int) = ((ps.length : Nat) : Int) + (((y :: qr).length : Nat) : Int) := by
    rw [List.length_append]
    omega
  have f1 : (ps ++ y :: qr).head? = ps.head? := by
    cases ps with
    | nil => cases hz
    | cons p r => rfl
  have f2 : (ps ++ y :: qr).getLast? = (y :: qr).getLast? := by
    rw [List.getLast?_append, List.getLast?_eq_some_getLast (List.cons_ne_nil y qr)]
    rfl
  show FD.mk _ _ _ _ _ _ _ (zch riz (wts (ps ++ y :: qr))) (zch hld (ps ++ y :: qr)) = _
  rw [c1, c2, t1, t2, m1, m2, n1, f1, f2]
  rfl
end Tg

set_option maxHeartbeats 2000000
namespace Tg
open PySem PySem.Spec PyProof.Rows L2
set_option maxHeartbeats 2000000
set_option maxHeartbeats 2000000
theorem vi_z (n : Int) : decide (V.int n = V.int 0) = decide (n = 0) := by
  rw [dec_int]
  rfl
section
variable {P : Program} {w : World} {K : PySem.W.Frag} {mg : Str → Option Value} {base : Heap} {C CW TW : Addr}
end
end Tg

set_option maxHeartbeats 2000000
namespace Tg
open PySem PySem.Spec PyProof.Rows L2
set_option maxHeartbeats 2000000
set_option maxHeartbeats 2000000
theorem POk.edge {ps qs : List Pt} {z y : Pt} (ok : POk (ps ++ qs)) (hz : ps.getLast? = some z) (hy : qs.head? = some y) : z.1 < y.1 ∧ z.2.natAbs < 2 ^ 60 := by
  have l0 : 0 < ps.length := by
    cases ps with
    | nil => cases hz
    | cons p r => exact Nat.succ_pos _
  rw [List.getLast?_eq_getElem?] at hz
  rw [List.head?_eq_getElem?] at hy
  have e1 : (ps ++ qs)[ps.length - 1]? = some z := by rw [List.getElem?_append_left (by omega)]; exact hz
  have e2 : (ps ++ qs)[ps.length - 1 + 1]? = some y := by
    rw [List.getElem?_append_right (by omega), show ps.length - 1 + 1 - ps.length = 0 by omega]
    exact hy
  exact ⟨ok.up _ z y e1 e2, ok.sz z (List.mem_of_getElem? e1)⟩
theorem cnt_nil {ps : List Pt} (h : (fOf ps).cnt = 0) : ps = [] := by
  have none_ : ((ps.length : Nat) : Int) = 0 := h
  exact List.length_eq_zero_iff.mp (Int.ofNat_eq_zero.mp none_)
theorem full {ps : List Pt} (h : ¬ (fOf ps).cnt = 0) : (∃ m, (fOf ps).lo = some m) ∧ (∃ m, (fOf ps).hi = some m) ∧ (∃ p, (fOf ps).fst = some p) ∧ ∃ p, (fOf ps).lst = some p := by
  cases ps with
  | nil => exact absurd rfl h
  | cons p r => exact ⟨⟨_, rfl⟩, ⟨_, rfl⟩, ⟨_, rfl⟩, ⟨_, List.getLast?_eq_some_getLast (List.cons_ne_nil p r)⟩⟩
section
variable {P : Program} {w : World} {K : PySem.W.Frag} {mg : Str → Option Value} {base : Heap} {C : Addr}
def spTg (K : PySem.W.Frag) (C : Addr) : Sp := fun vs H Q _ => ∃ (a b : Addr) (ps qs : List Pt), vs = [.ref a, .ref b] ∧ FdO K C H a (fOf ps) ∧ FdO K C H b (fOf qs) ∧ POk (ps ++ qs) ∧ ∀ c H', Same H H' → FdO K C H' c (fOf (ps ++ qs)) → Q (.ref c) H'
theorem ok_tg {f : Addr} {fd : FuncData} {k : Nat} (F : Fun K "together" "together" sTg f fd) (T : TFold K C) (K_Fold9 : KF9 P w K mg base C k) (C_risen : Cal P w K mg base k "risen" ["ahead", "behind"] spRisen) (C_held_between : Cal P w K mg base k "held_between" ["ahead", "behind"] (spHB K)) (m_min : mg "min" = none) (m_max : mg "max" = none) : FnOk P w K mg base CX0 (k + 2) f fd ["one", "two"] (spTg K C) := by
  refine F.ok scTg (fun vs H Q E h => ?_) (fun cdv A outer s H vs Q E hr h => ?_)
  · obtain ⟨a, b, ps, qs, rfl, _⟩ := h
    rfl
  · obtain ⟨a, b, ps, qs, rfl, hA0, hB0, ok, q⟩ := h
    refine ⟨_, pss_cons (ps_if (pt_cmpR op_eq (pe_fld (pv 0) rfl) pe_int (nomark _))
        (pss_one (ps_ret (pv 1)))
        pss_nil)
      (pss_cons (ps_if (pt_cmpR op_eq (pe_fld (pv 1) rfl) pe_int (nomark _))
        (pss_one (ps_ret (pv 0)))
        pss_nil)
      (pss_cons (ps_if (pt_cmpR op_le (pe_ix ix_tup (pe_fld (pv 1) rfl) pe_int (fun _ _ => rfl)) (pe_ix ix_tup (pe_fld (pv 0) rfl) pe_int (fun _ _ => rfl)) (nomark _))
        (pss_one ps_dead)
        pss_nil)
      (pss_one (ps_ret (pe_calCK K_Fold9 (hr.mono (by omega)) (by rfl) (pk_cons (pe_op op_add (pe_fld (pv 0) rfl) (pe_fld (pv 1) rfl)) (pk_cons (pe_op op_add (pe_fld (pv 0) rfl) (pe_fld (pv 1) rfl)) (pk_cons (pe_op op_add (pe_fld (pv 0) rfl) (pe_fld (pv 1) rfl)) (pk_cons (pe_callB (call_min2 rfl) (by rfl) m_min (by decide +kernel) (pa_cons (pe_fld (pv 0) rfl) (pa_cons (pe_fld (pv 1) rfl) pa_nil))) (pk_cons (pe_callB (call_max2 rfl) (by rfl) m_max (by decide +kernel) (pa_cons (pe_fld (pv 0) rfl) (pa_cons (pe_fld (pv 1) rfl) pa_nil))) (pk_cons (pe_fld (pv 0) rfl) (pk_cons (pe_fld (pv 1) rfl) (pk_cons (pe_op op_add (pe_op op_add (pe_fld (pv 0) rfl) (pe_cal C_risen (hr.mono (by omega)) (by rfl) (pa_cons (pe_ix ix_tup (pe_fld (pv 0) rfl) pe_int (fun _ _ => rfl)) (pa_cons (pe_ix ix_tup (pe_fld (pv 1) rfl) pe_int (fun _ _ => rfl)) pa_nil)))) (pe_fld (pv 1) rfl)) (pk_cons (pe_op op_add (pe_op op_add (pe_fld (pv 0) rfl) (pe_cal C_held_between (hr.mono (by omega)) (by rfl) (pa_cons (pe_fld (pv 0) rfl) (pa_cons (pe_fld (pv 1) rfl) pa_nil)))) (pe_fld (pv 1) rfl)) pk_nil)))))))))))))), ?_⟩
    have hA := hA0
    have hB := hB0
    obtain ⟨dA, fA, lA, eA, pA, zA⟩ := hA
    obtain ⟨dB, fB, lB, eB, pB, zB⟩ := hB
    refine ⟨_, rfl, a, C, dA, _, _, rfl, eA, T.cl, T.no _ (by decide), rfl, rfl, _, rfl, ite2 (fun g => ?_) (fun g => ?_)⟩
    · rw [vi_z] at g
      obtain rfl := cnt_nil (of_decide_eq_true g)
      exact ⟨_, rfl, q b H (Same.refl _) hB0⟩
    · rw [vi_z] at g
      have c1 : ¬ (fOf ps).cnt = 0 := fun z => g (decide_eq_true z)
      refine ⟨_, rfl, b, C, dB, _, _, rfl, eB, T.cl, T.no _ (by decide), rfl, rfl, _, rfl, ite2 (fun g2 => ?_) (fun g2 => ?_)⟩
      · rw [vi_z] at g2
        obtain rfl := cnt_nil (of_decide_eq_true g2)
        rw [List.append_nil] at q
        exact ⟨_, rfl, q a H (Same.refl _) hA0⟩
      · rw [vi_z] at g2
        have c2 : ¬ (fOf qs).cnt = 0 := fun z => g2 (decide_eq_true z)
        obtain ⟨⟨m1, w1⟩, ⟨m2, w2⟩, _, ⟨z, w4⟩⟩ := full c1
        obtain ⟨⟨n1, v1⟩, ⟨n2, v2⟩, ⟨y, v3⟩, _⟩ := full c2
        obtain ⟨lt, sz⟩ := ok.edge w4 v3
        rw [w4] at zA
        rw [v3] at pB
        obtain ⟨tz, rfl, hz⟩ := zA
        obtain ⟨ty, rfl, hy⟩ := pB
        refine ⟨_, rfl, b, C, dB, _, _, rfl, eB, T.cl, T.no _ (by decide), rfl, ty, _, _, _, rfl, rfl, hy, rfl, _, rfl, a, C, dA, _, _, rfl, eA, T.cl, T.no _ (by decide), rfl, tz, _, _, _, rfl, rfl, hz, rfl, _, _, rfl, rfl, _, rfl, if_n (decide_eq_false (by omega)) ?_⟩
        refine ⟨_, rfl, a, C, dA, _, _, rfl, eA, T.cl, T.no _ (by decide), rfl, _, rfl, b, C, dB, _, _, rfl, eB, T.cl, T.no _ (by decide), rfl, _, _, rfl, rfl, _, rfl, a, C, dA, _, _, rfl, eA, T.cl, T.no _ (by decide), rfl, _, rfl, b, C, dB, _, _, rfl, eB, T.cl, T.no _ (by decide), rfl, _, _, rfl, rfl, _, rfl, a, C, dA, _, _, rfl, eA, T.cl, T.no _ (by decide), rfl, _, rfl, b, C, dB, _, _, rfl, eB, T.cl, T.no _ (by decide), rfl, _, _, rfl, rfl, _, rfl, a, C, dA, _, _, rfl, eA, T.cl, T.no _ (by decide), rfl, _, rfl, b, C, dB, _, _, rfl, eB, T.cl, T.no _ (by decide), rfl, m1, n1, (by rw [w1, v1]; rfl), _, rfl, a, C, dA, _, _, rfl, eA, T.cl, T.no _ (by decide), rfl, _, rfl, b, C, dB, _, _, rfl, eB, T.cl, T.no _ (by decide), rfl, m2, n2, (by rw [w2, v2]; rfl), _, rfl, a, C, dA, _, _, rfl, eA, T.cl, T.no _ (by decide), rfl, _, rfl, b, C, dB, _, _, rfl, eB, T.cl, T.no _ (by decide), rfl, ?_⟩
        refine ⟨_, rfl, a, C, dA, _, _, rfl, eA, T.cl, T.no _ (by decide), rfl, _, rfl, a, C, dA, _, _, rfl, eA, T.cl, T.no _ (by decide), rfl, tz, _, _, _, rfl, rfl, hz, rfl, _, rfl, b, C, dB, _, _, rfl, eB, T.cl, T.no _ (by decide), rfl, ty, _, _, _, rfl, rfl, hy, rfl, z.2, y.2, rfl, _, _, rfl, rfl, _, rfl, b, C, dB, _, _, rfl, eB, T.cl, T.no _ (by decide), rfl, _, _, rfl, rfl, ?_⟩
        refine ⟨_, rfl, a, C, dA, _, _, rfl, eA, T.cl, T.no _ (by decide), rfl, _, rfl, a, C, dA, _, _, rfl, eA, T.cl, T.no _ (by decide), rfl, _, rfl, b, C, dB, _, _, rfl, eB, T.cl, T.no _ (by decide), rfl, tz, ty, z, y, rfl, hz, hy, sz, _, _, rfl, rfl, _, rfl, b, C, dB, _, _, rfl, eB, T.cl, T.no _ (by decide), rfl, _, _, rfl, rfl, ?_⟩
        refine ⟨rfl, rfl, fun x dx nx nd ne => ⟨x, dx, _, _, _, _, _, _, _, _, _, rfl, upd_same, rfl, ?_⟩⟩
        have e := fOf_app w4 v3 w1 v1 w2 v2
        rw [e] at q
        have zz := fd_made (K := K) (C := C) nx nd ne (F := ⟨(fOf ps).cnt + (fOf qs).cnt, (fOf ps).tot + (fOf qs).tot, (fOf ps).sq + (fOf qs).sq, some (if n1 < m1 then n1 else m1), some (if n2 > m2 then n2 else m2), (fOf ps).fst, (fOf qs).lst, (fOf ps).ris + riz z.2 y.2 + (fOf qs).ris, (fOf ps).hel + hld z y + (fOf qs).hel⟩) pA zB
        exact q x _ zz.1 zz.2
end
end Tg

set_option maxHeartbeats 2000000
namespace Tg
open PySem PySem.Spec PyProof.Rows L2
set_option maxHeartbeats 2000000
set_option maxHeartbeats 2000000
section
variable {P : Program} {w : World} {K : PySem.W.Frag} {mg : Str → Option Value} {base : Heap} {C : Addr}
/-- the own == of folds -/
def OwnE (P : Program) (w : World) (K : PySem.W.Frag) (mg : Str → Option Value) (base : Heap) (C : Addr) (k : Nat) (f : Addr) (fd : FuncData) : Prop := FnOk P w K mg base CX0 k f fd ["self", "other"] (spEq (SameF K C)) ∧ PySem.W.findIn K (.ref C) "__eq__" = some (some (.ref f)) ∧ PySem.W.isFn K (.ref f) = true ∧ Binds K fd ["self", "other"] [] ∧ NeC K C f
theorem FdO.ins {H : Hp} {a b : Addr} {F : FD} (hA : FdO K C H a F) (hB : FdO K C H b F) : DIns C (SameF K C) (.ref a) (.ref b) H := by
  obtain ⟨dA, fA, lA, eA, _⟩ := id hA
  obtain ⟨dB, fB, lB, eB, _⟩ := id hB
  exact ⟨a, b, dA, dB, _, _, rfl, rfl, eA, eB, F, hA, hB⟩
end
end Tg

set_option maxHeartbeats 2000000
namespace Tg
open PySem PySem.Spec PyProof.Rows L2
/-! ### _law_fold -/
set_option maxHeartbeats 2000000
set_option maxHeartbeats 2000000
abbrev sLf : Stmt := topS 30
abbrev NLf : List Str := ["_law_some_points", "_law_rise", "_law_held", "_law_time_here", "_law_worth_here", "_law_later", "_law_other", "_law_worths", "_law_squares"]
theorem scLf : FnScope NLf ["_law_some_points"] (defScope sLf) := ⟨rfl, rfl, rfl, by decide +kernel, rfl, by decide +kernel, by decide +kernel⟩
/-- a fold as the law tells it -/
def fd9 (F : FD) : PyData := .tuple [.int F.cnt, .int F.tot, .int F.sq, dw F.lo, dw F.hi, od F.fst, od F.lst, .int F.ris, .int F.hel]
section
variable {P : Program} {w : World} {K : PySem.W.Frag} {mg : Str → Option Value} {base : Heap}
def spLf (K : PySem.W.Frag) : Sp := fun vs H Q _ => ∃ (l : Addr) (ps : List Pt), vs = [.ref l] ∧ PtL K H l ps ∧ POk ps ∧ ∀ a H', Same H H' → Dp K H' (.ref a) (fd9 (fOf ps)) → Q (.ref a) H'
theorem ok_lf {f : Addr} {fd : FuncData} {k : Nat} (F : Fun K "_law_fold" "_law_fold" sLf f fd) (m_len : mg "len" = none) (m_sum : mg "sum" = none) (m_min : mg "min" = none) (m_max : mg "max" = none) (m_zip : mg "zip" = none) : FnOk P w K mg base CX0 (k + 1) f fd ["_law_some_points"] (spLf K) := by
  refine F.ok scLf (fun vs H Q E h => ?_) (fun cdv A outer s H vs Q E hr h => ?_)
  · obtain ⟨l, ps, rfl, _⟩ := h
    rfl
  · obtain ⟨l, ps, rfl, ⟨xs, hl, hd⟩, ok, q⟩ := h
    have hu : (A.deeper (envOfC "_law_fold" (defScope sLf) s.heap.objs.size f cdv)).units + 64 < cLine := by have := hr.un; omega
    refine ⟨_, pss_cons (ps_if (pt_cmpR (op_eqD hu) (pv 0) (pe_lst pa_nil) (nomark _))
        (pss_one (ps_ret (pe_tup (pa_cons pe_int (pa_cons pe_int (pa_cons pe_int (pa_cons pe_non (pa_cons pe_non (pa_cons pe_non (pa_cons pe_non (pa_cons pe_int (pa_cons pe_int pa_nil))))))))))))
        pss_nil)
      (pss_cons (ps_set (i := 1) scLf.nd rfl (.inl rfl) pe_int)
      (pss_cons (ps_set (i := 2) scLf.nd rfl (.inl rfl) pe_int)
      (pss_cons (ps_for PassesOwn.never rfl (pi_zip (by rfl) m_zip (pa_cons (pv 0) (pa_cons (pe_slice sl_list (pv 0) (po_some pe_int) po_none) pa_nil))) (pg_tup rfl (pgs_cons (pg_tup rfl (pgs_cons (pg_name (i := 3) scLf.nd rfl (.inl rfl)) (pgs_cons (pg_name (i := 4) scLf.nd rfl (.inl rfl)) pgs_nil))) (pgs_cons (pg_tup rfl (pgs_cons (pg_name (i := 5) scLf.nd rfl (.inl rfl)) (pgs_cons (pg_name (i := 6) scLf.nd rfl (.inl rfl)) pgs_nil))) pgs_nil)))
        (pss_cons (ps_set (i := 2) scLf.nd rfl (.inl rfl) (pe_op op_add (pv 2) (pe_op op_mul (pv 4) (pe_op op_sub (pv 5) (pv 3)))))
        (pss_one (ps_if (pt_cmpR op_ge (pv 6) (pv 4) (nomark _))
          (pss_one (ps_set (i := 1) scLf.nd rfl (.inl rfl) (pe_op op_sub (pe_op op_add (pv 1) (pv 6)) (pv 4))))
          (pss_one (ps_set (i := 1) scLf.nd rfl (.inl rfl) (pe_op op_add (pv 1) (pe_callB (call_max2 rfl) (by rfl) m_max (by decide +kernel) (pa_cons (pv 6) (pa_cons pe_int pa_nil))))))))))
      (pss_cons (ps_setLc (i := 7) (own := [("_law_time_here", 3), ("_law_worth_here", 4)]) (g := (gTup K 2 (gCons (gName 3) (gCons (gName 4) gNil)))) (tt := tYes) rfl scLf.nd rfl rfl (sw_true rfl rfl rfl (by decide +kernel)) (pi_list (pv 0)) (blkOk_by (own := [("_law_time_here", 3), ("_law_worth_here", 4)]) (N := NLf) (sc := defScope sLf) (by decide +kernel)) (fun _ _ _ _ _ => (pg_tup rfl (pgs_cons (pg_name (i := 3) scLf.nd rfl (.inl rfl)) (pgs_cons (pg_name (i := 4) scLf.nd rfl (.inl rfl)) pgs_nil)))) (fun _ _ _ _ _ => pts_nil) (fun _ _ _ _ _ => (pv 4)))
      (pss_cons (ps_set (i := 8) scLf.nd rfl (.inl rfl) (pe_callB (cr_sum rfl) (by rfl) m_sum (by decide +kernel) (pa_cons (pe_lc (own := [("_law_worth_here", 4)]) (g := (gName 4)) (tt := tYes) rfl scLf.nd (pi_list (pv 7)) (blkOk_by (own := [("_law_worth_here", 4)]) (N := NLf) (sc := defScope sLf) (by decide +kernel)) (fun _ _ _ _ _ => (pg_name (i := 4) scLf.nd rfl (.inl rfl))) (fun _ _ _ _ _ => pts_nil) (fun _ _ _ _ _ => (pe_op op_mul (pv 4) (pv 4)))) pa_nil)))
      (pss_one (ps_ret (pe_tup (pa_cons (pe_callB call_len_seq (by rfl) m_len (by decide +kernel) (pa_cons (pv 7) pa_nil)) (pa_cons (pe_callB (cr_sum rfl) (by rfl) m_sum (by decide +kernel) (pa_cons (pv 7) pa_nil)) (pa_cons (pv 8) (pa_cons (pe_callB (cr_min rfl) (by rfl) m_min (by decide +kernel) (pa_cons (pv 7) pa_nil)) (pa_cons (pe_callB (cr_max rfl) (by rfl) m_max (by decide +kernel) (pa_cons (pv 7) pa_nil)) (pa_cons (pe_ix ix_list (pv 0) pe_int (fun _ _ => rfl)) (pa_cons (pe_ix ix_list (pv 0) (pe_un un_neg pe_int) (fun _ _ => rfl)) (pa_cons (pv 1) (pa_cons (pv 2) pa_nil))))))))))))))))), ?_⟩
    have ll := dl_len hd
    have l40 := ok.len
    refine ⟨_, rfl, Nat.zero_le _, fun e ne => ?_⟩
    have s0 : Same H (upd H e (.lst [])) := same_new ne
    obtain ⟨H1, e1⟩ : ∃ H1, upd H e (.lst []) = H1 := ⟨_, rfl⟩
    have he1 : H1 e = some (.lst []) := by
      rw [← e1]
      exact upd_same
    rw [e1] at s0
    rw [e1]
    have hd1 := dpAll_same s0 hd
    have hl1 := sqL_same s0 hl
    refine ⟨_, _, .lst hl1 hd1, .lst (SqL.of he1) .nil, (pds_form ps).1, by decide, decide (ps = []), ?_, ?_⟩
    · cases ps with
      | nil => rfl
      | cons a r => rfl
    by_cases hne : ps = []
    · rw [decide_eq_true hne]
      refine if_t ⟨by show 9 ≤ sizeLine; decide, fun u nu => ?_⟩
      rw [hne] at q
      exact q u _ (s0.trans (same_new nu)) (.tup (SqT.of upd_same) (.cons (.int _) (.cons (.int _) (.cons (.int _) (.cons .non (.cons .non (.cons .non (.cons .non (.cons (.int _) (.cons (.int _) .nil))))))))))
    rw [decide_eq_false hne]
    refine if_f ?_
    have l0 : 0 < ps.length := List.length_pos_iff.mpr hne
    refine ⟨_, rfl, _, rfl, 1, rfl, l, _, rfl, hl1, fun S nS => ?_⟩
    rw [cut_1]
    have s1 : Same H1 (upd H1 S (.lst (xs.drop 1))) := same_new nS
    obtain ⟨H2, e2⟩ : ∃ H2, upd H1 S (.lst (xs.drop 1)) = H2 := ⟨_, rfl⟩
    have hS2 : H2 S = some (.lst (xs.drop 1)) := by
      rw [← e2]
      exact upd_same
    rw [e2] at s1
    rw [e2]
    have hl2 := sqL_same s1 hl1
    have hd2 := dpAll_same s1 hd1
    have lnH : (List.zipWith hld ps (ps.drop 1)).length = min xs.length (xs.drop 1).length := by rw [List.length_zipWith, List.length_drop, List.length_drop, ll]
    have lnR : (List.zipWith riz (wts ps) ((wts ps).drop 1)).length = (List.zipWith hld ps (ps.drop 1)).length := by rw [List.length_zipWith, List.length_zipWith, List.length_drop, List.length_drop, wts_len]
    refine ⟨l, S, _, _, rfl, hl2, SqL.of hS2, for_it (walk_zip lnH) (fun j σ Hc => ∃ z3 z4 z5 z6 : Option V, σ = [some (.ref l), some (.int ((List.zipWith riz (wts ps) ((wts ps).drop 1)).take j).sum), some (.int ((List.zipWith hld ps (ps.drop 1)).take j).sum), z3, z4, z5, z6, none, none] ∧ Same H2 Hc)
      ⟨none, none, none, none, rfl, Same.refl _⟩ (fun j σ Hc _ ⟨_, _, _, _, _, sc⟩ => ⟨sqL_same sc hl2, SqL.of (sc _ _ hS2)⟩) ?_ ?_⟩
    · rintro j v σ Hc Hc' hj ⟨z3, z4, z5, z6, rfl, sc⟩ ⟨T, x, y, rfl, nT, rfl, ex, ey⟩
      dsimp only at ex ey
      rw [List.getElem?_drop] at ey
      obtain ⟨pa1, ha, da⟩ := dl_at hd2 ex
      obtain ⟨pb1, hb, db⟩ := dl_at hd2 ey
      have sT : Same Hc (upd Hc T (.tup [x, y])) := same_new nT
      obtain ⟨ra, rfl, sa⟩ := dp_pd (dp_same (sc.trans sT) da)
      obtain ⟨rb, rfl, sb⟩ := dp_pd (dp_same (sc.trans sT) db)
      have hb2 : (ps.drop 1)[j]? = some pb1 := by
        rw [List.getElem?_drop]
        exact hb
      have wa : (wts ps)[j]? = some pa1.2 := wts_at ha
      have wb : ((wts ps).drop 1)[j]? = some pb1.2 := by
        rw [List.getElem?_drop]
        exact wts_at hb
      have eR : ((List.zipWith riz (wts ps) ((wts ps).drop 1)).take (j + 1)).sum = ((List.zipWith riz (wts ps) ((wts ps).drop 1)).take j).sum + riz pa1.2 pb1.2 := by
        rw [take_snoc (zw_at wa wb), List.sum_append, List.sum_cons, List.sum_nil, Int.add_zero]
      have eH : ((List.zipWith hld ps (ps.drop 1)).take (j + 1)).sum = ((List.zipWith hld ps (ps.drop 1)).take j).sum + hld pa1 pb1 := by
        rw [take_snoc (zw_at ha hb2), List.sum_append, List.sum_cons, List.sum_nil, Int.add_zero]
      refine ⟨T, _, rfl, SqT.of upd_same, rfl, _, _, rfl, ra, _, rfl, sa, rfl, _, _, rfl, _, [], rfl, rfl, _, [], rfl, rb, _, rfl, sb, rfl, _, _, rfl, _, [], rfl, rfl, rfl, ?_⟩
      refine ⟨_, rfl, _, rfl, _, rfl, _, rfl, _, _, rfl, rfl, _, _, rfl, rfl, small_mul (ok.sz _ (List.mem_of_getElem? ha)), _, _, rfl, rfl, ?_⟩
      refine ⟨_, rfl, _, rfl, _, _, rfl, rfl, _, rfl, ?_⟩
      by_cases c : pa1.2 ≤ pb1.2
      · rw [decide_eq_true c]
        refine if_t ⟨_, rfl, _, rfl, _, _, rfl, rfl, _, rfl, _, _, rfl, rfl, some (.int pa1.1), some (.int pa1.2), some (.int pb1.1), some (.int pb1.2), ?_, sc.trans sT⟩
        have er : riz pa1.2 pb1.2 = pb1.2 - pa1.2 := by
          unfold riz
          rw [if_pos c]
        rw [eR, eH, er, ← Int.add_sub_assoc] <;> rfl
      · rw [decide_eq_false c]
        have er : riz pa1.2 pb1.2 = if 0 > pb1.2 then 0 else pb1.2 := by
          unfold riz
          rw [if_neg c]
        refine if_f ⟨_, rfl, _, rfl, _, _, rfl, _, _, rfl, rfl, some (.int pa1.1), some (.int pa1.2), some (.int pb1.1), some (.int pb1.2), ?_, sc.trans sT⟩
        rw [eR, eH, er] <;> rfl
    · rintro σ H3 ⟨z3, z4, z5, z6, rfl, s3⟩
      rw [List.take_length, ← lnR, List.take_length]
      have hl3 := sqL_same s3 hl2
      have hd3 := dpAll_same s3 hd2
      refine ⟨_, rfl, l, rfl, ⟨_, hl3⟩, fun D1 nD1 => lc_list (K := K) (a := l) (xs := xs) (fun j Hc => Same H3 Hc ∧ Hc D1 = some (.lst (((wts ps).take j).map V.int))) ⟨same_new nD1, upd_same⟩ (fun j Hc _ h => sqL_same h.1 hl3) ?_ ?_⟩
      · rintro j v Hc hj ⟨sc, hD⟩
        obtain ⟨r, hr1, dr⟩ := dl_at hd3 hj
        obtain ⟨a, rfl, ha⟩ := dp_pd (dp_same sc dr)
        refine ⟨a, _, rfl, ha, rfl, _, _, rfl, _, [], rfl, rfl, rfl, ?_⟩
        unfold tYes
        dsimp only
        rw [if_pos rfl]
        refine ⟨_, rfl, _, hD, ?_, same_put nD1 sc, ?_⟩
        · rw [List.length_map, List.length_take, wts_len]
          exact small1000 (by omega)
        · rw [upd_same, take_snoc (wts_at hr1), List.map_append]
          rfl
      rintro H4 ⟨s4, hD1⟩
      rw [ll, ← wts_len, List.take_length] at hD1
      have lw0 : 0 < (wts ps).length := by
        rw [wts_len]
        exact l0
      refine ⟨_, rfl, D1, rfl, ⟨_, SqL.of hD1⟩, fun D3 nD3 => lc_list (K := K) (a := D1) (xs := (wts ps).map V.int) (fun j Hc => Same H4 Hc ∧ Hc D3 = some (.lst ((((wts ps).map fun w => w * w).take j).map V.int))) ⟨same_new nD3, upd_same⟩ (fun j Hc _ h => SqL.of (h.1 _ _ hD1)) ?_ ?_⟩
      · rintro j v Hc hj ⟨sc, hD⟩
        obtain ⟨a, ha, rfl⟩ := mapi_at hj
        refine ⟨rfl, ?_⟩
        unfold tYes
        dsimp only
        rw [if_pos rfl]
        have sz : a.natAbs < 2 ^ 60 := by
          obtain ⟨p, hp, rfl⟩ := List.mem_map.mp (List.mem_of_getElem? ha)
          exact ok.sz p hp
        have e2 : ((wts ps).map fun w => w * w)[j]? = some (a * a) := by rw [List.getElem?_map, ha]; rfl
        refine ⟨_, rfl, _, rfl, _, _, rfl, rfl, small_mul sz, _, hD, ?_, same_put nD3 sc, ?_⟩
        · rw [List.length_map, List.length_take, List.length_map, wts_len]
          exact small1000 (by omega)
        · rw [upd_same, take_snoc e2, List.map_append]
          rfl
      rintro H5 ⟨s5, hD3⟩
      rw [List.length_map, ← List.length_map (as := wts ps) (f := fun w => w * w), List.take_length] at hD3
      have hD1' := s5 _ _ hD1
      have s35 := s4.trans s5
      have hl5 := sqL_same s35 hl3
      have hd5 := dpAll_same s35 hd3
      obtain ⟨⟨ta, pa, ea, eA, hA⟩, ⟨tz, pz, ez, eZ, hZ⟩⟩ := pt_ends hd5 hne
      refine ⟨D3, _, rfl, SqL.of hD3, ?_⟩
      refine ⟨_, rfl, D1, _, rfl, .inl (SqL.of hD1'), _, rfl, D1, wts ps, rfl, SqL.of hD1', _, rfl, _, rfl, D1, wts ps, rfl, SqL.of hD1', lw0, fun mn mn1 mn2 => ⟨_, rfl, D1, wts ps, rfl, SqL.of hD1', lw0, fun mx mx1 mx2 => ?_⟩⟩
      refine ⟨_, rfl, l, xs, _, _, rfl, rfl, hl5, ea, _, rfl, 1, rfl, l, xs, _, _, rfl, rfl, hl5, ez, _, rfl, _, rfl, by show 9 ≤ sizeLine; decide, fun u nu => ?_⟩
      have sN := same_new (o := .tup [.int ((((wts ps).map V.int).length : Nat) : Int), .int (wts ps).sum, .int ((wts ps).map fun w => w * w).sum, .int mn, .int mx, .ref ta, .ref tz, .int (List.zipWith riz (wts ps) ((wts ps).drop 1)).sum, .int (List.zipWith hld ps (ps.drop 1)).sum]) nu
      refine q u _ ((((s0.trans s1).trans s3).trans s35).trans sN) (.tup (SqT.of upd_same) ?_)
      have fA : (fOf ps).fst = some pa := eA
      have fZ : (fOf ps).lst = some pz := eZ
      have fm : (fOf ps).lo = some mn := min_is mn1 mn2
      have fM : (fOf ps).hi = some mx := max_is mx1 mx2
      have fl : ((((wts ps).map V.int).length : Nat) : Int) = (fOf ps).cnt := by
        rw [List.length_map, wts_len] <;> rfl
      rw [fl] at sN
      rw [fA, fZ, fm, fM, fl]
      exact .cons (.int _) (.cons (.int _) (.cons (.int _) (.cons (.int _) (.cons (.int _) (.cons (.tup (sqT_same sN hA) (.cons (.int _) (.cons (.int _) .nil))) (.cons (.tup (sqT_same sN hZ) (.cons (.int _) (.cons (.int _) .nil))) (.cons (.int _) (.cons (.int _) .nil))))))))
end
end Tg

set_option maxHeartbeats 2000000
namespace Tg
open PySem PySem.Spec PyProof.Rows L2
/-! ### tables, cells, folds read -/
set_option maxHeartbeats 2000000
set_option maxHeartbeats 2000000
/-- a table's points: some, with sizes, each time once -/
structure TbOk (ps : List Pt) : Prop where
  nd : (ps.map (·.1)).Nodup
  few : ps.length < 1000
  sz : ∀ p, p ∈ ps → p.2.natAbs < 2 ^ 60
theorem cut_nd {ps qs : List Pt} {a b : Int} (c : Cut ps a b qs) : qs.Nodup := (List.pairwise_map.mp c.up).imp fun h e => by
  rw [e] at h
  exact Int.lt_irrefl _ h
/-- the one such list -/
theorem Cut.one {ps q1 q2 : List Pt} {a b : Int} (c1 : Cut ps a b q1) (c2 : Cut ps a b q2) : q1 = q2 := by
  have pm : q1.Perm q2 := (List.perm_ext_iff_of_nodup (cut_nd c1) (cut_nd c2)).mpr fun p => (c1.all p).trans (c2.all p).symm
  have u1 : q1.Pairwise fun p q => p.1 < q.1 := List.pairwise_map.mp c1.up
  have u2 : q2.Pairwise fun p q => p.1 < q.1 := List.pairwise_map.mp c2.up
  exact pm.eq_of_pairwise (fun x y _ _ h1 h2 => absurd (Int.lt_trans h1 h2) (Int.lt_irrefl _)) u1 u2
/-- the points of ps from a on, below b -/
def cutF (ps : List Pt) (a b : Int) : List Pt := (ps.mergeSort fun p q => decide (p.1 ≤ q.1)).filter fun p => decide (a ≤ p.1) && decide (p.1 < b)
theorem cut_f {ps : List Pt} (nd : (ps.map (·.1)).Nodup) (a b : Int) : Cut ps a b (cutF ps a b) := by
  have pm := List.mergeSort_perm ps (fun p q => decide (p.1 ≤ q.1))
  refine ⟨?_, fun p => ?_⟩
  · have up : (ps.mergeSort fun p q => decide (p.1 ≤ q.1)).Pairwise fun p q => p.1 ≤ q.1 := (List.pairwise_mergeSort (le := fun p q => decide (p.1 ≤ q.1)) (fun x y z h1 h2 => by rw [decide_eq_true_eq] at *; omega) (fun x y => by rw [Bool.or_eq_true, decide_eq_true_eq, decide_eq_true_eq]; omega) ps).imp fun h => of_decide_eq_true h
    have n2 : ((ps.mergeSort fun p q => decide (p.1 ≤ q.1)).map (·.1)).Nodup := (pm.map _).nodup_iff.mpr nd
    have lt := ups_lt (List.pairwise_map.mpr up) n2
    exact List.pairwise_map.mpr ((List.pairwise_map.mp lt).filter _)
  · unfold cutF
    rw [List.mem_filter, pm.mem_iff, Bool.and_eq_true, decide_eq_true_eq, decide_eq_true_eq]
theorem Cut.len {ps qs : List Pt} {a b : Int} (nd : (ps.map (·.1)).Nodup) (c : Cut ps a b qs) : qs.length ≤ ps.length := by
  rw [c.one (cut_f nd a b)]
  unfold cutF
  exact Nat.le_trans (List.length_filter_le _ _) (Nat.le_of_eq (List.length_mergeSort ps))
theorem Cut.ok {ps qs : List Pt} {a b : Int} (c : Cut ps a b qs) (t : TbOk ps) : POk qs := by
  refine ⟨Nat.lt_of_le_of_lt (c.len t.nd) t.few, fun i p q hp hq => ?_, fun p hp => t.sz p ((c.all p).mp hp).1⟩
  obtain ⟨h1, e1⟩ := List.getElem?_eq_some_iff.mp hp
  obtain ⟨h2, e2⟩ := List.getElem?_eq_some_iff.mp hq
  have h := List.pairwise_iff_getElem.mp c.up i (i + 1) (by rw [List.length_map]; exact h1) (by rw [List.length_map]; exact h2) (Nat.lt_succ_self i)
  rw [List.getElem_map, List.getElem_map, e1, e2] at h
  exact h
/-- the fold of the cell from a on -/
def cellF (ps : List Pt) (x a : Int) : FD := fOf (cutF ps a (a + x))
section
variable {P : Program} {w : World} {K : PySem.W.Frag} {mg : Str → Option Value} {base : Heap} {C : Addr}
abbrev sLc : Stmt := topS 33
theorem scLc : FnScope ["_law_table", "_law_width", "_law_start"] ["_law_table", "_law_width", "_law_start"] (defScope sLc) := ⟨rfl, rfl, rfl, by decide +kernel, rfl, by decide +kernel, by decide +kernel⟩
def spLc (K : PySem.W.Frag) : Sp := fun vs H Q _ => ∃ (d : Addr) (ps : List Pt) (x a : Int), vs = [.ref d, .int x, .int a] ∧ H d = some (.dK (tb ps)) ∧ TbOk ps ∧ ∀ u H', Same H H' → Dp K H' (.ref u) (fd9 (cellF ps x a)) → Q (.ref u) H'
theorem ok_lc {f : Addr} {fd : FuncData} {k : Nat} (F : Fun K "_law_cell" "_law_cell" sLc f fd) (L_fold : Cal P w K mg base k "_law_fold" ["_law_points_here"] (spLf K)) (L_points : Cal P w K mg base k "_law_points" ["_law_table", "_law_start", "_law_end"] (spPs K)) : FnOk P w K mg base CX0 (k + 1) f fd ["_law_table", "_law_width", "_law_start"] (spLc K) := by
  refine F.ok scLc (fun vs H Q E h => ?_) (fun cdv A outer s H vs Q E hr h => ?_)
  · obtain ⟨d, ps, x, a, rfl, _⟩ := h
    rfl
  · obtain ⟨d, ps, x, a, rfl, hd, ok, q⟩ := h
    refine ⟨_, pss_one (ps_ret (pe_cal L_fold (hr.mono (by omega)) (by rfl) (pa_cons (pe_cal L_points (hr.mono (by omega)) (by rfl) (pa_cons (pv 0) (pa_cons (pv 2) (pa_cons (pe_op op_add (pv 2) (pv 1)) pa_nil)))) pa_nil))), ?_⟩
    refine ⟨_, rfl, _, rfl, _, rfl, _, rfl, _, _, rfl, rfl, d, ps, a, a + x, rfl, hd, ok.nd, Nat.le_of_lt ok.few, fun l qs H1 s1 nl cut ld => ?_⟩
    obtain ⟨xs, hx, dx⟩ := ld
    refine ⟨l, qs, rfl, ⟨xs, SqL.of hx, dx⟩, cut.ok ok, fun u H2 s2 hu => q u H2 (s1.trans s2) ?_⟩
    rw [cut.one (cut_f ok.nd a (a + x))] at hu
    exact hu
abbrev sLr : Stmt := topS 31
abbrev NLr : List Str := ["_law_fold_here", "_law_some"]
theorem scLr : FnScope NLr ["_law_fold_here"] (defScope sLr) := ⟨rfl, rfl, rfl, by decide +kernel, rfl, by decide +kernel, by decide +kernel⟩
def spLr (K : PySem.W.Frag) (C : Addr) : Sp := fun vs H Q _ => ∃ (a : Addr) (F : FD), vs = [.ref a] ∧ FdO K C H a F ∧ ∀ u H', Same H H' → Dp K H' (.ref u) (fd9 F) → Q (.ref u) H'
theorem ok_lr {f : Addr} {fd : FuncData} {k : Nat} (F : Fun K "_law_read" "_law_read" sLr f fd) (T : TFold K C) (TI : TIns K C) (g_Fold : mg "Fold" = some (.ref C)) (m_isinstance : mg "isinstance" = none) : FnOk P w K mg base CX0 (k + 1) f fd ["_law_fold_here"] (spLr K C) := by
  refine F.ok scLr (fun vs H Q E h => ?_) (fun cdv A outer s H vs Q E hr h => ?_)
  · obtain ⟨a, F, rfl, _⟩ := h
    rfl
  · obtain ⟨a, F, rfl, ⟨dA, fA, lA, eA, pA, zA⟩, q⟩ := h
    refine ⟨_, pss_cons (ps_if (pt_not (pt_val (pe_callB call_isi (by rfl) m_isinstance (by decide +kernel) (pa_cons (pv 0) (pa_cons (pe_glob (v := .ref C) rfl g_Fold rfl) pa_nil)))))
        (pss_one (ps_ret pe_non))
        pss_nil)
      (pss_cons (ps_set (i := 1) scLr.nd rfl (.inl rfl) (pe_tup (pa_cons (pe_fld (pv 0) rfl) (pa_cons (pe_fld (pv 0) rfl) (pa_cons (pe_fld (pv 0) rfl) (pa_cons (pe_fld (pv 0) rfl) (pa_cons (pe_fld (pv 0) rfl) pa_nil)))))))
      (pss_one (ps_ret (pe_op op_catA (pv 1) (pe_tup (pa_cons (pe_fld (pv 0) rfl) (pa_cons (pe_fld (pv 0) rfl) (pa_cons (pe_fld (pv 0) rfl) (pa_cons (pe_fld (pv 0) rfl) pa_nil))))))))), ?_⟩
    refine ⟨_, rfl, .ref a, .ref C, .ref C, .ref C, true, rfl, .own _, .base (.ins eA T.cl TI.cc TI.get TI.takes TI.obj), TI.kit, true, rfl, if_f ?_⟩
    refine ⟨_, rfl, a, C, dA, _, _, rfl, eA, T.cl, T.no _ (by decide), rfl, _, rfl, a, C, dA, _, _, rfl, eA, T.cl, T.no _ (by decide), rfl, _, rfl, a, C, dA, _, _, rfl, eA, T.cl, T.no _ (by decide), rfl, _, rfl, a, C, dA, _, _, rfl, eA, T.cl, T.no _ (by decide), rfl, _, rfl, a, C, dA, _, _, rfl, eA, T.cl, T.no _ (by decide), rfl, by show 5 ≤ sizeLine; decide, fun u nu => ?_⟩
    have s1 := same_new (o := .tup [.int F.cnt, .int F.tot, .int F.sq, vw F.lo, vw F.hi]) nu
    obtain ⟨H1, e1⟩ : ∃ H1, upd H u (.tup [.int F.cnt, .int F.tot, .int F.sq, vw F.lo, vw F.hi]) = H1 := ⟨_, rfl⟩
    have hu1 : H1 u = some (.tup [.int F.cnt, .int F.tot, .int F.sq, vw F.lo, vw F.hi]) := by
      rw [← e1]
      exact upd_same
    rw [e1] at s1 ⊢
    have eB := s1 _ _ eA
    refine ⟨_, rfl, _, rfl, a, C, dA, _, _, rfl, eB, T.cl, T.no _ (by decide), rfl, _, rfl, a, C, dA, _, _, rfl, eB, T.cl, T.no _ (by decide), rfl, _, rfl, a, C, dA, _, _, rfl, eB, T.cl, T.no _ (by decide), rfl, _, rfl, a, C, dA, _, _, rfl, eB, T.cl, T.no _ (by decide), rfl, by show 4 ≤ sizeLine; decide, fun r nr => ?_⟩
    have s2 := same_new (o := .tup [fA, lA, .int F.ris, .int F.hel]) nr
    refine ⟨u, r, _, _, rfl, rfl, SqT.of (s2 _ _ hu1), SqT.of upd_same, by show 9 ≤ sizeLine; decide, (fun z => nomatch z), (fun _ z => nomatch z), fun _ _ t nt => ?_⟩
    have s3 := same_new (o := .tup ([.int F.cnt, .int F.tot, .int F.sq, vw F.lo, vw F.hi] ++ [fA, lA, .int F.ris, .int F.hel])) nt
    have s := (s1.trans s2).trans s3
    exact q t _ s (.tup (SqT.of upd_same) (.cons (.int _) (.cons (.int _) (.cons (.int _) (.cons (dp_vw _) (.cons (dp_vw _) (.cons (pA.same s).dp (.cons (zA.same s).dp (.cons (.int _) (.cons (.int _) .nil))))))))))
end
end Tg

set_option maxHeartbeats 2000000
namespace Tg
open PySem PySem.Spec PyProof.Rows L2
set_option maxHeartbeats 2000000
set_option maxHeartbeats 2000000
abbrev sWidths : Stmt := topS 34
abbrev sBase : Stmt := topS 35
theorem scWidths : FnScope ["_law_purse_here", "_law_some"] ["_law_purse_here"] (defScope sWidths) := ⟨rfl, rfl, rfl, by decide +kernel, rfl, by decide +kernel, by decide +kernel⟩
theorem scBase : FnScope ["_law_purse_here", "_law_far"] ["_law_purse_here"] (defScope sBase) := ⟨rfl, rfl, rfl, by decide +kernel, rfl, by decide +kernel, by decide +kernel⟩
/-! ### a row of written tuples -/
def Fa (H : Hp) (as : List Addr) (wss : List (List Int)) : Prop := as.length = wss.length ∧ ∀ (i : Nat) (a : Addr) (ws : List Int), as[i]? = some a → wss[i]? = some ws → NdT H a (ws.map V.int)
theorem Fa.same {H H' : Hp} {as : List Addr} {wss : List (List Int)} (h : Fa H as wss) (s : Same H H') : Fa H' as wss := ⟨h.1, fun i a ws e1 e2 => (h.2 i a ws e1 e2).same s⟩
def TW (wss : List (List Int)) : TA := fun _ H Q => ∀ (as : List Addr) (H' : Hp), Same H H' → Fa H' as wss → Q (as.map V.ref) H'
section
variable {X : Cx}
theorem pa_tw0 : PA X [] (TW []) := ⟨fun pos pins s σ H Q I h => pa_nil.run pos pins s σ H Q I (h [] H (Same.refl _) ⟨rfl, fun i a ws e => nomatch e⟩)⟩
theorem pa_tw {e : Expr} {es : List Expr} {t : TA} {ws : List Int} {wss : List (List Int)} (he : PE X e (tTupF t)) (ht : ∀ σ H Q, Q (ws.map V.int) H → t σ H Q) (hs : ws.length ≤ sizeLine) (h : PA X es (TW wss)) (st : starEach (e :: es) X.env = (false, eval e X.env) :: starEach es X.env := by rfl) : PA X (e :: es) (TW (ws :: wss)) := by
  refine ⟨fun pos pins s σ H Q I q => (pa_cons he h st).run pos pins s σ H Q I ?_⟩
  refine ht _ _ _ ⟨by rw [List.length_map]; exact hs, fun p ob nod np as H' sm fa => ?_⟩
  refine q (p :: as) H' ((same_new np).trans sm) ⟨congrArg Nat.succ fa.1, fun i a us e1 e2 => ?_⟩
  cases i with
  | zero =>
    cases e1
    cases e2
    exact ⟨ob, nod, sm _ _ upd_same⟩
  | succ i => exact fa.2 i a us e1 e2
end
theorem wok1 (a : Int) (h : 1 ≤ a ∧ a ≤ 10 ^ 13) : WOk [a] where
  ne := fun z => nomatch z
  le := by show 1 ≤ 4; decide
  pos := fun i x e => match i, e with
    | 0, rfl => h
  up := fun i x y e1 e2 => match i, e2 with
    | n + 1, e => nomatch e
theorem wok2 (a b : Int) (h : (1 ≤ a ∧ a ≤ 10 ^ 13) ∧ (1 ≤ b ∧ b ≤ 10 ^ 13) ∧ (b ≠ a ∧ b % a = 0)) : WOk [a, b] where
  ne := fun z => nomatch z
  le := by show 2 ≤ 4; decide
  pos := fun i x e => match i, e with
    | 0, rfl => h.1
    | 1, rfl => h.2.1
  up := fun i x y e1 e2 => match i, e1, e2 with
    | 0, rfl, rfl => h.2.2
theorem wok3 (a b c : Int) (h : (1 ≤ a ∧ a ≤ 10 ^ 13) ∧ (1 ≤ b ∧ b ≤ 10 ^ 13) ∧ (1 ≤ c ∧ c ≤ 10 ^ 13) ∧ (b ≠ a ∧ b % a = 0) ∧ (c ≠ b ∧ c % b = 0)) : WOk [a, b, c] where
  ne := fun z => nomatch z
  le := by show 3 ≤ 4; decide
  pos := fun i x e => match i, e with
    | 0, rfl => h.1
    | 1, rfl => h.2.1
    | 2, rfl => h.2.2.1
  up := fun i x y e1 e2 => match i, e1, e2 with
    | 0, rfl, rfl => h.2.2.2.1
    | 1, rfl, rfl => h.2.2.2.2
theorem wok4 (a b c d : Int) (h : (1 ≤ a ∧ a ≤ 10 ^ 13) ∧ (1 ≤ b ∧ b ≤ 10 ^ 13) ∧ (1 ≤ c ∧ c ≤ 10 ^ 13) ∧ (1 ≤ d ∧ d ≤ 10 ^ 13) ∧ (b ≠ a ∧ b % a = 0) ∧ (c ≠ b ∧ c % b = 0) ∧ (d ≠ c ∧ d % c = 0)) : WOk [a, b, c, d] where
  ne := fun z => nomatch z
  le := by show 4 ≤ 4; decide
  pos := fun i x e => match i, e with
    | 0, rfl => h.1
    | 1, rfl => h.2.1
    | 2, rfl => h.2.2.1
    | 3, rfl => h.2.2.2.1
  up := fun i x y e1 e2 => match i, e1, e2 with
    | 0, rfl, rfl => h.2.2.2.2.1
    | 1, rfl, rfl => h.2.2.2.2.2.1
    | 2, rfl, rfl => h.2.2.2.2.2.2
def wss1 : List (List Int) := [[1], [10], [60, 3600], [7, 14, 140], [2, 6, 18, 90], [1, 5, 1000000000], [5, 10, 1000000000000]]
def wss2 : List (List Int) := [[1, 2, 4, 8], [12, 24], [3, 30, 300, 300000000]]
theorem wss_ok (ws : List Int) (h : ws ∈ wss1 ++ wss2) : WOk ws ∧ ws.Nodup := by
  have h' : ws ∈ [[1], [10], [60, 3600], [7, 14, 140], [2, 6, 18, 90], [1, 5, 1000000000], [5, 10, 1000000000000], [1, 2, 4, 8], [12, 24], [3, 30, 300, 300000000]] := h
  simp only [List.mem_cons, List.not_mem_nil, or_false] at h'
  rcases h' with rfl | rfl | rfl | rfl | rfl | rfl | rfl | rfl | rfl | rfl
  · exact ⟨wok1 _ (by decide), by decide⟩
  · exact ⟨wok1 _ (by decide), by decide⟩
  · exact ⟨wok2 _ _ (by decide), by decide⟩
  · exact ⟨wok3 _ _ _ (by decide), by decide⟩
  · exact ⟨wok4 _ _ _ _ (by decide), by decide⟩
  · exact ⟨wok3 _ _ _ (by decide), by decide⟩
  · exact ⟨wok3 _ _ _ (by decide), by decide⟩
  · exact ⟨wok4 _ _ _ _ (by decide), by decide⟩
  · exact ⟨wok2 _ _ (by decide), by decide⟩
  · exact ⟨wok4 _ _ _ _ (by decide), by decide⟩
section
variable {P : Program} {w : World} {K : PySem.W.Frag} {mg : Str → Option Value} {base : Heap} {C : Addr}
abbrev CDraw (P : Program) (w : World) (K : PySem.W.Frag) (mg : Str → Option Value) (base : Heap) (k : Nat) : Prop := Cal P w K mg base k "_law_draw" ["_law_purse_here", "_law_out_of"] spDraw
def spWidths : Sp := fun vs H Q _ => ∃ (p : Addr) (n : Nat), vs = [.ref p] ∧ Pu H p n ∧ n < 2 ^ 37 ∧ ∀ (a : Addr) (ws : List Int) (H' : Hp), Kp p H H' → Pu H' p (n + 2) → NdT H' a (ws.map V.int) → WOk ws → ws.Nodup → Q (.ref a) H'
theorem ok_widths {f : Addr} {fd : FuncData} {k : Nat} (F : Fun K "_law_widths" "_law_widths" sWidths f fd) (L_draw : CDraw P w K mg base k) (m_len : mg "len" = none) : FnOk P w K mg base CX0 (k + 1) f fd ["_law_purse_here"] spWidths := by
  refine F.ok scWidths (fun vs H Q E h => ?_) (fun cdv A outer s H vs Q E hr h => ?_)
  · obtain ⟨p, n, rfl, _⟩ := h
    rfl
  · obtain ⟨p, n, rfl, hp, hn, q⟩ := h
    refine ⟨_, pss_cons (ps_set (i := 1) scWidths.nd rfl (.inl rfl) (pe_lst (t := TW wss1) (pa_tw (ws := [1]) (pe_tupF (pa_cons pe_int pa_nil)) (fun _ _ _ q => q) (by decide) (pa_tw (ws := [10]) (pe_tupF (pa_cons pe_int pa_nil)) (fun _ _ _ q => q) (by decide) (pa_tw (ws := [60, 3600]) (pe_tupF (pa_cons pe_int (pa_cons pe_int pa_nil))) (fun _ _ _ q => q) (by decide) (pa_tw (ws := [7, 14, 140]) (pe_tupF (pa_cons pe_int (pa_cons pe_int (pa_cons pe_int pa_nil)))) (fun _ _ _ q => q) (by decide) (pa_tw (ws := [2, 6, 18, 90]) (pe_tupF (pa_cons pe_int (pa_cons pe_int (pa_cons pe_int (pa_cons pe_int pa_nil))))) (fun _ _ _ q => q) (by decide) (pa_tw (ws := [1, 5, 1000000000]) (pe_tupF (pa_cons pe_int (pa_cons pe_int (pa_cons pe_int pa_nil)))) (fun _ _ _ q => q) (by decide) (pa_tw (ws := [5, 10, 1000000000000]) (pe_tupF (pa_cons pe_int (pa_cons pe_int (pa_cons pe_int pa_nil)))) (fun _ _ _ q => q) (by decide) pa_tw0)))))))))
      (pss_cons (ps_set (i := 1) scWidths.nd rfl (.inl rfl) (pe_op op_cat (pv 1) (pe_lst (t := TW wss2) (pa_tw (ws := [1, 2, 4, 8]) (pe_tupF (pa_cons pe_int (pa_cons pe_int (pa_cons pe_int (pa_cons pe_int pa_nil))))) (fun _ _ _ q => q) (by decide) (pa_tw (ws := [12, 24]) (pe_tupF (pa_cons pe_int (pa_cons pe_int pa_nil))) (fun _ _ _ q => q) (by decide) (pa_tw (ws := [3, 30, 300, 300000000]) (pe_tupF (pa_cons pe_int (pa_cons pe_int (pa_cons pe_int (pa_cons pe_int pa_nil))))) (fun _ _ _ q => q) (by decide) pa_tw0))))))
      (pss_one (ps_ret (pe_ix ix_list (pv 1) (pe_cal L_draw (hr.mono (by omega)) (by rfl) (pa_cons (pv 0) (pa_cons (pe_callB call_len_seq (by rfl) m_len (by decide +kernel) (pa_cons (pv 1) pa_nil)) pa_nil))) (fun _ _ => rfl))))), ?_⟩
    intro as H1 s1 fa
    have la : as.length = 7 := fa.1
    refine ⟨by rw [List.length_map, la]; decide, fun l nl => ?_⟩
    have s2 := same_new (o := .lst (as.map V.ref)) nl
    refine ⟨_, rfl, fun bs H3 s3 fb => ?_⟩
    have lb : bs.length = 3 := fb.1
    refine ⟨by rw [List.length_map, lb]; decide, fun m nm => ?_⟩
    have s4 := same_new (o := .lst (bs.map V.ref)) nm
    refine ⟨l, m, _, _, rfl, rfl, s4 _ _ (s3 _ _ upd_same), upd_same, (by rw [List.length_map, List.length_map, la, lb]; decide), fun r nr => ?_⟩
    have s5 := same_new (o := .lst (as.map V.ref ++ bs.map V.ref)) nr
    have sA : Same H1 (upd (upd H3 m (.lst (bs.map V.ref))) r (.lst (as.map V.ref ++ bs.map V.ref))) := ((s2.trans s3).trans s4).trans s5
    have faA := fa.same sA
    have fbA := fb.same (s4.trans s5)
    have sH := s1.trans sA
    have hr : (upd (upd H3 m (.lst (bs.map V.ref))) r (.lst (as.map V.ref ++ bs.map V.ref))) r = some (.lst ((as ++ bs).map V.ref)) := by
      rw [upd_same, List.map_append]
    revert sH faA fbA hr
    generalize upd (upd H3 m (.lst (bs.map V.ref))) r (.lst (as.map V.ref ++ bs.map V.ref)) = H5
    intro faA fbA sH hr
    have hp5 := hp.same sH
    refine ⟨_, rfl, _, rfl, _, rfl, r, _, rfl, .inl (SqL.of hr), ?_⟩
    have e10 : ((as ++ bs).map V.ref).length = 10 := by rw [List.length_map, List.length_append, la, lb]
    rw [e10]
    refine ⟨p, n, 10, rfl, hp5, by omega, by decide, by decide, fun v H6 k6 p6 v0 v1 => ?_⟩
    obtain ⟨j, rfl⟩ : ∃ j : Nat, v = (j : Int) := ⟨v.toNat, by omega⟩
    have hj : j < 10 := by omega
    have nrp : r ≠ p := fun z => by
      obtain ⟨_, _, _, z2, _⟩ := hp5
      rw [z, z2] at hr
      injection hr with hr
      injection hr with hr
      have := congrArg List.length hr
      rw [e10] at this
      have z3 : (3 : Nat) = 10 := this
      exact absurd z3 (by decide)
    obtain ⟨a, ea⟩ : ∃ a, (as ++ bs)[j]? = some a := ⟨(as ++ bs)[j]'(by rw [List.length_append]; omega), List.getElem?_eq_getElem _⟩
    obtain ⟨ws, ew⟩ : ∃ ws, (wss1 ++ wss2)[j]? = some ws := ⟨(wss1 ++ wss2)[j]'(by show j < 10; exact hj), List.getElem?_eq_getElem _⟩
    have nd5 : NdT H5 a (ws.map V.int) := by
      by_cases c : j < 7
      · rw [List.getElem?_append_left (by omega)] at ea
        rw [List.getElem?_append_left (show j < wss1.length from c)] at ew
        exact faA.2 j a ws ea ew
      · rw [List.getElem?_append_right (by omega), la] at ea
        rw [List.getElem?_append_right (show wss1.length ≤ j from by show 7 ≤ j; omega)] at ew
        exact fbA.2 (j - 7) a ws ea ew
    have nd6 := nd5.kt (hp5.kt k6)
    obtain ⟨w1, w2⟩ := wss_ok ws (List.mem_of_getElem? ew)
    refine ⟨r, _, _, .ref a, rfl, rfl, SqL.of (k6 _ _ nrp hr), atI_nat (by rw [List.getElem?_map, ea]; rfl), ?_⟩
    exact q a ws H6 ((Kp.of sH).trans k6) p6 nd6 w1 w2
theorem dv {l d : Int} {M : Nat} (h0 : 1 ≤ d) (h1 : d ≤ 10 ^ 13) (hl : l.natAbs ≤ M) : l / d * d = l - l % d ∧ (l / d).natAbs ≤ M + 10 ^ 13 := by
  have e : l / d * d = l - l % d := by
    rw [Int.emod_def, Int.mul_comm]
    omega
  refine ⟨e, ?_⟩
  have m0 := Int.emod_nonneg l (show d ≠ 0 by omega)
  have m1 := Int.emod_lt_of_pos l (show 0 < d by omega)
  have a : (l / d * d).natAbs ≤ M + 10 ^ 13 := by
    rw [e]
    omega
  rw [Int.natAbs_mul] at a
  exact Nat.le_trans (Nat.le_mul_of_pos_right _ (by omega)) a
def spBase : Sp := fun vs H Q _ => ∃ (p : Addr) (n : Nat), vs = [.ref p] ∧ Pu H p n ∧ n < 2 ^ 37 ∧ ∀ (v : Int) (H' : Hp), Kp p H H' → Pu H' p (n + 4) → v.natAbs ≤ 10 ^ 14 → Q (.int v) H'
theorem ok_base {f : Addr} {fd : FuncData} {k : Nat} (F : Fun K "_law_base" "_law_base" sBase f fd) (L_draw : CDraw P w K mg base k) : FnOk P w K mg base CX0 (k + 1) f fd ["_law_purse_here"] spBase := by
  refine F.ok scBase (fun vs H Q E h => ?_) (fun cdv A outer s H vs Q E hr h => ?_)
  · obtain ⟨p, n, rfl, _⟩ := h
    rfl
  · obtain ⟨p, n, rfl, hp, hn, q⟩ := h
    refine ⟨_, pss_cons (ps_set (i := 1) scBase.nd rfl (.inl rfl) (pe_cal L_draw (hr.mono (by omega)) (by rfl) (pa_cons (pv 0) (pa_cons (pe_op op_pow pe_int pe_int) pa_nil))))
      (pss_one (ps_ret (pe_ix ix_list (pe_lst (pa_cons pe_int (pa_cons pe_int (pa_cons (pv 1) (pa_cons (pe_op op_sub pe_int (pv 1)) (pa_cons (pe_op op_mul pe_int (pe_op op_mod (pv 1) pe_int)) (pa_cons (pe_op op_sub pe_int (pe_op op_mul pe_int (pe_op op_mod (pv 1) pe_int))) pa_nil))))))) (pe_cal L_draw (hr.mono (by omega)) (by rfl) (pa_cons (pv 0) (pa_cons pe_int pa_nil))) (fun _ _ => rfl)))), ?_⟩
    refine ⟨_, rfl, 10, 14, rfl, rfl, ⟨by decide, by decide, by decide⟩, p, n, 10 ^ 14, rfl, hp, by omega, by decide, by decide, fun v H1 k1 p1 v0 v1 => ?_⟩
    have m1 := Int.emod_nonneg v (show (1000 : Int) ≠ 0 by decide)
    have m2 := Int.emod_lt_of_pos v (show (0 : Int) < 1000 by decide)
    have m3 := Int.emod_nonneg v (show (7 : Int) ≠ 0 by decide)
    have m4 := Int.emod_lt_of_pos v (show (0 : Int) < 7 by decide)
    refine ⟨_, rfl, _, rfl, _, _, rfl, rfl, _, rfl, _, _, rfl, rfl, (by show (0 : Int) < 1000; decide), _, _, rfl, rfl, .inl ⟨by decide, by decide⟩, _, rfl, _, _, rfl, rfl, (by show (0 : Int) < 7; decide), _, _, rfl, rfl, .inl ⟨by decide, by decide⟩, _, _, rfl, rfl, by show 6 ≤ sizeLine; decide, fun l nl => ?_⟩
    have s2 := same_new (o := .lst ([0, 0, v, 0 - v, 3600 * (v % 1000), 0 - 90 * (v % 7)].map V.int)) nl
    refine ⟨_, rfl, p, n + 2, 6, rfl, p1.same s2, by omega, by decide, by decide, fun u H3 k3 p3 u0 u1 => ?_⟩
    obtain ⟨x, hx, ex⟩ := atI_mem (xs := [0, 0, v, 0 - v, 3600 * (v % 1000), 0 - 90 * (v % 7)]) (i := u) u0 u1
    have xb : x.natAbs ≤ 10 ^ 14 := by
      simp only [List.mem_cons, or_false, List.not_mem_nil] at hx
      rcases hx with rfl | rfl | rfl | rfl | rfl | rfl <;> omega
    exact ⟨l, _, u, .int x, rfl, rfl, SqL.of (k3 _ _ (p1.ne nl) upd_same), ex, q x H3 ((k1.trans (.of s2)).trans k3) p3 xb⟩
theorem w_first {ws : List Int} (ok : WOk ws) : ∃ x, atI (ws.map V.int) 0 = some (.int x) ∧ 1 ≤ x ∧ x ≤ 10 ^ 13 := by
  have l0 : 0 < ws.length := List.length_pos_iff.mpr ok.ne
  have e : ws[0]? = some ws[0] := List.getElem?_eq_getElem l0
  refine ⟨ws[0], ?_, ok.pos 0 _ e⟩
  show atI _ ((0 : Nat) : Int) = _
  exact atI_nat (by rw [List.getElem?_map, e]; rfl)
theorem w_last {ws : List Int} (ok : WOk ws) : ∃ x, atI (ws.map V.int) (-1) = some (.int x) ∧ 1 ≤ x ∧ x ≤ 10 ^ 13 := by
  rcases List.eq_nil_or_concat ws with e | ⟨r, x, e⟩
  · exact absurd e ok.ne
  rw [List.concat_eq_append] at e
  refine ⟨x, ?_, ok.pos r.length x ?_⟩
  · rw [e, List.map_append]
    exact atI_last _ _
  · rw [e, List.getElem?_append_right (Nat.le_refl _), Nat.sub_self]
    rfl
end
end Tg

set_option maxHeartbeats 2000000
namespace Tg
open PySem PySem.Spec PyProof.Rows L2
/-! ### times and worths drawn -/
set_option maxHeartbeats 2000000
set_option maxHeartbeats 2000000
abbrev sTi : Stmt := topS 36
abbrev sWo : Stmt := topS 37
abbrev NTi : List Str := ["_law_purse_here", "_law_base_here", "_law_widths_here", "_law_wide", "_law_time_here"]
abbrev NWo : List Str := ["_law_purse_here", "_law_far"]
theorem scTi : FnScope NTi ["_law_purse_here", "_law_base_here", "_law_widths_here"] (defScope sTi) := ⟨rfl, rfl, rfl, by decide +kernel, rfl, by decide +kernel, by decide +kernel⟩
theorem scWo : FnScope NWo ["_law_purse_here"] (defScope sWo) := ⟨rfl, rfl, rfl, by decide +kernel, rfl, by decide +kernel, by decide +kernel⟩
section
variable {P : Program} {w : World} {K : PySem.W.Frag} {mg : Str → Option Value} {base : Heap}
def spWo : Sp := fun vs H Q _ => ∃ (p : Addr) (n : Nat), vs = [.ref p] ∧ Pu H p n ∧ n < 2 ^ 37 ∧ ∀ (v : Int) (H' : Hp), Kp p H H' → Pu H' p (n + 4) → v.natAbs ≤ 10 ^ 14 → Q (.int v) H'
theorem ok_wo {f : Addr} {fd : FuncData} {k : Nat} (F : Fun K "_law_worth" "_law_worth" sWo f fd) (L_draw : CDraw P w K mg base k) : FnOk P w K mg base CX0 (k + 1) f fd ["_law_purse_here"] spWo := by
  refine F.ok scWo (fun vs H Q E h => ?_) (fun cdv A outer s H vs Q E hr h => ?_)
  · obtain ⟨p, n, rfl, _⟩ := h
    rfl
  · obtain ⟨p, n, rfl, hp, hn, q⟩ := h
    refine ⟨_, pss_cons (ps_set (i := 1) scWo.nd rfl (.inl rfl) (pe_cal L_draw (hr.mono (by omega)) (by rfl) (pa_cons (pv 0) (pa_cons (pe_op op_pow pe_int pe_int) pa_nil))))
      (pss_one (ps_ret (pe_ix ix_list (pe_lst (pa_cons (pe_op op_mod (pv 1) pe_int) (pa_cons (pe_op op_mod (pv 1) pe_int) (pa_cons (pe_op op_sub (pe_op op_mod (pv 1) pe_int) pe_int) (pa_cons (pv 1) (pa_cons (pe_op op_sub pe_int (pv 1)) (pa_cons pe_int pa_nil))))))) (pe_cal L_draw (hr.mono (by omega)) (by rfl) (pa_cons (pv 0) (pa_cons pe_int pa_nil))) (fun _ _ => rfl)))), ?_⟩
    refine ⟨_, rfl, 10, 14, rfl, rfl, ⟨by decide, by decide, by decide⟩, p, n, 10 ^ 14, rfl, hp, by omega, by decide, by decide, fun v H1 k1 p1 v0 v1 => ?_⟩
    have m1 := Int.emod_nonneg v (show (5 : Int) ≠ 0 by decide)
    have m2 := Int.emod_lt_of_pos v (show (0 : Int) < 5 by decide)
    have m3 := Int.emod_nonneg v (show (200 : Int) ≠ 0 by decide)
    have m4 := Int.emod_lt_of_pos v (show (0 : Int) < 200 by decide)
    refine ⟨_, rfl, _, _, rfl, rfl, (by show (0 : Int) < 5; decide), _, rfl, _, _, rfl, rfl, (by show (0 : Int) < 5; decide), _, rfl, _, _, rfl, rfl, (by show (0 : Int) < 200; decide), _, _, rfl, rfl, _, rfl, _, rfl, _, _, rfl, rfl, by show 6 ≤ sizeLine; decide, fun l nl => ?_⟩
    have s2 := same_new (o := .lst ([v % 5, v % 5, v % 200 - 100, v, 0 - v, 0].map V.int)) nl
    refine ⟨_, rfl, p, n + 2, 6, rfl, p1.same s2, by omega, by decide, by decide, fun u H3 k3 p3 u0 u1 => ?_⟩
    obtain ⟨x, hx, ex⟩ := atI_mem (xs := [v % 5, v % 5, v % 200 - 100, v, 0 - v, 0]) (i := u) u0 u1
    have xb : x.natAbs ≤ 10 ^ 14 := by
      simp only [List.mem_cons, or_false, List.not_mem_nil] at hx
      rcases hx with rfl | rfl | rfl | rfl | rfl | rfl <;> omega
    exact ⟨l, _, u, .int x, rfl, rfl, SqL.of (k3 _ _ (p1.ne nl) upd_same), ex, q x H3 ((k1.trans (.of s2)).trans k3) p3 xb⟩
def spTi (K : PySem.W.Frag) : Sp := fun vs H Q _ => ∃ (p wa : Addr) (n : Nat) (ws : List Int) (b : Int), vs = [.ref p, .int b, .ref wa] ∧ Pu H p n ∧ n < 2 ^ 37 ∧ SqT K H wa (ws.map V.int) ∧ WOk ws ∧ b.natAbs ≤ 10 ^ 14 ∧ ∀ (v : Int) (H' : Hp), Kp p H H' → Pu H' p (n + 8) → v.natAbs ≤ 10 ^ 15 → Q (.int v) H'
theorem ok_ti {f : Addr} {fd : FuncData} {k : Nat} (F : Fun K "_law_time" "_law_time" sTi f fd) (L_draw : CDraw P w K mg base k) : FnOk P w K mg base CX0 (k + 1) f fd ["_law_purse_here", "_law_base_here", "_law_widths_here"] (spTi K) := by
  refine F.ok scTi (fun vs H Q E h => ?_) (fun cdv A outer s H vs Q E hr h => ?_)
  · obtain ⟨p, wa, n, ws, b, rfl, _⟩ := h
    rfl
  · obtain ⟨p, wa, n, ws, b, rfl, hp, hn, hw, ok, hb, q⟩ := h
    refine ⟨_, pss_cons (ps_set (i := 3) scTi.nd rfl (.inl rfl) (pe_ix ix_list (pe_lst (pa_cons (pe_op op_mul pe_int (pe_ix ix_tup (pv 2) pe_int (fun _ _ => rfl))) (pa_cons (pe_op op_mul pe_int (pe_ix ix_tup (pv 2) pe_int (fun _ _ => rfl))) (pa_cons (pe_op op_mul pe_int (pe_ix ix_tup (pv 2) (pe_un un_neg pe_int) (fun _ _ => rfl))) (pa_cons pe_int pa_nil))))) (pe_cal L_draw (hr.mono (by omega)) (by rfl) (pa_cons (pv 0) (pa_cons pe_int pa_nil))) (fun _ _ => rfl)))
      (pss_cons (ps_set (i := 4) scTi.nd rfl (.inl rfl) (pe_op op_sub (pe_op op_add (pv 1) (pe_cal L_draw (hr.mono (by omega)) (by rfl) (pa_cons (pv 0) (pa_cons (pv 3) pa_nil)))) (pe_op op_fdiv (pv 3) pe_int)))
      (pss_cons (ps_if (pt_cmpR op_eq (pe_cal L_draw (hr.mono (by omega)) (by rfl) (pa_cons (pv 0) (pa_cons pe_int pa_nil))) pe_int (nomark _))
        (pss_one (ps_ret (pe_op op_sub (pe_op op_mulW (pe_op op_fdivW (pv 4) (pe_ix ix_tup (pv 2) (pe_un un_neg pe_int) (fun _ _ => rfl))) (pe_ix ix_tup (pv 2) (pe_un un_neg pe_int) (fun _ _ => rfl))) (pe_cal L_draw (hr.mono (by omega)) (by rfl) (pa_cons (pv 0) (pa_cons pe_int pa_nil))))))
        pss_nil)
      (pss_one (ps_ret (pv 4))))), ?_⟩
    obtain ⟨x0, e0, a0, a1⟩ := w_first ok
    obtain ⟨x1, e1, c0, c1⟩ := w_last ok
    refine ⟨_, rfl, wa, _, 0, .int x0, rfl, rfl, hw, e0, _, _, rfl, rfl, .inl ⟨by decide, by decide⟩, _, rfl, wa, _, 0, .int x0, rfl, rfl, hw, e0, _, _, rfl, rfl, .inl ⟨by decide, by decide⟩, _, rfl, 1, rfl, wa, _, -1, .int x1, rfl, rfl, hw, e1, _, _, rfl, rfl, .inl ⟨by decide, by decide⟩, by show 4 ≤ sizeLine; decide, fun m nm => ?_⟩
    have s2 := same_new (o := .lst ([4 * x0, 4 * x0, 3 * x1, 40].map V.int)) nm
    refine ⟨_, rfl, p, n, 4, rfl, hp.same s2, by omega, by decide, by decide, fun u H3 k3 p3 u0 u1 => ?_⟩
    obtain ⟨wd, hwd, ex⟩ := atI_mem (xs := [4 * x0, 4 * x0, 3 * x1, 40]) (i := u) u0 u1
    have wb : 1 ≤ wd ∧ wd ≤ 4 * 10 ^ 13 := by
      simp only [List.mem_cons, List.not_mem_nil, or_false] at hwd
      rcases hwd with rfl | rfl | rfl | rfl <;> omega
    have kk : Kp p H H3 := (Kp.of s2).trans k3
    refine ⟨m, _, u, .int wd, rfl, rfl, SqL.of (k3 _ _ (hp.ne nm) upd_same), ex, ?_⟩
    refine ⟨_, rfl, _, rfl, _, rfl, p, n + 2, wd, rfl, p3, by omega, by omega, by omega, fun y H4 k4 p4 y0 y1 => ⟨_, _, rfl, rfl, _, rfl, _, _, rfl, rfl, ⟨by decide, by decide⟩, _, _, rfl, rfl, ?_⟩⟩
    have h0 := Int.ediv_nonneg (show 0 ≤ wd by omega) (show (0 : Int) ≤ 2 by decide)
    have h1 := Int.ediv_le_self 2 (show 0 ≤ wd by omega)
    obtain ⟨t, et⟩ : ∃ t, b + y - wd / 2 = t := ⟨_, rfl⟩
    dsimp only
    rw [et]
    have tb : t.natAbs ≤ 10 ^ 14 + 8 * 10 ^ 13 := by omega
    refine ⟨_, rfl, p, n + 4, 4, rfl, p4, by omega, by decide, by decide, fun z H5 k5 p5 z0 z1 => ?_⟩
    refine ⟨rfl, _, rfl, ite2 (fun g => ?_) (fun g => ?_)⟩
    · have hw5 : SqT K H5 wa (ws.map V.int) := sqT_kt (p4.kt k5) (sqT_kt (p3.kt k4) (sqT_kt (hp.kt kk) hw))
      obtain ⟨d1, d2⟩ := dv (d := x1) c0 c1 tb
      have m0 := Int.emod_nonneg t (show x1 ≠ 0 by omega)
      have m1 := Int.emod_lt_of_pos t (show 0 < x1 by omega)
      refine ⟨_, rfl, _, rfl, 1, rfl, wa, _, -1, .int x1, rfl, rfl, hw5, e1, _, _, rfl, rfl, wide_div (b := 50) (by omega) (by omega) (by decide) (by decide), _, rfl, 1, rfl, wa, _, -1, .int x1, rfl, rfl, hw5, e1, _, _, rfl, rfl, wide_mul (a := 64) (b := 64) (by omega) (by omega) (by decide) (by decide) (by decide), ?_⟩
      refine ⟨_, rfl, p, n + 6, 2, rfl, p5, by omega, by decide, by decide, fun y2 H6 k6 p6 y20 y21 => ⟨_, _, rfl, rfl, q _ _ (((kk.trans k4).trans k5).trans k6) p6 ?_⟩⟩
      rw [d1]
      omega
    · exact ⟨_, rfl, q _ _ ((kk.trans k4).trans k5) (p5.mono (by omega)) (by omega)⟩
end
end Tg

set_option maxHeartbeats 2000000
namespace Tg
open PySem PySem.Spec PyProof.Rows L2
/-! ### what a deed changes -/
set_option maxHeartbeats 2000000
set_option maxHeartbeats 2000000
def tbG {α : Type} (f : α → V) (m : List (Int × α)) : List (Key × V) := m.map fun p => ((Sum.inl p.1 : Key), f p.2)
theorem put_g {α : Type} (f : α → V) (m : List (Int × α)) (t : Int) (a : α) : putK (tbG f m) (Sum.inl t) (f a) = tbG f (putL m t a) := by
  unfold putK putL tbG
  have e : ((m.map fun p => ((Sum.inl p.1 : Key), f p.2)).any fun kv => decide (kv.1 = Sum.inl t)) = m.any fun p => decide (p.1 = t) := by
    rw [List.any_map]
    refine List.any_congr rfl fun p => ?_
    show decide ((Sum.inl p.1 : Key) = Sum.inl t) = _
    by_cases c : p.1 = t
    · rw [c, decide_eq_true rfl, decide_eq_true rfl]
    · rw [decide_eq_false c, decide_eq_false fun z => c (Sum.inl.inj z)]
  rw [e]
  by_cases c : (m.any fun p => decide (p.1 = t)) = true
  · rw [if_pos c, if_pos c, List.map_map, List.map_map]
    refine List.map_congr_left fun p _ => ?_
    show (if (Sum.inl p.1 : Key) = Sum.inl t then ((Sum.inl p.1 : Key), f a) else (Sum.inl p.1, f p.2)) = (Sum.inl (if p.1 = t then (p.1, a) else p).1, f (if p.1 = t then (p.1, a) else p).2)
    by_cases d : p.1 = t
    · rw [if_pos d, if_pos (congrArg Sum.inl d)]
    · rw [if_neg d, if_neg fun z => d (Sum.inl.inj z)]
  · rw [if_neg c, if_neg c, List.map_append]
    rfl
theorem g_keys {α : Type} (f : α → V) (m : List (Int × α)) : (tbG f m).map (·.1) = (m.map (·.1)).map Sum.inl := by
  unfold tbG
  simp only [List.map_map]
  rfl
theorem g_val {α : Type} {f : α → V} : ∀ {m : List (Int × α)} {p : Int × α}, p ∈ m → (m.map (·.1)).Nodup → valV (tbG f m) (.inl p.1) = some (f p.2)
  | q :: m, p, hp, nd => by
    rcases List.mem_cons.mp hp with first | hp
    · rw [first]
      exact valV_pos rfl
    · have nd2 := List.nodup_cons.mp nd
      have ne : q.1 ≠ p.1 := fun z => nd2.1 (List.mem_map.mpr ⟨p, hp, z.symm⟩)
      refine (valV_neg fun z => ne (Sum.inl.inj z)).trans ?_
      exact g_val hp nd2.2
theorem putL_nd {α : Type} {m : List (Int × α)} {t : Int} {a : α} (h : (m.map (·.1)).Nodup) : ((putL m t a).map (·.1)).Nodup := by
  unfold putL
  by_cases c : (m.any fun p => decide (p.1 = t)) = true
  · rw [if_pos c, List.map_map]
    have e : m.map ((fun x => x.1) ∘ fun p => if p.1 = t then (p.1, a) else p) = m.map (·.1) := List.map_congr_left fun p _ => by
      show (if p.1 = t then (p.1, a) else p).1 = p.1
      split <;> rfl
    rw [e]
    exact h
  · rw [if_neg c, List.map_append, List.nodup_append]
    refine ⟨h, List.pairwise_singleton _ _, fun x hx y hy e => ?_⟩
    rw [List.mem_singleton.mp hy] at e
    obtain ⟨p, hp, ep⟩ := List.mem_map.mp hx
    exact c (List.any_eq_true.mpr ⟨p, hp, decide_eq_true (ep.trans e)⟩)
theorem one_g {α : Type} : ∀ {m : List (Int × α)} {y z : Int × α}, (m.map (·.1)).Nodup → y ∈ m → z ∈ m → y.1 = z.1 → y = z
  | q :: m, y, z, nd, hy, hz, e => by
    have nd2 := List.nodup_cons.mp nd
    rcases List.mem_cons.mp hy with a | a
    · rcases List.mem_cons.mp hz with b | b
      · exact a.trans b.symm
      · exact (nd2.1 (List.mem_map.mpr ⟨z, b, by rw [← e, a]⟩)).elim
    · rcases List.mem_cons.mp hz with b | b
      · exact (nd2.1 (List.mem_map.mpr ⟨y, a, by rw [e, b]⟩)).elim
      · exact one_g nd2.2 a b e
/-- a table with some points told anew, some taken out -/
structure Chg (ps : List Pt) (ns : List (Int × Option Int)) (rs : List Pt) : Prop where
  nd : (rs.map (·.1)).Nodup
  all : ∀ p, p ∈ rs ↔ (p.1, some p.2) ∈ ns ∨ (p ∈ ps ∧ p.1 ∉ ns.map (·.1))
  len : rs.length ≤ ps.length + ns.length
section
variable {P : Program} {w : World} {K : PySem.W.Frag} {mg : Str → Option Value} {base : Heap}
abbrev sCh : Stmt := topS 39
abbrev NCh : List Str := ["_law_table", "_law_news_here", "_law_told", "_law_time_here", "_law_kept"]
theorem scCh : FnScope NCh ["_law_table", "_law_news_here"] (defScope sCh) := ⟨rfl, rfl, rfl, by decide +kernel, rfl, by decide +kernel, by decide +kernel⟩
def spCh : Sp := fun vs H Q _ => ∃ (d e : Addr) (ps : List Pt) (ns : List (Int × Option Int)), vs = [.ref d, .ref e] ∧ H d = some (.dK (tbG V.int ps)) ∧ H e = some (.dK (tbG vw ns)) ∧ (ps.map (·.1)).Nodup ∧ (ns.map (·.1)).Nodup ∧ ps.length ≤ 500 ∧ ns.length ≤ 100 ∧
  ∀ r rs H', Same H H' → H r = none → Chg ps ns rs → H' r = some (.dK (tbG V.int rs)) → Q (.ref r) H'
theorem ok_ch {f : Addr} {fd : FuncData} {k : Nat} (F : Fun K "_law_changed" "_law_changed" sCh f fd) (m_sorted : mg "sorted" = none) (m_dict : mg "dict" = none) : FnOk P w K mg base CX0 (k + 1) f fd ["_law_table", "_law_news_here"] spCh := by
  refine F.ok scCh (fun vs H Q E h => ?_) (fun cdv A outer s H vs Q E hr h => ?_)
  · obtain ⟨d, e, ps, ns, rfl, _⟩ := h
    rfl
  · obtain ⟨d, e, ps, ns, rfl, hd, he, ndp, ndn, lp, ln, q⟩ := h
    have hu := hu_of hr
    refine ⟨_, pss_cons (ps_set (i := 2) scCh.nd rfl (.inl rfl) (pe_callTy call_dictD (by rfl) m_dict (by decide +kernel) (pa_cons (pv 0) pa_nil)))
      (pss_cons (ps_for PassesOwn.never rfl (pi_list (pe_callB (cr_sortedDI rfl) (by rfl) m_sorted (by decide +kernel) (pa_cons (pv 1) pa_nil))) (pg_name (i := 3) scCh.nd rfl (.inl rfl))
        (pss_one (ps_dput hu (pv 2) (pv 3) (pe_dget hu (pv 1) (pv 3) (fun _ _ => rfl)) rfl)))
      (pss_cons (ps_set (i := 4) scCh.nd rfl (.inl rfl) pe_dnewK)
      (pss_cons (ps_for PassesOwn.never rfl (pi_list (pe_callB (cr_sortedDI rfl) (by rfl) m_sorted (by decide +kernel) (pa_cons (pv 2) pa_nil))) (pg_name (i := 3) scCh.nd rfl (.inl rfl))
        (pss_one (ps_if (pt_cmpR op_notN (pe_dget hu (pv 2) (pv 3) (fun _ _ => rfl)) pe_non (nomark _))
          (pss_one (ps_dput hu (pv 4) (pv 3) (pe_dget hu (pv 2) (pv 3) (fun _ _ => rfl)) rfl))
          pss_nil)))
      (pss_one (ps_ret (pv 4)))))), ?_⟩
    refine ⟨_, rfl, d, _, rfl, .inl hd, fun t nt => ?_⟩
    have s1 := same_new (o := .dK (tbG V.int ps)) nt
    obtain ⟨os0, eo⟩ : ∃ os0 : List (Int × Option Int), ps.map (fun p => (p.1, some p.2)) = os0 := ⟨_, rfl⟩
    have eg : tbG V.int ps = tbG vw os0 := by
      rw [← eo]
      unfold tbG
      rw [List.map_map] <;> rfl
    have ek : os0.map (·.1) = ps.map (·.1) := by
      rw [← eo, List.map_map] <;> rfl
    obtain ⟨H1, e1⟩ : ∃ H1, upd H t (.dK (tbG V.int ps)) = H1 := ⟨_, rfl⟩
    have ht1 : H1 t = some (.dK (tbG vw os0)) := by
      rw [← e1, ← eg]
      exact upd_same
    rw [e1] at s1 ⊢
    have he1 := s1 _ _ he
    refine ⟨_, rfl, e, _, _, rfl, .inl he1, g_keys vw ns, fun qs p pm up np => ?_⟩
    have s2 := same_new (o := .lst (qs.map V.int)) np
    obtain ⟨H2, e2⟩ : ∃ H2, upd H1 p (.lst (qs.map V.int)) = H2 := ⟨_, rfl⟩
    have hp2 : H2 p = some (.lst (qs.map V.int)) := by
      rw [← e2]
      exact upd_same
    rw [e2] at s2 ⊢
    have ht2 := s2 _ _ ht1
    have he2 := s2 _ _ he1
    have ntH : ∀ a o, H a = some o → a ≠ t := fun a o h => ne_of_none h nt
    have ntp : p ≠ t := fun z => by
      rw [z, ht2] at hp2
      cases hp2
    have lq : qs.length = ns.length := by rw [pm.length_eq, List.length_map]
    have ndq : qs.Nodup := pm.nodup_iff.mpr ndn
    refine ⟨p, rfl, ⟨_, SqL.of hp2⟩, for_list (K := K) (a := p) (xs := qs.map V.int) (fun i σ Hc => ∃ (z3 : Option V) (os : List (Int × Option Int)), σ = [some (.ref d), some (.ref e), some (.ref t), z3, none] ∧ Hc t = some (.dK (tbG vw os)) ∧ (os.map (·.1)).Nodup ∧
        (∀ y, y ∈ os ↔ (y ∈ ns ∧ y.1 ∈ qs.take i) ∨ (y ∈ os0 ∧ y.1 ∉ qs.take i)) ∧ os.length ≤ ps.length + i ∧ ∀ a o, a ≠ t → H2 a = some o → Hc a = some o)
      ⟨none, os0, rfl, ht2, (by rw [ek]; exact ndp), (fun y => by rw [List.take_zero]; exact ⟨fun h => .inr ⟨h, List.not_mem_nil⟩, fun h => h.elim (fun z => absurd z.2 List.not_mem_nil) fun z => z.1⟩), (by rw [← eo, List.length_map]; exact Nat.le_refl _), fun a o _ h => h⟩
      (fun i σ Hc _ ⟨_, _, _, _, _, _, _, kc⟩ => SqL.of (kc _ _ ntp hp2)) ?_ ?_⟩
    · rintro i v σ Hc hv ⟨z3, os, rfl, ht, ndo, mem, lo, kc⟩
      rw [List.getElem?_map] at hv
      obtain ⟨x, ex, rfl⟩ := Option.map_eq_some_iff.mp hv
      have il : i < qs.length := (List.getElem?_eq_some_iff.mp ex).1
      have xn : x ∈ ns.map (·.1) := pm.mem_iff.mp (List.mem_of_getElem? ex)
      obtain ⟨⟨x, o⟩, hxo, rfl⟩ := List.mem_map.mp xn
      have hec := kc _ _ (ntH _ _ he) he2
      have gd : DGet Hc e (kV (.inl x)) (valV (tbG vw ns) (.inl x)) := DGet.k hec
      rw [g_val hxo ndn] at gd
      have tk : qs.take (i + 1) = qs.take i ++ [x] := take_snoc ex
      refine ⟨_, rfl, _, rfl, e, _, rfl, gd, _, rfl, _, rfl, t, _, rfl, DPut.k (k := .inl x) (v := vw o) ht (small1000 (by unfold tbG; rw [List.length_map]; omega)), some (.int x), putL os x o, rfl, ?_, putL_nd ndo, fun y => ?_, ?_, fun a ob n h => (upd_ne n).trans (kc a ob n h)⟩
      · rw [upd_same, put_g]
      · rw [mem_putL, tk, List.mem_append, List.mem_singleton, mem y]
        constructor
        · rintro (rfl | ⟨h | h, n⟩)
          · exact .inl ⟨hxo, .inr rfl⟩
          · exact .inl ⟨h.1, .inl h.2⟩
          · exact .inr ⟨h.1, fun z => z.elim h.2 n⟩
        · rintro (⟨h1, h2⟩ | ⟨h1, h2⟩)
          · by_cases c : y.1 = x
            · exact .inl (one_g ndn h1 hxo c)
            · exact .inr ⟨.inl ⟨h1, h2.resolve_right c⟩, c⟩
          · exact .inr ⟨.inr ⟨h1, fun z => h2 (.inl z)⟩, fun z => h2 (.inr z)⟩
      · exact Nat.le_trans putL_len (by omega)
    · rintro σ Hc ⟨z3, os, rfl, ht, ndo, mem, lo, kc⟩
      rw [List.length_map] at mem lo
      rw [List.take_length] at mem
      refine fun r nr => ?_
      have s4 := same_new (o := .dK []) nr
      obtain ⟨H4, e4⟩ : ∃ H4, upd Hc r (.dK []) = H4 := ⟨_, rfl⟩
      have hr4 : H4 r = some (.dK (tbG V.int [])) := by
        rw [← e4]
        exact upd_same
      rw [e4] at s4 ⊢
      have ht4 := s4 _ _ ht
      have rt : r ≠ t := fun z => by
        rw [z, ht] at nr
        cases nr
      refine ⟨_, rfl, t, _, _, rfl, .inl ht4, g_keys vw os, fun ks pk pmk upk npk => ?_⟩
      have s5 := same_new (o := .lst (ks.map V.int)) npk
      obtain ⟨H5, e5⟩ : ∃ H5, upd H4 pk (.lst (ks.map V.int)) = H5 := ⟨_, rfl⟩
      have hp5 : H5 pk = some (.lst (ks.map V.int)) := by
        rw [← e5]
        exact upd_same
      rw [e5] at s5 ⊢
      have ht5 := s5 _ _ ht4
      have hr5 := s5 _ _ hr4
      have npr : pk ≠ r := fun z => by
        rw [z, hr4] at npk
        cases npk
      have lk : ks.length = os.length := by rw [pmk.length_eq, List.length_map]
      have ndk : ks.Nodup := pmk.nodup_iff.mpr ndo
      have old : ∀ a o, a ≠ t → H a = some o → H5 a = some o := fun a o n h => s5 _ _ (s4 _ _ (kc a o n (s2 _ _ (s1 _ _ h))))
      have nrH : H r = none := by
        cases z : H r with
        | none => rfl
        | some o =>
          rw [kc r o rt (s2 _ _ (s1 _ _ z))] at nr
          cases nr
      refine ⟨pk, rfl, ⟨_, SqL.of hp5⟩, for_list (K := K) (a := pk) (xs := ks.map V.int) (fun j σ Hd => ∃ (z3 : Option V) (rs : List Pt), σ = [some (.ref d), some (.ref e), some (.ref t), z3, some (.ref r)] ∧ Hd r = some (.dK (tbG V.int rs)) ∧ (rs.map (·.1)).Nodup ∧
          (∀ y, y ∈ rs ↔ (y.1, some y.2) ∈ os ∧ y.1 ∈ ks.take j) ∧ rs.length ≤ j ∧ ∀ a o, a ≠ r → H5 a = some o → Hd a = some o)
        ⟨z3, [], rfl, hr5, List.nodup_nil, (fun y => by rw [List.take_zero]; exact ⟨fun h => absurd h List.not_mem_nil, fun h => absurd h.2 List.not_mem_nil⟩), Nat.zero_le _, fun a o _ h => h⟩
        (fun j σ Hd _ ⟨_, _, _, _, _, _, _, kd⟩ => SqL.of (kd _ _ npr hp5)) ?_ ?_⟩
      · rintro j v σ Hd hv ⟨z3, rs, rfl, hrd, ndr, memr, lr, kd⟩
        rw [List.getElem?_map] at hv
        obtain ⟨x, ex, rfl⟩ := Option.map_eq_some_iff.mp hv
        have jl : j < ks.length := (List.getElem?_eq_some_iff.mp ex).1
        obtain ⟨⟨x, o⟩, hxo, rfl⟩ := List.mem_map.mp (pmk.mem_iff.mp (List.mem_of_getElem? ex))
        have gd : DGet Hd t (kV (.inl x)) (valV (tbG vw os) (.inl x)) := DGet.k (kd _ _ rt.symm ht5)
        rw [g_val hxo ndo] at gd
        have tk : ks.take (j + 1) = ks.take j ++ [x] := take_snoc ex
        refine ⟨_, rfl, _, rfl, t, _, rfl, gd, rfl, _, rfl, ?_⟩
        cases o with
        | none =>
          refine if_f ⟨_, rs, rfl, hrd, ndr, fun y => ?_, by omega, kd⟩
          rw [memr y, tk, List.mem_append, List.mem_singleton]
          refine ⟨fun h => ⟨h.1, .inl h.2⟩, fun h => ⟨h.1, h.2.resolve_right fun z => ?_⟩⟩
          have w := one_g ndo h.1 hxo z
          cases w
        | some z =>
          refine if_t ⟨_, rfl, _, rfl, t, _, rfl, gd, _, rfl, _, rfl, r, _, rfl, DPut.k (k := .inl x) (v := .int z) hrd (small1000 (by unfold tbG; rw [List.length_map]; omega)), some (.int x), putL rs x z, rfl, ?_, putL_nd ndr, fun y => ?_, ?_, fun a ob n h => (upd_ne n).trans (kd a ob n h)⟩
          · exact upd_same.trans (congrArg (fun m => some (HO.dK m)) (put_g V.int rs x z))
          · rw [mem_putL, tk, List.mem_append, List.mem_singleton, memr y]
            constructor
            · rintro (rfl | ⟨h, n⟩)
              · exact ⟨hxo, .inr rfl⟩
              · exact ⟨h.1, .inl h.2⟩
            · rintro ⟨h1, h2⟩
              by_cases c : y.1 = x
              · have w := one_g ndo h1 hxo c
                left
                exact Prod.ext c (Option.some.inj (congrArg Prod.snd w))
              · exact .inr ⟨⟨h1, h2.resolve_right c⟩, c⟩
          · exact Nat.le_trans putL_len (by omega)
      · rintro σ Hd ⟨z3, rs, rfl, hrd, ndr, memr, lr, kd⟩
        rw [List.length_map] at memr lr
        rw [List.take_length] at memr
        refine ⟨_, rfl, q r rs Hd (fun a o h => kd a o (ne_of_none h nrH) (old a o (ntH a o h) h)) nrH ⟨ndr, fun y => ?_, by omega⟩ hrd⟩
        rw [memr y, pmk.mem_iff, mem]
        have kn : ∀ x : Int, x ∈ qs ↔ x ∈ ns.map (·.1) := fun x => pm.mem_iff
        rw [kn]
        constructor
        · rintro ⟨h | h, _⟩
          · exact .inl h.1
          · refine .inr ⟨?_, h.2⟩
            have h1 := h.1
            rw [← eo] at h1
            obtain ⟨w, hw, ew⟩ := List.mem_map.mp h1
            cases w
            cases ew
            exact hw
        · rintro (h | ⟨h1, h2⟩)
          · have hn : y.1 ∈ ns.map (·.1) := List.mem_map.mpr ⟨_, h, rfl⟩
            exact ⟨.inl ⟨h, hn⟩, List.mem_map.mpr ⟨(y.1, some y.2), (mem _).mpr (.inl ⟨h, (kn _).mpr hn⟩), rfl⟩⟩
          · have h0 : (y.1, some y.2) ∈ os0 := by
              rw [← eo]
              exact List.mem_map.mpr ⟨y, h1, rfl⟩
            exact ⟨.inr ⟨h0, h2⟩, List.mem_map.mpr ⟨(y.1, some y.2), (mem _).mpr (.inr ⟨h0, fun z => h2 ((kn _).mp z)⟩), rfl⟩⟩
end
end Tg

set_option maxHeartbeats 2000000
namespace Tg
open PySem PySem.Spec PyProof.Rows L2
/-! ### the news that are drawn -/
set_option maxHeartbeats 2000000
set_option maxHeartbeats 2000000
abbrev sNe : Stmt := topS 38
abbrev NNe : List Str := ["_law_purse_here", "_law_table", "_law_base_here", "_law_widths_here", "_law_way", "_law_found", "_law_k", "_law_times", "_law_first", "_law_time_here"]
theorem scNe : FnScope NNe ["_law_purse_here", "_law_table", "_law_base_here", "_law_widths_here"] (defScope sNe) := ⟨rfl, rfl, rfl, by decide +kernel, rfl, by decide +kernel, by decide +kernel⟩
theorem cut_two (ns : List Int) (f m : Nat) : ∃ ms : List Int, cutV (ns.map V.int) (some (f : Int)) (some (m : Int)) = ms.map V.int ∧ ms.length ≤ m - f ∧ ms.Sublist ns := by
  unfold cutV
  rw [HT.sIx_nat, HT.sIx_nat, ← List.map_drop, ← List.map_take]
  refine ⟨_, rfl, ?_, (List.take_sublist _ _).trans (List.drop_sublist _ _)⟩
  rw [List.length_take, List.length_map]
  omega
/-- what a deed may tell -/
structure NewsOk (ps : List Pt) (ns : List (Int × Option Int)) : Prop where
  nd : (ns.map (·.1)).Nodup
  few : ns.length ≤ 8
  sz : ∀ p x, p ∈ ns → p.2 = some x → x.natAbs ≤ 10 ^ 14
  at_ : ∀ p, p ∈ ns → p.1.natAbs ≤ 10 ^ 15 ∨ p.1 ∈ ps.map (·.1)
theorem NewsOk.nil (ps : List Pt) : NewsOk ps [] := ⟨List.nodup_nil, Nat.zero_le _, (fun _ _ h => absurd h List.not_mem_nil), fun _ h => absurd h List.not_mem_nil⟩
theorem NewsOk.put {ps : List Pt} {ns : List (Int × Option Int)} {t : Int} {o : Option Int} (h : NewsOk ps ns) (few : ns.length < 8) (hs : ∀ x, o = some x → x.natAbs ≤ 10 ^ 14) (ht : t.natAbs ≤ 10 ^ 15 ∨ t ∈ ps.map (·.1)) : NewsOk ps (putL ns t o) := by
  refine ⟨putL_nd h.nd, Nat.le_trans putL_len (by omega), fun p x hp e => ?_, fun p hp => ?_⟩
  · rcases mem_putL.mp hp with rfl | ⟨hp, _⟩
    · exact hs x e
    · exact h.sz p x hp e
  · rcases mem_putL.mp hp with rfl | ⟨hp, _⟩
    · exact ht
    · exact h.at_ p hp
theorem NewsOk.one {ps : List Pt} {t : Int} {o : Option Int} (hs : ∀ x, o = some x → x.natAbs ≤ 10 ^ 14) (ht : t.natAbs ≤ 10 ^ 15 ∨ t ∈ ps.map (·.1)) : NewsOk ps [(t, o)] := (NewsOk.nil ps).put (by decide) hs ht
/-- a table as data -/
def tbD (ps : List Pt) : List (Key × PyData) := ps.map fun p => ((Sum.inl p.1 : Key), PyData.int p.2)
theorem tb_dpk (K : PySem.W.Frag) (H : Hp) : ∀ ps : List Pt, DpK K H (tbG V.int ps) (tbD ps)
  | [] => .nil
  | p :: ps => .cons ⟨rfl, .int _, rfl⟩ (tb_dpk K H ps)
theorem tbD_nil (ps : List Pt) : eqvK (tbD ps) [] = decide (ps = []) := by
  cases ps with
  | nil => rfl
  | cons p r => rfl
theorem fin_new {H Hx : Hp} {p r : Addr} (kx : Kp p H Hx) (px : ∃ o, Hx p = some o) (nr : Hx r = none) : H r = none := by
  cases z : H r with
  | none => rfl
  | some o =>
    have ne : r ≠ p := fun y => by
      obtain ⟨u, hu⟩ := px
      rw [y, hu] at nr
      cases nr
    rw [kx _ _ ne z] at nr
    cases nr
theorem Pu.at_ {H : Hp} {p : Addr} {n : Nat} (d : Pu H p n) : ∃ o, H p = some o := by
  obtain ⟨_, _, _, z, _⟩ := d
  exact ⟨_, z⟩
theorem Pu.put {H : Hp} {p r : Addr} {n : Nat} {o : HO} (d : Pu H p n) (h : r ≠ p) : Pu (upd H r o) p n := by
  obtain ⟨a, c, k, e, r0⟩ := d
  exact ⟨a, c, k, (upd_ne h.symm).trans e, r0⟩
section
variable {P : Program} {w : World} {K : PySem.W.Frag} {mg : Str → Option Value} {base : Heap}
def spNe (K : PySem.W.Frag) : Sp := fun vs H Q _ => ∃ (p d wa : Addr) (n : Nat) (ws : List Int) (b : Int) (ps : List Pt), vs = [.ref p, .ref d, .int b, .ref wa] ∧ Pu H p n ∧ n < 2 ^ 36 ∧ SqT K H wa (ws.map V.int) ∧ WOk ws ∧ b.natAbs ≤ 10 ^ 14 ∧ H d = some (.dK (tbG V.int ps)) ∧ (ps.map (·.1)).Nodup ∧ ps.length ≤ 500 ∧
  ∀ r ns H', Kp p H H' → Pu H' p (n + 200) → H r = none → NewsOk ps ns → H' r = some (.dK (tbG vw ns)) → Q (.ref r) H'
theorem ok_ne {f : Addr} {fd : FuncData} {k : Nat} (F : Fun K "_law_news" "_law_news" sNe f fd) (L_draw : CDraw P w K mg base k) (L_time : Cal P w K mg base k "_law_time" ["_law_purse_here", "_law_base_here", "_law_widths_here"] (spTi K)) (L_worth : Cal P w K mg base k "_law_worth" ["_law_purse_here"] spWo) (m_sorted : mg "sorted" = none) (m_len : mg "len" = none) (m_range : mg "range" = none) :
    FnOk P w K mg base CX0 (k + 1) f fd ["_law_purse_here", "_law_table", "_law_base_here", "_law_widths_here"] (spNe K) := by
  refine F.ok scNe (fun vs H Q E h => ?_) (fun cdv A outer s H vs Q E hr h => ?_)
  · obtain ⟨p, d, wa, n, ws, b, ps, rfl, _⟩ := h
    rfl
  · obtain ⟨p, d, wa, n, ws, b, ps, rfl, hp, hn, hw, ok, hb, hd, nd, lp, q⟩ := h
    have hu := hu_of hr
    have hk : (A.deeper (envOfC "_law_news" (defScope sNe) s.heap.objs.size f cdv)).units + 65 < cLine := by have := hr.un; omega
    refine ⟨_, pss_cons (ps_set (i := 4) scNe.nd rfl (.inl rfl) (pe_cal L_draw (hr.mono (by omega)) (by rfl) (pa_cons (pv 0) (pa_cons pe_int pa_nil))))
      (pss_cons (ps_if (PW.pt (pw_or (pt_cmpR op_lt (pv 4) pe_int (nomark _)) (pw_or1 (pt_cmpR (op_eqK hk) (pv 1) pe_dnewK (nomark _)))))
        (pss_one (ps_ret (pe_disp (pps_cons (pe_cal L_time (hr.mono (by omega)) (by rfl) (pa_cons (pv 0) (pa_cons (pv 2) (pa_cons (pv 3) pa_nil)))) (pe_cal L_worth (hr.mono (by omega)) (by rfl) (pa_cons (pv 0) pa_nil)) pps_nil) rfl rfl (by decide) (by decide))))
        pss_nil)
      (pss_cons (ps_if (pt_cmpR op_eq (pv 4) pe_int (nomark _))
        (pss_cons (ps_set (i := 5) scNe.nd rfl (.inl rfl) pe_dnewK)
        (pss_cons (ps_for PassesOwn.never rfl (pi_range1 (by rfl) m_range (pa_cons (pe_cal L_draw (hr.mono (by omega)) (by rfl) (pa_cons (pv 0) (pa_cons pe_int pa_nil))) pa_nil)) (pg_name (i := 6) scNe.nd rfl (.inl rfl))
          (pss_one (ps_dput hu (pv 5) (pe_cal L_time (hr.mono (by omega)) (by rfl) (pa_cons (pv 0) (pa_cons (pv 2) (pa_cons (pv 3) pa_nil)))) (pe_cal L_worth (hr.mono (by omega)) (by rfl) (pa_cons (pv 0) pa_nil)) rfl)))
        (pss_one (ps_ret (pv 5)))))
        pss_nil)
      (pss_cons (ps_set (i := 7) scNe.nd rfl (.inl rfl) (pe_callB (cr_sortedDI rfl) (by rfl) m_sorted (by decide +kernel) (pa_cons (pv 1) pa_nil)))
      (pss_cons (ps_if (pt_cmpR op_eq (pv 4) pe_int (nomark _))
        (pss_one (ps_ret (pe_disp (pps_cons (pe_ix ix_list (pv 7) (pe_cal L_draw (hr.mono (by omega)) (by rfl) (pa_cons (pv 0) (pa_cons (pe_callB call_len_seq (by rfl) m_len (by decide +kernel) (pa_cons (pv 7) pa_nil)) pa_nil))) (fun _ _ => rfl)) (pe_ix ix_list (pe_lst (pa_cons (pe_cal L_worth (hr.mono (by omega)) (by rfl) (pa_cons (pv 0) pa_nil)) (pa_cons pe_non pa_nil))) (pe_cal L_draw (hr.mono (by omega)) (by rfl) (pa_cons (pv 0) (pa_cons pe_int pa_nil))) (fun _ _ => rfl)) pps_nil) rfl rfl (by decide) (by decide))))
        pss_nil)
      (pss_cons (ps_set (i := 8) scNe.nd rfl (.inl rfl) (pe_cal L_draw (hr.mono (by omega)) (by rfl) (pa_cons (pv 0) (pa_cons (pe_callB call_len_seq (by rfl) m_len (by decide +kernel) (pa_cons (pv 7) pa_nil)) pa_nil))))
      (pss_cons (ps_set (i := 5) scNe.nd rfl (.inl rfl) pe_dnewK)
      (pss_cons (ps_for PassesOwn.never rfl (pi_list (pe_slice sl_list (pv 7) (po_some (pv 8)) (po_some (pe_op op_add (pe_op op_add (pv 8) pe_int) (pe_cal L_draw (hr.mono (by omega)) (by rfl) (pa_cons (pv 0) (pa_cons pe_int pa_nil))))))) (pg_name (i := 9) scNe.nd rfl (.inl rfl))
        (pss_one (ps_dput hu (pv 5) (pv 9) pe_non rfl)))
      (pss_one (ps_ret (pv 5)))))))))), ?_⟩
    refine ⟨_, rfl, p, n, 8, rfl, hp, by omega, by decide, by decide, fun way H1 k1 p1 v0 v1 => ?_⟩
    have hd1 : H1 d = some (.dK (tbG V.int ps)) := k1 _ _ (fun z => by
      obtain ⟨_, _, _, z2, _⟩ := hp
      rw [z, z2] at hd
      cases hd) hd
    have hw1 := sqT_kt (hp.kt k1) hw
    by_cases c : way < 4
    · refine ⟨_, rfl, _, _, rfl, rfl, decide (way < 4), rfl, ?_⟩
      rw [decide_eq_true c]
      refine if_t (if_t ?_)
      refine fun r nr => ?_
      have sr := same_new (o := .dK []) nr
      have nrH := fin_new k1 p1.at_ nr
      refine ⟨_, rfl, _, rfl, _, rfl, p, wa, n + 2, ws, b, rfl, p1.same sr, by omega, sqT_same sr hw1, ok, hb, fun t H3 k3 p3 tb => ?_⟩
      refine ⟨_, rfl, p, n + 10, rfl, p3, by omega, fun x H4 k4 p4 xb => ?_⟩
      have rp : r ≠ p := p1.ne nr
      have hr4 : H4 r = some (.dK []) := k4 _ _ rp (k3 _ _ rp upd_same)
      refine ⟨hr4, [((.inl t : Key), .int x)], rfl, by show 1 ≤ 15; decide, ?_⟩
      refine q r [(t, some x)] _ (fun a o na h => ?_) (Pu.put (p4.mono (by omega)) rp) nrH (.one (fun y e => by cases e; exact xb) (.inl tb)) upd_same
      rw [upd_ne (ne_of_none h nrH)]
      exact k4 _ _ na (k3 _ _ na (sr _ _ (k1 _ _ na h)))
    refine ⟨_, rfl, _, _, rfl, rfl, decide (way < 4), rfl, ?_⟩
    rw [decide_eq_false c]
    refine if_f ⟨_, rfl, fun e ne => ?_⟩
    have se := same_new (o := .dK []) ne
    have k2 : Kp p H (upd H1 e (.dK [])) := k1.trans (.of se)
    have p2 := p1.same se
    have hw2 := sqT_same se hw1
    have hd2 := se _ _ hd1
    refine ⟨d, e, _, _, tbD ps, [], rfl, rfl, hd2, upd_same, tb_dpk K _ ps, .nil, decide (ps = []), by rw [if_neg Bool.false_ne_true, tbD_nil], ?_⟩
    obtain ⟨H2, e2⟩ : ∃ H2, upd H1 e (.dK []) = H2 := ⟨_, rfl⟩
    rw [e2] at k2 p2 hw2 hd2 ⊢
    by_cases hps : ps = []
    · rw [decide_eq_true hps]
      refine if_t ?_
      refine fun r nr => ?_
      have sr := same_new (o := .dK []) nr
      have nrH := fin_new k2 p2.at_ nr
      refine ⟨_, rfl, _, rfl, _, rfl, p, wa, n + 2, ws, b, rfl, p2.same sr, by omega, sqT_same sr hw2, ok, hb, fun t H3 k3 p3 tb => ?_⟩
      refine ⟨_, rfl, p, n + 10, rfl, p3, by omega, fun x H4 k4 p4 xb => ?_⟩
      have rp : r ≠ p := p2.ne nr
      have hr4 : H4 r = some (.dK []) := k4 _ _ rp (k3 _ _ rp upd_same)
      refine ⟨hr4, [((.inl t : Key), .int x)], rfl, by show 1 ≤ 15; decide, ?_⟩
      refine q r [(t, some x)] _ (fun a o na h => ?_) (Pu.put (p4.mono (by omega)) rp) nrH (.one (fun y e => by cases e; exact xb) (.inl tb)) upd_same
      rw [upd_ne (ne_of_none h nrH)]
      exact k4 _ _ na (k3 _ _ na (sr _ _ (k2 _ _ na h)))
    rw [decide_eq_false hps]
    refine if_f ?_
    refine ⟨_, rfl, rfl, _, rfl, ite2 (fun g => ?_) (fun g => ?_)⟩
    · refine fun r nr => ?_
      have s3 := same_new (o := .dK []) nr
      have k3 : Kp p H (upd H2 r (.dK [])) := k2.trans (.of s3)
      have nrH := fin_new k2 p2.at_ nr
      have rp : r ≠ p := p2.ne nr
      refine ⟨_, rfl, p, n + 2, 6, rfl, p2.same s3, by omega, by decide, by decide, fun cv H4 k4 p4 c0 c1 => ?_⟩
      have hr4 : H4 r = some (.dK (tbG vw [])) := k4 _ _ rp upd_same
      refine ⟨_, rfl, by omega, by omega, ?_⟩
      obtain ⟨cn, ec⟩ : ∃ cn : Nat, cv.toNat = cn := ⟨_, rfl⟩
      have cn6 : cn ≤ 6 := by omega
      rw [ec]
      have hw4 := sqT_kt ((p2.same s3).kt k4) (sqT_same s3 hw2)
      refine for_range (n := cn) (fun i σ Hc => ∃ (ns : List (Int × Option Int)) (z6 : Option V), σ = [some (.ref p), some (.ref d), some (.int b), some (.ref wa), some (.int way), some (.ref r), z6, none, none, none] ∧ Pu Hc p (n + 4 + 12 * i) ∧ Hc r = some (.dK (tbG vw ns)) ∧ NewsOk ps ns ∧ ns.length ≤ i ∧ SqT K Hc wa (ws.map V.int) ∧ Kp p H Hc) ?_ ?_ ?_
      · exact ⟨[], none, rfl, p4, hr4, .nil ps, Nat.le_refl _, hw4, k3.trans k4⟩
      · rintro i σ Hc hi ⟨ns, z6, rfl, pc, hrc, okn, ln, hwc, kc⟩
        refine ⟨_, rfl, p, _, rfl, pc, by omega, fun x H5 k5 p5 xb => ?_⟩
        have hw5 := sqT_kt (pc.kt k5) hwc
        refine ⟨_, rfl, _, rfl, _, rfl, _, rfl, p, wa, _, ws, b, rfl, p5, by omega, hw5, ok, hb, fun t H6 k6 p6 tb => ?_⟩
        have hr6 : H6 r = some (.dK (tbG vw ns)) := k6 _ _ rp (k5 _ _ rp hrc)
        refine ⟨r, _, rfl, DPut.k (k := .inl t) (v := vw (some x)) hr6 (small1000 (by unfold tbG; rw [List.length_map]; omega)), putL ns t (some x), _, rfl, ?_, ?_, okn.put (by omega) (fun y e => by cases e; exact xb) (.inl tb), ?_, ?_, fun a o na h => ?_⟩
        · exact Pu.put (p6.mono (by omega)) rp
        · rw [upd_same, put_g]
        · exact Nat.le_trans putL_len (by omega)
        · exact sqT_kt (KT.put hr6 (fun z => z)) (sqT_kt (p5.kt k6) hw5)
        · rw [upd_ne (ne_of_none h nrH)]
          exact k6 _ _ na (k5 _ _ na (kc _ _ na h))
      · rintro σ Hc ⟨ns, z6, rfl, pc, hrc, okn, ln, hwc, kc⟩
        exact ⟨_, rfl, q r ns Hc kc (pc.mono (by omega)) nrH okn hrc⟩
    refine ⟨_, rfl, d, _, _, rfl, .inl hd2, g_keys V.int ps, fun qs l pm up nl => ?_⟩
    have s3 := same_new (o := .lst (qs.map V.int)) nl
    obtain ⟨H3, e3⟩ : ∃ H3, upd H2 l (.lst (qs.map V.int)) = H3 := ⟨_, rfl⟩
    have hl3 : H3 l = some (.lst (qs.map V.int)) := by
      rw [← e3]
      exact upd_same
    have k3 : Kp p H H3 := by
      rw [← e3]
      exact k2.trans (.of s3)
    rw [e3] at s3 ⊢
    have p3 := p2.same s3
    have lpn : l ≠ p := p2.ne nl
    have lq : qs.length = ps.length := by rw [pm.length_eq, List.length_map]
    have ndq : qs.Nodup := pm.nodup_iff.mpr nd
    have l0 : 0 < qs.length := by
      rw [lq]
      exact List.length_pos_iff.mpr hps
    have lV : (qs.map V.int).length = qs.length := List.length_map ..
    refine ⟨_, rfl, rfl, _, rfl, ite2 (fun g5 => ?_) (fun g5 => ?_)⟩
    · refine fun r nr => ?_
      have nrH := fin_new k3 p3.at_ nr
      have rp : r ≠ p := p3.ne nr
      have s4 := same_new (o := .dK []) nr
      refine ⟨_, rfl, _, rfl, _, rfl, l, _, rfl, .inl (SqL.of (s4 _ _ hl3)), p, n + 2, _, rfl, p3.same s4, by omega, by rw [lV]; omega, by rw [lV]; omega, fun v H5 k5 p5 v0 v1 => ?_⟩
      obtain ⟨t, ht, et⟩ := atI_mem (xs := qs) (i := v) v0 (by rw [lV] at v1; exact v1)
      have hl5 : H5 l = some (.lst (qs.map V.int)) := k5 _ _ lpn (s4 _ _ hl3)
      refine ⟨l, _, v, .int t, rfl, rfl, SqL.of hl5, et, ?_⟩
      refine ⟨_, rfl, p, n + 4, rfl, p5, by omega, fun x H6 k6 p6 xb => ⟨by show 2 ≤ sizeLine; decide, fun m nm => ?_⟩⟩
      have s7 := same_new (o := .lst [.int x, .non]) nm
      refine ⟨_, rfl, p, n + 8, 2, rfl, p6.same s7, by omega, by decide, by decide, fun u H7 k7 p7 u0 u1 => ?_⟩
      have hm7 : H7 m = some (.lst [.int x, .non]) := k7 _ _ (p6.ne nm) upd_same
      obtain ⟨o, eo, os⟩ : ∃ o : Option Int, atI [V.int x, .non] u = some (vw o) ∧ ∀ y, o = some y → y.natAbs ≤ 10 ^ 14 := by
        have : u = 0 ∨ u = 1 := by omega
        rcases this with rfl | rfl
        · exact ⟨some x, rfl, fun y e => by cases e; exact xb⟩
        · exact ⟨none, rfl, fun y e => by cases e⟩
      refine ⟨m, _, u, vw o, rfl, rfl, SqL.of hm7, eo, ?_⟩
      have hr7 : H7 r = some (.dK []) := k7 _ _ rp (s7 _ _ (k6 _ _ rp (k5 _ _ rp upd_same)))
      refine ⟨hr7, [((.inl t : Key), vw o)], rfl, by show 1 ≤ 15; decide, ?_⟩
      refine q r [(t, o)] _ (fun a ob na h => ?_) (Pu.put (p7.mono (by omega)) rp) nrH (.one os (.inr (pm.mem_iff.mp ht))) upd_same
      rw [upd_ne (ne_of_none h nrH)]
      exact k7 _ _ na (s7 _ _ (k6 _ _ na (k5 _ _ na (s4 _ _ (k3 _ _ na h)))))
    · refine ⟨_, rfl, _, rfl, l, _, rfl, .inl (SqL.of hl3), p, n + 2, _, rfl, p3, by omega, by rw [lV]; omega, by rw [lV]; omega, fun fi H4 k4 p4 f0 f1 => ?_⟩
      obtain ⟨fn, rfl⟩ : ∃ fn : Nat, fi = (fn : Int) := ⟨fi.toNat, by omega⟩
      have k34 : Kp p H H4 := k3.trans k4
      refine fun r nr => ?_
      have nrH := fin_new k34 p4.at_ nr
      have rp : r ≠ p := p4.ne nr
      have s5 := same_new (o := .dK []) nr
      have hl5 := s5 _ _ (k4 _ _ lpn hl3)
      refine ⟨_, rfl, _, rfl, _, rfl, _, rfl, _, _, rfl, rfl, _, rfl, p, n + 4, 8, rfl, p4.same s5, by omega, by decide, by decide, fun u H6 k6 p6 u0 u1 => ?_⟩
      obtain ⟨un, rfl⟩ : ∃ un : Nat, u = (un : Int) := ⟨u.toNat, by omega⟩
      have hl6 : H6 l = some (.lst (qs.map V.int)) := k6 _ _ lpn hl5
      refine ⟨_, _, rfl, rfl, _, rfl, l, _, rfl, SqL.of hl6, fun S nS => ?_⟩
      obtain ⟨ms, em, lm, sub⟩ := cut_two qs fn (fn + 1 + un)
      have eu : ((fn : Int) + 1 + (un : Int)) = ((fn + 1 + un : Nat) : Int) := by omega
      rw [← eu] at em
      rw [em]
      have s7 := same_new (o := .lst (ms.map V.int)) nS
      obtain ⟨H7, e7⟩ : ∃ H7, upd H6 S (.lst (ms.map V.int)) = H7 := ⟨_, rfl⟩
      have hS7 : H7 S = some (.lst (ms.map V.int)) := by
        rw [← e7]
        exact upd_same
      rw [e7] at s7 ⊢
      have hr6 : H6 r = some (.dK (tbG vw [])) := k6 _ _ rp upd_same
      have Sr : S ≠ r := fun z => by
        rw [z, hr6] at nS
        cases nS
      have k7 : Kp p H H7 := ((k34.trans (.of s5)).trans k6).trans (.of s7)
      refine ⟨S, rfl, ⟨_, SqL.of hS7⟩, for_list (K := K) (a := S) (xs := ms.map V.int) (fun i σ Hc => ∃ (ns : List (Int × Option Int)) (z9 : Option V), σ = [some (.ref p), some (.ref d), some (.int b), some (.ref wa), some (.int way), some (.ref r), none, some (.ref l), some (.int fn), z9] ∧ Pu Hc p (n + 6) ∧ Hc r = some (.dK (tbG vw ns)) ∧ NewsOk ps ns ∧ ns.length ≤ i ∧ Hc S = some (.lst (ms.map V.int)) ∧ Kp p H Hc)
        ⟨[], none, rfl, p6.same s7, s7 _ _ hr6, .nil ps, Nat.le_refl _, hS7, k7⟩ (fun i σ Hc _ ⟨_, _, _, _, _, _, _, hS, _⟩ => SqL.of hS) ?_ ?_⟩
      · rintro i v σ Hc hv ⟨ns, z9, rfl, pc, hrc, okn, ln, hS, kc⟩
        rw [List.getElem?_map] at hv
        obtain ⟨x, ex, rfl⟩ := Option.map_eq_some_iff.mp hv
        have il : i < ms.length := (List.getElem?_eq_some_iff.mp ex).1
        have xin : x ∈ ps.map (·.1) := pm.mem_iff.mp (sub.subset (List.mem_of_getElem? ex))
        refine ⟨_, rfl, _, rfl, r, _, rfl, DPut.k (k := .inl x) (v := vw none) hrc (small1000 (by unfold tbG; rw [List.length_map]; omega)), putL ns x none, _, rfl, pc.put rp, ?_, okn.put (by omega) (fun y e => by cases e) (.inr xin), Nat.le_trans putL_len (by omega), (upd_ne Sr).trans hS, fun a o na h => ?_⟩
        · rw [upd_same, put_g]
        · rw [upd_ne (ne_of_none h nrH)]
          exact kc _ _ na h
      · rintro σ Hc ⟨ns, z9, rfl, pc, hrc, okn, ln, hS, kc⟩
        exact ⟨_, rfl, q r ns Hc kc (pc.mono (by omega)) nrH okn hrc⟩
end
end Tg

set_option maxHeartbeats 2000000
namespace Tg
open PySem PySem.Spec PyProof.Rows L2
/-! ### the cells that times are in, by rising starts -/
set_option maxHeartbeats 2000000
set_option maxHeartbeats 2000000
def sortIn (x : Int) : List Int → List Int
  | [] => [x]
  | y :: r => if x < y then x :: y :: r else if x = y then y :: r else y :: sortIn x r
theorem mem_sortIn {x z : Int} : ∀ {l : List Int}, z ∈ sortIn x l ↔ z = x ∨ z ∈ l
  | [] => by
    unfold sortIn
    rw [List.mem_singleton]
    exact ⟨.inl, fun h => h.elim id fun h => absurd h List.not_mem_nil⟩
  | y :: r => by
    unfold sortIn
    split
    · rw [List.mem_cons]
    · split
      · rename_i e
        rw [List.mem_cons, e]
        exact ⟨.inr, fun h => h.elim .inl id⟩
      · rw [List.mem_cons, mem_sortIn, List.mem_cons]
        exact ⟨fun h => h.elim (fun h => .inr (.inl h)) fun h => h.elim .inl fun h => .inr (.inr h), fun h => h.elim (fun h => .inr (.inl h)) fun h => h.elim .inl fun h => .inr (.inr h)⟩
theorem ups_sortIn {x : Int} : ∀ {l : List Int}, l.Pairwise (· < ·) → (sortIn x l).Pairwise (· < ·)
  | [], _ => List.pairwise_singleton _ _
  | y :: r, h => by
    have ⟨h1, h2⟩ := List.pairwise_cons.mp h
    unfold sortIn
    split
    · rename_i c
      refine List.pairwise_cons.mpr ⟨fun z hz => ?_, h⟩
      rcases List.mem_cons.mp hz with same | hz
      · rw [same]
        exact c
      · exact Int.lt_trans c (h1 z hz)
    · split
      · exact h
      · refine List.pairwise_cons.mpr ⟨fun z hz => ?_, ups_sortIn h2⟩
        rcases mem_sortIn.mp hz with rfl | hz
        · omega
        · exact h1 z hz
def startsF (ts : List Int) (x : Int) : List Int := ts.foldr (fun t l => sortIn (t / x * x) l) []
theorem starts_up (x : Int) : ∀ ts : List Int, (startsF ts x).Pairwise (· < ·)
  | [] => .nil
  | t :: ts => ups_sortIn (starts_up x ts)
theorem mem_starts {x z : Int} : ∀ {ts : List Int}, z ∈ startsF ts x ↔ z ∈ ts.map fun t => t / x * x
  | [] => Iff.rfl
  | t :: ts => by
    rw [List.map_cons, List.mem_cons]
    exact mem_sortIn.trans (or_congr_right mem_starts)
theorem ups_one {l m : List Int} (hl : l.Pairwise (· < ·)) (hm : m.Pairwise (· < ·)) (e : ∀ z, z ∈ l ↔ z ∈ m) : l = m := by
  have pm : l.Perm m := (List.perm_ext_iff_of_nodup (hl.imp fun h => Int.ne_of_lt h) (hm.imp fun h => Int.ne_of_lt h)).mpr e
  exact pm.eq_of_pairwise (fun x y _ _ h1 h2 => absurd (Int.lt_trans h1 h2) (Int.lt_irrefl _)) hl hm
theorem starts_len (x : Int) (ts : List Int) {l : List Int} (h : l = startsF ts x) : l.length ≤ ts.length := by
  subst h
  induction ts with
  | nil => exact Nat.le_refl _
  | cons t ts ih =>
    have : ∀ (z : Int) (l : List Int), (sortIn z l).length ≤ l.length + 1 := fun z l => by
      induction l with
      | nil => exact Nat.le_refl _
      | cons y r ih2 =>
        unfold sortIn
        split
        · exact Nat.le_refl _
        · split
          · exact Nat.le_succ _
          · exact Nat.succ_le_succ ih2
    exact Nat.le_trans (this _ _) (Nat.succ_le_succ ih)
/-! ### _law_due -/
abbrev Row := Int × Int × FD × FD
def rowD (r : Row) : PyData := .tuple [.int r.1, .int r.2.1, fd9 r.2.2.1, fd9 r.2.2.2]
/-- the row of a cell whose fold is another one -/
def rowF (os rs : List Pt) (x a : Int) : List Row := if PyData.eqv (fd9 (cellF os x a)) (fd9 (cellF rs x a)) = true then [] else [(x, a, cellF os x a, cellF rs x a)]
def rowsF (os rs : List Pt) (ts : List Int) (x : Int) : List Row := (startsF ts x).flatMap (rowF os rs x)
def dueF (os rs : List Pt) (ts ws : List Int) : List Row := ws.flatMap (rowsF os rs ts)
theorem fd9_sh (F : FD) : SeqAt.shaped (fd9 F) = true := by
  have lay : (fd9 F).canLay0 = true := by
    obtain ⟨a, b, c, lo, hi, fs, ls, r, h⟩ := F
    cases lo <;> cases hi <;> cases fs <;> cases ls <;> rfl
  have dep : (fd9 F).depth ≤ 64 := by
    obtain ⟨a, b, c, lo, hi, fs, ls, r, h⟩ := F
    cases lo <;> cases hi <;> cases fs <;> cases ls <;> exact Nat.le_of_ble_eq_true rfl
  exact shaped_of lay dep
theorem flat_len {α β : Type} (f : α → List β) (c : Nat) (h : ∀ a, (f a).length ≤ c) : ∀ l : List α, (l.flatMap f).length ≤ c * l.length
  | [] => Nat.zero_le _
  | a :: l => by
    rw [List.flatMap_cons, List.length_append, List.length_cons, Nat.mul_succ]
    have h1 := h a
    have h2 := flat_len f c h l
    omega
theorem row_len (os rs : List Pt) (x a : Int) : (rowF os rs x a).length ≤ 1 := by
  unfold rowF
  split
  · exact Nat.zero_le _
  · exact Nat.le_refl _
theorem rows_len (os rs : List Pt) (ts : List Int) (x : Int) : (rowsF os rs ts x).length ≤ ts.length := by
  have h := flat_len (rowF os rs x) 1 (row_len os rs x) (startsF ts x)
  have h2 := starts_len x ts (l := startsF ts x) rfl
  unfold rowsF
  omega
theorem td_od : ∀ o : Option Pt, TD (od o)
  | none => .non
  | some p => td_pd p
theorem td_fd9 (F : FD) : TD (fd9 F) := .tup fun d hd => by
  simp only [List.mem_cons, List.not_mem_nil, or_false] at hd
  rcases hd with rfl | rfl | rfl | rfl | rfl | rfl | rfl | rfl | rfl
  · exact .int _
  · exact .int _
  · exact .int _
  · exact td_dw _
  · exact td_dw _
  · exact td_od _
  · exact td_od _
  · exact .int _
  · exact .int _
theorem td_row (r : Row) : TD (rowD r) := .tup fun d hd => by
  simp only [List.mem_cons, List.not_mem_nil, or_false] at hd
  rcases hd with rfl | rfl | rfl | rfl
  · exact .int _
  · exact .int _
  · exact td_fd9 _
  · exact td_fd9 _
section
variable {P : Program} {w : World} {K : PySem.W.Frag} {mg : Str → Option Value} {base : Heap}
end
end Tg

set_option maxHeartbeats 2000000
namespace Tg
open PySem PySem.Spec PyProof.Rows L2
set_option maxHeartbeats 2000000
set_option maxHeartbeats 2000000
section
variable {K : PySem.W.Frag} {f : Addr} {fd : FuncData}
def kw9 : List (Str × V) := [("count", .int 0), ("total", .int 0), ("squares", .int 0), ("least", .non), ("greatest", .non), ("first", .non), ("last", .non), ("rise", .int 0), ("held", .int 0)]
abbrev FFold (K : PySem.W.Frag) (f : Addr) (fd : FuncData) : Prop := FunD K "__init__" "Fold.__init__" (defArgs sFI) (defBody sFI) (defScope sFI) [] kw9 f fd
set_option maxHeartbeats 0 in
theorem kb_9 (F : FFold K f fd) : ∃ g, KBn K fd NFI 1 kFold g (fun vs zs => vs ++ zs) := by
  obtain ⟨mv, h⟩ := F.kbinds0 (ps := NFI) 1 kFold [] (fun us _ ws => us ++ ws) (fun z => nomatch z) (fun q hq => nomatch hq) (fun h1 _ h2 => h1.append h2) (fun D doc pm an cdv ct us mv ws h1 h2 h3 => match us, mv, ws, h1, h2, h3 with | [_], [], [_, _, _, _, _, _, _, _, _], _, _, _ => rfl)
  exact ⟨_, h⟩
set_option maxHeartbeats 0 in
theorem kb_0 (F : FFold K f fd) : ∃ g, KBn K fd NFI 1 [] g (fun vs _ => vs ++ [.int 0, .int 0, .int 0, .non, .non, .non, .non, .int 0, .int 0]) := by
  obtain ⟨mv, h⟩ := F.kbinds0 (ps := NFI) 1 [] kw9 (fun us ms _ => us ++ ms) (fun z => nomatch z) (fun q hq => hq) (fun h1 h2 _ => h1.append h2) (fun D doc pm an cdv ct us mv ws h1 h2 h3 => match us, mv, ws, h1, h2, h3 with
    | [_], [_, _, _, _, _, _, _, _, _], [], _, _, _ => ⟨_, _, _, _, _, _, rfl, rfl, _, _, _, _, _, _, rfl, rfl, _, _, _, _, _, _, rfl, rfl, _, _, _, _, _, _, rfl, rfl, _, _, _, _, _, _, rfl, rfl, _, _, _, _, _, _, rfl, rfl, _, _, _, _, _, _, rfl, rfl, _, _, _, _, _, _, rfl, rfl, _, _, _, _, _, _, rfl, rfl, rfl⟩)
  exact ⟨_, h⟩
end
end Tg

set_option maxHeartbeats 2000000
namespace Tg
open PySem PySem.Spec PyProof.Rows L2
/-! ### the checks, where nothing is refused -/
set_option maxHeartbeats 2000000
set_option maxHeartbeats 2000000
section
variable {P : Program} {w : World} {K : PySem.W.Frag} {mg : Str → Option Value} {base : Heap}
def spCkW (K : PySem.W.Frag) : Sp := fun vs H Q _ => ∃ (a : Addr) (ws : List Int), vs = [.ref a] ∧ SqT K H a (ws.map V.int) ∧ WOk ws ∧ ∀ H', Same H H' → Q .non H'
theorem ok_ckW {f : Addr} {fd : FuncData} {k : Nat} (F : Fun K "check_widths" "check_widths" sCkW f fd) (C_is_whole : Cal P w K mg base k "is_whole" ["thing"] spWhole) {z : Tok} (g_MOST_WIDTHS : mg "MOST_WIDTHS" = some (.int 4 z)) (m_len : mg "len" = none) (m_enumerate : mg "enumerate" = none) :
    FnOk P w K mg base CX0 (k + 1) f fd ["widths"] (spCkW K) := by
  refine F.ok scCkW (fun vs H Q E h => ?_) (fun cdv A outer s H vs Q E hr h => ?_)
  · obtain ⟨a, ws, rfl, _⟩ := h
    rfl
  · obtain ⟨a, ws, rfl, ha, ok, q⟩ := h
    refine ⟨_, pss_cons (ps_if (pt_cmpR op_eq (pe_callB call_len_seq (by rfl) m_len (by decide +kernel) (pa_cons (pv 0) pa_nil)) pe_int (nomark _))
        (pss_one ps_dead)
        pss_nil)
      (pss_one (ps_for PassesOwn.never rfl (pi_enumT (by rfl) m_enumerate (pa_cons (pv 0) pa_nil)) (pg_tup rfl (pgs_cons (pg_name (i := 1) scCkW.nd rfl (.inl rfl)) (pgs_cons (pg_name (i := 2) scCkW.nd rfl (.inl rfl)) pgs_nil)))
        (pss_cons (ps_if (PW.pt (pw_or (pt_cmpR op_eq (pv 1) (pe_glob (v := .int 4) rfl g_MOST_WIDTHS ⟨_, rfl⟩) (nomark _)) (pw_or (pt_not (pt_val (pe_cal C_is_whole (hr.mono (by omega)) (by rfl) (pa_cons (pv 2) pa_nil)))) (pw_or1 (pt_cmpR op_lt (pv 2) pe_int (nomark _))))))
          (pss_one ps_dead)
          pss_nil)
        (pss_one (ps_if (PW.pt (pw_and (pt_cmpR op_gt (pv 1) pe_int (nomark _)) (pw_and1 (PW.pt (pw_or (pt_cmpR op_eq (pv 2) (pe_ix ix_tup (pv 0) (pe_op op_sub (pv 1) pe_int) (fun _ _ => rfl)) (nomark _)) (pw_or1 (pt_cmpR op_gt (pe_op op_mod (pv 2) (pe_ix ix_tup (pv 0) (pe_op op_sub (pv 1) pe_int) (fun _ _ => rfl))) pe_int (nomark _))))))))
          (pss_one ps_dead)
          pss_nil))))), ?_⟩
    have hl : (ws.map V.int).length = ws.length := List.length_map ..
    have l0 : 0 < ws.length := List.length_pos_iff.mpr ok.ne
    refine ⟨_, rfl, a, _, rfl, .inr ha, rfl, _, rfl, if_n (vi_ne (by rw [hl]; omega)) ?_⟩
    refine ⟨_, rfl, a, _, rfl, ha, for_it (walk_enumT (K := K) (a := a) (xs := ws.map V.int)) (fun i σ H2 => ∃ z1 z2 : Option V, σ = [some (.ref a), z1, z2] ∧ Same H H2) ⟨none, none, rfl, Same.refl _⟩ ?_ ?_ ?_⟩
    · rintro i σ H2 _ ⟨z1, z2, _, s2⟩
      exact sqT_same s2 ha
    · rintro i x σ H2 H3 hi ⟨z1, z2, rfl, s2⟩ ⟨T, x1, x2, rfl, nT, rfl, e1, e2⟩
      cases e1
      replace e2 : (ws.map V.int)[i]? = some x2 := e2
      rw [List.getElem?_map] at e2
      obtain ⟨y, hy, rfl⟩ := Option.map_eq_some_iff.mp e2
      have s3 : Same H (upd H2 T (.tup [.int (i : Nat), .int y])) := s2.trans (same_new nT)
      have ha3 := sqT_same s3 ha
      have yp := ok.pos i y hy
      have il : i < 4 := by
        have := ok.le
        rw [hl] at hi
        omega
      refine ⟨T, _, rfl, SqT.of upd_same, rfl, _, _, rfl, _, _, rfl, rfl, ?_⟩
      refine ⟨_, rfl, rfl, _, rfl, if_n (vi_ne (by omega)) ⟨_, rfl, y, rfl, true, rfl, if_f ⟨_, rfl, _, _, rfl, rfl, _, rfl, if_n (decide_eq_false (by omega)) ?_⟩⟩⟩
      cases i with
      | zero => exact ⟨_, rfl, _, _, rfl, rfl, _, rfl, if_n (decide_eq_false (by omega)) (if_f ⟨_, _, rfl, s3⟩)⟩
      | succ i =>
        obtain ⟨x, hx⟩ : ∃ x, ws[i]? = some x := ⟨ws[i]'(by rw [hl] at hi; omega), List.getElem?_eq_getElem _⟩
        have xp := ok.pos i x hx
        obtain ⟨u1, u2⟩ := ok.up i x y hx hy
        have ex : atI (ws.map V.int) (((i + 1 : Nat) : Int) - 1) = some (.int x) := at_pred (by rw [List.getElem?_map, hx]; rfl)
        refine ⟨_, rfl, _, _, rfl, rfl, _, rfl, if_y (decide_eq_true (by omega)) ?_⟩
        refine ⟨_, rfl, _, rfl, _, rfl, _, _, rfl, rfl, a, _, _, .int x, rfl, rfl, ha3, ex, rfl, _, rfl, if_n (vi_ne u1) ?_⟩
        refine ⟨_, rfl, _, rfl, _, rfl, _, _, rfl, rfl, a, _, _, .int x, rfl, rfl, ha3, ex, _, _, rfl, rfl, (by omega), _, _, rfl, rfl, _, rfl, if_n (decide_eq_false (by omega)) ?_⟩
        exact ⟨_, _, rfl, s3⟩
    · rintro σ H2 ⟨z1, z2, rfl, s2⟩
      exact q _ s2
def spCkw (K : PySem.W.Frag) : Sp := fun vs H Q _ => ∃ (a : Addr) (ws : List Int) (x : Int), vs = [.ref a, .int x] ∧ SqT K H a (ws.map V.int) ∧ x ∈ ws ∧ Q .non H
theorem ok_ckw {f : Addr} {fd : FuncData} {k : Nat} (F : Fun K "check_width" "check_width" sCkw f fd) : FnOk P w K mg base CX0 (k + 1) f fd ["widths", "width"] (spCkw K) := by
  refine F.ok scCkw (fun vs H Q E h => ?_) (fun cdv A outer s H vs Q E hr h => ?_)
  · obtain ⟨a, ws, x, rfl, _⟩ := h
    rfl
  · obtain ⟨a, ws, x, rfl, ha, hx, q⟩ := h
    refine ⟨_, pss_one (ps_if (pt_cmpR op_notIn_seq (pv 1) (pv 0) (by with_unfolding_all rfl))
        (pss_one ps_dead)
        pss_nil), ?_⟩
    refine ⟨_, rfl, _, rfl, a, _, rfl, .inr ha, rfl, flat_ints ws, _, rfl, if_n ?_ q⟩
    show (!inV (.int x) (ws.map V.int)) = false
    rw [inV_mem hx]
    rfl
end
end Tg

set_option maxHeartbeats 2000000
namespace Tg
open PySem PySem.Spec PyProof.Rows L2
/-! ### widths that are right -/
set_option maxHeartbeats 2000000
set_option maxHeartbeats 2000000
/-- they rise -/
theorem wok_lt {ws : List Int} (ok : WOk ws) (i : Nat) (x y : Int) (hx : ws[i]? = some x) (hy : ws[i + 1]? = some y) : x < y := by
  obtain ⟨u1, u2⟩ := ok.up i x y hx hy
  have xp := (ok.pos i x hx).1
  have yp := (ok.pos _ y hy).1
  refine Decidable.byContradiction fun c => ?_
  have e : y % x = y := Int.emod_eq_of_lt (by omega) (by omega)
  omega
theorem wok_rise {ws : List Int} (ok : WOk ws) {i : Nat} {x : Int} (hx : ws[i]? = some x) : ∀ (d : Nat) (y : Int), ws[i + d + 1]? = some y → x < y
  | 0, y, hy => wok_lt ok i x y hx hy
  | d + 1, y, hy => by
    obtain ⟨l, _⟩ := List.getElem?_eq_some_iff.mp hy
    obtain ⟨z, hz⟩ : ∃ z, ws[i + d + 1]? = some z := ⟨_, List.getElem?_eq_getElem (by omega)⟩
    have h1 := wok_rise ok hx d z hz
    have h2 := wok_lt ok (i + d + 1) z y hz hy
    omega
theorem wok_nd {ws : List Int} (ok : WOk ws) : ws.Nodup := by
  refine List.pairwise_iff_getElem.mpr fun i j hi hj ij => ?_
  obtain ⟨d, rfl⟩ : ∃ d, j = i + d + 1 := ⟨j - i - 1, by omega⟩
  have := wok_rise ok (List.getElem?_eq_getElem hi) d _ (List.getElem?_eq_getElem hj)
  omega
end Tg

set_option maxHeartbeats 2000000
namespace Tg
open PySem PySem.Spec PyProof.Rows L2
/-! ### grains made -/
set_option maxHeartbeats 2000000
set_option maxHeartbeats 2000000
set_option maxHeartbeats 1000000
abbrev sGI : Stmt := inClass (topS 25) 0
abbrev NGI : List Str := ["self", "widths", "width"]
theorem scGI : FnScope NGI ["self", "widths"] (defScope sGI) := ⟨rfl, rfl, rfl, by decide +kernel, rfl, by decide +kernel, by decide +kernel⟩
structure TGr (K : PySem.W.Frag) (C : Addr) : Prop where
  cl : Cls K C
  no : ∀ n : Str, n ∈ (["widths", "busy", "kept", "horizons"] : List Str) → NoAttr K C n
theorem nx_atS {D : Ends} {σ : L2.St} {H H2 : Hp} (e : H = H2) (h : D.nx σ H2) : D.nx σ H := e ▸ h
end Tg

/-! an own == that may say True or False, of an instance and anything; an instance looked for in a list of None and texts -/
namespace Tg
open PySem PySem.Spec PyProof.Rows L2
/-- what such an own == promises: R tells what it says -/
def spEqB (R : Addr → V → Bool → Hp → Prop) : Sp := fun vs H Q _ => ∃ (a : Addr) (y : V) (b : Bool), vs = [.ref a, y] ∧ R a y b H ∧ ∀ H', Ext H H' → Q (.bl b) H'
section
variable {X : Cx} {n : Nat} {CX : CXT} {C f : Addr} {fd : FuncData} {ps : List Str} {R : Addr → V → Bool → Hp → Prop} {E : XK}
/-- the own == called with an instance and a thing, somewhere below the running body -/
theorem own_said (F : FnOk X.prog X.w X.K X.mg X.base CX n f fd ps (spEqB R)) (hb : Binds X.K fd ps []) (hx : Passes CX X E) {A : Around} {pins : List (Addr × Obj)} {s : Shared} {σ : L2.St} {H : Hp} {a : Addr} {y : V} {u : Value} {b : Bool}
    (sb : Sub X n A) (I : Inv X pins σ H s) (ry : RelV y u) (r : R a y b H) :
    wpAny (model X.prog X.w) A (call (.ref f) [.ref a, u]) (fun v s' => v = .bool b ∧ ∃ H', Inv X pins σ H' s' ∧ Ext H H') X.xe s := by
  have hsp : spEqB R [.ref a, y] H (fun v H' => v = .bl b ∧ Ext H H') E := ⟨a, y, b, rfl, r, fun H' e => ⟨rfl, e⟩⟩
  have env := I.env0
  have e0 : Env0 X.prog X.w X.K X.mg X.base A X.stack s H := ⟨sb.fr.symm ▸ env.frames, env.mod, env.bs, env.bsz, env.funs, env.frf, env.hok, env.bare⟩
  have two := F.len _ _ _ _ hsp
  have bound := hb s [.ref a, u] I.kIn (by simpa using two)
  rw [List.append_nil] at bound
  refine wpAny_call (codeAny_mono (F.run A X.stack s H ⟨[.ref a, u], []⟩ [.ref a, u] [.ref a, y] _ E sb.room e0 bound (.cons rfl (.cons ry .nil)) hsp) fun o s' told => ?_)
  match o, told with
  | .error er, told => exact hx pins σ H s er s' I told
  | .ok (.ret v), told =>
    obtain ⟨z, H', J, rz, ez, ex⟩ := I.after told
    subst ez
    exact ⟨rz, H', J, ex⟩
/-- a == y -/
def rEqB (K : PySem.W.Frag) (C : Addr) (R : Addr → V → Bool → Hp → Prop) : R2 := fun x y H Q => ∃ (a dx : Addr) (fs : List (Str × V)) (t : Value) (b : Bool), x = .ref a ∧ H a = some (.ins C dx fs) ∧ TyX K H y t ∧ PySem.W.notFirst K C t = true ∧ R a y b H ∧ ∀ H', Ext H H' → Q (.bl b) H'
theorem op_eqB (F : FnOk X.prog X.w X.K X.mg X.base CX n f fd ps (spEqB R)) (hs : PySem.W.findIn X.K (.ref C) "__eq__" = some (some (.ref f))) (hf : PySem.W.isFn X.K (.ref f) = true) (hb : Binds X.K fd ps []) (hx : Passes CX X E) (hr : Room n X.A) : OpR X (compareOp .Eq) (rEqB X.K C R) := by
  rintro pins s σ H x y v u Q I rx ry ⟨a, dx, fs, t, b, rfl, ha, ty, nf, r, q⟩
  cases rx
  obtain ⟨mI, J0, _⟩ := ins_get I.hok ha
  obtain ⟨od, J, _⟩ := J0.look
  obtain ⟨m, hF⟩ := I.fr
  obtain ⟨P, Z, p, _⟩ := kit_of I ry ty
  show wpAny (model X.prog X.w) X.A (richCompare .Eq (.ref a) u) (EP X pins σ Q) X.xe s
  refine PySem.W.cmp_K (op := .Eq) hr.units0 hF I.ok.mod.kin J (Z.ty _ _ I.kIn p) nf hs hf (wpAny_mono (own_said F hb hx ⟨hr, rfl⟩ I ry r) (fun w s' told => ?_) fun _ _ z => z)
  obtain ⟨rfl, H', I', ex⟩ := told
  exact ⟨.bl b, H', I', rfl, q H' ex⟩
/-- None and texts: what stands ahead of == -/
theorem eq_back {T id : String} {A : Around} {pins : List (Addr × Obj)} {s : Shared} {σ : L2.St} {H : Hp} {a dx : Addr} {fs : List (Str × V)} {y : V} {u : Value} {b : Bool} (F : FnOk X.prog X.w X.K X.mg X.base CX n f fd ps (spEqB R))
    (hs : PySem.W.findIn X.K (.ref C) "__eq__" = some (some (.ref f))) (hf : PySem.W.isFn X.K (.ref f) = true) (hb : Binds X.K fd ps []) (hx : Passes CX X E) (sb : Sub X n A) (I : Inv X pins σ H s) (ry : RelV y u)
    (ha : H a = some (.ins C dx fs)) (r : R a y b H) (ty : s.TypeIs u T) (nos : PySem.W.subIn X.K (.ref C) (.type T) = some false) (slot : Slot T (cmpInfo .Eq).2.1 id)
    (dec : ∀ Q' : Value → Shared → Prop, Q' .notImplemented s → wpAny (model X.prog X.w) A (call (.builtin id) [u, .ref a]) Q' X.xe s) :
    wpAny (model X.prog X.w) A (richCompare .Eq u (.ref a)) (fun v s' => v = .bool b ∧ ∃ H', Inv X pins σ H' s' ∧ Ext H H') X.xe s := by
  obtain ⟨mI, J0, _⟩ := ins_get I.hok ha
  obtain ⟨od, J, _⟩ := J0.look
  have two : wpAny (model X.prog X.w) A (tryCompare (.ref a) "__eq__" u) (fun w s' => ∃ v, w = some v ∧ v = .bool b ∧ ∃ H', Inv X pins σ H' s' ∧ Ext H H') X.xe s := by
    unfold tryCompare
    refine wpAny_bind (PySem.W.ifBound_K I.kIn J hs hf (wpAny_mono (own_said F hb hx sb I ry r) (fun v s' told => ?_) fun _ _ z => z))
    obtain ⟨rfl, more⟩ := told
    exact wpAny_pure ⟨_, rfl, rfl, more⟩
  rcases hi : cmpInfo CmpOp.Eq with ⟨sym, nm, rn⟩
  obtain ⟨_, rfl, rfl⟩ : sym = "==" ∧ nm = "__eq__" ∧ rn = "__eq__" := by
    cases hi
    exact ⟨rfl, rfl, rfl⟩
  rw [hi] at slot
  simp only [richCompare, hi, ty.oneThing_none]
  refine wpAny_holding (wpAny_bind (wpAny_cRoomFor sb.room.units0 ?_))
  refine wpAny_bind (wpAny_typeOf ty (wpAny_bind (J.type.here ?_)))
  rw [show (Value.type T != Value.ref C) = true from by simp]
  simp only [if_true]
  refine wpAny_bind ((PySem.W.looks_subIn I.kIn nos).here ?_)
  simp only [if_true, if_false, Bool.not_false, Bool.false_eq_true]
  refine wpAny_bind (m := tryCompare u _ (.ref a)) (wpAny_tryCompare_declines ty slot (dec _ ⟨rfl, ?_⟩))
  refine wpAny_bind (m := tryCompare (.ref a) _ u) (wpAny_mono two (fun w s' told => ?_) fun _ _ z => z)
  obtain ⟨v, rfl, more⟩ := told
  exact wpAny_pure more
end
section
open MeetsSeq MeetsSeq2 MeetsSeq3 SeqRoads2 SeqAt
open AutoSeq1 (wpAny_loadPart')
theorem str_no_own (z : Str) (u : Tok) (l C dx : Addr) : Meets (Builtin.«str.__eq__» ⟨[.str z u, .ref l], []⟩) (fun _ R s => s.heap.get? l = some (PySem.W.instObj C dx) ∧ R (.ok (.ret .notImplemented)) s) :=
  .of_wp fun pr wd A0 R0 s0 told => by
    obtain ⟨hp, gn, dr, tk, os⟩ := s0
    obtain ⟨hl, h⟩ := told
    unfold PySem.W.instObj at hl
    wp_walk using wpAny_loadPart' hl, wpAny_load hl
    exact ⟨_, rfl, h⟩
variable {A : Around} {prog : Program} {w : World} {R : Result → Shared → Prop}
/-- looked for in a list, item by item, and not found -/
theorem seek_loop {l : Addr} {x : Value} (N : Nat) (I : Nat → Shared → Prop)
    (turn : ∀ i s, I i s → ∃ (items : Array Value) (n : Nat), s.heap.get? l = some { cls := .type "list", data := .seq items n } ∧ items.size = N ∧ ∀ h : i < items.size, wpAny (model prog w) A.in1 (eqBool items[i] x) (fun r s' => r = false ∧ I (i + 1) s') (fun e s' => R (.error e) s') s)
    (fin : ∀ s, I N s → R (.ok (.ret (.bool false))) s) (k : Nat) : ∀ i : Nat, N - i = k → i ≤ N → ∀ s, I i s →
      wpAny (model prog w) A.in1 (Builtin.«list.__contains__.loop» ⟨[.ref l, x, rawInt i], []⟩) (GQ.FinOf prog w A R) (fun e s' => R (.error e) s') s := by
  induction k with
  | zero =>
    intro i hk hi s h
    obtain ⟨items, n, at_l, size, _⟩ := turn _ _ h
    obtain rfl : i = N := by omega
    have done := fin s h
    obtain ⟨hp, gn, dr, tk, os⟩ := s
    wp_walk using wpAny_loadPart' at_l
    have none_there : items[((i : Nat) : Int).toNat]? = none := by simp; omega
    rw [none_there]
    wp_walk
    exact done
  | succ k ih =>
    intro i hk hi s h
    obtain ⟨items, n, at_l, size, step⟩ := turn _ _ h
    have lt : i < items.size := by omega
    have said := step lt
    obtain ⟨hp, gn, dr, tk, os⟩ := s
    wp_walk using wpAny_loadPart' at_l
    have there : items[((i : Nat) : Int).toNat]? = some items[i] := by simp [lt]
    have next : ((i : Int) + 1) = ((i + 1 : Nat) : Int) := by omega
    rw [there]
    refine wpAny_bind (wpAny_mono said (fun r s2 h2 => ?_) fun _ _ z => z)
    obtain ⟨rfl, h2⟩ := h2
    have more := ih (i + 1) (by omega) (by omega) s2 h2
    obtain ⟨hp2, gn2, dr2, tk2, os2⟩ := s2
    wp_walk
    rw [next]
    refine ⟨plainId_quiet plain_contains_loop _, codeAny_builtin entry_contains_loop ?_⟩
    rw [A.under_plainId plain_contains_loop _]
    exact more
theorem seek_none {E : Value → Shared → Prop} {s : Shared} {Q : Value → Shared → Prop} {l : Addr} {x : Value} (N : Nat) (I : Nat → Shared → Prop)
    (turn : ∀ i s, I i s → ∃ (items : Array Value) (n : Nat), s.heap.get? l = some { cls := .type "list", data := .seq items n } ∧ items.size = N ∧ ∀ h : i < items.size, wpAny (model prog w) A.in1 (eqBool items[i] x) (fun r s' => r = false ∧ I (i + 1) s') E s)
    (fin : ∀ s, I N s → Q (.bool false) s) (h : I 0 s) : wpAny (model prog w) A (compareOp .In x (.ref l)) Q E s := by
  obtain ⟨items, n, at_l, _, _⟩ := turn _ _ h
  show wpAny _ A (do return .bool (← contains (.ref l) x)) Q E s
  refine wpAny_bind (wpAny_contains_slot (T := "list") ⟨_, at_l, rfl⟩ PySem.F.slot_list_contains (GQ.call_here PySem.F.slot_list_contains ⟨_, at_l, rfl⟩ PySem.F.entry_list_contains (PySem.F.args_list_contains_2 _ _) ?_))
  have loop := seek_loop (R := wants (fun v s' => wpAny (model prog w) A (truthy v) (fun r s'' => wpAny (model prog w) A (pure (Value.bool r)) Q E s'') E s') E) N I turn (fun s' q => wpAny_truthy_bool (wpAny_pure (fin s' q))) _ 0 rfl (Nat.zero_le _) s h
  obtain ⟨hp, gn, dr, tk, os⟩ := s
  wp_walk using wpAny_loadPart' at_l
  refine ⟨plainId_quiet plain_contains_loop _, codeAny_builtin entry_contains_loop ?_⟩
  rw [A.under_plainId plain_contains_loop _]
  exact loop
end
section
variable {X : Cx} {n : Nat} {CX : CXT} {C f : Addr} {fd : FuncData} {ps : List Str} {R : Addr → V → Bool → Hp → Prop} {E : XK}
/-- a in [None, 'text'], of which it is neither -/
def rSeek (C : Addr) (R : Addr → V → Bool → Hp → Prop) : R2 := fun x y H Q => ∃ (a dx l : Addr) (fs : List (Str × V)) (z : Str), x = .ref a ∧ y = .ref l ∧ H a = some (.ins C dx fs) ∧ H l = some (.lst [.non, .str z]) ∧
  (∀ H', Ext H H' → R a .non false H' ∧ R a (.str z) false H') ∧ ∀ H', Ext H H' → Q (.bl false) H'
theorem op_seek (F : FnOk X.prog X.w X.K X.mg X.base CX n f fd ps (spEqB R)) (hs : PySem.W.findIn X.K (.ref C) "__eq__" = some (some (.ref f))) (hf : PySem.W.isFn X.K (.ref f) = true) (hb : Binds X.K fd ps []) (hx : Passes CX X E) (hr : Room (n + 1) X.A)
    (no1 : PySem.W.subIn X.K (.ref C) (.type "NoneType") = some false) (no2 : PySem.W.subIn X.K (.ref C) (.type "str") = some false) : OpR X (compareOp .In) (rSeek C R) := by
  rintro pins s σ H x y v u Q I rx ry ⟨a, dx, l, fs, z, rfl, rfl, ha, hl, r, q⟩
  cases rx
  cases ry
  have sb : Sub X n X.A.in1 := Sub.in1 ⟨hr, rfl⟩
  refine seek_none 2 (fun _ s' => ∃ H', Inv X pins σ H' s' ∧ Ext H H') (fun i s' told => ?_) (fun s' ⟨H', I', ex⟩ => ⟨.bl false, H', I', rfl, q H' ex⟩) ⟨H, I, Ext.rfl'⟩
  obtain ⟨H', I', ex⟩ := told
  obtain ⟨_, its, k, rel, at_l⟩ := (show ObjOk X.prog X.w H' s'.heap l (.lst [.non, .str z]) from I'.hok l _ (ex _ _ hl))
  obtain ⟨u1, u2, rfl, r1, r2⟩ := vals2 rel
  cases (show u1 = Value.none from r1)
  obtain ⟨tz, rfl⟩ := (show ∃ t, u2 = Value.str z t from r2)
  obtain ⟨mA, J, _⟩ := ins_get I'.hok (ex _ _ ha)
  obtain ⟨od, J, _⟩ := J.look
  refine ⟨_, k, at_l, rfl, fun lt => ?_⟩
  have truth : ∀ (u : Value), (u == Value.ref a) = false → (∀ q w, u ≠ .float q w) → wpAny (model X.prog X.w) X.A.in1 (richCompare .Eq u (.ref a)) (fun v s2 => v = .bool false ∧ ∃ H2, Inv X pins σ H2 s2 ∧ Ext H' H2) X.xe s' →
      wpAny (model X.prog X.w) X.A.in1 (eqBool u (.ref a)) (fun r s2 => r = false ∧ ∃ H2, Inv X pins σ H2 s2 ∧ Ext H H2) X.xe s' := fun u ne nf h => by
    unfold eqBool
    refine wpAny_holding (wpAny_ite_split (fun z => absurd (ne.symm.trans z) (by decide)) fun _ => ?_)
    cases u <;> first | exact absurd rfl (nf _ _) | (refine wpAny_bind (wpAny_mono h (fun v s2 told => ?_) fun _ _ z => z); obtain ⟨rfl, H2, I2, e2⟩ := told; exact wpAny_truthy_bool ⟨rfl, H2, I2, ex.trans e2⟩)
  match i, lt with
  | 0, _ =>
    refine truth .none rfl (fun _ _ z => nomatch z) (eq_back F hs hf hb hx sb I' (y := .non) rfl (ex _ _ ha) (r H' ex).1 (T := "NoneType") rfl no1 PySem.F.slot_NoneType_eq fun Q' hq => ?_)
    exact call_gives PySem.F.slot_NoneType_eq rfl PySem.F.entry_NoneType_eq (PySem.F.args_NoneType_eq_2 _ _) (SeqAt.NoneType___eq___none_ref_0 a) hq
  | 1, _ =>
    refine truth (.str z tz) rfl (fun _ _ z => nomatch z) (eq_back F hs hf hb hx sb I' (y := .str z) ⟨tz, rfl⟩ (ex _ _ ha) (r H' ex).2 (T := "str") (typeIs_str _ _ _) no2 PySem.F.slot_str_eq fun Q' hq => ?_)
    exact call_meets PySem.F.slot_str_eq (typeIs_str _ _ _) PySem.F.entry_str_eq (PySem.F.args_str_eq_2 _ _) (str_no_own z tz a C dx) ⟨J.at_, hq⟩
end
end Tg

/-! a != b of an own class with an own __eq__ and no __ne__, b anything, where the own == may say True or False -/
namespace Tg
open PySem PySem.Spec PyProof.Rows L2
section
variable {prog : Program} {w : World} {A : Around} {E : Value → Shared → Prop} {s : Shared} {C a f : Addr} {B : String} {bm : List Value} {u : Value}
theorem ne_entry (O : s.heap.OwnEqNoNe a C f B bm) (room : A.units < cLine) {Q : Fin → Shared → Prop} (run : wpAny (model prog w) A (call (.ref f) [.ref a, u]) (fun v s' => ∃ b, v = .bool b ∧ Q (.done (.ret (.bool (!b)))) s') E s) :
    wpAny (model prog w) A (Builtin.«object.__ne__» ⟨[.ref a, u], []⟩) Q E s := by
  have said : wpAny (model prog w) A (callSpecialIfBound? (.ref a) (Str.ofString "__eq__") [u]) (fun r s' => ∃ b, r = some (.bool b) ∧ Q (.done (.ret (.bool (!b)))) s') E s := by
    refine wpAny_callSpecialIfBound?_own O.ownEq (wpAny_mono run (fun v s' told => ?_) fun _ _ e => e)
    obtain ⟨b, rfl, q⟩ := told
    exact ⟨b, rfl, q⟩
  delta Builtin.«object.__ne__»
  repeat (first
    | with_reducible refine wpAny_cRoomFor room ?_
    | (refine wpAny_bind (m := callSpecialIfBound? (.ref a) (Str.ofString "__eq__") [u]) (wpAny_mono said (fun r s' told => by
          obtain ⟨b, rfl, q⟩ := told
          repeat (first | exact q | exact wpAny_pure q | exact wpAny_truthy_bool q | (refine wpAny_bind (m := truthy (.bool _)) (wpAny_truthy_bool ?_)) | wp_step)) fun _ _ e => e))
    | wp_step)
theorem ne_tried (FB : CmpFacts B bm) (O : s.heap.OwnEqNoNe a C f B bm) (room : A.units + 1 < cLine) {Q : Option Value → Shared → Prop} (run : wpAny (model prog w) A.in1 (call (.ref f) [.ref a, u]) (fun v s' => ∃ b, v = .bool b ∧ Q (some (.bool (!b))) s') E s) :
    wpAny (model prog w) A (tryCompare (.ref a) "__ne__" u) Q E s := by
  obtain ⟨o, of, nm, q, N, bs, hd, sn, sub, ab, col, dd, k0, k1, k2, k3, k5, id_, mN, yv, ha, hc, hC, hn, _, _, _, _, _, none_⟩ := id O
  unfold tryCompare
  refine wpAny_bind (wpAny_callSpecialIfBound?_inst ha hc hC hn none_ FB.mro FB.ne (wpAny_call (codeAny_call_builtin FB.ne.plain F.cmpEntry_ne (wpAny_check_slot_inst F.cmpKind_ne F.cmpSplit_ne (F.cmpArgs_ne _ _) FB.hasObject ha hc hC (ne_entry (A := A.in1) O room (wpAny_mono run (fun v s' told => ?_) fun _ _ e => e))))))
  obtain ⟨b, rfl, z⟩ := told
  exact ⟨b, rfl, wpAny_pure z⟩
end
section
variable {X : Cx} {n : Nat} {CX : CXT} {C f : Addr} {fd : FuncData} {ps : List Str} {R : Addr → V → Bool → Hp → Prop} {E : XK}
/-- a != y -/
def rNeB (K : PySem.W.Frag) (C : Addr) (R : Addr → V → Bool → Hp → Prop) : R2 := fun x y H Q => ∃ (a dx : Addr) (fs : List (Str × V)) (t : Value) (b : Bool), x = .ref a ∧ H a = some (.ins C dx fs) ∧ TyX K H y t ∧ PySem.W.notFirst K C t = true ∧ R a y b H ∧ ∀ H', Ext H H' → Q (.bl (!b)) H'
theorem op_neB (F : FnOk X.prog X.w X.K X.mg X.base CX n f fd ps (spEqB R)) (N : NeC X.K C f) (hb : Binds X.K fd ps []) (hx : Passes CX X E) (hr : Room (n + 1) X.A) : OpR X (compareOp .NotEq) (rNeB X.K C R) := by
  rintro pins s σ H x y v u Q I rx ry ⟨a, dx, fs, t, b, rfl, ha, ty, nf, r, q⟩
  cases rx
  obtain ⟨mI, J0, _⟩ := ins_get I.hok ha
  obtain ⟨od, J, _⟩ := J0.look
  obtain ⟨P, Z, p, _⟩ := kit_of I ry ty
  have look : PySem.W.Looks (model X.prog X.w) s.heap (typeOf u) t := Z.ty _ _ I.kIn p
  have there : ∀ c o, X.K.lookup c = some o → s.heap.get? c = some o := fun c o h => I.kIn c o h
  obtain ⟨nm, qn, Ns, bs, hd, sn, sub, ab, col, dd, k0, k1, k2, k3, k5, id_, eC, okN, eE, eN⟩ := N.cls
  obtain ⟨of, eF, cF⟩ := N.fn
  have own : s.heap.OwnEqNoNe a C f "object" [.type "object"] :=
    ⟨_, of, nm, qn, Ns, bs, hd, sn, sub, ab, col, dd, k0, k1, k2, k3, k5, id_, s.heap.nsMap Ns, _, J.at_, J.cls, there _ _ eC, .of_isNs (PySem.W.isNs_of_in I.kIn okN), ns_has I.kIn okN eE, there _ _ eF, cF, PySem.F.cmp_object.mro, PySem.F.cmp_object.eq.lookup, PySem.W.nsMap_none_of_in I.kIn okN eN⟩
  have units := hr.units
  have two : wpAny (model X.prog X.w) X.A (tryCompare (.ref a) "__ne__" u) (fun w s' => ∃ v, w = some v ∧ v = .bool (!b) ∧ ∃ H', Inv X pins σ H' s' ∧ Ext H H') X.xe s := by
    refine ne_tried PySem.F.cmp_object own (by omega) (wpAny_mono (own_said F hb hx (Sub.in1 ⟨hr, rfl⟩) I ry r) (fun w s' told => ?_) fun _ _ z => z)
    obtain ⟨rfl, more⟩ := told
    exact ⟨b, rfl, _, rfl, rfl, more⟩
  show wpAny (model X.prog X.w) X.A (richCompare .NotEq (.ref a) u) (EP X pins σ Q) X.xe s
  unfold richCompare
  simp only [oneThing_ref]
  refine wpAny_holding (wpAny_bind (wpAny_cRoomFor (by omega) ?_))
  rw [cmpInfo_NotEq]
  dsimp only
  refine wpAny_bind (J.type.here (wpAny_bind (look.here ?_)))
  have last : ∀ rest : Option Value → Sem Value, (∀ v, rest (some v) = pure v) → wpAny (model X.prog X.w) X.A (tryCompare (.ref a) "__ne__" u >>= rest) (EP X pins σ Q) X.xe s := fun rest hrest => by
    refine wpAny_bind (wpAny_mono two (fun w s' told => ?_) fun _ _ z => z)
    obtain ⟨v, rfl, rfl, H', I', ex⟩ := told
    rw [hrest]
    exact wpAny_pure ⟨.bl (!b), H', I', rfl, q H' ex⟩
  unfold PySem.W.notFirst at nf
  by_cases same : t = .ref C
  · rw [same, show (Value.ref C != Value.ref C) = false from by simp]
    simp only [if_false, Bool.false_eq_true]
    refine wpAny_bind ?_
    refine wpAny_pure ?_
    simp only [if_false, Bool.false_eq_true]
    exact last _ fun v => rfl
  · have ne : (Value.ref C != t) = true := by
      rw [bne_iff_ne]
      exact fun z => same z.symm
    have nos : PySem.W.subIn X.K t (.ref C) = some false := by
      have k : (t == Value.ref C) = false := by
        rw [beq_eq_false_iff_ne]
        exact same
      rw [k, Bool.false_or] at nf
      exact eq_of_beq nf
    rw [ne]
    simp only [if_true]
    refine wpAny_bind ((PySem.W.looks_subIn I.kIn nos).here ?_)
    simp only [if_false, Bool.false_eq_true]
    exact last _ fun v => rfl
end
end Tg

set_option maxHeartbeats 2000000
namespace Tg
open PySem PySem.Spec PyProof.Rows L2
/-! ### Fold.__eq__ of any two folds -/
set_option maxHeartbeats 2000000
set_option maxHeartbeats 2000000
theorem od_eqv (a b : Option Pt) : PyData.eqv (od a) (od b) = decide (a = b) := by
  match a, b with
  | none, none => exact (decide_eq_true rfl).symm
  | none, some q => exact (decide_eq_false fun z => nomatch z).symm
  | some p, none => exact (decide_eq_false fun z => nomatch z).symm
  | some p, some q =>
    show ((p.1 == q.1) && ((p.2 == q.2) && true)) = _
    rw [Bool.and_true]
    by_cases c : p = q
    · rw [c, decide_eq_true rfl, beq_self_eq_true, beq_self_eq_true]
      rfl
    · rw [decide_eq_false fun z => c (Option.some.inj z), Bool.and_eq_false_iff, beq_eq_false_iff_ne, beq_eq_false_iff_ne]
      by_cases d : p.1 = q.1
      · exact .inr fun z => c (Prod.ext d z)
      · exact .inl d
theorem int_eqv (a b : Int) : PyData.eqv (.int a) (.int b) = decide (V.int a = V.int b) := by
  show (a == b) = _
  by_cases c : a = b
  · rw [c, beq_self_eq_true, decide_eq_true rfl]
  · rw [decide_eq_false fun z => c (V.int.inj z), beq_eq_false_iff_ne]
    exact c
/-- which of the fields are the same -/
theorem fd9_all (A B : FD) : PyData.eqv (fd9 A) (fd9 B) = (decide (V.int A.cnt = V.int B.cnt) && (decide (V.int A.tot = V.int B.tot) && (decide (V.int A.sq = V.int B.sq) && (PyData.eqv (dw A.lo) (dw B.lo) && (PyData.eqv (dw A.hi) (dw B.hi) && (PyData.eqv (od A.fst) (od B.fst) && (PyData.eqv (od A.lst) (od B.lst) && (decide (V.int A.ris = V.int B.ris) && (decide (V.int A.hel = V.int B.hel) && true))))))))) := by
  rw [← int_eqv, ← int_eqv, ← int_eqv, ← int_eqv, ← int_eqv]
  rfl
theorem fd9_iff (A B : FD) : PyData.eqv (fd9 A) (fd9 B) = true ↔ A = B := by
  rw [fd9_all, eq_dw, eq_dw, od_eqv, od_eqv]
  obtain ⟨a1, a2, a3, a4, a5, a6, a7, a8, a9⟩ := A
  obtain ⟨b1, b2, b3, b4, b5, b6, b7, b8, b9⟩ := B
  simp only [Bool.and_eq_true, decide_eq_true_eq, V.int.injEq]
  constructor
  · rintro ⟨h1, h2, h3, h4, h5, h6, h7, h8, h9, _⟩
    rw [h1, h2, h3, h4, h5, h6, h7, h8, h9]
  · intro c
    cases c
    exact ⟨rfl, rfl, rfl, rfl, rfl, rfl, rfl, rfl, rfl, trivial⟩
theorem fd9_sym (A B : FD) : PyData.eqv (fd9 A) (fd9 B) = PyData.eqv (fd9 B) (fd9 A) := by
  rw [Bool.eq_iff_iff, fd9_iff, fd9_iff]
  exact eq_comm
section
variable {P : Program} {w : World} {K : PySem.W.Frag} {mg : Str → Option Value} {base : Heap} {C : Addr}
/-- what == says of two folds -/
def EqF (K : PySem.W.Frag) (C : Addr) (a : Addr) (y : V) (b : Bool) (H : Hp) : Prop := ∃ (c : Addr) (FA FB : FD), y = .ref c ∧ FdO K C H a FA ∧ FdO K C H c FB ∧ b = PyData.eqv (fd9 FA) (fd9 FB)
set_option maxHeartbeats 8000000 in
theorem ok_eqB {f : Addr} {fd : FuncData} {k : Nat} (F : Fun K "__eq__" "Fold.__eq__" sEq f fd) (T : TFold K C) (TI : TIns K C) (g_Fold : mg "Fold" = some (.ref C)) (m_isinstance : mg "isinstance" = none) : FnOk P w K mg base CX0 (k + 1) f fd ["self", "other"] (spEqB (EqF K C)) := by
  refine F.ok scEq (fun vs H Q E h => ?_) (fun cdv A outer s H vs Q E hr h => ?_)
  · obtain ⟨a, y, b, rfl, _⟩ := h
    rfl
  · obtain ⟨a, y, r, rfl, ⟨b, FA, FB, rfl, ⟨dA, fA, lA, eA, pA, zA⟩, ⟨dB, fB, lB, eB, pB, zB⟩, er⟩, q⟩ := h
    have hu := hr.units
    refine ⟨_, pss_one (ps_ret (pe_and (pe_callB call_isi (by rfl) m_isinstance (by decide +kernel) (pa_cons (pv 1) (pa_cons (pe_glob (v := .ref C) rfl g_Fold rfl) pa_nil))) (pe_and (pe_cmpR op_eq (pe_fld (pv 0) rfl) (pe_fld (pv 1) rfl) (nomark _)) (pe_and (pe_cmpR op_eq (pe_fld (pv 0) rfl) (pe_fld (pv 1) rfl) (nomark _)) (pe_and (pe_cmpR op_eq (pe_fld (pv 0) rfl) (pe_fld (pv 1) rfl) (nomark _)) (pe_and (pe_cmpR (op_eqD hu) (pe_fld (pv 0) rfl) (pe_fld (pv 1) rfl) (nomark _)) (pe_and (pe_cmpR (op_eqD hu) (pe_fld (pv 0) rfl) (pe_fld (pv 1) rfl) (nomark _)) (pe_and (pe_cmpR (op_eqD hu) (pe_fld (pv 0) rfl) (pe_fld (pv 1) rfl) (nomark _)) (pe_and (pe_cmpR (op_eqD hu) (pe_fld (pv 0) rfl) (pe_fld (pv 1) rfl) (nomark _)) (pe_and (pe_cmpR op_eq (pe_fld (pv 0) rfl) (pe_fld (pv 1) rfl) (nomark _)) (pe_one (pe_cmpR op_eq (pe_fld (pv 0) rfl) (pe_fld (pv 1) rfl) (nomark _))))))))))))), ?_⟩
    rw [fd9_all] at er
    refine ⟨_, rfl, .ref b, .ref C, .ref C, .ref C, true, rfl, .own _, .base (.ins eB T.cl TI.cc TI.get TI.takes TI.obj), TI.kit, true, rfl, if_t ?_⟩
    have no : r = false → Q (.bl false) H := fun e => by
      rw [e] at q
      exact q H Ext.rfl'
    refine ⟨_, rfl, a, C, dA, _, _, rfl, eA, T.cl, T.no _ (by decide), rfl, _, rfl, b, C, dB, _, _, rfl, eB, T.cl, T.no _ (by decide), rfl, rfl, _, rfl, ?_⟩
    cases h1 : decide (V.int FA.cnt = V.int FB.cnt)
    · exact if_f (no (by rw [er, h1]; rfl))
    rw [h1, Bool.true_and] at er
    refine if_t ⟨_, rfl, a, C, dA, _, _, rfl, eA, T.cl, T.no _ (by decide), rfl, _, rfl, b, C, dB, _, _, rfl, eB, T.cl, T.no _ (by decide), rfl, rfl, _, rfl, ?_⟩
    cases h2 : decide (V.int FA.tot = V.int FB.tot)
    · exact if_f (no (by rw [er, h2]; rfl))
    rw [h2, Bool.true_and] at er
    refine if_t ⟨_, rfl, a, C, dA, _, _, rfl, eA, T.cl, T.no _ (by decide), rfl, _, rfl, b, C, dB, _, _, rfl, eB, T.cl, T.no _ (by decide), rfl, rfl, _, rfl, ?_⟩
    cases h3 : decide (V.int FA.sq = V.int FB.sq)
    · exact if_f (no (by rw [er, h3]; rfl))
    rw [h3, Bool.true_and] at er
    refine if_t ⟨_, rfl, a, C, dA, _, _, rfl, eA, T.cl, T.no _ (by decide), rfl, _, rfl, b, C, dB, _, _, rfl, eB, T.cl, T.no _ (by decide), rfl, _, _, dp_vw FA.lo, dp_vw FB.lo, (dw_form _).1, (dw_form _).1, _, rfl, ?_⟩
    cases h4 : PyData.eqv (dw FA.lo) (dw FB.lo)
    · exact if_f (no (by rw [er, h4]; rfl))
    rw [h4, Bool.true_and] at er
    refine if_t ⟨_, rfl, a, C, dA, _, _, rfl, eA, T.cl, T.no _ (by decide), rfl, _, rfl, b, C, dB, _, _, rfl, eB, T.cl, T.no _ (by decide), rfl, _, _, dp_vw FA.hi, dp_vw FB.hi, (dw_form _).1, (dw_form _).1, _, rfl, ?_⟩
    cases h5 : PyData.eqv (dw FA.hi) (dw FB.hi)
    · exact if_f (no (by rw [er, h5]; rfl))
    rw [h5, Bool.true_and] at er
    refine if_t ⟨_, rfl, a, C, dA, _, _, rfl, eA, T.cl, T.no _ (by decide), rfl, _, rfl, b, C, dB, _, _, rfl, eB, T.cl, T.no _ (by decide), rfl, _, _, pA.dp, pB.dp, (od_form _).1, (od_form _).1, _, rfl, ?_⟩
    cases h6 : PyData.eqv (od FA.fst) (od FB.fst)
    · exact if_f (no (by rw [er, h6]; rfl))
    rw [h6, Bool.true_and] at er
    refine if_t ⟨_, rfl, a, C, dA, _, _, rfl, eA, T.cl, T.no _ (by decide), rfl, _, rfl, b, C, dB, _, _, rfl, eB, T.cl, T.no _ (by decide), rfl, _, _, zA.dp, zB.dp, (od_form _).1, (od_form _).1, _, rfl, ?_⟩
    cases h7 : PyData.eqv (od FA.lst) (od FB.lst)
    · exact if_f (no (by rw [er, h7]; rfl))
    rw [h7, Bool.true_and] at er
    refine if_t ⟨_, rfl, a, C, dA, _, _, rfl, eA, T.cl, T.no _ (by decide), rfl, _, rfl, b, C, dB, _, _, rfl, eB, T.cl, T.no _ (by decide), rfl, rfl, _, rfl, ?_⟩
    cases h8 : decide (V.int FA.ris = V.int FB.ris)
    · exact if_f (no (by rw [er, h8]; rfl))
    rw [h8, Bool.true_and, Bool.and_true] at er
    refine if_t ⟨_, rfl, a, C, dA, _, _, rfl, eA, T.cl, T.no _ (by decide), rfl, _, rfl, b, C, dB, _, _, rfl, eB, T.cl, T.no _ (by decide), rfl, rfl, ?_⟩
    rw [er] at q
    exact q H Ext.rfl'
end
end Tg

set_option maxHeartbeats 2000000
namespace Tg
open PySem PySem.Spec PyProof.Rows L2
/-! ### points of some cells, by rising times -/
set_option maxHeartbeats 2000000
/-- qs: the points of ps whose times S picks, by rising times -/
structure Sel (ps : List Pt) (S : Int → Prop) (qs : List Pt) : Prop where
  up : (qs.map (·.1)).Pairwise (· < ·)
  all : ∀ p, p ∈ qs ↔ p ∈ ps ∧ S p.1
theorem Sel.one {ps q1 q2 : List Pt} {S : Int → Prop} (c1 : Sel ps S q1) (c2 : Sel ps S q2) : q1 = q2 := by
  have nd : ∀ {qs : List Pt}, (qs.map (·.1)).Pairwise (· < ·) → qs.Nodup := fun h => (List.pairwise_map.mp h).imp fun h e => by
    rw [e] at h
    exact Int.lt_irrefl _ h
  have pm : q1.Perm q2 := (List.perm_ext_iff_of_nodup (nd c1.up) (nd c2.up)).mpr fun p => (c1.all p).trans (c2.all p).symm
  have u1 : q1.Pairwise fun p q => p.1 < q.1 := List.pairwise_map.mp c1.up
  have u2 : q2.Pairwise fun p q => p.1 < q.1 := List.pairwise_map.mp c2.up
  exact pm.eq_of_pairwise (fun x y _ _ h1 h2 => absurd (Int.lt_trans h1 h2) (Int.lt_irrefl _)) u1 u2
theorem Sel.cut {ps qs : List Pt} {a b : Int} (c : Cut ps a b qs) : Sel ps (fun t => a ≤ t ∧ t < b) qs := ⟨c.up, c.all⟩
theorem Sel.imp {ps qs : List Pt} {S S2 : Int → Prop} (c : Sel ps S qs) (h : ∀ p, p ∈ ps → (S p.1 ↔ S2 p.1)) : Sel ps S2 qs := ⟨c.up, fun p => (c.all p).trans ⟨fun z => ⟨z.1, (h p z.1).mp z.2⟩, fun z => ⟨z.1, (h p z.1).mpr z.2⟩⟩⟩
theorem Sel.nil {ps : List Pt} {S : Int → Prop} (h : ∀ p, p ∈ ps → ¬ S p.1) : Sel ps S [] := ⟨.nil, fun p => ⟨fun z => absurd z List.not_mem_nil, fun z => absurd z.2 (h p z.1)⟩⟩
/-- all of the one lie ahead of all of the other -/
theorem Sel.app {ps q1 q2 : List Pt} {S1 S2 : Int → Prop} (c1 : Sel ps S1 q1) (c2 : Sel ps S2 q2) (lt : ∀ a b, S1 a → S2 b → a < b) : Sel ps (fun t => S1 t ∨ S2 t) (q1 ++ q2) := by
  refine ⟨?_, fun p => ?_⟩
  · rw [List.map_append, List.pairwise_append]
    refine ⟨c1.up, c2.up, fun x hx y hy => ?_⟩
    obtain ⟨p, hp, rfl⟩ := List.mem_map.mp hx
    obtain ⟨q, hq, rfl⟩ := List.mem_map.mp hy
    exact lt _ _ ((c1.all p).mp hp).2 ((c2.all q).mp hq).2
  · rw [List.mem_append, c1.all, c2.all]
    exact ⟨fun h => h.elim (fun z => ⟨z.1, .inl z.2⟩) fun z => ⟨z.1, .inr z.2⟩, fun ⟨h1, h2⟩ => h2.elim (fun z => .inl ⟨h1, z⟩) fun z => .inr ⟨h1, z⟩⟩
theorem Sel.len {ps qs : List Pt} {S : Int → Prop} (c : Sel ps S qs) (t : TbOk ps) : qs.length ≤ ps.length := by
  have nd : qs.Nodup := (List.pairwise_map.mp c.up).imp fun h e => by
    rw [e] at h
    exact Int.lt_irrefl _ h
  exact nd.length_le_of_subset fun p hp => ((c.all p).mp hp).1
theorem Sel.ok {ps qs : List Pt} {S : Int → Prop} (c : Sel ps S qs) (t : TbOk ps) : POk qs := by
  refine ⟨Nat.lt_of_le_of_lt (c.len t) t.few, fun i p q hp hq => ?_, fun p hp => t.sz p ((c.all p).mp hp).1⟩
  obtain ⟨h1, e1⟩ := List.getElem?_eq_some_iff.mp hp
  obtain ⟨h2, e2⟩ := List.getElem?_eq_some_iff.mp hq
  have h := List.pairwise_iff_getElem.mp c.up i (i + 1) (by rw [List.length_map]; exact h1) (by rw [List.length_map]; exact h2) (Nat.lt_succ_self i)
  rw [List.getElem_map, List.getElem_map, e1, e2] at h
  exact h
theorem Sel.cell {ps qs : List Pt} {x a : Int} (nd : (ps.map (·.1)).Nodup) (c : Sel ps (fun t => a ≤ t ∧ t < a + x) qs) : fOf qs = cellF ps x a := by
  unfold cellF
  rw [c.one (Sel.cut (cut_f nd a (a + x)))]
theorem sel_cell {ps : List Pt} (nd : (ps.map (·.1)).Nodup) (x a : Int) : Sel ps (fun t => a ≤ t ∧ t < a + x) (cutF ps a (a + x)) := Sel.cut (cut_f nd a (a + x))
/-- the cell that t is in -/
theorem cell_iff {t a x : Int} (x0 : 0 < x) (ha : a % x = 0) : t - t % x = a ↔ a ≤ t ∧ t < a + x := by
  have h1 := Int.emod_nonneg t (show x ≠ 0 by omega)
  have h2 := Int.emod_lt_of_pos t x0
  constructor
  · intro e
    omega
  · rintro ⟨l, u⟩
    have e : t % x = (t - a) % x := by
      have : (t - a) % x = (t % x - a % x) % x := Int.sub_emod t a x
      rw [ha, Int.sub_zero, Int.emod_emod_of_dvd _ (Int.dvd_refl x)] at this
      exact this.symm
    rw [e, Int.emod_eq_of_lt (by omega) (by omega)]
    omega
theorem cell_mod (t x : Int) : (t - t % x) % x = 0 := by
  rw [Int.sub_emod, Int.emod_emod_of_dvd _ (Int.dvd_refl x), Int.sub_self, Int.zero_emod]
theorem div_cell (t x : Int) : t / x * x = t - t % x := by
  have h1 := Int.emod_def t x
  have h2 := Int.mul_comm x (t / x)
  omega
end Tg

set_option maxHeartbeats 2000000
namespace Tg
open PySem PySem.Spec PyProof.Rows L2
/-! ### dicts from numbers to things that R tells -/
set_option maxHeartbeats 2000000
theorem put_in {kvs : List (Key × V)} {k : Key} (v : V) (c : k ∈ kvs.map (·.1)) : (putK kvs k v).map (·.1) = kvs.map (·.1) := by
  unfold putK
  obtain ⟨x, h1, h2⟩ := List.mem_map.mp c
  rw [if_pos (List.any_eq_true.mpr ⟨x, h1, decide_eq_true h2⟩), List.map_map]
  refine List.map_congr_left fun p _ => ?_
  show (if p.1 = k then (p.1, v) else p).1 = p.1
  split <;> rfl
theorem put_out {kvs : List (Key × V)} {k : Key} (v : V) (c : k ∉ kvs.map (·.1)) : (putK kvs k v).map (·.1) = kvs.map (·.1) ++ [k] := by
  unfold putK
  rw [if_neg fun e => by
    obtain ⟨x, h1, h2⟩ := List.any_eq_true.mp e
    exact c (List.mem_map.mpr ⟨x, h1, of_decide_eq_true h2⟩), List.map_append]
  rfl
theorem val_in {kvs : List (Key × V)} {k : Key} {v : V} : (kvs.map (·.1)).Nodup → (k, v) ∈ kvs → valV kvs k = some v := by
  induction kvs with
  | nil => exact fun _ h => absurd h List.not_mem_nil
  | cons p r ih =>
    intro nd h
    have nd2 := List.nodup_cons.mp nd
    rcases List.mem_cons.mp h with first | h
    · rw [← first]
      exact valV_pos rfl
    · refine (valV_neg fun z => ?_).trans (ih nd2.2 h)
      exact nd2.1 (List.mem_map.mpr ⟨_, h, z.symm⟩)
theorem keys_nd {ss : List Int} (h : ss.Nodup) : (ss.map (Sum.inl : Int → Key)).Nodup := by
  refine List.pairwise_map.mpr (h.imp fun n e => n (Sum.inl.inj e))
theorem key_mem {ss : List Int} {s : Int} : (Sum.inl s : Key) ∈ ss.map (Sum.inl : Int → Key) ↔ s ∈ ss :=
  ⟨fun h => by obtain ⟨z, hz, e⟩ := List.mem_map.mp h; rw [← Sum.inl.inj e]; exact hz, fun h => List.mem_map.mpr ⟨s, h, rfl⟩⟩
/-- at r a dict: its keys ss, each value as R tells -/
def DcI (H : Hp) (r : Addr) (ss : List Int) (R : Int → V → Prop) : Prop := ∃ kvs : List (Key × V), H r = some (.dK kvs) ∧ kvs.map (·.1) = ss.map Sum.inl ∧ ss.Nodup ∧ ∀ s, s ∈ ss → ∃ v, valV kvs (.inl s) = some v ∧ R s v
/-- the same of what a dict holds -/
structure DcK (kvs : List (Key × V)) (ss : List Int) (R : Int → V → Prop) : Prop where
  ks : kvs.map (·.1) = ss.map Sum.inl
  nd : ss.Nodup
  all : ∀ s, s ∈ ss → ∃ v, valV kvs (.inl s) = some v ∧ R s v
theorem DcI.k {H : Hp} {r : Addr} {ss : List Int} {R : Int → V → Prop} (h : DcI H r ss R) : ∃ kvs, H r = some (.dK kvs) ∧ DcK kvs ss R := by
  obtain ⟨kvs, h1, h2, h3, h4⟩ := h
  exact ⟨kvs, h1, h2, h3, h4⟩
theorem DcK.at_ {H : Hp} {r : Addr} {kvs : List (Key × V)} {ss : List Int} {R : Int → V → Prop} (h : DcK kvs ss R) (e : H r = some (.dK kvs)) : DcI H r ss R := ⟨kvs, e, h.ks, h.nd, h.all⟩
section
variable {kvs : List (Key × V)} {ss : List Int} {R R2 : Int → V → Prop}
theorem DcK.nil : DcK [] [] R := ⟨rfl, List.nodup_nil, fun _ h => absurd h List.not_mem_nil⟩
theorem DcK.imp (h : DcK kvs ss R) (f : ∀ s v, s ∈ ss → R s v → R2 s v) : DcK kvs ss R2 := ⟨h.ks, h.nd, fun s hs => let ⟨v, h1, h2⟩ := h.all s hs; ⟨v, h1, f s v hs h2⟩⟩
theorem DcK.len (h : DcK kvs ss R) : kvs.length = ss.length := by
  have z := congrArg List.length h.ks
  rw [List.length_map, List.length_map] at z
  exact z
theorem DcK.miss (h : DcK kvs ss R) {s : Int} (n : s ∉ ss) : valV kvs (.inl s) = none := by
  cases e : valV kvs (.inl s) with
  | none => rfl
  | some v =>
    have z := valV_in e
    rw [h.ks] at z
    exact absurd (key_mem.mp z) n
theorem DcK.item (h : DcK kvs ss R) {i : Nat} {k : Key} {v : V} (e : kvs[i]? = some (k, v)) : ∃ s, k = .inl s ∧ ss[i]? = some s ∧ s ∈ ss ∧ R s v := by
  have z : (kvs.map (·.1))[i]? = some k := by rw [List.getElem?_map, e] <;> rfl
  rw [h.ks, List.getElem?_map] at z
  obtain ⟨s, es, rfl⟩ := Option.map_eq_some_iff.mp z
  have hs := List.mem_of_getElem? es
  obtain ⟨v2, h1, h2⟩ := h.all s hs
  have nd : (kvs.map (·.1)).Nodup := by
    rw [h.ks]
    exact keys_nd h.nd
  rw [val_in nd (List.mem_of_getElem? e)] at h1
  cases h1
  exact ⟨s, rfl, es, hs, h2⟩
/-- the keys, s among them -/
def addS (ss : List Int) (s : Int) : List Int := if s ∈ ss then ss else ss ++ [s]
theorem mem_addS {s z : Int} : z ∈ addS ss s ↔ z ∈ ss ∨ z = s := by
  unfold addS
  by_cases c : s ∈ ss
  · rw [if_pos c]
    exact ⟨.inl, fun h => h.elim id fun e => e ▸ c⟩
  · rw [if_neg c, List.mem_append, List.mem_singleton]
theorem len_addS {s : Int} : (addS ss s).length ≤ ss.length + 1 := by
  unfold addS
  split
  · exact Nat.le_succ _
  · rw [List.length_append]
    exact Nat.le_refl _
theorem DcK.put (h : DcK kvs ss R) {s : Int} {v : V} (rv : R2 s v) (keep : ∀ z u, z ≠ s → z ∈ ss → R z u → R2 z u) : DcK (putK kvs (.inl s) v) (addS ss s) R2 := by
  refine ⟨?_, ?_, fun z hz => ?_⟩
  · unfold addS
    by_cases c : s ∈ ss
    · rw [if_pos c, put_in v (by rw [h.ks]; exact key_mem.mpr c), h.ks]
    · rw [if_neg c, put_out v (by rw [h.ks]; exact fun z => c (key_mem.mp z)), h.ks, List.map_append]
      rfl
  · unfold addS
    by_cases c : s ∈ ss
    · rw [if_pos c]
      exact h.nd
    · rw [if_neg c, List.nodup_append]
      refine ⟨h.nd, List.pairwise_singleton _ _, fun x hx y hy e => ?_⟩
      rw [List.mem_singleton.mp hy] at e
      exact c (e ▸ hx)
  · rw [valV_put]
    by_cases c : z = s
    · rw [c, if_pos rfl]
      exact ⟨v, rfl, rv⟩
    · rw [if_neg fun e => c (Sum.inl.inj e)]
      have hz2 := (mem_addS.mp hz).resolve_right c
      obtain ⟨u, h1, h2⟩ := h.all z hz2
      exact ⟨u, h1, keep z u c hz2 h2⟩
end
/-! ### grains: what they keep -/
/-- which of the grains' dicts: the horizons, the widths', one of a width, one of a width and a place -/
inductive Ow
  | hz
  | kd
  | wide (x : Int)
  | cells (x p : Int)
/-- what grains keep: their widths, the horizons, by width the places, by place and width the starts and the cells -/
structure Gs where
  ws : List Int
  hz : Int → Option Int
  pls : Int → List Int
  ss : Int → Int → List Int
  cf : Int → Int → Int → FD × Int
/-- a cell that was let go -/
def Gs.gone (S : Gs) (x s : Int) : Bool := match S.hz x with
  | some h => decide (s < h)
  | none => false
section
variable {K : PySem.W.Frag} {C CF : Addr} {H H' : Hp}
/-- a fold by its start -/
def FoR (K : PySem.W.Frag) (CF : Addr) (H : Hp) (fo : Int → FD) (s : Int) (v : V) : Prop := ∃ a, v = .ref a ∧ FdO K CF H a (fo s)
/-- a cell by its start: its fold, and the number since when -/
def CeR (K : PySem.W.Frag) (CF : Addr) (H : Hp) (cf : Int → FD × Int) (s : Int) (v : V) : Prop := ∃ t a, v = .ref t ∧ SqT K H t [.ref a, .int (cf s).2] ∧ FdO K CF H a (cf s).1
theorem DcI.same {r : Addr} {ss : List Int} {R R2 : Int → V → Prop} (st : Same H H') (h : DcI H r ss R) (f : ∀ s v, s ∈ ss → R s v → R2 s v) : DcI H' r ss R2 := by
  obtain ⟨kvs, h1, h2⟩ := h.k
  exact (h2.imp f).at_ (st _ _ h1)
theorem DcI.move {r : Addr} {ss : List Int} {R R2 : Int → V → Prop} (h : DcI H r ss R) (e : ∀ o, H r = some o → H' r = some o) (f : ∀ s v, s ∈ ss → R s v → R2 s v) : DcI H' r ss R2 := by
  obtain ⟨kvs, h1, h2⟩ := h.k
  exact (h2.imp f).at_ (e _ h1)
/-- what folds and tuples are -/
def Hard (CF : Addr) (o : HO) : Prop := (∃ dx F vf vl, o = .ins CF dx (flds F vf vl)) ∨ (∃ xs, o = .tup xs) ∨ ∃ ob xs, o = .frz ob (.tup xs)
/-- they stand -/
def HK (CF : Addr) (H H' : Hp) : Prop := ∀ b o, H b = some o → Hard CF o → H' b = some o
theorem HK.trans {H2 : Hp} (a : HK CF H H') (b : HK CF H' H2) : HK CF H H2 := fun c o e h => b c o (a c o e h) h
theorem HK.of (s : Same H H') : HK CF H H' := fun c o e _ => s c o e
theorem HK.put {d : Addr} {o u : HO} (hd : H d = some o) (n : ¬ Hard CF o) : HK CF H (upd H d u) := fun b x e h => (upd_ne fun z => n (by
  rw [z, hd] at e
  cases e
  exact h)).trans e
theorem soft_dK {kvs : List (Key × V)} : ¬ Hard CF (.dK kvs) := fun h => by
  rcases h with ⟨_, _, _, _, z⟩ | ⟨_, z⟩ | ⟨_, _, z⟩ <;> cases z
theorem soft_dT {kvs : List (List Key × V)} : ¬ Hard CF (.dT kvs) := fun h => by
  rcases h with ⟨_, _, _, _, z⟩ | ⟨_, z⟩ | ⟨_, _, z⟩ <;> cases z
theorem soft_lst {xs : List V} : ¬ Hard CF (.lst xs) := fun h => by
  rcases h with ⟨_, _, _, _, z⟩ | ⟨_, z⟩ | ⟨_, _, z⟩ <;> cases z
theorem soft_tbl {xs : Array Value} : ¬ Hard CF (.tbl xs) := fun h => by
  rcases h with ⟨_, _, _, _, z⟩ | ⟨_, z⟩ | ⟨_, _, z⟩ <;> cases z
theorem soft_ext {φ : Heap → Prop} : ¬ Hard CF (.ext φ) := fun h => by
  rcases h with ⟨_, _, _, _, z⟩ | ⟨_, z⟩ | ⟨_, _, z⟩ <;> cases z
theorem soft_frz {od : Obj} {kvs : List (Key × V)} : ¬ Hard CF (.frz od (.dK kvs)) := fun h => by
  rcases h with ⟨_, _, _, _, z⟩ | ⟨_, z⟩ | ⟨_, _, z⟩ <;> cases z
theorem sqT_hk {a : Addr} {xs : List V} (st : HK CF H H') (h : SqT K H a xs) : SqT K H' a xs := h.imp (fun r => r.imp (fun e => st _ _ e (.inr (.inl ⟨_, rfl⟩))) fun ⟨ob, e⟩ => ⟨ob, st _ _ e (.inr (.inr ⟨_, _, rfl⟩))⟩) id
theorem FdO.hk {a : Addr} {F : FD} (st : HK CF H H') (h : FdO K CF H a F) : FdO K CF H' a F := by
  obtain ⟨dx, vf, vl, e, h1, h2⟩ := h
  have po : ∀ {v : V} {o : Option Pt}, PO K H v o → PO K H' v o := fun {v o} h => match o, h with
    | none, h => h
    | some p, ⟨t, e, h⟩ => ⟨t, e, sqT_hk st h⟩
  exact ⟨dx, vf, vl, st _ _ e (.inl ⟨_, _, _, _, rfl⟩), po h1, po h2⟩
theorem CeR.hk {cf : Int → FD × Int} {s : Int} {v : V} (st : HK CF H H') (h : CeR K CF H cf s v) : CeR K CF H' cf s v := by
  obtain ⟨t, a, e, h1, h2⟩ := h
  exact ⟨t, a, e, sqT_hk st h1, h2.hk st⟩
theorem FoR.hk {fo : Int → FD} {s : Int} {v : V} (st : HK CF H H') (h : FoR K CF H fo s v) : FoR K CF H' fo s v := by
  obtain ⟨a, e, h2⟩ := h
  exact ⟨a, e, h2.hk st⟩
theorem CeR.same {cf : Int → FD × Int} {s : Int} {v : V} (st : Same H H') (h : CeR K CF H cf s v) : CeR K CF H' cf s v := h.hk (.of st)
theorem FoR.same {fo : Int → FD} {s : Int} {v : V} (st : Same H H') (h : FoR K CF H fo s v) : FoR K CF H' fo s v := h.hk (.of st)
theorem FdO.put {d a : Addr} {kvs : List (Key × V)} {o : HO} {F : FD} (hd : H d = some (.dK kvs)) (h : FdO K CF H a F) : FdO K CF (upd H d o) a F := h.hk (.put hd soft_dK)
/-- the object -/
def GiA (C : Addr) (H : Hp) (g wa kd hd : Addr) (b : Bool) : Prop := ∃ dx, H g = some (.ins C dx [("widths", .ref wa), ("busy", .bl b), ("kept", .ref kd), ("horizons", .ref hd)])
theorem GiA.same {g wa kd hd : Addr} {b : Bool} (st : Same H H') (h : GiA C H g wa kd hd b) : GiA C H' g wa kd hd b := let ⟨dx, e⟩ := h; ⟨dx, st _ _ e⟩
theorem soft_g {dx : Addr} {wa kd hd : Addr} {b : Bool} : ¬ Hard CF (.ins C dx [("widths", .ref wa), ("busy", .bl b), ("kept", .ref kd), ("horizons", .ref hd)]) := fun h => by
  rcases h with ⟨_, _, _, _, z⟩ | ⟨_, z⟩ | ⟨_, _, z⟩
  · obtain ⟨_, _, e3⟩ := HO.ins.inj z
    have e4 : ("widths" : Str) = "count" := congrArg Prod.fst (List.cons.inj e3).1
    exact absurd e4 (by decide)
  · cases z
  · cases z
/-- grains in the heap; rk tells their own dicts apart -/
structure GrG (K : PySem.W.Frag) (CF : Addr) (H : Hp) (wa kd hd : Addr) (S : Gs) (rk : Addr → Option Ow) : Prop where
  gw : SqT K H wa (S.ws.map V.int)
  rh : rk hd = some .hz
  rd : rk kd = some .kd
  gh : ∃ hs, DcI H hd hs (fun x v => ∃ h, v = .int h ∧ S.hz x = some h) ∧ (∀ x, x ∉ hs → S.hz x = none) ∧ ∀ x, x ∈ hs → x ∈ S.ws
  gk : DcI H kd S.ws fun x v => ∃ e, v = .ref e ∧ rk e = some (.wide x) ∧ DcI H e (S.pls x) fun p u => ∃ c, u = .ref c ∧ rk c = some (.cells x p) ∧ DcI H c (S.ss p x) (CeR K CF H (S.cf p x))
  no : ∀ x p, p ∉ S.pls x → S.ss p x = []
  out : ∀ p x s, s ∉ S.ss p x → S.cf p x s = (fOf [], 0)
  own : ∀ a, rk a ≠ none → ∃ kvs, H a = some (.dK kvs)
theorem GrG.hk {wa kd hd : Addr} {S : Gs} {rk : Addr → Option Ow} (st : HK CF H H') (ow : ∀ b o, rk b ≠ none → H b = some o → H' b = some o) (h : GrG K CF H wa kd hd S rk) : GrG K CF H' wa kd hd S rk := by
  have ok : ∀ {b : Addr} {u : Ow}, rk b = some u → rk b ≠ none := fun {b u} e z => by
    rw [e] at z
    cases z
  obtain ⟨hs, h1, h2, h3⟩ := h.gh
  refine ⟨sqT_hk st h.gw, h.rh, h.rd, ⟨hs, h1.move (fun o e => ow _ _ (ok h.rh) e) fun _ _ _ z => z, h2, h3⟩, h.gk.move (fun o e => ow _ _ (ok h.rd) e) fun x v _ ⟨e, g1, g2, g3⟩ => ⟨e, g1, g2, g3.move (fun o z => ow _ _ (ok g2) z) fun p u _ ⟨c, k1, k2, k3⟩ => ⟨c, k1, k2, k3.move (fun o z => ow _ _ (ok k2) z) fun _ _ _ => CeR.hk st⟩⟩, h.no, h.out, fun a n => let ⟨kvs, z⟩ := h.own a n; ⟨kvs, ow _ _ n z⟩⟩
theorem GrG.same {wa kd hd : Addr} {S : Gs} {rk : Addr → Option Ow} (st : Same H H') (h : GrG K CF H wa kd hd S rk) : GrG K CF H' wa kd hd S rk := h.hk (.of st) fun b o _ e => st _ _ e
end
/-! ### one cell asked for -/
abbrev sCIx : Stmt := inClass (topS 25) 8
abbrev sIG : Stmt := inClass (topS 25) 9
abbrev sCA : Stmt := inClass (topS 25) 10
abbrev sKC : Stmt := inClass (topS 25) 11
abbrev sFA : Stmt := inClass (topS 25) 2
theorem scCI : FnScope ["self"] ["self"] (defScope sCIx) := ⟨rfl, rfl, rfl, by decide +kernel, rfl, by decide +kernel, by decide +kernel⟩
theorem scIG : FnScope ["self", "width", "start"] ["self", "width", "start"] (defScope sIG) := ⟨rfl, rfl, rfl, by decide +kernel, rfl, by decide +kernel, by decide +kernel⟩
theorem scKC : FnScope ["self", "place", "width"] ["self", "place", "width"] (defScope sKC) := ⟨rfl, rfl, rfl, by decide +kernel, rfl, by decide +kernel, by decide +kernel⟩
theorem scCA : FnScope ["self", "place", "width", "time"] ["self", "place", "width", "time"] (defScope sCA) := ⟨rfl, rfl, rfl, by decide +kernel, rfl, by decide +kernel, by decide +kernel⟩
theorem scFA : FnScope ["self", "place", "width", "time", "cell"] ["self", "place", "width", "time"] (defScope sFA) := ⟨rfl, rfl, rfl, by decide +kernel, rfl, by decide +kernel, by decide +kernel⟩
section
variable {P : Program} {w : World} {K : PySem.W.Frag} {mg : Str → Option Value} {base : Heap} {C CF : Addr}
def spCIx (C : Addr) : Sp := fun vs H Q _ => ∃ (g wa kd hd : Addr), vs = [.ref g] ∧ GiA C H g wa kd hd false ∧ Q .non H
theorem ok_ci {f : Addr} {fd : FuncData} {k : Nat} (F : Fun K "check_idle" "Grains.check_idle" sCIx f fd) (T : TGr K C) : FnOk P w K mg base CX0 (k + 1) f fd ["self"] (spCIx C) := by
  refine F.ok scCI (fun vs H Q E h => ?_) (fun cdv A outer s H vs Q E hr h => ?_)
  · obtain ⟨g, wa, kd, hd, rfl, _⟩ := h
    rfl
  · obtain ⟨g, wa, kd, hd, rfl, ⟨dx, hg⟩, q⟩ := h
    refine ⟨_, pss_one (ps_if (pt_val (pe_fld (pv 0) rfl))
        (pss_one ps_dead)
        pss_nil), ?_⟩
    exact ⟨_, rfl, g, C, dx, _, .bl false, rfl, hg, T.cl, T.no _ (by decide), rfl, false, rfl, if_f q⟩
def spIG (K : PySem.W.Frag) (C CF : Addr) : Sp := fun vs H Q _ => ∃ (g wa kd hd : Addr) (b : Bool) (x s : Int) (S : Gs) (rk : Addr → Option Ow), vs = [.ref g, .int x, .int s] ∧ GiA C H g wa kd hd b ∧ GrG K CF H wa kd hd S rk ∧ Q (.bl (S.gone x s)) H
theorem ok_ig {f : Addr} {fd : FuncData} {k : Nat} (F : Fun K "is_gone" "Grains.is_gone" sIG f fd) (T : TGr K C) : FnOk P w K mg base CX0 (k + 1) f fd ["self", "width", "start"] (spIG K C CF) := by
  refine F.ok scIG (fun vs H Q E h => ?_) (fun cdv A outer s H vs Q E hr h => ?_)
  · obtain ⟨g, wa, kd, hd, b, x, s, S, rk, rfl, _⟩ := h
    rfl
  · obtain ⟨g, wa, kd, hd, b, x, s, S, rk, rfl, ⟨dx, hg⟩, gr, q⟩ := h
    have hu := hu_of hr
    obtain ⟨hs, dh, hno, _⟩ := gr.gh
    obtain ⟨hvs, hh, hk⟩ := dh.k
    refine ⟨_, pss_one (ps_ret (pe_cmpR op_lt (pv 2) (pe_dget2 hu (pe_fld (pv 0) rfl) (pv 1) (pv 2) ⟨rfl, rfl, rfl, rfl⟩) (nomark _))), ?_⟩
    refine ⟨_, rfl, _, rfl, g, C, dx, _, .ref hd, rfl, hg, T.cl, T.no _ (by decide), rfl, hd, rfl, .inl ⟨_, .inl hh⟩, _, rfl, _, rfl, _, DGet.k (k := .inl x) hh, ?_⟩
    unfold Gs.gone at q
    by_cases c : x ∈ hs
    · obtain ⟨v, ev, h, rfl, eh⟩ := hk.all x c
      rw [eh] at q
      rw [ev]
      exact ⟨_, _, rfl, rfl, q⟩
    · rw [hno x c] at q
      rw [hk.miss c]
      refine ⟨_, _, rfl, rfl, ?_⟩
      show Q (.bl (decide (s < s))) H
      rw [decide_eq_false (Int.lt_irrefl s)]
      exact q
/-- what is kept of a place: a dict of its cells -/
def spKC (K : PySem.W.Frag) (C CF : Addr) : Sp := fun vs H Q _ => ∃ (g wa kd hd : Addr) (p x : Int) (S : Gs) (rk : Addr → Option Ow) (b : Bool), vs = [.ref g, .int p, .int x] ∧ GiA C H g wa kd hd b ∧ GrG K CF H wa kd hd S rk ∧ x ∈ S.ws ∧
  ∀ r H', Same H H' → (rk r ≠ none ∨ H r = none) → DcI H' r (S.ss p x) (CeR K CF H' (S.cf p x)) → Q (.ref r) H'
theorem ok_kc {f : Addr} {fd : FuncData} {k : Nat} (F : Fun K "kept_cells" "Grains.kept_cells" sKC f fd) (T : TGr K C) : FnOk P w K mg base CX0 (k + 1) f fd ["self", "place", "width"] (spKC K C CF) := by
  refine F.ok scKC (fun vs H Q E h => ?_) (fun cdv A outer s H vs Q E hr h => ?_)
  · obtain ⟨g, wa, kd, hd, p, x, S, rk, b, rfl, _⟩ := h
    rfl
  · obtain ⟨g, wa, kd, hd, p, x, S, rk, b, rfl, ⟨dx, hg⟩, gr, hx, q⟩ := h
    have hu := hu_of hr
    refine ⟨_, pss_one (ps_ret (pe_dget2 hu (pe_dget hu (pe_fld (pv 0) rfl) (pv 2) (fun _ _ => rfl)) (pv 1) pe_dnewK ⟨rfl, rfl, rfl, rfl⟩)), ?_⟩
    obtain ⟨kvs, hk, dk⟩ := gr.gk.k
    obtain ⟨v, ev, e, rfl, re, de⟩ := dk.all x hx
    obtain ⟨pvs, he, pk⟩ := de.k
    have gd := DGet.k (k := .inl x) hk
    rw [ev] at gd
    refine ⟨_, rfl, g, C, dx, _, .ref kd, rfl, hg, T.cl, T.no _ (by decide), rfl, _, rfl, kd, _, rfl, gd, e, rfl, ?_⟩
    refine ⟨.inl ⟨_, .inl he⟩, _, rfl, fun nw nn => ⟨_, DGet.k (k := .inl p) ((same_new nn) _ _ he), ?_⟩⟩
    by_cases c : p ∈ S.pls x
    · obtain ⟨u, eu, c, rfl, rc, hc⟩ := pk.all p c
      rw [eu]
      exact q c _ (same_new nn) (.inl fun z => by rw [rc] at z; cases z) (hc.same (same_new nn) fun s v _ => CeR.same (same_new nn))
    · rw [pk.miss c]
      rw [gr.no x p c] at q
      exact q nw _ (same_new nn) (.inr nn) (DcK.nil.at_ upd_same)
/-- the cell's own fold and number, or None -/
def spCA (K : PySem.W.Frag) (C CF : Addr) : Sp := fun vs H Q _ => ∃ (g wa kd hd : Addr) (p x t : Int) (S : Gs) (rk : Addr → Option Ow) (b : Bool), vs = [.ref g, .int p, .int x, .int t] ∧ GiA C H g wa kd hd b ∧ GrG K CF H wa kd hd S rk ∧ x ∈ S.ws ∧ 0 < x ∧
  (t - t % x ∉ S.ss p x → ∀ H', Same H H' → Q .non H') ∧ ∀ v H', Same H H' → CeR K CF H' (S.cf p x) (t - t % x) v → Q v H'
theorem ok_ca {f : Addr} {fd : FuncData} {k : Nat} (F : Fun K "cell_at" "Grains.cell_at" sCA f fd) (T : TGr K C) (C_check_width : Cal P w K mg base k "check_width" ["widths", "width"] (spCkw K)) (M_kept_cells : CalM P w K mg base k C "kept_cells" ["self", "place", "width"] (spKC K C CF)) (C_cell_of : Cal P w K mg base k "cell_of" ["time", "width"] spCell) :
    FnOk P w K mg base CX0 (k + 1) f fd ["self", "place", "width", "time"] (spCA K C CF) := by
  refine F.ok scCA (fun vs H Q E h => ?_) (fun cdv A outer s H vs Q E hr h => ?_)
  · obtain ⟨g, wa, kd, hd, p, x, t, S, rk, b, rfl, _⟩ := h
    rfl
  · obtain ⟨g, wa, kd, hd, p, x, t, S, rk, b, rfl, gi, gr, hx, x0, qN, qY⟩ := h
    have hu := hu_of hr
    obtain ⟨dx, hg⟩ := id gi
    refine ⟨_, pss_cons (ps_expr (pe_cal C_check_width (hr.mono (by omega)) (by rfl) (pa_cons (pe_fld (pv 0) rfl) (pa_cons (pv 2) pa_nil))))
      (pss_one (ps_ret (pe_dget1 hu (pe_calM (pv 0) T.cl M_kept_cells (hr.mono (by omega)) (pa_cons (pv 1) (pa_cons (pv 2) pa_nil))) (pe_cal C_cell_of (hr.mono (by omega)) (by rfl) (pa_cons (pv 3) (pa_cons (pv 2) pa_nil))) ⟨rfl, rfl, rfl, rfl⟩))), ?_⟩
    refine ⟨_, rfl, g, C, dx, _, .ref wa, rfl, hg, T.cl, T.no _ (by decide), rfl, _, rfl, wa, S.ws, x, rfl, gr.gw, hx, ?_⟩
    refine ⟨_, rfl, g, dx, _, rfl, hg, rfl, _, rfl, _, rfl, g, wa, kd, hd, p, x, S, rk, b, rfl, gi, gr, hx, fun r H1 s1 _ dr => ?_⟩
    obtain ⟨kvs, hr1, dk⟩ := dr.k
    refine ⟨r, rfl, .inl ⟨_, .inl hr1⟩, _, rfl, _, rfl, t, x, rfl, x0, _, DGet.k (k := .inl (t - t % x)) hr1, ?_⟩
    by_cases c : t - t % x ∈ S.ss p x
    · obtain ⟨v, ev, rv⟩ := dk.all _ c
      rw [ev]
      exact qY v _ s1 rv
    · rw [dk.miss c]
      exact qN c _ s1
/-- the fold of a cell; where none is kept, the empty one -/
def spFA (K : PySem.W.Frag) (C CF : Addr) : Sp := fun vs H Q _ => ∃ (g wa kd hd : Addr) (p x t : Int) (S : Gs) (rk : Addr → Option Ow) (b : Bool), vs = [.ref g, .int p, .int x, .int t] ∧ GiA C H g wa kd hd b ∧ GrG K CF H wa kd hd S rk ∧ x ∈ S.ws ∧ 0 < x ∧
  ∀ a H', Same H H' → FdO K CF H' a (S.cf p x (t - t % x)).1 → Q (.ref a) H'
theorem fold0_made {x dx : Addr} {H : Hp} (nx : H x = none) (nd : H dx = none) (ne : dx ≠ x) :
    Same H (upd (upd (upd H dx (.own x)) x (.ins CF dx [])) x (.ins CF dx (flds (fOf []) .non .non))) ∧ FdO K CF (upd (upd (upd H dx (.own x)) x (.ins CF dx [])) x (.ins CF dx (flds (fOf []) .non .non))) x (fOf []) :=
  fd_made nx nd ne rfl rfl
theorem ok_fa {f : Addr} {fd : FuncData} {k : Nat} (F : Fun K "fold_at" "Grains.fold_at" sFA f fd) (T : TGr K C) (M_cell_at : CalM P w K mg base k C "cell_at" ["self", "place", "width", "time"] (spCA K C CF)) (K_Fold0 : KF0 P w K mg base CF k) : FnOk P w K mg base CX0 (k + 2) f fd ["self", "place", "width", "time"] (spFA K C CF) := by
  refine F.ok scFA (fun vs H Q E h => ?_) (fun cdv A outer s H vs Q E hr h => ?_)
  · obtain ⟨g, wa, kd, hd, p, x, t, S, rk, b, rfl, _⟩ := h
    rfl
  · obtain ⟨g, wa, kd, hd, p, x, t, S, rk, b, rfl, gi, gr, hx, x0, q⟩ := h
    obtain ⟨dx, hg⟩ := id gi
    refine ⟨_, pss_cons (ps_set (i := 4) scFA.nd rfl (.inl rfl) (pe_calM (pv 0) T.cl M_cell_at (hr.mono (by omega)) (pa_cons (pv 1) (pa_cons (pv 2) (pa_cons (pv 3) pa_nil)))))
      (pss_one (ps_ret (pe_ifExp (pt_cmpR op_isN (pv 4) pe_non (nomark _)) (pe_calCK K_Fold0 (hr.mono (by omega)) (by rfl) pk_nil) (pe_ix ix_tup (pv 4) pe_int (fun _ _ => rfl))))), ?_⟩
    refine ⟨_, rfl, g, dx, _, rfl, hg, rfl, _, rfl, _, rfl, _, rfl, g, wa, kd, hd, p, x, t, S, rk, b, rfl, gi, gr, hx, x0, fun n H1 s1 => ?_, fun v H1 s1 cr => ?_⟩
    · refine ⟨_, rfl, rfl, true, rfl, if_t ⟨rfl, rfl, fun z dz nz nd ne => ⟨z, dz, _, _, _, _, _, _, _, _, _, rfl, upd_same, rfl, ?_⟩⟩⟩
      obtain ⟨m1, m2⟩ := fold0_made (K := K) (CF := CF) nz nd ne
      rw [gr.out p x _ n] at q
      exact q z _ (s1.trans m1) m2
    · obtain ⟨u, a, rfl, hu, fa⟩ := cr
      refine ⟨_, rfl, rfl, false, congrArg V.bl (decide_eq_false fun z => nomatch z), if_f ?_⟩
      exact ⟨_, rfl, u, _, _, _, rfl, rfl, hu, rfl, q a H1 s1 fa⟩
end
end Tg

set_option maxHeartbeats 2000000
namespace Tg
open PySem PySem.Spec PyProof.Rows L2
/-! ### folds of narrow cells joined to folds of wide ones -/
set_option maxHeartbeats 2000000
abbrev sJF : Stmt := topS 23
abbrev NJF : List Str := ["folds", "width", "wholes", "cell", "start"]
theorem scJF : FnScope NJF ["folds", "width"] (defScope sJF) := ⟨rfl, rfl, rfl, by decide +kernel, rfl, by decide +kernel, by decide +kernel⟩
/-- the times in cells of ts that are in the wide cell from s on -/
def InW (x y : Int) (ts : List Int) (s t : Int) : Prop := (t - t % x) ∈ ts ∧ (t - t % x) - (t - t % x) % y = s
/-- a fold of the points that S picks -/
def SeR (K : PySem.W.Frag) (CF : Addr) (H : Hp) (ps : List Pt) (S : Int → Int → Prop) (s : Int) (v : V) : Prop := ∃ f qs, v = .ref f ∧ FdO K CF H f (fOf qs) ∧ Sel ps (S s) qs
theorem SeR.imp {K : PySem.W.Frag} {CF : Addr} {H H' : Hp} {ps : List Pt} {S S2 : Int → Int → Prop} {s : Int} {v : V} (f : ∀ {a F}, FdO K CF H a F → FdO K CF H' a F) (g : ∀ t, S s t ↔ S2 s t) (h : SeR K CF H ps S s v) : SeR K CF H' ps S2 s v := by
  obtain ⟨a, qs, e, h1, h2⟩ := h
  exact ⟨a, qs, e, f h1, h2.imp fun p _ => g p.1⟩
section
variable {P : Program} {w : World} {K : PySem.W.Frag} {mg : Str → Option Value} {base : Heap} {C CF : Addr}
def spJF (K : PySem.W.Frag) (CF : Addr) : Sp := fun vs H Q _ => ∃ (a : Addr) (x y : Int) (ps : List Pt) (cs : List Int), vs = [.ref a, .int y] ∧ 0 < x ∧ 0 < y ∧ TbOk ps ∧ DcI H a cs (FoR K CF H (cellF ps x)) ∧ (∀ c, c ∈ cs → c % x = 0) ∧ cs.length ≤ 900 ∧
  ∀ r gs H', Same H H' → H r = none → DcI H' r gs (SeR K CF H' ps (InW x y cs)) → (∀ s, s ∈ gs ↔ ∃ c, c ∈ cs ∧ c - c % y = s) → Q (.ref r) H'
theorem ok_jf {f : Addr} {fd : FuncData} {k : Nat} (F : Fun K "joined_folds" "joined_folds" sJF f fd) (m_sorted : mg "sorted" = none) (C_cell_of : Cal P w K mg base k "cell_of" ["time", "width"] spCell) (K_Fold0 : KF0 P w K mg base CF k) (C_together : Cal P w K mg base k "together" ["one", "two"] (spTg K CF)) :
    FnOk P w K mg base CX0 (k + 2) f fd ["folds", "width"] (spJF K CF) := by
  refine F.ok scJF (fun vs H Q E h => ?_) (fun cdv A outer s H vs Q E hr h => ?_)
  · obtain ⟨a, x, y, ps, cs, rfl, _⟩ := h
    rfl
  · obtain ⟨a, x, y, ps, cs, rfl, x0, y0, okp, da, mod, few, q⟩ := h
    have hu := hu_of hr
    obtain ⟨kvs, ha, dk⟩ := da.k
    refine ⟨_, pss_cons (ps_set (i := 2) scJF.nd rfl (.inl rfl) pe_dnewK)
      (pss_cons (ps_for PassesOwn.never rfl (pi_list (pe_callB (cr_sortedDI rfl) (by rfl) m_sorted (by decide +kernel) (pa_cons (pv 0) pa_nil))) (pg_name (i := 3) scJF.nd rfl (.inl rfl))
        (pss_cons (ps_set (i := 4) scJF.nd rfl (.inl rfl) (pe_cal C_cell_of (hr.mono (by omega)) (by rfl) (pa_cons (pv 3) (pa_cons (pv 1) pa_nil))))
        (pss_one (ps_dput hu (pv 2) (pv 4) (pe_cal C_together (hr.mono (by omega)) (by rfl) (pa_cons (pe_dget2 hu (pv 2) (pv 4) (pe_calCK K_Fold0 (hr.mono (by omega)) (by rfl) pk_nil) ⟨rfl, rfl, rfl, rfl⟩) (pa_cons (pe_dget hu (pv 0) (pv 3) (fun _ _ => rfl)) pa_nil))) rfl))))
      (pss_one (ps_ret (pv 2)))), ?_⟩
    intro d nd
    have s1 := same_new (o := .dK []) nd
    refine ⟨_, rfl, a, _, cs, rfl, .inl (s1 _ _ ha), dk.ks, fun ns p pm up np => ?_⟩
    have s2 := same_new (o := .lst (ns.map V.int)) np
    obtain ⟨H2, e2⟩ : ∃ H2, upd (upd H d (.dK [])) p (.lst (ns.map V.int)) = H2 := ⟨_, rfl⟩
    have hp2 : H2 p = some (.lst (ns.map V.int)) := by
      rw [← e2]
      exact upd_same
    have s12 : Same H H2 := by
      rw [← e2]
      exact s1.trans s2
    have hd2 : H2 d = some (.dK []) := by
      rw [← e2]
      exact s2 _ _ upd_same
    rw [e2]
    have pd : p ≠ d := fun z => by
      rw [z, hd2] at hp2
      cases hp2
    have ndc : d ≠ a := fun z => by
      rw [z, ha] at nd
      cases nd
    have nds : ns.Nodup := pm.nodup_iff.mpr dk.nd
    have lt := ups_lt up nds
    have ln : ns.length = cs.length := pm.length_eq
    refine ⟨p, rfl, ⟨_, SqL.of hp2⟩, for_list (K := K) (a := p) (xs := ns.map V.int) (fun i σ Hc => ∃ (z3 z4 : Option V) (gs : List Int), σ = [some (.ref a), some (.int y), some (.ref d), z3, z4] ∧ DcI Hc d gs (SeR K CF Hc ps (InW x y (ns.take i))) ∧ (∀ s, s ∈ gs ↔ ∃ c, c ∈ ns.take i ∧ c - c % y = s) ∧ gs.length ≤ i ∧ ∀ b o, b ≠ d → H2 b = some o → Hc b = some o)
      ⟨none, none, [], rfl, DcK.nil.at_ hd2, (fun s => ⟨fun z => absurd z List.not_mem_nil, fun ⟨_, z, _⟩ => by rw [List.take_zero] at z; exact absurd z List.not_mem_nil⟩), Nat.le_refl _, fun b o _ h => h⟩
      (fun i σ Hc _ ⟨_, _, _, _, _, _, _, kc⟩ => SqL.of (kc _ _ pd hp2)) ?_ ?_⟩
    · rintro i v σ Hc hv ⟨z3, z4, gs, rfl, dg, mg2, lg, kc⟩
      rw [List.getElem?_map] at hv
      obtain ⟨c, ec, rfl⟩ := Option.map_eq_some_iff.mp hv
      have il : i < ns.length := (List.getElem?_eq_some_iff.mp ec).1
      have cin : c ∈ cs := pm.mem_iff.mp (List.mem_of_getElem? ec)
      have c0 := mod c cin
      obtain ⟨v2, ev2, fa, rfl, ff⟩ := dk.all c cin
      have tk : ns.take (i + 1) = ns.take i ++ [c] := take_snoc ec
      obtain ⟨gvs, hdc, gk⟩ := dg.k
      have kH : ∀ b o, H b = some o → Hc b = some o := fun b o h => kc b o (ne_of_none h nd) (s12 _ _ h)
      have hac := kH _ _ ha
      obtain ⟨s0, es0⟩ : ∃ s0 : Int, c - c % y = s0 := ⟨_, rfl⟩
      -- all cells ahead end ahead of this one
      have ahead : ∀ e, e ∈ ns.take i → e + x ≤ c := fun e he => by
        obtain ⟨j, hj, ej⟩ := List.getElem_of_mem he
        rw [List.length_take] at hj
        rw [List.getElem_take] at ej
        obtain ⟨_, ei⟩ := List.getElem?_eq_some_iff.mp ec
        have l := List.pairwise_iff_getElem.mp lt j i (by omega) il (by omega)
        rw [ej, ei] at l
        have e0 := mod e (pm.mem_iff.mp (List.mem_of_mem_take he))
        have dv : (c - e) % x = 0 := by
          rw [Int.sub_emod, c0, e0]
          rfl
        have pos : 0 < c - e := by omega
        have := Int.le_of_dvd pos (Int.dvd_of_emod_eq_zero dv)
        omega
      refine ⟨_, rfl, _, rfl, c, y, rfl, y0, ?_⟩
      rw [es0]
      refine ⟨_, rfl, d, rfl, .inl ⟨_, .inl hdc⟩, _, rfl, rfl, rfl, fun z dz nz nd2 ne => ⟨z, dz, _, _, _, _, _, _, _, _, _, rfl, upd_same, rfl, ?_⟩⟩
      obtain ⟨m1, m2⟩ := fold0_made (K := K) (CF := CF) nz nd2 ne
      have two : ∃ f qs, (valV gvs (.inl s0)).getD (.ref z) = .ref f ∧ FdO K CF (upd (upd (upd Hc dz (.own z)) z (.ins CF dz [])) z (.ins CF dz (flds (fOf []) .non .non))) f (fOf qs) ∧ Sel ps (InW x y (ns.take i) s0) qs := by
        by_cases cg : s0 ∈ gs
        · obtain ⟨v, ev, f, qs, rfl, h1, h2⟩ := gk.all s0 cg
          exact ⟨f, qs, by rw [ev] <;> rfl, h1.same m1, h2⟩
        · exact ⟨z, [], by rw [gk.miss cg] <;> rfl, m2, Sel.nil fun p _ h => cg ((mg2 s0).mpr ⟨_, h.1, h.2⟩)⟩
      obtain ⟨f, qs, ef, hf, sel⟩ := two
      have sel2 := sel.app (sel_cell okp.nd x c) fun t1 t2 h1 h2 => by
        have l1 := ahead _ h1.1
        have l2 := Int.emod_lt_of_pos t1 x0
        have l3 := h2.1
        omega
      have sel3 : Sel ps (InW x y (ns.take (i + 1)) s0) (qs ++ cutF ps c (c + x)) := sel2.imp fun pt _ => by
        unfold InW
        rw [tk, List.mem_append, List.mem_singleton, ← cell_iff x0 c0]
        exact ⟨fun h => h.elim (fun h => ⟨.inl h.1, h.2⟩) fun h => ⟨.inr h, by rw [h]; exact es0⟩, fun ⟨h1, h2⟩ => h1.elim (fun h => .inl ⟨h, h2⟩) .inr⟩
      have gda := DGet.k (k := .inl c) (m1 _ _ hac)
      rw [ev2] at gda
      have ffc : FdO K CF Hc fa (fOf (cutF ps c (c + x))) := ff.hk (.of kH)
      refine ⟨_, DGet.k (k := .inl s0) (m1 _ _ hdc), _, rfl, _, rfl, a, _, rfl, gda, ?_⟩
      rw [ef]
      refine ⟨f, fa, qs, cutF ps c (c + x), rfl, hf, ffc.same m1, sel3.ok okp, fun c4 H4 s4 h4 => ?_⟩
      have m4 := m1.trans s4
      have hd4 := m4 _ _ hdc
      refine ⟨_, rfl, _, rfl, d, _, rfl, DPut.k (k := .inl s0) hd4 (small1000 (by rw [gk.len]; omega)), _, _, addS gs s0, rfl, ?_, fun s => ?_, Nat.le_trans len_addS (by omega), fun b o n h => (upd_ne n).trans (m4 _ _ (kc b o n h))⟩
      · refine (gk.put (R2 := SeR K CF (upd H4 d (.dK (putK gvs (.inl s0) (.ref c4)))) ps (InW x y (ns.take (i + 1)))) ⟨c4, _, rfl, h4.put hd4, sel3⟩ fun s u ne _ h => h.imp (fun z => (z.same m4).put hd4) fun t => ?_).at_ upd_same
        unfold InW
        rw [tk, List.mem_append, List.mem_singleton]
        exact ⟨fun h => ⟨.inl h.1, h.2⟩, fun ⟨h1, h2⟩ => ⟨h1.resolve_right fun e => ne (by rw [← h2, e]; exact es0), h2⟩⟩
      · rw [mem_addS, mg2 s, tk]
        constructor
        · rintro (⟨e, h1, h2⟩ | h)
          · exact ⟨e, List.mem_append_left _ h1, h2⟩
          · exact ⟨c, List.mem_append_right _ (List.mem_singleton.mpr rfl), es0.trans h.symm⟩
        · rintro ⟨e, h1, h2⟩
          rcases List.mem_append.mp h1 with h | h
          · exact .inl ⟨e, h, h2⟩
          · rw [List.mem_singleton.mp h] at h2
            exact .inr (h2.symm.trans es0)
    · rintro σ Hc ⟨z3, z4, gs, rfl, dg, mg2, lg, kc⟩
      rw [List.length_map] at dg mg2
      rw [List.take_length] at dg mg2
      have ct : ∀ z : Int, z ∈ ns ↔ z ∈ cs := fun z => pm.mem_iff
      refine ⟨_, rfl, q d gs Hc (fun b o h => kc b o (ne_of_none h nd) (s12 _ _ h)) nd ?_ fun s => ?_⟩
      · obtain ⟨gvs, hdc, gk⟩ := dg.k
        exact (gk.imp fun s v _ h => h.imp (fun z => z) fun t => by unfold InW; rw [ct]).at_ hdc
      · rw [mg2 s]
        exact ⟨fun ⟨c, h1, h2⟩ => ⟨c, (ct c).mp h1, h2⟩, fun ⟨c, h1, h2⟩ => ⟨c, (ct c).mpr h1, h2⟩⟩
end
end Tg

set_option maxHeartbeats 2000000
namespace Tg
open PySem PySem.Spec PyProof.Rows L2
/-! ### full_folds, cells_of, cells_with -/
set_option maxHeartbeats 2000000
theorem pe_fldK {X : Cx} {e : Expr} {f : Str} {pos : Pos} {ta : TE} (K : PySem.W.Frag) (he : PE X e ta) (hb : attributeBase e f X.env (eval e X.env) = eval e X.env) (hK : X.K = K := by rfl) : PE X (.Attribute e f pos) (tFld K ta f) := by
  subst hK
  exact pe_fld he hb
abbrev sFF : Stmt := inClass (topS 25) 12
abbrev sCW : Stmt := inClass (topS 25) 13
abbrev NFF : List Str := ["self", "place", "width", "start", "fold", "since"]
abbrev NCW : List Str := ["self", "times", "width", "starts", "time", "start"]
theorem scFF : FnScope NFF ["self", "place", "width"] (defScope sFF) := ⟨rfl, rfl, rfl, by decide +kernel, rfl, by decide +kernel, by decide +kernel⟩
theorem scCW : FnScope NCW ["self", "times", "width"] (defScope sCW) := ⟨rfl, rfl, rfl, by decide +kernel, rfl, by decide +kernel, by decide +kernel⟩
section
variable {P : Program} {w : World} {K : PySem.W.Frag} {mg : Str → Option Value} {base : Heap} {C CF : Addr}
/-- a new dict of the folds that tell something -/
def spFF (K : PySem.W.Frag) (C CF : Addr) : Sp := fun vs H Q _ => ∃ (g wa kd hd : Addr) (p x : Int) (S : Gs) (rk : Addr → Option Ow) (b : Bool), vs = [.ref g, .int p, .int x] ∧ GiA C H g wa kd hd b ∧ GrG K CF H wa kd hd S rk ∧ x ∈ S.ws ∧ (S.ss p x).length ≤ 900 ∧
  ∀ r gs H', Same H H' → H r = none → DcI H' r gs (FoR K CF H' fun s => (S.cf p x s).1) → (∀ s, s ∈ gs ↔ s ∈ S.ss p x ∧ 0 < (S.cf p x s).1.cnt) → Q (.ref r) H'
theorem ok_ff {f : Addr} {fd : FuncData} {k : Nat} (F : Fun K "full_folds" "Grains.full_folds" sFF f fd) (T : TGr K C) (TF : TFold K CF) (M_kept_cells : CalM P w K mg base k C "kept_cells" ["self", "place", "width"] (spKC K C CF)) : FnOk P w K mg base CX0 (k + 1) f fd ["self", "place", "width"] (spFF K C CF) := by
  refine F.ok scFF (fun vs H Q E h => ?_) (fun cdv A outer s H vs Q E hr h => ?_)
  · obtain ⟨g, wa, kd, hd, p, x, S, rk, b, rfl, _⟩ := h
    rfl
  · obtain ⟨g, wa, kd, hd, p, x, S, rk, b, rfl, gi, gr, hx, few, q⟩ := h
    obtain ⟨dx, hg⟩ := id gi
    refine ⟨_, pss_one (ps_ret (pe_thaw (pe_dc (own := [("start", 3), ("fold", 4), ("since", 5)]) (g := (gTup K 2 (gCons (gName 3) (gCons (gTup K 2 (gCons (gName 4) (gCons (gName 5) gNil))) gNil)))) rfl scFF.nd (pi_items (pe_hold (pe_calM (pv 0) T.cl M_kept_cells (hr.mono (by omega)) (pa_cons (pv 1) (pa_cons (pv 2) pa_nil))))) (blkOk_by (own := [("start", 3), ("fold", 4), ("since", 5)]) (N := NFF) (sc := defScope sFF) (by decide +kernel)) (fun _ _ _ _ _ => (pg_tup rfl (pgs_cons (pg_name (i := 3) scFF.nd rfl (.inl rfl)) (pgs_cons (pg_tup rfl (pgs_cons (pg_name (i := 4) scFF.nd rfl (.inl rfl)) (pgs_cons (pg_name (i := 5) scFF.nd rfl (.inl rfl)) pgs_nil))) pgs_nil)))) (fun _ _ _ _ _ => pts_one (pt_cmpR op_gt (pe_fldK K (pv 4) rfl) pe_int (nomark _))) (fun _ _ _ _ _ => (pv 3)) (fun _ _ _ _ _ => (pv 4))))), ?_⟩
    refine ⟨_, rfl, g, dx, _, rfl, hg, rfl, _, rfl, _, rfl, g, wa, kd, hd, p, x, S, rk, b, rfl, gi, gr, hx, fun r H1 s1 _ dr => ?_⟩
    obtain ⟨kvs, hr1, dk⟩ := dr.k
    refine ⟨r, _, rfl, hr1, trivial, fun od hn => ?_⟩
    obtain ⟨H2, e2⟩ : ∃ H2, upd H1 r (.frz od (.dK kvs)) = H2 := ⟨_, rfl⟩
    have h2 : H2 r = some (.frz od (.dK kvs)) := by
      rw [← e2]
      exact upd_same
    rw [e2]
    refine ⟨r, od, _, rfl, h2, fun D nD => ?_⟩
    have rD : r ≠ D := ne_of_none h2 nD
    have nD1 : H1 D = none := by
      rw [← e2, upd_ne rD.symm] at nD
      exact nD
    have k2 : ∀ b o, b ≠ r → H1 b = some o → H2 b = some o := fun b o n h => by
      rw [← e2, upd_ne n]
      exact h
    have sD := same_new (o := .dK []) nD
    have f2 : ∀ {s v}, CeR K CF H1 (S.cf p x) s v → CeR K CF H2 (S.cf p x) s v := fun {s v} h => h.hk (by rw [← e2]; exact .put hr1 soft_dK)
    refine walked_w walk_items (fun i Hc => Same H2 Hc ∧ ∃ gs, DcI Hc D gs (FoR K CF Hc fun s => (S.cf p x s).1) ∧ (∀ s, s ∈ gs ↔ s ∈ (S.ss p x).take i ∧ 0 < (S.cf p x s).1.cnt) ∧ gs.length ≤ i) ⟨sD, [], DcK.nil.at_ upd_same, (fun s => ⟨fun z => absurd z List.not_mem_nil, fun z => by rw [List.take_zero] at z; exact absurd z.1 List.not_mem_nil⟩), Nat.le_refl _⟩ (fun i Hc _ h => h.1 _ _ h2) ?_ ?_
    · rintro i y Hc Hd hi ⟨sc, gs, dg, mg2, lg⟩ ⟨T0, x1, x2, rfl, nT, rfl, f1, f2⟩
      obtain ⟨kv, ekv, rfl⟩ := Option.map_eq_some_iff.mp f1
      dsimp only at ekv f2
      rw [ekv] at f2
      obtain ⟨kk, vv⟩ := kv
      cases f2
      obtain ⟨s0, rfl, es, sin, cr⟩ := dk.item ekv
      obtain ⟨t, a, rfl, ht, fa⟩ := f2 cr
      have sT : Same Hc (upd Hc T0 (.tup [kV (.inl s0), .ref t])) := same_new nT
      have ht3 := sqT_same (sc.trans sT) ht
      have fa3 := fa.same (sc.trans sT)
      obtain ⟨fdx, vf, vl, ea, _⟩ := id fa3
      refine ⟨T0, _, rfl, SqT.of upd_same, rfl, _, _, rfl, _, _, rfl, t, _, rfl, ht3, rfl, ?_⟩
      refine ⟨_, _, rfl, _, _, rfl, rfl, rfl, rfl, _, rfl, a, CF, fdx, _, .int (S.cf p x s0).1.cnt, rfl, ea, TF.cl, TF.no _ (by decide), rfl, _, _, rfl, rfl, decide (0 < (S.cf p x s0).1.cnt), rfl, ?_⟩
      have tk : (S.ss p x).take (i + 1) = (S.ss p x).take i ++ [s0] := take_snoc es
      obtain ⟨gvs, hD, gk⟩ := dg.k
      have hDT := sT _ _ hD
      by_cases c0 : 0 < (S.cf p x s0).1.cnt
      · rw [decide_eq_true c0]
        have l9 : i < (S.ss p x).length := (List.getElem?_eq_some_iff.mp es).1
        refine if_t ⟨_, rfl, _, rfl, gvs, .inl s0, rfl, hDT, small1000 (by rw [gk.len]; omega), same_put nD (sc.trans sT), addS gs s0, (gk.put (R2 := FoR K CF (upd (upd Hc T0 (.tup [kV (.inl s0), .ref t])) D (.dK (putK gvs (.inl s0) (.ref a)))) fun s => (S.cf p x s).1) ⟨a, rfl, fa3.hk (.put hDT soft_dK)⟩ fun _ _ _ _ h => (h.same sT).hk (.put hDT soft_dK)).at_ upd_same, fun s => ?_, Nat.le_trans len_addS (by omega)⟩
        · rw [mem_addS, mg2 s, tk, List.mem_append, List.mem_singleton]
          constructor
          · rintro (⟨h1, h2⟩ | h)
            · exact ⟨.inl h1, h2⟩
            · exact ⟨.inr h, h ▸ c0⟩
          · rintro ⟨h1 | h1, h2⟩
            · exact .inl ⟨h1, h2⟩
            · exact .inr h1
      · rw [decide_eq_false c0]
        refine if_f ⟨sc.trans sT, gs, (gk.imp fun _ _ _ h => h.same sT).at_ hDT, fun s => ?_, by omega⟩
        rw [mg2 s, tk, List.mem_append, List.mem_singleton]
        exact ⟨fun h => ⟨.inl h.1, h.2⟩, fun ⟨h1, h2⟩ => ⟨h1.resolve_right fun e => c0 (e ▸ h2), h2⟩⟩
    · rintro Hc ⟨sc, gs, dg, mg2, lg⟩
      rw [dk.len, List.take_length] at mg2
      refine ⟨r, od, _, sc _ _ h2, hn, ?_⟩
      have rest : ∀ b o, b ≠ r → Hc b = some o → (upd Hc r (.dK kvs)) b = some o := fun b o n h => (upd_ne n).trans h
      obtain ⟨gvs, hD, gk⟩ := dg.k
      refine q D gs _ (s1.trans fun c o h => ?_) (s1.free nD1) ((gk.imp fun _ _ _ h => h.hk (.put (sc _ _ h2) soft_frz)).at_ (rest _ _ rD.symm hD)) mg2
      by_cases z : c = r
      · rw [z, hr1] at h
        cases h
        rw [z, upd_same]
      · exact rest _ _ z (sc _ _ (k2 _ _ z h))
/-- the starts of the cells that times are in, but those let go -/
def Gs.cells (S : Gs) (ts : List Int) (x : Int) : List Int := (startsF ts x).filter fun s => !S.gone x s
def spCW (K : PySem.W.Frag) (C CF : Addr) : Sp := fun vs H Q _ => ∃ (g wa kd hd l : Addr) (b : Bool) (ts : List Int) (x : Int) (S : Gs) (rk : Addr → Option Ow), vs = [.ref g, .ref l, .int x] ∧ GiA C H g wa kd hd b ∧ GrG K CF H wa kd hd S rk ∧ H l = some (.lst (ts.map V.int)) ∧ ts.length ≤ 900 ∧ 0 < x ∧
  ∀ r H', Same H H' → H r = none → H' r = some (.lst ((S.cells ts x).map V.int)) → Q (.ref r) H'
theorem ok_cw {f : Addr} {fd : FuncData} {k : Nat} (F : Fun K "cells_with" "Grains.cells_with" sCW f fd) (T : TGr K C) (m_sorted : mg "sorted" = none) (C_cell_of : Cal P w K mg base k "cell_of" ["time", "width"] spCell) (M_is_gone : CalM P w K mg base k C "is_gone" ["self", "width", "start"] (spIG K C CF)) : FnOk P w K mg base CX0 (k + 1) f fd ["self", "times", "width"] (spCW K C CF) := by
  refine F.ok scCW (fun vs H Q E h => ?_) (fun cdv A outer s H vs Q E hr h => ?_)
  · obtain ⟨g, wa, kd, hd, l, b, ts, x, S, rk, rfl, _⟩ := h
    rfl
  · obtain ⟨g, wa, kd, hd, l, b, ts, x, S, rk, rfl, gi, gr, hl, few, x0, q⟩ := h
    refine ⟨_, pss_cons (ps_set (i := 3) scCW.nd rfl (.inl rfl) (pe_callB (cr_sortedSetA rfl) (by rfl) m_sorted (by decide +kernel) (pa_cons (pe_scI (own := [("time", 4)]) (g := (gName 4)) (tt := tYes) rfl scCW.nd (pi_list (pv 1)) (blkOk_by (own := [("time", 4)]) (N := NCW) (sc := defScope sCW) (by decide +kernel)) (fun _ _ _ _ _ => (pg_name (i := 4) scCW.nd rfl (.inl rfl))) (fun _ _ _ _ _ => pts_nil) (fun _ _ _ _ _ => (pe_cal C_cell_of (hr.mono (by omega)) (by rfl) (pa_cons (pv 4) (pa_cons (pv 2) pa_nil))))) pa_nil)))
      (pss_one (ps_ret (pe_lc (own := [("start", 5)]) (g := (gName 5)) rfl scCW.nd (pi_list (pv 3)) (blkOk_by (own := [("start", 5)]) (N := NCW) (sc := defScope sCW) (by decide +kernel)) (fun _ _ _ _ _ => (pg_name (i := 5) scCW.nd rfl (.inl rfl))) (fun _ _ _ _ _ => pts_one (pt_not (pt_val (pe_calM (pv 0) T.cl M_is_gone (hr.mono (by omega)) (pa_cons (pv 2) (pa_cons (pv 5) pa_nil)))))) (fun _ _ _ _ _ => (pv 5))))), ?_⟩
    refine ⟨_, rfl, l, rfl, ⟨_, SqL.of hl⟩, fun D nD => ?_⟩
    have lD : l ≠ D := ne_of_none hl nD
    refine walked_w (walk_list (K := K) (a := l) (xs := ts.map V.int)) (fun i Hc => (∀ b o, b ≠ D → H b = some o → Hc b = some o) ∧ ∃ St n, Hc D = some (SetO w D St n) ∧ (∀ z, St z = true ↔ z ∈ (ts.take i).map fun t => t - t % x) ∧ n ≤ i) ⟨fun b o n h => (upd_ne n).trans h, _, 0, upd_same, (fun z => ⟨fun h => (by cases h), fun h => by rw [List.take_zero] at h; exact absurd h List.not_mem_nil⟩), Nat.le_refl _⟩ (fun i Hc _ h => SqL.of (h.1 _ _ lD hl)) ?_ ?_
    · rintro i y Hc Hd hi ⟨kc, St, n, hD, mS, ln⟩ yy
      obtain ⟨rfl, ey⟩ := yy
      rw [List.getElem?_map] at ey
      obtain ⟨t, et, rfl⟩ := Option.map_eq_some_iff.mp ey
      have il : i < ts.length := (List.getElem?_eq_some_iff.mp et).1
      have tk : ts.take (i + 1) = ts.take i ++ [t] := take_snoc et
      refine ⟨rfl, yes_b (if_t ⟨_, rfl, _, rfl, t, x, rfl, x0, _, St, n, rfl, hD, Nat.lt_of_le_of_lt (show n + 1 ≤ 1000 by omega) (by decide), fun b o nb h => (upd_ne nb).trans (kc b o nb h), _, _, upd_same, fun z => ?_, ?_⟩)⟩
      · rw [Bool.or_eq_true, mS z, decide_eq_true_eq, tk, List.map_append, List.mem_append, List.map_singleton, List.mem_singleton]
      · split <;> omega
    · rintro Hc ⟨kc, St, n, hD, mS, ln⟩
      rw [List.length_map] at mS ln
      rw [List.take_length] at mS
      refine ⟨D, _, n, rfl, hD, Nat.le_of_lt (small1000 (by omega)), fun ns p ⟨up, mem, len⟩ np => ?_⟩
      have en : ns = startsF ts x := ups_one up (starts_up x ts) fun z => (mem z).trans ((mS z).trans (by rw [mem_starts]; simp only [div_cell]))
      have sp := same_new (o := .lst (ns.map V.int)) np
      have nDH : H D = none := nD
      have k1 : ∀ b o, H b = some o → Hc b = some o := fun b o h => kc b o (ne_of_none h nD) h
      obtain ⟨H1, e1⟩ : ∃ H1, upd Hc p (.lst (ns.map V.int)) = H1 := ⟨_, rfl⟩
      have hp1 : H1 p = some (.lst (ns.map V.int)) := by
        rw [← e1]
        exact upd_same
      have sH1 : Same H H1 := fun b o h => by
        rw [← e1]
        exact sp _ _ (k1 b o h)
      rw [e1]
      obtain ⟨dx, hg1⟩ := gi.same sH1
      have gr1 := gr.same sH1
      refine ⟨_, rfl, p, rfl, ⟨_, SqL.of hp1⟩, fun D2 nD2 => lc_list (K := K) (a := p) (xs := ns.map V.int) (fun i Hc => Hc D2 = some (.lst (((ns.take i).filter fun s => !S.gone x s).map V.int)) ∧ ∀ b o, b ≠ D2 → H1 b = some o → Hc b = some o)
        ⟨upd_same, fun b o n h => (upd_ne n).trans h⟩ (fun i Hc _ h => SqL.of (h.2 _ _ (ne_of_none hp1 nD2) hp1)) ?_ ?_⟩
      · rintro i v Hc ev ⟨hL, kL⟩
        rw [List.getElem?_map] at ev
        obtain ⟨z, ez, rfl⟩ := Option.map_eq_some_iff.mp ev
        have il : i < ns.length := (List.getElem?_eq_some_iff.mp ez).1
        have kLH : ∀ b o, H1 b = some o → Hc b = some o := fun b o h => kL b o (ne_of_none h nD2) h
        have nl : ns.length ≤ 900 := by
          rw [en]
          exact Nat.le_trans (starts_len x ts rfl) few
        have tk : ns.take (i + 1) = ns.take i ++ [z] := take_snoc ez
        have sLH : Same H1 Hc := kLH
        have lf : (((ns.take i).filter fun s => !S.gone x s).map V.int).length ≤ 900 := by
          rw [List.length_map]
          refine Nat.le_trans (List.length_filter_le _ _) ?_
          rw [List.length_take]
          omega
        have fk : (ns.take (i + 1)).filter (fun s => !S.gone x s) = (ns.take i).filter (fun s => !S.gone x s) ++ if S.gone x z = true then [] else [z] := by
          rw [tk, List.filter_append, List.filter_cons]
          by_cases c : S.gone x z = true
          · rw [if_neg (by rw [c]; decide), if_pos c]
            rfl
          · rw [if_neg c, if_pos (by rw [Bool.eq_false_iff.mpr c]; rfl)]
            rfl
        refine ⟨rfl, _, rfl, g, dx, _, rfl, kLH _ _ hg1, rfl, _, rfl, _, rfl, g, wa, kd, hd, b, x, z, S, rk, rfl, ⟨dx, kLH _ _ hg1⟩, gr1.same sLH, S.gone x z, rfl, ?_⟩
        by_cases c : S.gone x z = true
        · rw [c]
          refine if_f ⟨?_, kL⟩
          rw [fk, if_pos c, List.append_nil]
          exact hL
        · rw [Bool.eq_false_iff.mpr c]
          refine if_t ⟨_, rfl, _, hL, small1000 (by omega), upd_same.trans ?_, fun b o n h => (upd_ne n).trans (kL b o n h)⟩
          rw [fk, if_neg c, List.map_append]
          rfl
      · rintro Hc ⟨hL, kL⟩
        rw [List.length_map, List.take_length, en] at hL
        exact q D2 Hc (fun b o h => kL b o (ne_of_none (sH1 _ _ h) nD2) (sH1 _ _ h)) (sH1.free nD2) hL
end
end Tg

set_option maxHeartbeats 2000000
namespace Tg
open PySem PySem.Spec PyProof.Rows L2 LamX NdefX CloX
/-! ### asked_anew, the points told by any function -/
set_option maxHeartbeats 2000000
abbrev sAA : Stmt := inClass (topS 25) 14
abbrev NAA : List Str := ["self", "times", "points_in", "width", "folds", "start"]
theorem scAA : FnScope NAA ["self", "times", "points_in"] (defScope sAA) := ⟨rfl, rfl, rfl, by decide +kernel, rfl, by decide +kernel, by decide +kernel⟩
/-- functions that tell points: Tl says that f tells those of rs -/
structure Teller (K : PySem.W.Frag) (Tl : Addr → List Pt → Hp → Prop) (sp : Addr → Sp) : Prop where
  stay : ∀ {f : Addr} {rs : List Pt} {H H' : Hp}, Tl f rs H → (∀ b o, H b = some o → (∀ c dx fs, o ≠ .ins c dx fs) → H' b = some o) → Tl f rs H'
  told : ∀ {f : Addr} {rs : List Pt} {H : Hp} {Q : VK} {E : XK} {a b : Int}, Tl f rs H → (∀ l qs H', Same H H' → H l = none → Cut rs a b qs → LD K H' l (qs.map pd) → Q (.ref l) H') → sp f [.int a, .int b] H Q E
  fn : ∀ {f : Addr} {rs : List Pt} {H : Hp}, Tl f rs H → FnH H f
theorem not_take {α : Type} {l : List α} {i : Nat} {x : α} (nd : l.Nodup) (e : l[i]? = some x) : x ∉ l.take i := fun h => by
  obtain ⟨j, hj, e2⟩ := List.getElem_of_mem h
  rw [List.length_take] at hj
  rw [List.getElem_take] at e2
  obtain ⟨i1, e1⟩ := List.getElem?_eq_some_iff.mp e
  have := List.pairwise_iff_getElem.mp nd j i (by omega) (by omega) (by omega)
  exact this (e2.trans e1.symm)
theorem cells_up (S : Gs) (ts : List Int) (x : Int) : (S.cells ts x).Pairwise (· < ·) := (starts_up x ts).filter _
theorem cells_nd (S : Gs) (ts : List Int) (x : Int) : (S.cells ts x).Nodup := (cells_up S ts x).imp fun h => Int.ne_of_lt h
theorem cells_len (S : Gs) (ts : List Int) (x : Int) : (S.cells ts x).length ≤ ts.length := Nat.le_trans (List.length_filter_le _ _) (starts_len x ts rfl)
section
variable {P : Program} {w : World} {K : PySem.W.Frag} {mg : Str → Option Value} {base : Heap} {C CF : Addr} {Tl : Addr → List Pt → Hp → Prop} {sp : Addr → Sp} {pts : List Str}
def spAA (K : PySem.W.Frag) (C CF : Addr) (Tl : Addr → List Pt → Hp → Prop) : Sp := fun vs H Q _ => ∃ (g wa kd hd l fI : Addr) (ts : List Int) (w0 : Int) (rs : List Pt) (S : Gs) (rk : Addr → Option Ow), vs = [.ref g, .ref l, .ref fI] ∧ GiA C H g wa kd hd false ∧ GrG K CF H wa kd hd S rk ∧ S.ws[0]? = some w0 ∧ 0 < w0 ∧ H l = some (.lst (ts.map V.int)) ∧ ts.length ≤ 100 ∧ Tl fI rs H ∧ TbOk rs ∧
  ∀ r H', Same H H' → H r = none → DcI H' r (S.cells ts w0) (FoR K CF H' (cellF rs w0)) → Q (.ref r) H'
set_option maxHeartbeats 4000000 in
theorem ok_aa {f : Addr} {fd : FuncData} {k : Nat} (F : Fun K "asked_anew" "Grains.asked_anew" sAA f fd) (T : TGr K C) (Z : Teller K Tl sp) (M_cells_with : CalM P w K mg base k C "cells_with" ["self", "times", "width"] (spCW K C CF)) (C_fold_of : Cal P w K mg base k "fold_of" ["points"] (spFO K CF)) (Pt : ∀ f, CloOk P w K mg base L2.CX0 k f pts (sp f)) : FnOk P w K mg base L2.CX0 (k + 1) f fd ["self", "times", "points_in"] (spAA K C CF Tl) := by
  refine F.ok scAA (fun vs H Q E h => ?_) (fun cdv A outer s H vs Q E hr h => ?_)
  · obtain ⟨g, wa, kd, hd, l, fI, ts, w0, rs, S, rk, rfl, _⟩ := h
    rfl
  · obtain ⟨g, wa, kd, hd, l, fI, ts, w0, rs, S, rk, rfl, ⟨dx, hg⟩, gr, ew, w0p, hl, few, tl, okp, q⟩ := h
    have hu := hu_of hr
    refine ⟨_, pss_cons (ps_set (i := 3) scAA.nd rfl (.inl rfl) (pe_ix ix_tup (pe_fld (pv 0) rfl) pe_int (fun _ _ => rfl)))
      (pss_cons (ps_set (i := 4) scAA.nd rfl (.inl rfl) pe_dnewK)
      (pss_cons (ps_fld (pv 0) pe_bl rfl)
      (pss_cons (ps_finQ (pss_one (ps_for PassesOwn.never rfl (pi_list (pe_calM (pv 0) T.cl M_cells_with (hr.mono (by omega)) (pa_cons (pv 1) (pa_cons (pv 3) pa_nil)))) (pg_name (i := 5) scAA.nd rfl (.inl rfl))
          (pss_one (ps_dput hu (pv 4) (pv 5) (pe_cal C_fold_of (hr.mono (by omega)) (by rfl) (pa_cons (pe_cloH (sp := sp) (i := 2) (E := E0) Pt (hr.mono (by omega)) (Nat.le_refl _) (fun _ _ _ _ _ _ _ z => z) rfl (.inl rfl) (pa_cons (pv 5) (pa_cons (pe_op op_add (pv 5) (pv 3)) pa_nil))) pa_nil)) rfl))))
        (pss_one (ps_fld (pv 0) pe_bl rfl)))
      (pss_one (ps_ret (pv 4)))))), ?_⟩
    have hw := gr.gw
    have eat : (S.ws.map V.int)[0]? = some (.int w0) := by rw [List.getElem?_map, ew] <;> rfl
    refine ⟨_, rfl, g, C, dx, _, .ref wa, rfl, hg, T.cl, T.no _ (by decide), rfl, wa, _, _, .int w0, rfl, rfl, hw, (by show atI _ ((0 : Nat) : Int) = _; exact atI_nat eat), fun r nr => ?_⟩
    have s1 := same_new (o := .dK []) nr
    have hg1 := s1 _ _ hg
    refine ⟨_, rfl, g, C, dx, _, rfl, hg1, T.cl, T.no _ (by decide), (by show 4 < 1000; decide), ?_⟩
    obtain ⟨H2, e2⟩ : ∃ H2, upd (upd H r (.dK [])) g (.ins C dx (putF "busy" (.bl true) [("widths", .ref wa), ("busy", .bl false), ("kept", .ref kd), ("horizons", .ref hd)])) = H2 := ⟨_, rfl⟩
    have hg2 : H2 g = some (.ins C dx [("widths", .ref wa), ("busy", .bl true), ("kept", .ref kd), ("horizons", .ref hd)]) := by
      rw [← e2]
      exact upd_same
    have k2 : ∀ b o, b ≠ g → H b = some o → H2 b = some o := fun b o n h => by
      rw [← e2, upd_ne n]
      exact s1 _ _ h
    have nog : ∀ {b o}, H b = some o → (∀ c dx fs, o ≠ .ins c dx fs) → b ≠ g := fun {b o} h nn z => by
      rw [z, hg] at h
      exact nn _ _ _ (Option.some.inj h).symm
    have rg : r ≠ g := (ne_of_none hg nr).symm
    have hr2 : H2 r = some (.dK []) := by
      rw [← e2, upd_ne rg]
      exact upd_same
    have hk2 : HK CF H H2 := fun b o h hh => k2 b o (fun z => by
      rw [z, hg] at h
      cases h
      exact soft_g hh) h
    have gr2 : GrG K CF H2 wa kd hd S rk := gr.hk hk2 fun b o n h => k2 b o (fun z => by
      obtain ⟨_, y⟩ := gr.own b n
      rw [z, hg] at y
      cases y) h
    have tl2 : Tl fI rs H2 := Z.stay tl fun b o h nn => k2 b o (nog h nn) h
    refine nx_atS e2 ?_
    refine ⟨_, rfl, g, dx, _, rfl, hg2, rfl, _, rfl, _, rfl, g, wa, kd, hd, l, true, ts, w0, S, rk, rfl, ⟨dx, hg2⟩, gr2, k2 _ _ (nog hl fun _ _ _ z => nomatch z) hl, by omega, w0p, fun st H3 s3 nst hst => ?_⟩
    have k3 : ∀ b o, b ≠ g → H b = some o → H3 b = some o := fun b o n h => s3 _ _ (k2 b o n h)
    have str : st ≠ r := fun z => by
      rw [z, hr2] at nst
      cases nst
    have tl3 : Tl fI rs H3 := Z.stay tl2 fun b o h _ => s3 _ _ h
    obtain ⟨xs, exs⟩ : ∃ xs, S.cells ts w0 = xs := ⟨_, rfl⟩
    have lst : xs.length ≤ ts.length := by
      rw [← exs]
      exact cells_len S ts w0
    have ndst : xs.Nodup := by
      rw [← exs]
      exact cells_nd S ts w0
    rw [exs] at hst q
    have hr3 := s3 _ _ hr2
    refine ⟨st, rfl, ⟨_, SqL.of hst⟩, for_list (K := K) (a := st) (xs := xs.map V.int) (fun i σ Hc => ∃ z5 : Option V, σ = [some (.ref g), some (.ref l), some (.ref fI), some (.int w0), some (.ref r), z5] ∧ DcI Hc r (xs.take i) (FoR K CF Hc (cellF rs w0)) ∧ ∀ b o, b ≠ r → H3 b = some o → Hc b = some o)
      ⟨none, rfl, DcK.nil.at_ hr3, fun b o _ h => h⟩ (fun i σ Hc _ ⟨_, _, _, kc⟩ => SqL.of (kc _ _ str hst)) ?_ ?_⟩
    · rintro i v σ Hc hv ⟨z5, rfl, dr, kc⟩
      rw [List.getElem?_map] at hv
      obtain ⟨s0, es, rfl⟩ := Option.map_eq_some_iff.mp hv
      have il : i < xs.length := (List.getElem?_eq_some_iff.mp es).1
      have tk : xs.take (i + 1) = xs.take i ++ [s0] := take_snoc es
      have tl4 : Tl fI rs Hc := by
        -- the new dict isn't what the teller speaks of
        have w : Tl fI rs H := tl
        refine Z.stay w fun b o h nn => kc b o (ne_of_none h nr) (k3 b o (nog h nn) h)
      have hF := Z.fn tl4
      refine ⟨fI, rfl, hF, _, rfl, _, rfl, _, rfl, _, _, rfl, rfl, hF, ?_⟩
      refine Z.told tl4 fun l4 qs H4 s4 nl4 cut ld4 => ?_
      obtain ⟨xs4, hx4, dx4⟩ := ld4
      refine ⟨l4, qs, rfl, ⟨xs4, SqL.of hx4, dx4⟩, cut.ok okp, fun a H5 s5 fa => ?_⟩
      obtain ⟨kvs, hrc, dk⟩ := dr.k
      have s45 := s4.trans s5
      have hr5 : H5 r = some (.dK kvs) := s45 _ _ hrc
      have ef : FdO K CF H5 a (cellF rs w0 s0) := by
        rw [← Sel.cell okp.nd (Sel.cut cut)]
        exact fa
      have ea : addS (xs.take i) s0 = xs.take (i + 1) := by
        unfold addS
        rw [if_neg (not_take ndst es), tk]
      refine ⟨_, rfl, _, rfl, r, _, rfl, DPut.k (k := .inl s0) hr5 (small1000 (by rw [dk.len, List.length_take]; omega)), _, rfl, ?_, fun b o nb h => (upd_ne nb).trans (s45 _ _ (kc b o nb h))⟩
      rw [← ea]
      exact (dk.put (R2 := FoR K CF (upd H5 r (.dK (putK kvs (.inl s0) (.ref a)))) (cellF rs w0)) ⟨a, rfl, ef.put hr5⟩ fun z u _ _ h => let ⟨b, e, h2⟩ := FoR.same s45 h; ⟨b, e, h2.put hr5⟩).at_ upd_same
    · rintro σ Hc ⟨z5, rfl, dr, kc⟩
      rw [List.length_map, List.take_length] at dr
      have hgc := kc _ _ rg.symm (s3 _ _ hg2)
      refine ⟨_, rfl, g, C, dx, _, rfl, hgc, T.cl, T.no _ (by decide), (by show 4 < 1000; decide), ?_⟩
      have kr : ∀ b o, b ≠ g → Hc b = some o → (upd Hc g (.ins C dx (putF "busy" (.bl false) [("widths", .ref wa), ("busy", .bl true), ("kept", .ref kd), ("horizons", .ref hd)]))) b = some o := fun b o n h => (upd_ne n).trans h
      have hkr : HK CF Hc (upd Hc g (.ins C dx (putF "busy" (.bl false) [("widths", .ref wa), ("busy", .bl true), ("kept", .ref kd), ("horizons", .ref hd)]))) := .put hgc soft_g
      refine ⟨_, rfl, q r _ (fun b o h => ?_) nr (dr.move (fun o e => kr _ _ rg e) fun _ _ _ => FoR.hk hkr)⟩
      by_cases z : b = g
      · rw [z, hg] at h
        cases h
        rw [z, upd_same]
        rfl
      · exact kr _ _ z (kc b o (ne_of_none h nr) (k3 b o z h))
end
end Tg

set_option maxHeartbeats 2000000
namespace Tg
open PySem PySem.Spec PyProof.Rows L2
/-! ### joined_anew -/
set_option maxHeartbeats 2000000
abbrev sJA : Stmt := inClass (topS 25) 15
abbrev NJA : List Str := ["self", "place", "finer", "anew", "width", "starts", "wanted", "start", "kept", "folds", "cell", "wholes"]
theorem scJA : FnScope NJA ["self", "place", "finer", "anew", "width", "starts"] (defScope sJA) := ⟨rfl, rfl, rfl, by decide +kernel, rfl, by decide +kernel, by decide +kernel⟩
/-- a thing locked, another one made, and unlocked -/
theorem lk_nD {H : Hp} {d D : Addr} {u f : HO} (hd : H d = some u) (nD : upd H d f D = none) : H D = none ∧ d ≠ D := by
  have ne : d ≠ D := fun z => by
    rw [z, upd_same] at nD
    cases nD
  exact ⟨(upd_ne ne.symm).symm.trans nD, ne⟩
theorem upd_cm {H : Hp} {a b : Addr} {x y : HO} (n : a ≠ b) : upd (upd H a x) b y = upd (upd H b y) a x := funext fun c => by
  by_cases z : c = b
  · rw [z, upd_same, upd_ne n.symm, upd_same]
  · by_cases z2 : c = a
    · rw [z2, upd_same, upd_ne n, upd_same]
    · rw [upd_ne z, upd_ne z2, upd_ne z2, upd_ne z]
theorem lk_back {H Hc : Hp} {d : Addr} {u f : HO} (hd : H d = some u) (s : Same (upd H d f) Hc) : Same H (upd Hc d u) := fun b o h => by
  by_cases z : b = d
  · rw [z, hd] at h
    cases h
    rw [z, upd_same]
  · rw [upd_ne z]
    exact s _ _ ((upd_ne z).trans h)
theorem DcK.merge {R1 R2 R : Int → V → Prop} {a : List (Key × V)} {s1 : List Int} (h1 : DcK a s1 R1) : ∀ {b : List (Key × V)} {s2 : List Int}, DcK b s2 R2 → (∀ s v, s ∈ s1 → s ∉ s2 → R1 s v → R s v) → (∀ s v, s ∈ s2 → R2 s v → R s v) →
    ∃ s3, DcK (mergeK a b) s3 R ∧ (∀ s, s ∈ s3 ↔ s ∈ s1 ∨ s ∈ s2) ∧ s3.length ≤ s1.length + s2.length := by
  have go : ∀ (b : List (Key × V)) (t : List Int) (acc : List (Key × V)) (sa : List Int) (all : Int → V → Prop), b.map (·.1) = t.map Sum.inl → t.Nodup → (∀ s, s ∈ t → ∃ v, valV b (.inl s) = some v ∧ R s v) → DcK acc sa (fun s v => s ∉ t → R s v) →
      ∃ s3, DcK (b.foldl (fun acc kv => putK acc kv.1 kv.2) acc) s3 R ∧ (∀ s, s ∈ s3 ↔ s ∈ sa ∨ s ∈ t) ∧ s3.length ≤ sa.length + t.length := by
    intro b
    induction b with
    | nil =>
      intro t acc sa all e _ _ ha
      have t0 : t = [] := by
        cases t with
        | nil => rfl
        | cons x r => cases e
      subst t0
      exact ⟨sa, ha.imp fun s v _ h => h List.not_mem_nil, fun s => ⟨.inl, fun h => h.elim id fun z => absurd z List.not_mem_nil⟩, Nat.le_refl _⟩
    | cons kv b ih =>
      intro t acc sa all e nd hb ha
      obtain ⟨k, v⟩ := kv
      cases t with
      | nil => cases e
      | cons x t =>
        simp only [List.map_cons] at e
        obtain ⟨e1, e2⟩ := List.cons.inj e
        have e1 : k = .inl x := e1
        have nd2 := List.nodup_cons.mp nd
        subst e1
        obtain ⟨v2, ev, rv⟩ := hb x List.mem_cons_self
        rw [valV_pos (p := ((.inl x : Key), v)) rfl] at ev
        cases ev
        have hb2 : ∀ s, s ∈ t → ∃ v, valV b (.inl s) = some v ∧ R s v := fun s hs => by
          obtain ⟨u, h1, h2⟩ := hb s (List.mem_cons_of_mem _ hs)
          rw [valV_neg fun z => nd2.1 (by rw [Sum.inl.inj z]; exact hs)] at h1
          exact ⟨u, h1, h2⟩
        obtain ⟨s3, h1, h2, h3⟩ := ih t (putK acc (.inl x) v) (addS sa x) all e2 nd2.2 hb2 (ha.put (R2 := fun s v => s ∉ t → R s v) (fun _ => rv) fun z u ne _ h n => h fun y => (List.mem_cons.mp y).elim ne n)
        refine ⟨s3, h1, fun s => ?_, ?_⟩
        · rw [h2, mem_addS, List.mem_cons, or_assoc]
        · have := len_addS (ss := sa) (s := x)
          rw [List.length_cons]
          omega
  intro b s2 h2 f g
  exact go b s2 a s1 R h2.ks h2.nd (fun s hs => let ⟨v, e, r⟩ := h2.all s hs; ⟨v, e, g s v hs r⟩) (h1.imp fun s v hs r n => f s v hs n r)
section
variable {P : Program} {w : World} {K : PySem.W.Frag} {mg : Str → Option Value} {base : Heap} {C CF : Addr}
/-- what must be so of the finer cells kept and the anew ones, as far as wide cells of sy go: each tells the points of ps, and each point is in one of them -/
structure JaOk (ps : List Pt) (x y : Int) (ss an sy : List Int) (cf : Int → FD × Int) : Prop where
  x0 : 0 < x
  y0 : 0 < y
  dv : y % x = 0
  ok : TbOk ps
  old : ∀ s, s ∈ ss → s ∉ an → s - s % y ∈ sy → (cf s).1 = cellF ps x s
  ms : ∀ s, s ∈ ss → s % x = 0
  ma : ∀ s, s ∈ an → s % x = 0
  all : ∀ p, p ∈ ps → p.1 - p.1 % y ∈ sy → p.1 - p.1 % x ∈ ss ∨ p.1 - p.1 % x ∈ an
  fs : ss.length ≤ 400
  fa : an.length ≤ 100
def spJA (K : PySem.W.Frag) (C CF : Addr) : Sp := fun vs H Q _ => ∃ (g wa kd hd an l : Addr) (p x y : Int) (S : Gs) (rk : Addr → Option Ow) (b : Bool) (as sy : List Int) (ps : List Pt), vs = [.ref g, .int p, .int x, .ref an, .int y, .ref l] ∧ GiA C H g wa kd hd b ∧ GrG K CF H wa kd hd S rk ∧ x ∈ S.ws ∧
  DcI H an as (FoR K CF H (cellF ps x)) ∧ JaOk ps x y (S.ss p x) as sy (S.cf p x) ∧ H l = some (.lst (sy.map V.int)) ∧ sy.Nodup ∧ (∀ s, s ∈ sy → s % y = 0) ∧ sy.length ≤ 100 ∧
  ∀ r H', Same H H' → H r = none → DcI H' r sy (FoR K CF H' (cellF ps y)) → Q (.ref r) H'
set_option maxHeartbeats 4000000 in
theorem ok_ja {f : Addr} {fd : FuncData} {k : Nat} (F : Fun K "joined_anew" "Grains.joined_anew" sJA f fd) (T : TGr K C) (M_kept_cells : CalM P w K mg base k C "kept_cells" ["self", "place", "width"] (spKC K C CF)) (C_cell_of : Cal P w K mg base k "cell_of" ["time", "width"] spCell) (C_joined_folds : Cal P w K mg base k "joined_folds" ["folds", "width"] (spJF K CF)) (K_Fold0 : KF0 P w K mg base CF k) :
    FnOk P w K mg base CX0 (k + 2) f fd ["self", "place", "finer", "anew", "width", "starts"] (spJA K C CF) := by
  refine F.ok scJA (fun vs H Q E h => ?_) (fun cdv A outer s H vs Q E hr h => ?_)
  · obtain ⟨g, wa, kd, hd, an, l, p, x, y, S, rk, b, as, sy, ps, rfl, _⟩ := h
    rfl
  · obtain ⟨g, wa, kd, hd, an, l, p, x, y, S, rk, b, as, sy, ps, rfl, gi, gr, hx, da, ok, hl, nds, mds, fsy, q⟩ := h
    have hu := hu_of hr
    refine ⟨_, pss_cons (ps_set (i := 6) scJA.nd rfl (.inr rfl) (pe_dc (own := [("start", 7)]) (g := (gName 7)) (tt := tYes) rfl scJA.nd (pi_list (pv 5)) (blkOk_by (own := [("start", 7)]) (N := NJA) (sc := defScope sJA) (by decide +kernel)) (fun _ _ _ _ _ => (pg_name (i := 7) scJA.nd rfl (.inl rfl))) (fun _ _ _ _ _ => pts_nil) (fun _ _ _ _ _ => (pv 7)) (fun _ _ _ _ _ => pe_bl)))
      (pss_cons (ps_set (i := 8) scJA.nd rfl (.inr rfl) (pe_calM (pv 0) T.cl M_kept_cells (hr.mono (by omega)) (pa_cons (pv 1) (pa_cons (pv 2) pa_nil))))
      (pss_cons (ps_lock (ps_setDc (i := 9) (own := [("cell", 10)]) (g := (gName 10)) rfl scJA.nd rfl rfl (sw_dict rfl rfl rfl (by decide +kernel)) (pi_keys (pv 8)) (blkOk_by (own := [("cell", 10)]) (N := NJA) (sc := defScope sJA) (by decide +kernel)) (fun _ _ _ _ _ => (pg_name (i := 10) scJA.nd rfl (.inl rfl))) (fun _ _ _ _ _ => pts_one (pt_cmp (pc_din hu (pe_cal C_cell_of (hr.mono (by omega)) (by rfl) (pa_cons (pv 10) (pa_cons (pv 4) pa_nil))) (pv 6)))) (fun _ _ _ _ _ => (pv 10)) (fun _ _ _ _ _ => (pe_ix (r := rIxT K) ix_tup (pe_dget hu (pv 8) (pv 10) (fun _ _ => rfl)) pe_int (fun _ _ => rfl)))))
      (pss_cons (ps_expr (pe_bm PySem.F.plainAttrs_dict PySem.F.slot_dict_update PySem.F.type_dict_update mt_upd (pv 9) (pa_cons (pe_lock (pe_dc (own := [("cell", 10)]) (g := (gName 10)) rfl scJA.nd (pi_keys (pv 3)) (blkOk_by (own := [("cell", 10)]) (N := NJA) (sc := defScope sJA) (by decide +kernel)) (fun _ _ _ _ _ => (pg_name (i := 10) scJA.nd rfl (.inl rfl))) (fun _ _ _ _ _ => pts_one (pt_cmp (pc_din hu (pe_cal C_cell_of (hr.mono (by omega)) (by rfl) (pa_cons (pv 10) (pa_cons (pv 4) pa_nil))) (pv 6)))) (fun _ _ _ _ _ => (pv 10)) (fun _ _ _ _ _ => (pe_dget hu (pv 3) (pv 10) (fun _ _ => rfl))))) pa_nil)))
      (pss_cons (ps_set (i := 11) scJA.nd rfl (.inr rfl) (pe_cal C_joined_folds (hr.mono (by omega)) (by rfl) (pa_cons (pv 9) (pa_cons (pv 4) pa_nil))))
      (pss_one (ps_ret (pe_dc (own := [("start", 7)]) (g := (gName 7)) (tt := tYes) rfl scJA.nd (pi_list (pv 5)) (blkOk_by (own := [("start", 7)]) (N := NJA) (sc := defScope sJA) (by decide +kernel)) (fun _ _ _ _ _ => (pg_name (i := 7) scJA.nd rfl (.inl rfl))) (fun _ _ _ _ _ => pts_nil) (fun _ _ _ _ _ => (pv 7)) (fun _ _ _ _ _ => (pe_dget2 hu (pv 11) (pv 7) (pe_calCK K_Fold0 (hr.mono (by omega)) (by rfl) pk_nil) ⟨rfl, rfl, rfl, rfl⟩))))))))), ?_⟩
    refine ⟨_, rfl, l, rfl, ⟨_, SqL.of hl⟩, fun D1 n1 => walked_w (walk_list (K := K) (a := l) (xs := sy.map V.int)) (fun i Hc => Same H Hc ∧ DcI Hc D1 (sy.take i) (fun _ v => v = .bl true)) ⟨same_new n1, DcK.nil.at_ upd_same⟩ (fun i Hc _ h => SqL.of (h.1 _ _ hl)) ?_ ?_⟩
    · rintro i y0 Hc Hd hi ⟨sc, dg⟩ ⟨rfl, ey⟩
      rw [List.getElem?_map] at ey
      obtain ⟨z, ez, rfl⟩ := Option.map_eq_some_iff.mp ey
      have tk : sy.take (i + 1) = sy.take i ++ [z] := take_snoc ez
      obtain ⟨kvs, hD, dk⟩ := dg.k
      have il : i < sy.length := (List.getElem?_eq_some_iff.mp ez).1
      have zin : z ∉ sy.take i := fun h => by
        obtain ⟨jz, hj, e⟩ := List.getElem_of_mem h
        rw [List.length_take] at hj
        rw [List.getElem_take] at e
        obtain ⟨i1, e1⟩ := List.getElem?_eq_some_iff.mp ez
        have := List.pairwise_iff_getElem.mp nds jz i (by omega) (by omega) (by omega)
        exact this (e.trans e1.symm)
      have ea : addS (sy.take i) z = sy.take (i + 1) := by
        unfold addS
        rw [if_neg zin, tk]
      refine ⟨rfl, yes_b (if_t ⟨_, rfl, kvs, .inl z, rfl, hD, small1000 (by rw [dk.len, List.length_take]; omega), same_put n1 sc, ?_⟩)⟩
      rw [← ea]
      exact (dk.put (R2 := fun _ v => v = .bl true) rfl fun _ _ _ _ h => h).at_ upd_same
    rintro H1 ⟨s1, dw1⟩
    rw [List.length_map, List.take_length] at dw1
    obtain ⟨dx, hg⟩ := gi.same s1
    refine ⟨_, rfl, g, dx, _, rfl, hg, rfl, _, rfl, _, rfl, g, wa, kd, hd, p, x, S, rk, b, rfl, ⟨dx, hg⟩, gr.same s1, hx, fun r H2 s2 apart dr => ?_⟩
    obtain ⟨kvs, hr2, dk⟩ := dr.k
    refine ⟨r, _, hr2, trivial, fun od => ⟨_, rfl, r, od, rfl, .inl ⟨kvs, upd_same, fun D2 n2 => ?_⟩⟩⟩
    obtain ⟨n2', rD⟩ := lk_nD hr2 n2
    have wr : D1 ≠ r := fun z => by
      have k1 : rk D1 = none := Classical.byContradiction fun h => by
        obtain ⟨kvs0, e0⟩ := gr.own D1 h
        rw [n1] at e0
        cases e0
      obtain ⟨_, e1, _⟩ := id dw1
      rw [← z] at apart
      exact apart.elim (fun h => h k1) fun h => by
        rw [e1] at h
        cases h
    refine walked_w walk_keys (fun i Hc => Same (upd H2 r (.frz od (.dK kvs))) Hc ∧ ∃ gs, DcI Hc D2 gs (FoR K CF (upd Hc r (.dK kvs)) (fun s => (S.cf p x s).1)) ∧ (∀ s, s ∈ gs ↔ s ∈ (S.ss p x).take i ∧ s - s % y ∈ sy) ∧ gs.length ≤ i) ⟨same_new n2, [], DcK.nil.at_ upd_same, (fun s => ⟨fun z => absurd z List.not_mem_nil, fun z => by rw [List.take_zero] at z; exact absurd z.1 List.not_mem_nil⟩), Nat.le_refl _⟩ (fun i Hc _ h => h.1 _ _ upd_same) ?_ ?_
    · rintro i y0 Hc Hd hi ⟨sc, gs, dg, mg2, lg⟩ yy
      obtain ⟨rfl, k0, v0, ek, rfl⟩ := yy
      obtain ⟨s0, rfl, es, sin, t0, a0, rfl, ht0, fa0⟩ := dk.item ek
      have tk : (S.ss p x).take (i + 1) = (S.ss p x).take i ++ [s0] := take_snoc es
      obtain ⟨gvs, hD, gk⟩ := dg.k
      obtain ⟨wvs, hw1, wk⟩ := dw1.k
      have hw2 := s2 _ _ hw1
      have hw3 : Hd D1 = some (.dK wvs) := sc _ _ ((upd_ne wr).trans hw2)
      have ht3 : SqT K Hd t0 [.ref a0, .int (S.cf p x s0).2] := sqT_same sc (sqT_hk (HK.put (CF := CF) hr2 soft_dK) ht0)
      have fa3 : FdO K CF (upd Hd r (.dK kvs)) a0 (S.cf p x s0).1 := fa0.same (lk_back hr2 sc)
      have hDu : (upd Hd r (.dK kvs)) D2 = some (.dK gvs) := (upd_ne rD.symm).trans hD
      have hrc : Hd r = some (.frz od (.dK kvs)) := sc _ _ upd_same
      have l9 : i < (S.ss p x).length := (List.getElem?_eq_some_iff.mp es).1
      have f4 := ok.fs
      refine ⟨rfl, _, rfl, _, rfl, s0, y, rfl, ok.y0, _, rfl, D1, _, rfl, DGet.k (k := .inl (s0 - s0 % y)) hw3, decide (s0 - s0 % y ∈ sy), ?_, ?_⟩
      · by_cases c : s0 - s0 % y ∈ sy
        · obtain ⟨v, e, _⟩ := wk.all _ c
          rw [e, decide_eq_true c] <;> rfl
        · rw [wk.miss c, decide_eq_false c] <;> rfl
      by_cases c : s0 - s0 % y ∈ sy
      · rw [decide_eq_true c]
        have gd : DGet Hd r (kV (.inl s0)) (valV kvs (.inl s0)) := .inl ⟨kvs, .inl s0, .inr ⟨od, hrc⟩, rfl, rfl⟩
        have nk : (kvs.map (·.1)).Nodup := by
          rw [dk.ks]
          exact keys_nd dk.nd
        rw [val_in nk (List.mem_of_getElem? ek)] at gd
        refine if_t ⟨_, rfl, _, rfl, _, rfl, r, _, rfl, gd, t0, _, _, _, rfl, rfl, ht3, rfl, gvs, .inl s0, rfl, hD, small1000 (by rw [gk.len]; omega), same_put n2 sc, addS gs s0, (gk.put (R2 := FoR K CF (upd (upd Hd D2 (.dK (putK gvs (.inl s0) (.ref a0)))) r (.dK kvs)) fun s => (S.cf p x s).1) ⟨a0, rfl, by rw [upd_cm rD.symm]; exact fa3.put hDu⟩ fun z u _ _ ⟨b, e, h2⟩ => ⟨b, e, by rw [upd_cm rD.symm]; exact h2.put hDu⟩).at_ upd_same, fun s => ?_, Nat.le_trans len_addS (by omega)⟩
        rw [mem_addS, mg2 s, tk, List.mem_append, List.mem_singleton]
        exact ⟨fun h => h.elim (fun h => ⟨.inl h.1, h.2⟩) fun h => ⟨.inr h, h ▸ c⟩, fun ⟨h1, h2⟩ => h1.elim (fun h => .inl ⟨h, h2⟩) .inr⟩
      · rw [decide_eq_false c]
        refine if_f ⟨sc, gs, gk.at_ hD, fun s => ?_, by omega⟩
        rw [mg2 s, tk, List.mem_append, List.mem_singleton]
        exact ⟨fun h => ⟨.inl h.1, h.2⟩, fun ⟨h1, h2⟩ => ⟨h1.resolve_right fun e => c (e ▸ h2), h2⟩⟩
    rintro H3 ⟨s3, g1, d1, m1, l1⟩
    rw [dk.len, List.take_length] at m1
    obtain ⟨vs1, hv1, k1⟩ := d1.k
    have s24 := lk_back hr2 s3
    have hv14 : (upd H3 r (.dK kvs)) D2 = some (.dK vs1) := (upd_ne rD.symm).trans hv1
    refine ⟨s3 _ _ upd_same, ?_⟩
    obtain ⟨H4, e4⟩ : ∃ H4, upd H3 r (.dK kvs) = H4 := ⟨_, rfl⟩
    rw [e4] at s24 hv14 k1 ⊢
    obtain ⟨avs, ha0, ak⟩ := da.k
    have sH4 : Same H H4 := (s1.trans s2).trans s24
    have ha4 := sH4 _ _ ha0
    refine ⟨_, rfl, .inr (.inr (.inl ⟨rfl, .inl ⟨_, hv14⟩⟩)), ?_⟩
    refine ⟨an, _, ha4, trivial, fun od2 => ⟨_, rfl, an, od2, rfl, .inl ⟨avs, upd_same, fun D3 n3 => ?_⟩⟩⟩
    obtain ⟨n3', aD⟩ := lk_nD ha4 n3
    have D1an : D1 ≠ an := fun z => by
      rw [z, ha0] at n1
      cases n1
    refine walked_w walk_keys (fun i Hc => Same (upd H4 an (.frz od2 (.dK avs))) Hc ∧ ∃ gs, DcI Hc D3 gs (FoR K CF (upd Hc an (.dK avs)) (cellF ps x)) ∧ (∀ s, s ∈ gs ↔ s ∈ as.take i ∧ s - s % y ∈ sy) ∧ gs.length ≤ i) ⟨same_new n3, [], DcK.nil.at_ upd_same, (fun s => ⟨fun z => absurd z List.not_mem_nil, fun z => by rw [List.take_zero] at z; exact absurd z.1 List.not_mem_nil⟩), Nat.le_refl _⟩ (fun i Hc _ h => h.1 _ _ upd_same) ?_ ?_
    · rintro i y0 Hc Hd hi ⟨sc, gs, dg, mg2, lg⟩ ⟨rfl, k0, v0, ek, rfl⟩
      obtain ⟨s0, rfl, es, sin, a0, rfl, fa0⟩ := ak.item ek
      have tk : as.take (i + 1) = as.take i ++ [s0] := take_snoc es
      obtain ⟨gvs, hD, gk⟩ := dg.k
      obtain ⟨wvs, hw1, wk⟩ := dw1.k
      have hw3 : Hd D1 = some (.dK wvs) := sc _ _ ((upd_ne D1an).trans (s24 _ _ (s2 _ _ hw1)))
      have fa3 : FdO K CF (upd Hd an (.dK avs)) a0 (cellF ps x s0) := (fa0.same sH4).same (lk_back ha4 sc)
      have hDu : (upd Hd an (.dK avs)) D3 = some (.dK gvs) := (upd_ne aD.symm).trans hD
      have hac : Hd an = some (.frz od2 (.dK avs)) := sc _ _ upd_same
      have l9 : i < as.length := (List.getElem?_eq_some_iff.mp es).1
      have f4 := ok.fa
      refine ⟨rfl, _, rfl, _, rfl, s0, y, rfl, ok.y0, _, rfl, D1, _, rfl, DGet.k (k := .inl (s0 - s0 % y)) hw3, decide (s0 - s0 % y ∈ sy), ?_, ?_⟩
      · by_cases c : s0 - s0 % y ∈ sy
        · obtain ⟨v, e, _⟩ := wk.all _ c
          rw [e, decide_eq_true c] <;> rfl
        · rw [wk.miss c, decide_eq_false c] <;> rfl
      by_cases c : s0 - s0 % y ∈ sy
      · rw [decide_eq_true c]
        have gd : DGet Hd an (kV (.inl s0)) (valV avs (.inl s0)) := .inl ⟨avs, .inl s0, .inr ⟨od2, hac⟩, rfl, rfl⟩
        have nk : (avs.map (·.1)).Nodup := by
          rw [ak.ks]
          exact keys_nd ak.nd
        rw [val_in nk (List.mem_of_getElem? ek)] at gd
        refine if_t ⟨_, rfl, _, rfl, _, rfl, an, _, rfl, gd, gvs, .inl s0, rfl, hD, small1000 (by rw [gk.len]; omega), same_put n3 sc, addS gs s0, (gk.put (R2 := FoR K CF (upd (upd Hd D3 (.dK (putK gvs (.inl s0) (.ref a0)))) an (.dK avs)) (cellF ps x)) ⟨a0, rfl, by rw [upd_cm aD.symm]; exact fa3.put hDu⟩ fun z u _ _ ⟨b, e, h2⟩ => ⟨b, e, by rw [upd_cm aD.symm]; exact h2.put hDu⟩).at_ upd_same, fun s => ?_, Nat.le_trans len_addS (by omega)⟩
        rw [mem_addS, mg2 s, tk, List.mem_append, List.mem_singleton]
        exact ⟨fun h => h.elim (fun h => ⟨.inl h.1, h.2⟩) fun h => ⟨.inr h, h ▸ c⟩, fun ⟨h1, h2⟩ => h1.elim (fun h => .inl ⟨h, h2⟩) .inr⟩
      · rw [decide_eq_false c]
        refine if_f ⟨sc, gs, gk.at_ hD, fun s => ?_, by omega⟩
        rw [mg2 s, tk, List.mem_append, List.mem_singleton]
        exact ⟨fun h => ⟨.inl h.1, h.2⟩, fun ⟨h1, h2⟩ => ⟨h1.resolve_right fun e => c (e ▸ h2), h2⟩⟩
    rintro H5 ⟨s5, g2, d2, m2, l2⟩
    rw [ak.len, List.take_length] at m2
    obtain ⟨vs2, hv2, k2⟩ := d2.k
    have s46 := lk_back ha4 s5
    have hv26 : (upd H5 an (.dK avs)) D3 = some (.dK vs2) := (upd_ne aD.symm).trans hv2
    refine ⟨s5 _ _ upd_same, ?_⟩
    obtain ⟨H6, e6⟩ : ∃ H6, upd H5 an (.dK avs) = H6 := ⟨_, rfl⟩
    rw [e6] at s46 hv26 k2 ⊢
    have hv16 := s46 _ _ hv14
    have f40 := ok.fs
    have f41 := ok.fa
    rw [dk.len] at l1
    rw [ak.len] at l2
    refine ⟨D2, D3, vs1, vs2, rfl, rfl, ne_of_none hv14 n3', hv16, hv26, (Nat.le_of_lt (small1000 (by rw [k1.len, k2.len]; omega))), ?_⟩
    obtain ⟨g3, k3, m3, l3⟩ := (k1.imp fun s v _ h => FoR.same s46 h).merge k2 (R := FoR K CF (upd H6 D2 (.dK (mergeK vs1 vs2))) (cellF ps x)) (fun s v hs hn ⟨a, e, h⟩ => ⟨a, e, by
      have h1 := (m1 s).mp hs
      rw [← ok.old s h1.1 (fun z => hn ((m2 s).mpr ⟨z, h1.2⟩)) h1.2]
      exact h.put hv16⟩) (fun s v _ ⟨a, e, h⟩ => ⟨a, e, h.put hv16⟩)
    obtain ⟨H7, e7⟩ : ∃ H7, upd H6 D2 (.dK (mergeK vs1 vs2)) = H7 := ⟨_, rfl⟩
    have hv7 : H7 D2 = some (.dK (mergeK vs1 vs2)) := by
      rw [← e7]
      exact upd_same
    have l23 : H D2 = none := (s1.trans s2).free n2'
    have sH7 : Same H H7 := by
      rw [← e7]
      exact same_put l23 ((sH4).trans s46)
    rw [e7] at k3
    refine nx_atS e7 ?_
    refine ⟨_, rfl, _, rfl, D2, x, y, ps, g3, rfl, ok.x0, ok.y0, ok.ok, k3.at_ hv7, fun c hc => ?_, by omega, fun r8 gs8 H8 s8 nr8 d8 m8 => ?_⟩
    · rcases (m3 c).mp hc with h | h
      · exact ok.ms c ((m1 c).mp h).1
      · exact ok.ma c ((m2 c).mp h).1
    have sH8 := sH7.trans s8
    have hl8 := sH8 _ _ hl
    obtain ⟨vs8, hr8, k8⟩ := d8.k
    have yx : ∀ s, s % y = 0 → s % x = 0 := fun s h => Int.emod_eq_zero_of_dvd (Int.dvd_trans (Int.dvd_of_emod_eq_zero ok.dv) (Int.dvd_of_emod_eq_zero h))
    -- the points of a wide cell are those of its narrow cells
    have wide : ∀ s, s ∈ sy → ∀ pt, pt ∈ ps → (InW x y g3 s pt.1 ↔ s ≤ pt.1 ∧ pt.1 < s + y) := fun s hs pt hp => by
      have sm := mds s hs
      have cm := cell_mod pt.1 x
      have c1 := Int.emod_nonneg pt.1 (show x ≠ 0 by have := ok.x0; omega)
      have c2 := Int.emod_lt_of_pos pt.1 ok.x0
      have mono : ∀ a b : Int, a % x = 0 → b % x = 0 → a < b + x → a ≤ b := fun a b ha hb lt => by
        refine Decidable.byContradiction fun n => ?_
        have dv : (a - b) % x = 0 := by
          rw [Int.sub_emod, ha, hb]
          rfl
        have := Int.le_of_dvd (by omega) (Int.dvd_of_emod_eq_zero dv)
        omega
      unfold InW
      rw [cell_iff ok.y0 sm]
      constructor
      · rintro ⟨_, h1, h2⟩
        have := mono (pt.1 - pt.1 % x + x) (s + y) (by rw [Int.add_emod_right]; exact cm) (by rw [Int.add_emod, yx s sm, yx y (Int.emod_self)]; rfl) (by omega)
        omega
      · rintro ⟨h1, h2⟩
        have h3 := mono s (pt.1 - pt.1 % x) (yx s sm) cm (by omega)
        have h4 : s ≤ pt.1 - pt.1 % x ∧ pt.1 - pt.1 % x < s + y := ⟨h3, by omega⟩
        have h5 := (cell_iff ok.y0 sm).mpr h4
        refine ⟨(m3 _).mpr ?_, h4⟩
        have wide : pt.1 - pt.1 % y ∈ sy := by
          rw [(cell_iff ok.y0 sm).mpr ⟨h1, h2⟩]
          exact hs
        rcases ok.all pt hp wide with h | h
        · exact .inl ((m1 _).mpr ⟨h, by rw [h5]; exact hs⟩)
        · exact .inr ((m2 _).mpr ⟨h, by rw [h5]; exact hs⟩)
    refine ⟨_, rfl, l, rfl, ⟨_, SqL.of hl8⟩, fun D9 n9 => walked_w (walk_list (K := K) (a := l) (xs := sy.map V.int)) (fun i Hc => Same H8 Hc ∧ DcI Hc D9 (sy.take i) (FoR K CF Hc (cellF ps y))) ⟨same_new n9, DcK.nil.at_ upd_same⟩ (fun i Hc _ h => SqL.of (h.1 _ _ hl8)) ?_ ?_⟩
    · rintro i y0 Hc Hd hi ⟨sc, dg⟩ ⟨rfl, ey⟩
      rw [List.getElem?_map] at ey
      obtain ⟨z, ez, rfl⟩ := Option.map_eq_some_iff.mp ey
      have tk : sy.take (i + 1) = sy.take i ++ [z] := take_snoc ez
      have zs := List.mem_of_getElem? ez
      obtain ⟨kvs9, hD9, dk9⟩ := dg.k
      have il : i < sy.length := (List.getElem?_eq_some_iff.mp ez).1
      have zin : z ∉ sy.take i := fun h => by
        obtain ⟨jz, hj, e⟩ := List.getElem_of_mem h
        rw [List.length_take] at hj
        rw [List.getElem_take] at e
        obtain ⟨i1, e1⟩ := List.getElem?_eq_some_iff.mp ez
        have := List.pairwise_iff_getElem.mp nds jz i (by omega) (by omega) (by omega)
        exact this (e.trans e1.symm)
      have ea : addS (sy.take i) z = sy.take (i + 1) := by
        unfold addS
        rw [if_neg zin, tk]
      have hr9 := sc _ _ hr8
      refine ⟨rfl, yes_b (if_t ⟨_, rfl, _, rfl, r8, rfl, .inl ⟨_, .inl hr9⟩, _, rfl, rfl, rfl, fun u du nu ndu neu => ⟨u, du, _, _, _, _, _, _, _, _, _, rfl, upd_same, rfl, ?_⟩⟩)⟩
      obtain ⟨q1, q2⟩ := fold0_made (K := K) (CF := CF) nu ndu neu
      have two : ∃ a, (valV vs8 (.inl z)).getD (.ref u) = .ref a ∧ FdO K CF (upd (upd (upd Hd du (.own u)) u (.ins CF du [])) u (.ins CF du (flds (fOf []) .non .non))) a (cellF ps y z) := by
        by_cases c : z ∈ gs8
        · obtain ⟨v, ev, a, qs, rfl, h1, h2⟩ := k8.all z c
          refine ⟨a, by rw [ev] <;> rfl, ?_⟩
          have h3 : fOf qs = cellF ps y z := (h2.imp fun pt hp => wide z zs pt hp).cell ok.ok.nd
          rw [← h3]
          exact h1.same (sc.trans q1)
        · refine ⟨u, by rw [k8.miss c] <;> rfl, ?_⟩
          have h3 : fOf [] = cellF ps y z := (Sel.nil fun pt hp h => c ((m8 z).mpr (by
            have h4 := (wide z zs pt hp).mpr h
            exact ⟨_, h4.1, h4.2⟩))).cell ok.ok.nd
          rw [← h3]
          exact q2
      obtain ⟨a, e1, e2⟩ := two
      refine ⟨_, DGet.k (k := .inl z) (q1 _ _ hr9), ?_⟩
      rw [e1]
      have hDq := q1 _ _ hD9
      refine ⟨kvs9, .inl z, rfl, hDq, small1000 (by rw [dk9.len, List.length_take]; omega), same_put n9 (sc.trans q1), ?_⟩
      rw [← ea]
      exact (dk9.put (R2 := FoR K CF _ (cellF ps y)) ⟨a, rfl, e2.put hDq⟩ fun z u _ _ h => let ⟨b, e, h2⟩ := FoR.same q1 h; ⟨b, e, h2.put hDq⟩).at_ upd_same
    · rintro Hc ⟨sc, dg⟩
      rw [List.length_map, List.take_length] at dg
      exact q D9 Hc (sH8.trans sc) (sH8.free n9) dg
end
end Tg

set_option maxHeartbeats 2000000
namespace Tg
open PySem PySem.Spec PyProof.Rows L2
/-! ### what a renewal changes -/
set_option maxHeartbeats 2000000
def setF {α : Type} (f : Int → α) (x : Int) (v : α) : Int → α := fun z => if z = x then v else f z
theorem setF_at {α : Type} {f : Int → α} {x : Int} {v : α} : setF f x v x = v := if_pos rfl
theorem setF_ne {α : Type} {f : Int → α} {x z : Int} {v : α} (n : z ≠ x) : setF f x v z = f z := if_neg n
theorem setF_id {α : Type} {f : Int → α} {x : Int} : setF f x (f x) = f := funext fun z => by
  unfold setF
  split
  · rename_i e
    rw [e]
  · rfl
abbrev CF2 := Int → Int → FD × Int
def cfU (n : Int) (cf : CF2) (r : Row) : CF2 := setF cf r.1 (setF (cf r.1) r.2.1 (r.2.2.2, n))
def ssU (ss : Int → List Int) (r : Row) : Int → List Int := setF ss r.1 (addS (ss r.1) r.2.1)
def cfR (n : Int) (cf : CF2) (rows : List Row) : CF2 := rows.foldl (cfU n) cf
def ssR (ss : Int → List Int) (rows : List Row) : Int → List Int := rows.foldl ssU ss
theorem cfR_snoc {n : Int} {cf : CF2} {rows : List Row} {r : Row} : cfR n cf (rows ++ [r]) = cfU n (cfR n cf rows) r := by
  unfold cfR
  rw [List.foldl_append] <;> rfl
theorem ssR_snoc {ss : Int → List Int} {rows : List Row} {r : Row} : ssR ss (rows ++ [r]) = ssU (ssR ss rows) r := by
  unfold ssR
  rw [List.foldl_append] <;> rfl
theorem cfU_ne {n : Int} {cf : CF2} {r : Row} {x s : Int} (h : ¬ (r.1 = x ∧ r.2.1 = s)) : cfU n cf r x s = cf x s := by
  unfold cfU setF
  by_cases c : x = r.1
  · rw [if_pos c, if_neg fun z => h ⟨c.symm, z.symm⟩, c]
  · rw [if_neg c]
theorem cfU_at {n : Int} {cf : CF2} {r : Row} : cfU n cf r r.1 r.2.1 = (r.2.2.2, n) := by
  unfold cfU setF
  rw [if_pos rfl, if_pos rfl]
theorem cfR_miss {n : Int} {x s : Int} : ∀ {rows : List Row} {cf : CF2}, (∀ r, r ∈ rows → ¬ (r.1 = x ∧ r.2.1 = s)) → cfR n cf rows x s = cf x s
  | [], _, _ => rfl
  | r :: rows, cf, h => (cfR_miss (rows := rows) (cf := cfU n cf r) fun q hq => h q (List.mem_cons_of_mem _ hq)).trans (cfU_ne (h r List.mem_cons_self))
/-- each cell once -/
def Once (rows : List Row) : Prop := rows.Pairwise fun a b => ¬ (a.1 = b.1 ∧ a.2.1 = b.2.1)
theorem cfR_hit {n : Int} {r : Row} : ∀ {rows : List Row} {cf : CF2}, Once rows → r ∈ rows → cfR n cf rows r.1 r.2.1 = (r.2.2.2, n)
  | q :: rows, cf, on, h => by
    have ⟨h1, h2⟩ := List.pairwise_cons.mp on
    rcases List.mem_cons.mp h with here | h
    · rw [here]
      exact (cfR_miss (rows := rows) (cf := cfU n cf q) fun z hz e2 => h1 z hz ⟨e2.1.symm, e2.2.symm⟩).trans cfU_at
    · exact cfR_hit (rows := rows) (cf := cfU n cf q) h2 h
theorem ssR_mem {x s : Int} : ∀ {rows : List Row} {ss : Int → List Int}, s ∈ ssR ss rows x ↔ s ∈ ss x ∨ ∃ r, r ∈ rows ∧ r.1 = x ∧ r.2.1 = s
  | [], ss => ⟨.inl, fun h => h.elim id fun ⟨_, z, _⟩ => absurd z List.not_mem_nil⟩
  | r :: rows, ss => by
    have ih := ssR_mem (x := x) (s := s) (rows := rows) (ss := ssU ss r)
    refine ih.trans ?_
    have e : s ∈ ssU ss r x ↔ s ∈ ss x ∨ (r.1 = x ∧ r.2.1 = s) := by
      unfold ssU setF
      by_cases c : x = r.1
      · rw [if_pos c, mem_addS, c]
        exact or_congr_right ⟨fun h => ⟨rfl, h.symm⟩, fun h => h.2.symm⟩
      · rw [if_neg c]
        exact ⟨.inl, fun h => h.elim id fun z => absurd z.1.symm c⟩
    rw [e]
    constructor
    · rintro ((h | h) | ⟨q, h1, h2⟩)
      · exact .inl h
      · exact .inr ⟨r, List.mem_cons_self, h⟩
      · exact .inr ⟨q, List.mem_cons_of_mem _ h1, h2⟩
    · rintro (h | ⟨q, h1, h2⟩)
      · exact .inl (.inl h)
      · rcases List.mem_cons.mp h1 with e | h1
        · rw [e] at h2
          exact .inl (.inr h2)
        · exact .inr ⟨q, h1, h2⟩
theorem ssR_len {x : Int} : ∀ {rows : List Row} {ss : Int → List Int}, (ssR ss rows x).length ≤ (ss x).length + rows.length
  | [], ss => Nat.le_refl _
  | r :: rows, ss => by
    refine Nat.le_trans (ssR_len (x := x) (rows := rows) (ss := ssU ss r)) ?_
    have e : (ssU ss r x).length ≤ (ss x).length + 1 := by
      unfold ssU setF
      by_cases c : x = r.1
      · rw [if_pos c, c]
        exact len_addS
      · rw [if_neg c]
        exact Nat.le_succ _
    rw [List.length_cons]
    omega
/-- the row of a cell whose new fold is another one -/
def rowG (cf : CF2) (nf : Int → Int → FD) (x s : Int) : List Row := if PyData.eqv (fd9 (nf x s)) (fd9 (cf x s).1) = true then [] else [(x, s, (cf x s).1, nf x s)]
def rowsG (cf : CF2) (nf : Int → Int → FD) (st : Int → List Int) (x : Int) : List Row := (st x).flatMap (rowG cf nf x)
theorem row_mem {cf : CF2} {nf : Int → Int → FD} {x s : Int} {r : Row} (h : r ∈ rowG cf nf x s) : r.1 = x ∧ r.2.1 = s := by
  unfold rowG at h
  split at h
  · exact absurd h List.not_mem_nil
  · rw [List.mem_singleton.mp h]
    exact ⟨rfl, rfl⟩
/-! ### all but locked dicts stand -/
section
variable {K : PySem.W.Frag} {C CF : Addr} {H H' : Hp}
def NL (H H' : Hp) : Prop := ∀ b x, (∀ od u, x ≠ .frz od (.dK u)) → H b = some x → H' b = some x
theorem NL.unl {fb : Addr} {od : Obj} {u : List (Key × V)} {o : HO} (hf : H fb = some (.frz od (.dK u))) : NL H (upd H fb o) := fun b x nx z => by
  refine (upd_ne fun y => ?_).trans z
  rw [y, hf] at z
  cases z
  exact nx _ _ rfl
theorem NL.hk (st : NL H H') : HK CF H H' := fun b o e h => st b o (fun od u z => soft_frz (z ▸ h)) e
theorem GrG.nl {wa kd hd : Addr} {S : Gs} {rk : Addr → Option Ow} (st : NL H H') (h : GrG K CF H wa kd hd S rk) : GrG K CF H' wa kd hd S rk := h.hk st.hk fun b o n e => st b o (fun od u z => by
  obtain ⟨_, y⟩ := h.own b n
  rw [e, z] at y
  cases y) e
/-- at the place p and the width x other cells; the place is told at the width -/
def Gs.put (S : Gs) (x p : Int) (ss0 : List Int) (cf0 : Int → FD × Int) : Gs := ⟨S.ws, S.hz, setF S.pls x (addS (S.pls x) p), setF S.ss p (setF (S.ss p) x ss0), setF S.cf p (setF (S.cf p) x cf0)⟩
/-- the cells of one place at one width change -/
theorem GrG.step {wa kd hd : Addr} {S : Gs} {x0 p0 : Int} {rk rk' : Addr → Option Ow} {ss0 : List Int} {cf0 : Int → FD × Int} (gr : GrG K CF H wa kd hd S rk) (hx : x0 ∈ S.ws)
    (keep : ∀ b o, H b = some o → rk b ≠ some (.wide x0) → rk b ≠ some (.cells x0 p0) → H' b = some o) (same : ∀ b, H b ≠ none → rk' b = rk b) (own : ∀ a, rk' a ≠ none → ∃ kvs, H' a = some (.dK kvs))
    (new : ∀ e kvs, rk e = some (.wide x0) → H kd = some (.dK kvs) → valV kvs (.inl x0) = some (.ref e) → DcI H e (S.pls x0) (fun p u => ∃ c, u = .ref c ∧ rk c = some (.cells x0 p) ∧ DcI H c (S.ss p x0) (CeR K CF H (S.cf p x0))) →
      DcI H' e (addS (S.pls x0) p0) fun p u => (p = p0 ∧ ∃ c, u = .ref c ∧ rk' c = some (.cells x0 p0) ∧ DcI H' c ss0 (CeR K CF H' cf0)) ∨ (p ≠ p0 ∧ ∃ c, u = .ref c ∧ rk c = some (.cells x0 p) ∧ DcI H c (S.ss p x0) (CeR K CF H (S.cf p x0))))
    (out : ∀ s, s ∉ ss0 → cf0 s = (fOf [], 0)) : GrG K CF H' wa kd hd (S.put x0 p0 ss0 cf0) rk' := by
  have zero : ∀ {b o}, H b = some o → (∀ kvs, o ≠ .dK kvs) → H' b = some o := fun {b o} e n => by
    have r0 : rk b = none := Classical.byContradiction fun h => by
      obtain ⟨kvs, z⟩ := gr.own b h
      rw [e] at z
      exact n kvs (Option.some.inj z)
    exact keep b o e (by rw [r0]; exact fun z => nomatch z) (by rw [r0]; exact fun z => nomatch z)
  have hk : HK CF H H' := fun b o e h => zero e fun kvs z => soft_dK (z ▸ h)
  have rs : ∀ {b o u}, H b = some o → rk b = some u → rk' b = some u := fun {b o u} e r => (same b fun z => by
    rw [e] at z
    cases z).trans r
  -- what isn't of that place and width stays
  have stay : ∀ {b u}, rk b = some u → u ≠ .wide x0 → u ≠ .cells x0 p0 → ∀ o, H b = some o → H' b = some o := fun {b u} r n1 n2 o e => keep b o e (by rw [r]; exact fun z => n1 (Option.some.inj z)) (by rw [r]; exact fun z => n2 (Option.some.inj z))
  have cell : ∀ {x p c}, (x ≠ x0 ∨ p ≠ p0) → rk c = some (.cells x p) → DcI H c (S.ss p x) (CeR K CF H (S.cf p x)) → rk' c = some (.cells x p) ∧ DcI H' c (S.ss p x) (CeR K CF H' (S.cf p x)) := fun {x p c} ne r d => by
    obtain ⟨_, hc, _⟩ := id d
    refine ⟨rs hc r, d.move (stay r (fun z => by cases z) fun z => ?_) fun _ _ _ => CeR.hk hk⟩
    cases z
    exact ne.elim (fun h => h rfl) fun h => h rfl
  obtain ⟨hs, h1, h2, h3⟩ := gr.gh
  obtain ⟨_, hh, _⟩ := id h1
  obtain ⟨kvs, hk1, gk⟩ := gr.gk.k
  refine ⟨sqT_hk hk gr.gw, rs hh gr.rh, rs hk1 gr.rd, ⟨hs, h1.move (stay gr.rh (fun z => by cases z) fun z => by cases z) fun _ _ _ z => z, h2, h3⟩, ⟨kvs, stay gr.rd (fun z => by cases z) (fun z => by cases z) _ hk1, gk.ks, gk.nd, fun x hx2 => ?_⟩, fun x p h => ?_, fun p x s h => ?_, own⟩
  · obtain ⟨v, ev, e, rfl, re, de⟩ := gk.all x hx2
    obtain ⟨_, he, _⟩ := id de
    refine ⟨_, ev, e, rfl, rs he re, ?_⟩
    by_cases c : x = x0
    · subst c
      refine (show DcI H' e (setF S.pls x (addS (S.pls x) p0) x) _ from ?_)
      rw [setF_at]
      refine (new e kvs re hk1 ev de).move (fun o z => z) fun p u _ h => ?_
      rcases h with ⟨rfl, c, rfl, h4, h5⟩ | ⟨ne, c, rfl, h4, h5⟩
      · refine ⟨c, rfl, h4, ?_⟩
        show DcI H' c (setF S.ss p (setF (S.ss p) x ss0) p x) (CeR K CF H' (setF S.cf p (setF (S.cf p) x cf0) p x))
        rw [setF_at, setF_at, setF_at, setF_at]
        exact h5
      · obtain ⟨k1, k2⟩ := cell (.inr ne) h4 h5
        refine ⟨c, rfl, k1, ?_⟩
        show DcI H' c (setF S.ss p0 (setF (S.ss p0) x ss0) p x) (CeR K CF H' (setF S.cf p0 (setF (S.cf p0) x cf0) p x))
        rw [setF_ne ne, setF_ne ne]
        exact k2
    · refine (show DcI H' e (setF S.pls x0 (addS (S.pls x0) p0) x) _ from ?_)
      rw [setF_ne c]
      refine de.move (stay re (fun z => ?_) fun z => by cases z) fun p u _ ⟨c2, e2, h4, h5⟩ => ?_
      · cases z
        exact c rfl
      obtain ⟨k1, k2⟩ := cell (.inl c) h4 h5
      refine ⟨c2, e2, k1, ?_⟩
      show DcI H' c2 (setF S.ss p0 (setF (S.ss p0) x0 ss0) p x) (CeR K CF H' (setF S.cf p0 (setF (S.cf p0) x0 cf0) p x))
      by_cases c3 : p = p0
      · subst c3
        rw [setF_at, setF_at, setF_ne c, setF_ne c]
        exact k2
      · rw [setF_ne c3, setF_ne c3]
        exact k2
  · have out_ : p ∉ setF S.pls x0 (addS (S.pls x0) p0) x := h
    clear h
    show setF S.ss p0 (setF (S.ss p0) x0 ss0) p x = []
    by_cases c : x = x0
    · subst c
      rw [setF_at] at out_
      have np : p ≠ p0 := fun z => out_ (mem_addS.mpr (.inr z))
      rw [setF_ne np]
      exact gr.no x p fun z => out_ (mem_addS.mpr (.inl z))
    · rw [setF_ne c] at out_
      by_cases c3 : p = p0
      · subst c3
        rw [setF_at, setF_ne c]
        exact gr.no x p out_
      · rw [setF_ne c3]
        exact gr.no x p out_
  · have out_ : s ∉ setF S.ss p0 (setF (S.ss p0) x0 ss0) p x := h
    clear h
    show setF S.cf p0 (setF (S.cf p0) x0 cf0) p x s = _
    by_cases c3 : p = p0
    · subst c3
      rw [setF_at] at out_ ⊢
      by_cases c : x = x0
      · subst c
        rw [setF_at] at out_ ⊢
        exact out s out_
      · rw [setF_ne c] at out_ ⊢
        exact gr.out p x s out_
    · rw [setF_ne c3] at out_ ⊢
      exact gr.out p x s out_
/-- what grains keep when rows of the place p were told, the widths wd told it -/
def Gs.aft (S : Gs) (p n : Int) (rows : List Row) (wd : List Int) : Gs := ⟨S.ws, S.hz, fun x => if x ∈ wd then addS (S.pls x) p else S.pls x, setF S.ss p (ssR (S.ss p) rows), setF S.cf p (cfR n (S.cf p) rows)⟩
theorem aft_nil (S : Gs) (p n : Int) : S.aft p n [] [] = S := by
  unfold Gs.aft
  have e1 : (fun x => if x ∈ ([] : List Int) then addS (S.pls x) p else S.pls x) = S.pls := funext fun x => if_neg List.not_mem_nil
  have e2 : setF S.ss p (ssR (S.ss p) []) = S.ss := setF_id
  have e3 : setF S.cf p (cfR n (S.cf p) []) = S.cf := setF_id
  rw [e1, e2, e3]
theorem setF_two {α : Type} {f : Int → α} {x : Int} {u v : α} : setF (setF f x u) x v = setF f x v := funext fun z => by
  unfold setF
  split <;> rfl
/-- the next width tells the place -/
theorem aft_wide {S : Gs} {p n x : Int} {rows : List Row} {wd : List Int} (nx : x ∉ wd) : (S.aft p n rows wd).put x p (ssR (S.ss p) rows x) (cfR n (S.cf p) rows x) = S.aft p n rows (wd ++ [x]) := by
  unfold Gs.put Gs.aft
  have e1 : setF (fun x => if x ∈ wd then addS (S.pls x) p else S.pls x) x (addS (if x ∈ wd then addS (S.pls x) p else S.pls x) p) = fun z => if z ∈ wd ++ [x] then addS (S.pls z) p else S.pls z := funext fun z => by
    by_cases c : z = x
    · subst c
      rw [setF_at, if_neg nx, if_pos (List.mem_append_right _ (List.mem_singleton.mpr rfl))]
    · rw [setF_ne c]
      by_cases c2 : z ∈ wd
      · rw [if_pos c2, if_pos (List.mem_append_left _ c2)]
      · rw [if_neg c2, if_neg fun h => (List.mem_append.mp h).elim c2 fun h => c (List.mem_singleton.mp h)]
  dsimp only
  rw [e1, setF_two, setF_two, setF_at, setF_at, setF_id, setF_id]
/-- one more row -/
theorem aft_row {S : Gs} {p n : Int} {rows : List Row} {wd : List Int} {r : Row} (hx : r.1 ∈ wd) : (S.aft p n rows wd).put r.1 p (addS (ssR (S.ss p) rows r.1) r.2.1) (setF (cfR n (S.cf p) rows r.1) r.2.1 (r.2.2.2, n)) = S.aft p n (rows ++ [r]) wd := by
  unfold Gs.put Gs.aft
  have e1 : setF (fun x => if x ∈ wd then addS (S.pls x) p else S.pls x) r.1 (addS (if r.1 ∈ wd then addS (S.pls r.1) p else S.pls r.1) p) = fun z => if z ∈ wd then addS (S.pls z) p else S.pls z := funext fun z => by
    by_cases c : z = r.1
    · subst c
      rw [setF_at, if_pos hx]
      have h : p ∈ addS (S.pls r.1) p := mem_addS.mpr (.inr rfl)
      show (if p ∈ addS (S.pls r.1) p then addS (S.pls r.1) p else _) = _
      rw [if_pos h]
    · rw [setF_ne c]
  dsimp only
  rw [e1, setF_two, setF_two, setF_at, setF_at, ssR_snoc, cfR_snoc]
  rfl
end
end Tg

set_option maxHeartbeats 2000000
namespace Tg
open PySem PySem.Spec PyProof.Rows L2
/-! ### settled -/
set_option maxHeartbeats 2000000
abbrev sSt : Stmt := inClass (topS 25) 16
abbrev NSt : List Str := ["self", "place", "folds_by_width", "number", "changed", "width", "folds", "kept", "start", "fold", "old"]
theorem scSt : FnScope NSt ["self", "place", "folds_by_width", "number"] (defScope sSt) := ⟨rfl, rfl, rfl, by decide +kernel, rfl, by decide +kernel, by decide +kernel⟩
section
variable {K : PySem.W.Frag} {CF : Addr} {H H' : Hp}
/-- a changed row as it is told -/
def RwR (K : PySem.W.Frag) (CF : Addr) (H : Hp) (v : V) (r : Row) : Prop := ∃ t a b, v = .ref t ∧ H t = some (.tup [.int r.1, .int r.2.1, .ref a, .ref b]) ∧ FdO K CF H a r.2.2.1 ∧ FdO K CF H b r.2.2.2
inductive RwAll (K : PySem.W.Frag) (CF : Addr) (H : Hp) : List V → List Row → Prop
  | nil : RwAll K CF H [] []
  | cons {v : V} {r : Row} {vs : List V} {rs : List Row} (h : RwR K CF H v r) (t : RwAll K CF H vs rs) : RwAll K CF H (v :: vs) (r :: rs)
theorem RwAll.imp (f : ∀ {v r}, RwR K CF H v r → RwR K CF H' v r) {vs : List V} {rs : List Row} (h : RwAll K CF H vs rs) : RwAll K CF H' vs rs := by
  induction h with
  | nil => exact .nil
  | cons a _ ih => exact .cons (f a) ih
theorem RwAll.snoc {v : V} {r : Row} {vs : List V} {rs : List Row} (h : RwAll K CF H vs rs) (g : RwR K CF H v r) : RwAll K CF H (vs ++ [v]) (rs ++ [r]) := by
  induction h with
  | nil => exact .cons g .nil
  | cons a _ ih => exact .cons a ih
theorem RwAll.len {vs : List V} {rs : List Row} (h : RwAll K CF H vs rs) : vs.length = rs.length := by
  induction h with
  | nil => rfl
  | cons _ _ hyp => rw [List.length_cons, List.length_cons, hyp]
theorem RwAll.get {vs : List V} {rs : List Row} (h : RwAll K CF H vs rs) : ∀ {i : Nat} {v : V}, vs[i]? = some v → ∃ r, rs[i]? = some r ∧ RwR K CF H v r := by
  induction h with
  | nil => exact fun e => nomatch e
  | cons a _ ih =>
    intro i v e
    cases i with
    | zero =>
      cases e
      exact ⟨_, rfl, a⟩
    | succ i => exact ih e
theorem RwR.hk {v : V} {r : Row} (st : HK CF H H') (h : RwR K CF H v r) : RwR K CF H' v r := by
  obtain ⟨t, a, b, e, h1, h2, h3⟩ := h
  exact ⟨t, a, b, e, st _ _ h1 (.inr (.inl ⟨_, rfl⟩)), h2.hk st, h3.hk st⟩
theorem RwR.nl {v : V} {r : Row} (st : NL H H') (h : RwR K CF H v r) : RwR K CF H' v r := h.hk st.hk
/-- the dict of the place p at the width x -/
def AtP (H : Hp) (kd : Addr) (x p : Int) (c : Addr) : Prop := ∃ kvs e pvs, H kd = some (.dK kvs) ∧ valV kvs (.inl x) = some (.ref e) ∧ H e = some (.dK pvs) ∧ valV pvs (.inl p) = some (.ref c)
theorem AtP.same {kd c : Addr} {x p : Int} (s : Same H H') (h : AtP H kd x p c) : AtP H' kd x p c := by
  obtain ⟨kvs, e, pvs, h1, h2, h3, h4⟩ := h
  exact ⟨kvs, e, pvs, s _ _ h1, h2, s _ _ h3, h4⟩
end
section
variable {P : Program} {w : World} {K : PySem.W.Frag} {mg : Str → Option Value} {base : Heap} {C CF : Addr}
theorem flat_lenM {α β : Type} {f : α → List β} {c : Nat} : ∀ {l : List α}, (∀ a, a ∈ l → (f a).length ≤ c) → (l.flatMap f).length ≤ c * l.length
  | [], _ => Nat.zero_le _
  | a :: l, h => by
    rw [List.flatMap_cons, List.length_append, List.length_cons, Nat.mul_succ]
    have h1 := h a List.mem_cons_self
    have h2 := flat_lenM (f := f) (c := c) (l := l) fun b hb => h b (List.mem_cons_of_mem _ hb)
    omega
theorem rowG_len {cf : CF2} {nf : Int → Int → FD} {x s : Int} : (rowG cf nf x s).length ≤ 1 := by
  unfold rowG
  split
  · exact Nat.zero_le _
  · exact Nat.le_refl _
/-- folds by widths, by starts -/
def FbW (K : PySem.W.Frag) (CF : Addr) (H : Hp) (rk : Addr → Option Ow) (fb : Addr) (st : Int → List Int) (nf : Int → Int → FD) (x : Int) (v : V) : Prop := ∃ e, v = .ref e ∧ rk e = none ∧ e ≠ fb ∧ DcI H e (st x) (FoR K CF H (nf x))
def spSt (K : PySem.W.Frag) (C CF : Addr) : Sp := fun vs H Q _ => ∃ (g wa kd hd fb : Addr) (p n : Int) (S : Gs) (rk : Addr → Option Ow) (b : Bool) (st : Int → List Int) (nf : Int → Int → FD), vs = [.ref g, .int p, .ref fb, .int n] ∧ GiA C H g wa kd hd b ∧ GrG K CF H wa kd hd S rk ∧ WOk S.ws ∧
  rk fb = none ∧ DcI H fb S.ws (FbW K CF H rk fb st nf) ∧ (∀ x, x ∈ S.ws → (st x).Nodup ∧ (st x).length ≤ 20 ∧ (S.ss p x).length ≤ 400 ∧ (S.pls x).length ≤ 900 ∧ ∀ s, s ∈ st x → s % x = 0) ∧
  ∀ r H' rk', (∀ b o, rk b = none → H b = some o → H' b = some o) → H r = none → GrG K CF H' wa kd hd (S.aft p n (S.ws.flatMap (rowsG (S.cf p) nf st)) S.ws) rk' → (∀ b, H b ≠ none → rk' b = rk b) → (∃ xs, H' r = some (.lst xs) ∧ RwAll K CF H' xs (S.ws.flatMap (rowsG (S.cf p) nf st))) → rk' r = none → Q (.ref r) H'
set_option maxHeartbeats 8000000 in
theorem ok_st {f fE : Addr} {fd fdE : FuncData} {k : Nat} (F : Fun K "settled" "Grains.settled" sSt f fd) (T : TGr K C) (TF : TFold K CF) (TI : TIns K CF) (M_fold_at : CalM P w K mg base k C "fold_at" ["self", "place", "width", "time"] (spFA K C CF)) (FE : FnOk P w K mg base CX0 k fE fdE ["self", "other"] (spEqB (EqF K CF))) (NE : NeC K CF fE) (hbE : Binds K fdE ["self", "other"] []) :
    FnOk P w K mg base CX0 (k + 2) f fd ["self", "place", "folds_by_width", "number"] (spSt K C CF) := by
  refine F.ok scSt (fun vs H Q E h => ?_) (fun cdv A outer s H vs Q E hr h => ?_)
  · obtain ⟨g, wa, kd, hd, fb, p, n, S, rk, b, st, nf, rfl, _⟩ := h
    rfl
  · obtain ⟨g, wa, kd, hd, fb, p, n, S, rk, b, st, nf, rfl, gi, gr0, okw, rfb, dfb, okst, q⟩ := h
    have hu := hu_of hr
    refine ⟨_, pss_cons (ps_set (i := 4) scSt.nd rfl (.inl rfl) (pe_lst pa_nil))
      (pss_cons (ps_lock (ps_for PassesOwn.never rfl (pi_items (pv 2)) (pg_tup rfl (pgs_cons (pg_name (i := 5) scSt.nd rfl (.inl rfl)) (pgs_cons (pg_name (i := 6) scSt.nd rfl (.inl rfl)) pgs_nil)))
        (pss_cons (ps_set (i := 7) scSt.nd rfl (.inl rfl) (pe_dsetd (pe_dget hu (pe_fld (pv 0) rfl) (pv 5) (fun _ _ => rfl)) (pv 1) pe_dnewK ⟨rfl, rfl, rfl, rfl⟩))
        (pss_one (ps_lock (ps_for PassesOwn.never rfl (pi_items (pv 6)) (pg_tup rfl (pgs_cons (pg_name (i := 8) scSt.nd rfl (.inl rfl)) (pgs_cons (pg_name (i := 9) scSt.nd rfl (.inl rfl)) pgs_nil)))
          (pss_cons (ps_set (i := 10) scSt.nd rfl (.inl rfl) (pe_calM (pv 0) T.cl M_fold_at (hr.mono (by omega)) (pa_cons (pv 1) (pa_cons (pv 5) (pa_cons (pv 8) pa_nil)))))
          (pss_one (ps_if (pt_cmpR (op_neB FE NE hbE pass0 (hr.mono (by omega))) (pv 9) (pv 10) (nomark _))
            (pss_cons (ps_dput hu (pv 7) (pv 8) (pe_tup (pa_cons (pv 9) (pa_cons (pv 3) pa_nil))) rfl)
            (pss_one (ps_expr (pe_bm PySem.F.plainAttrs_list PySem.F.slot_list_append PySem.F.type_list_append mt_append (pv 4) (pa_cons (pe_tup (pa_cons (pv 5) (pa_cons (pv 8) (pa_cons (pv 10) (pa_cons (pv 9) pa_nil))))) pa_nil)))))
            pss_nil)))))))))
      (pss_one (ps_ret (pv 4)))), ?_⟩
    obtain ⟨fvs, hfb, fk⟩ := dfb.k
    have nf9 : PySem.W.notFirst K CF (.ref CF) = true := by simp [PySem.W.notFirst]
    have pos : ∀ x, x ∈ S.ws → 0 < x := fun x hx => by
      obtain ⟨i, hi⟩ := List.getElem?_of_mem hx
      have := (okw.pos i x hi).1
      omega
    refine ⟨Nat.zero_le _, fun ch nch => ?_⟩
    have s1 := same_new (o := .lst []) nch
    obtain ⟨H1, e1⟩ : ∃ H1, upd H ch (.lst []) = H1 := ⟨_, rfl⟩
    have hch : H1 ch = some (.lst []) := by
      rw [← e1]
      exact upd_same
    rw [e1] at s1
    rw [e1]
    have hfb1 := s1 _ _ hfb
    have rch : rk ch = none := Classical.byContradiction fun h => by
      obtain ⟨kvs, z⟩ := gr0.own ch h
      rw [nch] at z
      cases z
    refine ⟨fb, _, hfb1, trivial, fun od => ?_⟩
    have chfb : ch ≠ fb := fun z => by
      rw [z, hfb] at nch
      cases nch
    have nlk : ∀ b o, b ≠ fb → H1 b = some o → (upd H1 fb (.frz od (.dK fvs))) b = some o := fun b o n h => (upd_ne n).trans h
    refine ⟨_, rfl, fb, od, _, rfl, upd_same, ?_⟩
    refine for_it walk_items (fun i σ Hc => ∃ (z5 z6 z7 z8 z9 z10 : Option V) (rkc : Addr → Option Ow), σ = [some (.ref g), some (.int p), some (.ref fb), some (.int n), some (.ref ch), z5, z6, z7, z8, z9, z10] ∧ Hc fb = some (.frz od (.dK fvs)) ∧ (∀ b o, rk b = none → b ≠ fb → b ≠ ch → H1 b = some o → Hc b = some o) ∧
      GrG K CF Hc wa kd hd (S.aft p n ((S.ws.take i).flatMap (rowsG (S.cf p) nf st)) (S.ws.take i)) rkc ∧ (∀ b, H1 b ≠ none → rkc b = rk b) ∧ ∃ xs, Hc ch = some (.lst xs) ∧ RwAll K CF Hc xs ((S.ws.take i).flatMap (rowsG (S.cf p) nf st)))
      ⟨none, none, none, none, none, none, rk, rfl, upd_same, fun b o _ n _ h => nlk b o n h, ?_, fun _ _ => rfl, [], nlk _ _ chfb hch, .nil⟩ (fun i σ Hc _ z => by obtain ⟨_, _, _, _, _, _, _, _, z, _⟩ := z; exact z) ?_ ?_
    · rw [List.take_zero]
      show GrG K CF _ wa kd hd (S.aft p n [] []) rk
      rw [aft_nil]
      exact (gr0.same s1).hk (.put hfb1 soft_dK) fun b o n h => nlk b o (fun z => n (by rw [z]; exact rfb)) h
    · rintro i y σ Hc Hd hi ⟨z5, z6, z7, z8, z9, z10, rkc, rfl, hc, kp, gr, rkk, xs, hxs, rw0⟩ ⟨T0, x1, x2, rfl, nT, rfl, f1, f2⟩
      obtain ⟨kv, ekv, rfl⟩ := Option.map_eq_some_iff.mp f1
      dsimp only at ekv f2
      rw [ekv] at f2
      obtain ⟨kk, vv⟩ := kv
      cases f2
      obtain ⟨x, rfl, ex, xin, fa, rfl, rfa, nfa, dfa⟩ := fk.item ekv
      obtain ⟨avs, hfa, ak⟩ := dfa.k
      obtain ⟨ndst, lst, lss, lpl, mst⟩ := okst x xin
      have xp := pos x xin
      obtain ⟨A, eA⟩ : ∃ A, (S.ws.take i).flatMap (rowsG (S.cf p) nf st) = A := ⟨_, rfl⟩
      rw [eA] at gr rw0
      obtain ⟨HT, eT⟩ : ∃ HT, upd Hc T0 (.tup [kV (.inl x), .ref fa]) = HT := ⟨_, rfl⟩
      have hT0 : HT T0 = some (.tup [kV (.inl x), .ref fa]) := by
        rw [← eT]
        exact upd_same
      have sT : Same Hc HT := by
        rw [← eT]
        exact same_new nT
      have hcT := sT _ _ hc
      have hxsT := sT _ _ hxs
      have grT := gr.same sT
      have keepT : ∀ b o, rk b = none → b ≠ fb → b ≠ ch → H1 b = some o → HT b = some o := fun b o h1 h2 h3 h4 => sT _ _ (kp b o h1 h2 h3 h4)
      have rk0 : ∀ {b o}, H b = some o → (∀ kvs, o ≠ .dK kvs) → rk b = none := fun {b o} e nn => Classical.byContradiction fun h => by
        obtain ⟨kvs, z⟩ := gr0.own b h
        rw [e] at z
        exact nn kvs (Option.some.inj z)
      obtain ⟨dx, hg⟩ := id gi
      have hgT := keepT g _ (rk0 hg fun _ z => nomatch z) (fun z => by rw [z, hfb] at hg; cases hg) (ne_of_none hg nch) (s1 _ _ hg)
      have hxw : x ∉ S.ws.take i := not_take (wok_nd okw) ex
      obtain ⟨SA, eSA⟩ : ∃ SA, S.aft p n A (S.ws.take i) = SA := ⟨_, rfl⟩
      have epl : SA.pls x = S.pls x := by
        rw [← eSA]
        exact if_neg hxw
      have ess : SA.ss p x = ssR (S.ss p) A x := by
        rw [← eSA]
        show setF S.ss p (ssR (S.ss p) A) p x = _
        rw [setF_at]
      have ecf : SA.cf p x = cfR n (S.cf p) A x := by
        rw [← eSA]
        show setF S.cf p (cfR n (S.cf p) A) p x = _
        rw [setF_at]
      have eput : SA.put x p (ssR (S.ss p) A x) (cfR n (S.cf p) A x) = S.aft p n A (S.ws.take i ++ [x]) := by
        rw [← eSA]
        exact aft_wide hxw
      rw [eSA] at grT
      have wsA : SA.ws = S.ws := by rw [← eSA] <;> rfl
      obtain ⟨kvs, hk, gk⟩ := grT.gk.k
      obtain ⟨v, ev, e, rfl, re, de⟩ := gk.all x (by rw [wsA]; exact xin)
      obtain ⟨pvs, he, pk⟩ := de.k
      have lpv : pvs.length ≤ 900 := by
        rw [pk.len, epl]
        exact lpl
      have gd := DGet.k (k := .inl x) hk
      rw [ev] at gd
      rw [show upd Hc T0 (.tup [kV ((.inl x : Key), V.ref fa).1, ((.inl x : Key), V.ref fa).2]) = HT from eT]
      refine ⟨T0, _, rfl, SqT.of hT0, rfl, _, _, rfl, _, _, rfl, rfl, ?_⟩
      refine ⟨_, rfl, g, C, dx, _, .ref kd, rfl, hgT, T.cl, T.no _ (by decide), rfl, _, rfl, kd, _, rfl, gd, e, rfl, ?_⟩
      have hkT : HT kd = some (.dK kvs) := hk
      -- the dict of the place at this width, maybe a new one
      refine ⟨.inl ⟨_, .inl he⟩, _, rfl, fun c nn => ⟨pvs, .inl p, same_new nn _ _ he, rfl, small1000 (by omega), fun v hv => ?_, fun hn => ?_⟩⟩
      case' refine_1 =>
        obtain ⟨nw, enw⟩ : ∃ nw, nw = c := ⟨c, rfl⟩
        subst enw
        have pin : p ∈ SA.pls x := Decidable.byContradiction fun no => by
          rw [pk.miss no] at hv
          cases hv
        obtain ⟨_, hv2, c, rfl, rc, dc⟩ := pk.all p pin
        rw [hv2] at hv
        cases hv
        obtain ⟨H5, e5⟩ : ∃ H5, upd HT nw (.dK []) = H5 := ⟨_, rfl⟩
        have L5 : ∃ rk5 : Addr → Option Ow, GrG K CF H5 wa kd hd (S.aft p n A (S.ws.take i ++ [x])) rk5 ∧ (∀ b o, rk b = none → b ≠ fb → b ≠ ch → H1 b = some o → H5 b = some o) ∧ H5 fb = some (.frz od (.dK fvs)) ∧ H5 ch = some (.lst xs) ∧ HK CF HT H5 ∧ (∀ b, H1 b ≠ none → rk5 b = rk b) ∧ AtP H5 kd x p c ∧ rk5 c = some (.cells x p) := by
          have s5 : Same HT H5 := by
            rw [← e5]
            exact same_new nn
          refine ⟨rkc, ?_, fun b o h1 h2 h3 h4 => s5 _ _ (keepT b o h1 h2 h3 h4), s5 _ _ hcT, s5 _ _ hxsT, .of s5, rkk, ⟨kvs, e, pvs, s5 _ _ hk, ev, s5 _ _ he, hv2⟩, rc⟩
          have w := (grT.same s5).step (H' := H5) (rk' := rkc) (p0 := p) (ss0 := SA.ss p x) (cf0 := SA.cf p x) (by rw [wsA]; exact xin) (fun b o h _ _ => h) (fun _ _ => rfl) (fun a ha => (grT.same s5).own a ha) (fun e' kvs' h1 h2 h3 h4 => ?_) (fun s hs => grT.out p x s hs)
          · rw [ess, ecf, eput] at w
            exact w
          · have ea : addS (SA.pls x) p = SA.pls x := by
              unfold addS
              rw [if_pos pin]
            rw [ea]
            refine h4.move (fun _ z => z) fun p1 u _ ⟨c1, g1, g2, g3⟩ => ?_
            by_cases z : p1 = p
            · subst z
              exact .inl ⟨rfl, c1, g1, g2, g3⟩
            · exact .inr ⟨z, c1, g1, g2, g3⟩
      case' refine_2 =>
        have pno : p ∉ SA.pls x := fun z => by
          obtain ⟨_, hv2, _⟩ := pk.all p z
          rw [hn] at hv2
          cases hv2
        obtain ⟨H5, e5⟩ : ∃ H5, upd (upd HT c (.dK [])) e (.dK (putK pvs (.inl p) (.ref c))) = H5 := ⟨_, rfl⟩
        have L5 : ∃ rk5 : Addr → Option Ow, GrG K CF H5 wa kd hd (S.aft p n A (S.ws.take i ++ [x])) rk5 ∧ (∀ b o, rk b = none → b ≠ fb → b ≠ ch → H1 b = some o → H5 b = some o) ∧ H5 fb = some (.frz od (.dK fvs)) ∧ H5 ch = some (.lst xs) ∧ HK CF HT H5 ∧ (∀ b, H1 b ≠ none → rk5 b = rk b) ∧ AtP H5 kd x p c ∧ rk5 c = some (.cells x p) := by
          have ce : c ≠ e := fun z => by
            rw [z, he] at nn
            cases nn
          have st5 : ∀ b o, b ≠ e → HT b = some o → H5 b = some o := fun b o n1 h => by
            rw [← e5, upd_ne n1, upd_ne (ne_of_none h nn)]
            exact h
          have r0 : ∀ b, rk b = none → H1 b ≠ none → b ≠ e := fun b h hn z => by
            have w := rkk b hn
            rw [z, re] at w
            rw [z, ← w] at h
            cases h
          have he5 : H5 e = some (.dK (putK pvs (.inl p) (.ref c))) := by
            rw [← e5]
            exact upd_same
          have hc5 : H5 c = some (.dK []) := by
            rw [← e5, upd_ne ce]
            exact upd_same
          refine ⟨fun b => if b = c then some (.cells x p) else rkc b, ?_, fun b o h1 h2 h3 h4 => st5 _ _ (r0 b h1 fun z => by rw [h4] at z; cases z) (keepT b o h1 h2 h3 h4), st5 _ _ (fun z => ?_) hcT, st5 _ _ (fun z => ?_) hxsT, fun b o h hh => st5 _ _ (fun z => ?_) h, fun b h => (if_neg fun z => ?_).trans (rkk b h), ⟨kvs, e, _, st5 _ _ (fun z => ?_) hkT, ev, he5, ?_⟩, if_pos rfl⟩
          · have w := grT.step (H' := H5) (rk' := fun b => if b = c then some (.cells x p) else rkc b) (p0 := p) (ss0 := SA.ss p x) (cf0 := SA.cf p x) (by rw [wsA]; exact xin) (fun b o h n1 n2 => st5 _ _ (fun z => n1 (by rw [z]; exact re)) h) (fun b h => if_neg fun z => h (by rw [z]; exact nn)) (fun a ha => ?_) (fun e' kvs' h1 h2 h3 h4 => ?_) (fun s hs => grT.out p x s hs)
            · rw [ess, ecf, eput] at w
              exact w
            · by_cases z : a = c
              · rw [z]
                exact ⟨_, hc5⟩
              · rw [if_neg z] at ha
                by_cases z2 : a = e
                · rw [z2]
                  exact ⟨_, he5⟩
                · obtain ⟨u, hu2⟩ := grT.own a ha
                  exact ⟨u, st5 _ _ z2 hu2⟩
            · rw [hkT] at h2
              cases h2
              rw [ev] at h3
              cases h3
              refine (pk.put (R2 := fun p1 u => (p1 = p ∧ ∃ c1, u = .ref c1 ∧ (if c1 = c then some (Ow.cells x p) else rkc c1) = some (.cells x p) ∧ DcI H5 c1 (SA.ss p x) (CeR K CF H5 (SA.cf p x))) ∨ (p1 ≠ p ∧ ∃ c, u = .ref c ∧ rkc c = some (.cells x p1) ∧ DcI HT c (SA.ss p1 x) (CeR K CF HT (SA.cf p1 x)))) (.inl ⟨rfl, c, rfl, if_pos rfl, ?_⟩) fun z u nz _ h => .inr ⟨nz, h⟩).at_ he5
              rw [grT.no x p pno]
              exact DcK.nil.at_ hc5
          · rw [← z, hcT] at he
            cases he
          · rw [← z, hxsT] at he
            cases he
          · rw [z, he] at h
            cases h
            exact soft_dK hh
          · rw [z] at h
            obtain ⟨o, ho⟩ := Option.ne_none_iff_exists'.mp h
            have some_ : ∀ u, HT c = some u → False := fun u hu => by
              rw [hu] at nn
              cases nn
            by_cases r1 : rk c = none
            · by_cases z1 : c = fb
              · exact some_ _ (by rw [z1]; exact hcT)
              by_cases z2 : c = ch
              · exact some_ _ (by rw [z2]; exact hxsT)
              exact some_ _ (keepT c o r1 z1 z2 ho)
            · obtain ⟨u, hu2⟩ := grT.own c (by rw [rkk c h]; exact r1)
              exact some_ _ hu2
          · have w := grT.rd
            rw [z, re] at w
            cases w
          · rw [valV_put, if_pos rfl]
      all_goals
        obtain ⟨rk5, gr5, k5, fb5, ch5, hk5, rkk5, at5, rc5⟩ := L5
        have fach : fa ≠ ch := ne_of_none hfa nch
        have hfa5 := k5 fa _ rfa nfa fach (s1 _ _ hfa)
        have r5 : ∀ {b}, rk b = none → H1 b ≠ none → rk5 b = none := fun {b} h hn => (rkk5 b hn).trans h
        have some_ : ∀ {b : Addr} {o : HO}, H1 b = some o → H1 b ≠ none := fun {b o} h z => by
          rw [h] at z
          cases z
        rw [e5]
        refine ⟨fa, _, hfa5, trivial, fun od2 => ⟨_, rfl, fa, od2, avs, rfl, upd_same, ?_⟩⟩
        have nlk2 : ∀ b o, b ≠ fa → H5 b = some o → (upd H5 fa (.frz od2 (.dK avs))) b = some o := fun b o n h => (upd_ne n).trans h
        have own2 : ∀ b, rk5 b ≠ none → b ≠ fa := fun b h z => h (by rw [z]; exact r5 rfa (some_ (s1 _ _ hfa)))
        have hk2 : HK CF H5 (upd H5 fa (.frz od2 (.dK avs))) := .put hfa5 soft_dK
        have at2 : AtP (upd H5 fa (.frz od2 (.dK avs))) kd x p c := by
          obtain ⟨kvs5, e5', pvs5, g1, g2, g3, g4⟩ := at5
          refine ⟨kvs5, e5', pvs5, nlk2 _ _ (own2 _ (by rw [gr5.rd]; exact fun z => nomatch z)) g1, g2, nlk2 _ _ (own2 _ ?_) g3, g4⟩
          obtain ⟨kvs6, hk6, gk6⟩ := gr5.gk.k
          rw [g1] at hk6
          cases hk6
          obtain ⟨_, w1, e6, rfl, w2, _⟩ := gk6.all x xin
          rw [g2] at w1
          cases w1
          rw [w2]
          exact fun z => nomatch z
        refine for_it walk_items (fun j σ2 Hd => ∃ (z8 z9 z10 : Option V) (rkd : Addr → Option Ow) (xs : List V), σ2 = [some (.ref g), some (.int p), some (.ref fb), some (.int n), some (.ref ch), some (.int x), some (.ref fa), some (.ref c), z8, z9, z10] ∧ Hd fa = some (.frz od2 (.dK avs)) ∧ Hd fb = some (.frz od (.dK fvs)) ∧ (∀ b o, rk b = none → b ≠ fb → b ≠ fa → b ≠ ch → H1 b = some o → Hd b = some o) ∧
          GrG K CF Hd wa kd hd (S.aft p n (A ++ ((st x).take j).flatMap (rowG (S.cf p) nf x)) (S.ws.take i ++ [x])) rkd ∧ (∀ b, H1 b ≠ none → rkd b = rk b) ∧ AtP Hd kd x p c ∧ rkd c = some (.cells x p) ∧ Hd ch = some (.lst xs) ∧ RwAll K CF Hd xs (A ++ ((st x).take j).flatMap (rowG (S.cf p) nf x)))
          ⟨_, _, _, rk5, xs, rfl, upd_same, nlk2 _ _ nfa.symm fb5, fun b o h1 h2 h3 h4 h5 => nlk2 _ _ h3 (k5 b o h1 h2 h4 h5), ?_, rkk5, at2, rc5, nlk2 _ _ fach.symm ch5, ?_⟩ (fun j σ2 Hd _ z => by obtain ⟨_, _, _, _, _, _, z, _⟩ := z; exact z) ?_ ?_
        · rw [List.take_zero]
          exact (List.append_nil A).symm ▸ gr5.hk hk2 fun b o h e => nlk2 _ _ (own2 b h) e
        · rw [List.take_zero]
          exact (List.append_nil A).symm ▸ rw0.imp fun h => ((h.hk (HK.of sT)).hk hk5).hk hk2
        · rintro j y2 σ2 Hd Hd2 hj ⟨z8, z9, z10, rkd, xs2, rfl, hfd, hbd, kd2, grd, rkkd, atd, rcd, chd, rwd⟩ ⟨T1, y1, y3, rfl, nT1, rfl, f3, f4⟩
          obtain ⟨kv, ekv2, rfl⟩ := Option.map_eq_some_iff.mp f3
          dsimp only at ekv2 f4
          rw [ekv2] at f4
          obtain ⟨kk2, vv2⟩ := kv
          cases f4
          obtain ⟨s0, rfl, es0, sin, a0, rfl, fa0⟩ := ak.item ekv2
          obtain ⟨B, eB⟩ : ∃ B, A ++ ((st x).take j).flatMap (rowG (S.cf p) nf x) = B := ⟨_, rfl⟩
          rw [eB] at grd rwd
          have eB2 : A ++ ((st x).take (j + 1)).flatMap (rowG (S.cf p) nf x) = B ++ rowG (S.cf p) nf x s0 := by
            rw [take_snoc es0, List.flatMap_append, List.flatMap_singleton, ← List.append_assoc, eB]
          obtain ⟨HU, eU⟩ : ∃ HU, upd Hd T1 (.tup [kV (.inl s0), .ref a0]) = HU := ⟨_, rfl⟩
          have hU : HU T1 = some (.tup [kV (.inl s0), .ref a0]) := by
            rw [← eU]
            exact upd_same
          have sU : Same Hd HU := by
            rw [← eU]
            exact same_new nT1
          have miss : ∀ r, r ∈ B → ¬ (r.1 = x ∧ r.2.1 = s0) := fun r hr2 ⟨h1, h2⟩ => by
            rw [← eB] at hr2
            rcases List.mem_append.mp hr2 with h | h
            · rw [← eA] at h
              obtain ⟨x', hx', h⟩ := List.mem_flatMap.mp h
              obtain ⟨s', _, h⟩ := List.mem_flatMap.mp h
              have e1 := (row_mem h).1
              rw [← e1, h1] at hx'
              exact not_take (wok_nd okw) ex hx'
            · obtain ⟨s', hs', h⟩ := List.mem_flatMap.mp h
              have e1 := (row_mem h).2
              rw [← e1, h2] at hs'
              exact not_take ndst es0 hs'
          have cfB : (S.aft p n B (S.ws.take i ++ [x])).cf p x s0 = S.cf p x s0 := by
            show setF S.cf p (cfR n (S.cf p) B) p x s0 = _
            rw [setF_at]
            exact cfR_miss miss
          have hkU : HK CF H HU := fun b o h hh => by
            have r0 : rk b = none := rk0 h fun kvs z => soft_dK (z ▸ hh)
            exact sU _ _ (kd2 b o r0 (fun z => by rw [z, hfb] at h; cases h; exact soft_dK hh) (fun z => by rw [z, hfa] at h; cases h; exact soft_dK hh) (ne_of_none h nch) (s1 _ _ h))
          have hgU : HU g = some (.ins C dx [("widths", .ref wa), ("busy", .bl b), ("kept", .ref kd), ("horizons", .ref hd)]) := sU _ _ (kd2 g _ (rk0 hg fun _ z => nomatch z) (fun z => by rw [z, hfb] at hg; cases hg) (fun z => by rw [z, hfa] at hg; cases hg) (ne_of_none hg nch) (s1 _ _ hg))
          have faU := fa0.hk hkU
          rw [show upd Hd T1 (.tup [kV ((.inl s0 : Key), V.ref a0).1, ((.inl s0 : Key), V.ref a0).2]) = HU from eU, eB2]
          refine ⟨T1, _, rfl, SqT.of hU, rfl, _, _, rfl, _, _, rfl, rfl, ?_⟩
          refine ⟨_, rfl, g, dx, _, rfl, hgU, rfl, _, rfl, _, rfl, _, rfl, g, wa, kd, hd, p, x, s0, _, rkd, b, rfl, ⟨dx, hgU⟩, grd.same sU, xin, xp, fun a1 H6 s6 f6 => ?_⟩
          rw [mst s0 sin, Int.sub_zero, cfB] at f6
          have sU6 := sU.trans s6
          have fa6 := faU.same s6
          obtain ⟨dx0, vf0, vl0, ha0, _⟩ := id fa6
          obtain ⟨dx1, vf1, vl1, ha1, _⟩ := id f6
          refine ⟨_, rfl, _, rfl, a0, dx0, _, .ref CF, PyData.eqv (fd9 (nf x s0)) (fd9 (S.cf p x s0).1), rfl, ha0, .base (.ins ha1 TF.cl TI.cc TI.get TI.takes TI.obj), nf9, ⟨a1, nf x s0, (S.cf p x s0).1, rfl, fa6, f6, rfl⟩, fun H7 e7 => ?_⟩
          have s67 : Same H6 H7 := e7
          have sU7 := sU6.trans s67
          refine ⟨_, rfl, ?_⟩
          cases eb : PyData.eqv (fd9 (nf x s0)) (fd9 (S.cf p x s0).1)
          case true =>
            have er : rowG (S.cf p) nf x s0 = [] := by
              unfold rowG
              rw [if_pos eb]
            rw [er, List.append_nil]
            exact if_f ⟨_, _, _, rkd, xs2, rfl, sU7 _ _ hfd, sU7 _ _ hbd, fun b o h1 h2 h3 h4 h5 => sU7 _ _ (kd2 b o h1 h2 h3 h4 h5), grd.same sU7, rkkd, atd.same sU7, rcd, sU7 _ _ chd, rwd.imp fun h => h.hk (.of sU7)⟩
          case false =>
            have er : rowG (S.cf p) nf x s0 = [(x, s0, (S.cf p x s0).1, nf x s0)] := by
              unfold rowG
              rw [if_neg (by rw [eb]; decide)]
            rw [er]
            have lB : B.length ≤ 100 := by
              rw [← eB, ← eA, List.length_append]
              have l1 : ((S.ws.take i).flatMap (rowsG (S.cf p) nf st)).length ≤ 20 * (S.ws.take i).length := flat_lenM fun a ha => by
                have l2 : ((st a).flatMap (rowG (S.cf p) nf a)).length ≤ 1 * (st a).length := flat_lenM fun _ _ => rowG_len
                have l3 := (okst a (List.mem_of_mem_take ha)).2.1
                show ((st a).flatMap (rowG (S.cf p) nf a)).length ≤ 20
                omega
              have l4 : (((st x).take j).flatMap (rowG (S.cf p) nf x)).length ≤ 1 * ((st x).take j).length := flat_lenM fun _ _ => rowG_len
              have l5 := okw.le
              rw [List.length_take] at l1 l4
              omega
            have lSS : (ssR (S.ss p) B x).length ≤ 500 := by
              have := ssR_len (x := x) (rows := B) (ss := S.ss p)
              omega
            have lx2 : xs2.length ≤ 100 := by
              rw [rwd.len]
              exact lB
            have xin2 : x ∈ S.ws.take i ++ [x] := List.mem_append_right _ (List.mem_singleton.mpr rfl)
            obtain ⟨SB, eSB⟩ : ∃ SB, S.aft p n B (S.ws.take i ++ [x]) = SB := ⟨_, rfl⟩
            have eput2 : SB.put x p (addS (ssR (S.ss p) B x) s0) (setF (cfR n (S.cf p) B x) s0 (nf x s0, n)) = S.aft p n (B ++ [(x, s0, (S.cf p x s0).1, nf x s0)]) (S.ws.take i ++ [x]) := by
              rw [← eSB]
              exact aft_row (r := (x, s0, (S.cf p x s0).1, nf x s0)) xin2
            have ess2 : SB.ss p x = ssR (S.ss p) B x := by
              rw [← eSB]
              show setF S.ss p (ssR (S.ss p) B) p x = _
              rw [setF_at]
            have ecf2 : SB.cf p x = cfR n (S.cf p) B x := by
              rw [← eSB]
              show setF S.cf p (cfR n (S.cf p) B) p x = _
              rw [setF_at]
            have wsB : SB.ws = S.ws := by rw [← eSB] <;> rfl
            have pin2 : p ∈ SB.pls x := by
              rw [← eSB]
              show p ∈ if x ∈ S.ws.take i ++ [x] then addS (S.pls x) p else S.pls x
              rw [if_pos xin2]
              exact mem_addS.mpr (.inr rfl)
            rw [eSB] at grd
            refine if_t ⟨_, rfl, _, rfl, (by show 2 ≤ sizeLine; decide), fun t nt => ?_⟩
            obtain ⟨H8, e8⟩ : ∃ H8, upd H7 t (.tup [.ref a0, .int n]) = H8 := ⟨_, rfl⟩
            have ht8 : H8 t = some (.tup [.ref a0, .int n]) := by
              rw [← e8]
              exact upd_same
            have s78 : Same H7 H8 := by
              rw [← e8]
              exact same_new nt
            rw [e8]
            have sd8 := sU7.trans s78
            have gr8 := grd.same sd8
            obtain ⟨kvs8, e', pvs8, hk8, ev8, he8, pv8⟩ := atd.same sd8
            -- the cells of the place at this width
            obtain ⟨re8, dp8, dc8⟩ : rkd e' = some (.wide x) ∧ DcK pvs8 (SB.pls x) (fun p u => ∃ c, u = .ref c ∧ rkd c = some (.cells x p) ∧ DcI H8 c (SB.ss p x) (CeR K CF H8 (SB.cf p x))) ∧ DcI H8 c (SB.ss p x) (CeR K CF H8 (SB.cf p x)) := by
              obtain ⟨kvs9, hk9, gk9⟩ := gr8.gk.k
              rw [hk8] at hk9
              cases hk9
              obtain ⟨_, w1, e6, rfl, w2, w3⟩ := gk9.all x (by rw [wsB]; exact xin)
              rw [ev8] at w1
              cases w1
              obtain ⟨pvs9, hp9, pk9⟩ := w3.k
              rw [he8] at hp9
              cases hp9
              obtain ⟨_, w4, c9, rfl, _, w6⟩ := pk9.all p pin2
              rw [pv8] at w4
              cases w4
              exact ⟨w2, pk9, w6⟩
            obtain ⟨cvs, hc8, ck⟩ := dc8.k
            refine ⟨_, rfl, _, rfl, c, _, rfl, DPut.k (k := .inl s0) hc8 (small1000 (by rw [ck.len, ess2]; omega)), ?_⟩
            obtain ⟨H9, e9⟩ : ∃ H9, upd H8 c (.dK (putK cvs (.inl s0) (.ref t))) = H9 := ⟨_, rfl⟩
            have hc9 : H9 c = some (.dK (putK cvs (.inl s0) (.ref t))) := by
              rw [← e9]
              exact upd_same
            have k9 : ∀ b o, b ≠ c → H8 b = some o → H9 b = some o := fun b o n1 h => by
              rw [← e9, upd_ne n1]
              exact h
            have hk89 : HK CF H8 H9 := by
              rw [← e9]
              exact .put hc8 soft_dK
            have fa8 : FdO K CF H8 a0 (nf x s0) := (fa6.same s67).same s78
            have ec' : e' ≠ c := fun z => by
              rw [z, rcd] at re8
              cases re8
            have gr9 : GrG K CF H9 wa kd hd (S.aft p n (B ++ [(x, s0, (S.cf p x s0).1, nf x s0)]) (S.ws.take i ++ [x])) rkd := by
              have w := gr8.step (H' := H9) (rk' := rkd) (p0 := p) (ss0 := addS (SB.ss p x) s0) (cf0 := setF (SB.cf p x) s0 (nf x s0, n)) (by rw [wsB]; exact xin) (fun b o h n1 n2 => k9 b o (fun z => n2 (by rw [z]; exact rcd)) h) (fun _ _ => rfl) (fun a ha => ?_) (fun e2 kvs2 h1 h2 h3 h4 => ?_) fun s hs => ?_
              · rw [ess2, ecf2, eput2] at w
                exact w
              · by_cases z : a = c
                · rw [z]
                  exact ⟨_, hc9⟩
                · obtain ⟨u, hu2⟩ := gr8.own a ha
                  exact ⟨u, k9 _ _ z hu2⟩
              · rw [hk8] at h2
                cases h2
                rw [ev8] at h3
                cases h3
                have ea : addS (SB.pls x) p = SB.pls x := by
                  unfold addS
                  rw [if_pos pin2]
                rw [ea]
                refine ⟨pvs8, k9 _ _ ec' he8, dp8.ks, dp8.nd, fun p1 hp1 => ?_⟩
                obtain ⟨v1, ev1, c1, rfl, g2, g3⟩ := dp8.all p1 hp1
                refine ⟨_, ev1, ?_⟩
                by_cases z1 : p1 = p
                · subst z1
                  rw [pv8] at ev1
                  cases ev1
                  refine .inl ⟨rfl, c, rfl, rcd, (ck.put (R2 := CeR K CF H9 (setF (SB.cf p1 x) s0 (nf x s0, n))) ⟨t, a0, rfl, ?_, ?_⟩ fun z u nz _ h => ?_).at_ hc9⟩
                  · rw [setF_at]
                    exact sqT_hk hk89 (SqT.of ht8)
                  · rw [setF_at]
                    exact fa8.hk hk89
                  · obtain ⟨t2, b2, k1, k2, k3⟩ := h.hk hk89
                    refine ⟨t2, b2, k1, ?_, ?_⟩
                    · rw [setF_ne nz]
                      exact k2
                    · rw [setF_ne nz]
                      exact k3
                · exact .inr ⟨z1, c1, rfl, g2, g3⟩
              · have ns : s ≠ s0 := fun z => hs (mem_addS.mpr (.inr z))
                rw [setF_ne ns]
                exact gr8.out p x s fun z => hs (mem_addS.mpr (.inl z))
            have chc : ch ≠ c := fun z => by
              have w := sd8 _ _ chd
              rw [z, hc8] at w
              cases w
            have ch9 := k9 _ _ chc (sd8 _ _ chd)
            refine nx_atS e9 ?_
            refine ⟨_, rfl, .inl ⟨rfl, _, SqL.of ch9⟩, _, rfl, _, rfl, _, rfl, _, rfl, (by show 4 ≤ sizeLine; decide), fun u nu => ?_⟩
            obtain ⟨H10, e10⟩ : ∃ H10, upd H9 u (.tup [.int x, .int s0, .ref a1, .ref a0]) = H10 := ⟨_, rfl⟩
            have hu10 : H10 u = some (.tup [.int x, .int s0, .ref a1, .ref a0]) := by
              rw [← e10]
              exact upd_same
            have s910 : Same H9 H10 := by
              rw [← e10]
              exact same_new nu
            rw [show upd H9 u (.tup [.int x, kV (.inl s0), .ref a1, .ref a0]) = H10 from e10]
            have ch10 := s910 _ _ ch9
            refine ⟨ch, _, _, rfl, rfl, ch10, small1000 (by omega), ?_⟩
            have rch2 : rkd ch = none := (rkkd ch (some_ hch)).trans rch
            have kf : ∀ b o, b ≠ ch → H10 b = some o → (upd H10 ch (.lst (xs2 ++ [.ref u]))) b = some o := fun b o n1 h => (upd_ne n1).trans h
            have hkf : HK CF H10 (upd H10 ch (.lst (xs2 ++ [.ref u]))) := .put ch10 soft_lst
            have all : ∀ b o, b ≠ c → b ≠ ch → Hd b = some o → (upd H10 ch (.lst (xs2 ++ [.ref u]))) b = some o := fun b o n1 n2 h => kf b o n2 (s910 _ _ (k9 b o n1 (sd8 _ _ h)))
            have rc0 : ∀ b, rk b = none → H1 b ≠ none → b ≠ c := fun b h1 h2 z => by
              have w := rkkd b h2
              rw [z, rcd] at w
              rw [z, ← w] at h1
              cases h1
            have hk10 : HK CF H8 (upd H10 ch (.lst (xs2 ++ [.ref u]))) := (hk89.trans (.of s910)).trans hkf
            refine ⟨_, _, _, rkd, xs2 ++ [.ref u], rfl, all _ _ (rc0 fa rfa (some_ (s1 _ _ hfa))) fach hfd, all _ _ (rc0 fb rfb (some_ hfb1)) chfb.symm hbd, fun b o h1 h2 h3 h4 h5 => all b o (rc0 b h1 (some_ h5)) h4 (kd2 b o h1 h2 h3 h4 h5), (gr9.same s910).hk hkf (fun b o h e => kf b o (fun z => h (by rw [z]; exact rch2)) e), rkkd, ⟨kvs8, e', pvs8, kf _ _ (fun z => ?_) (s910 _ _ (k9 _ _ (fun z => ?_) hk8)), ev8, kf _ _ (fun z => ?_) (s910 _ _ (k9 _ _ ec' he8)), pv8⟩, rcd, upd_same, (rwd.imp fun h => (h.hk (.of sd8)).hk hk10).snoc ⟨u, a1, a0, rfl, (upd_ne (fun z => ?_)).trans hu10, ((f6.same s67).same s78).hk hk10, fa8.hk hk10⟩⟩
            · have w := gr8.rd
              rw [z, rch2] at w
              cases w
            · have w := gr8.rd
              rw [z, rcd] at w
              cases w
            · rw [z, rch2] at re8
              cases re8
            · rw [z, ch10] at hu10
              cases hu10
        · rintro σ2 Hd ⟨z8, z9, z10, rkd, xs2, rfl, hfd, hbd, kd2, grd, rkkd, atd, rcd, chd, rwd⟩
          rw [ak.len, List.take_length] at grd rwd
          have eA2 : (S.ws.take (i + 1)).flatMap (rowsG (S.cf p) nf st) = A ++ (st x).flatMap (rowG (S.cf p) nf x) := by
            rw [take_snoc ex, List.flatMap_append, eA, List.flatMap_singleton]
            rfl
          refine ⟨hfd, _, _, _, _, _, _, rkd, rfl, (upd_ne nfa.symm).trans hbd, fun b o h1 h2 h3 h4 => ?_, ?_, rkkd, xs2, (upd_ne fach.symm).trans chd, ?_⟩
          · by_cases z : b = fa
            · rw [z, s1 _ _ hfa] at h4
              cases h4
              rw [z, upd_same]
            · exact (upd_ne z).trans (kd2 b o h1 h2 z h3 h4)
          · rw [eA2, take_snoc ex]
            exact grd.nl (.unl hfd)
          · rw [eA2]
            exact rwd.imp fun h => h.nl (.unl hfd)
    · rintro σ Hc ⟨z5, z6, z7, z8, z9, z10, rkc, rfl, hc, kp, gr, rkk, xs, hxs, rw0⟩
      rw [fk.len, List.take_length] at gr rw0
      refine ⟨hc, _, rfl, q ch _ rkc (fun b o h1 h2 => ?_) nch (gr.nl (.unl hc)) (fun b h => rkk b fun z => ?_) ⟨xs, (upd_ne chfb).trans hxs, rw0.imp fun h => h.nl (.unl hc)⟩ ((rkk ch fun z => ?_).trans rch)⟩
      · by_cases z : b = fb
        · rw [z, hfb] at h2
          cases h2
          rw [z, upd_same]
        · exact (upd_ne z).trans (kp b o h1 z (ne_of_none h2 nch) (s1 _ _ h2))
      · obtain ⟨o, ho⟩ := Option.ne_none_iff_exists'.mp h
        rw [s1 _ _ ho] at z
        cases z
      · rw [hch] at z
        cases z
end
end Tg

set_option maxHeartbeats 2000000
namespace Tg
open PySem PySem.Spec PyProof.Rows L2
/-! ### renew -/
set_option maxHeartbeats 2000000
abbrev sRn : Stmt := inClass (topS 25) 1
abbrev NRn : List Str := ["self", "place", "times", "points_in", "number", "told", "folds_by_width", "finer", "width", "starts"]
theorem scRn : FnScope NRn ["self", "place", "times", "points_in", "number"] (defScope sRn) := ⟨rfl, rfl, rfl, by decide +kernel, rfl, by decide +kernel, by decide +kernel⟩
theorem starts_cell {ts : List Int} {x s : Int} : s ∈ startsF ts x ↔ ∃ t, t ∈ ts ∧ t - t % x = s := by
  rw [mem_starts, List.mem_map]
  simp only [div_cell]
theorem cells_mem {S : Gs} {ts : List Int} {x s : Int} : s ∈ S.cells ts x ↔ (∃ t, t ∈ ts ∧ t - t % x = s) ∧ S.gone x s = false := by
  unfold Gs.cells
  rw [List.mem_filter, starts_cell]
  cases S.gone x s <;> simp
theorem cells_mod {S : Gs} {ts : List Int} {x s : Int} (h : s ∈ S.cells ts x) : s % x = 0 := by
  obtain ⟨⟨t, _, rfl⟩, _⟩ := cells_mem.mp h
  exact cell_mod t x
theorem cut_drop (ns : List Int) (i : Nat) : cutV (ns.map V.int) (some (i : Int)) none = (ns.drop i).map V.int := by
  unfold cutV
  have e : HT.sIx (ns.map V.int).length 0 (some (i : Int)) = min i ns.length := by
    show (if (i : Int) < 0 then ((i : Int) + ((ns.map V.int).length : Nat)).toNat else min (i : Int).toNat (ns.map V.int).length) = _
    rw [if_neg (by omega), List.length_map]
    rfl
  rw [HT.sIx_none, e, List.map_drop, List.length_map]
  rcases Nat.le_total i ns.length with c | c
  · rw [Nat.min_eq_left c]
    exact List.take_of_length_le (by rw [List.length_drop, List.length_map]; omega)
  · rw [Nat.min_eq_right c, Nat.sub_self, List.take_zero]
    exact (List.drop_eq_nil_of_le (by rw [List.length_map]; exact c)).symm
theorem map_at {α : Type} {f : α → V} {xs : List α} {i : Nat} {v : V} (h : (xs.map f)[i]? = some v) : ∃ x, xs[i]? = some x ∧ v = f x := by
  rw [List.getElem?_map] at h
  obtain ⟨x, h1, h2⟩ := Option.map_eq_some_iff.mp h
  exact ⟨x, h1, h2.symm⟩
theorem walk_zipS {K : PySem.W.Frag} {a b : Addr} {xs ys : List V} (hl : ys.length ≤ xs.length) : Walk (RZ.ItzT K a b) ys.length (fun H => SqT K H a xs ∧ SqT K H b ys) (YPair (fun i => xs[i]?) (fun i => ys[i]?)) :=
  ⟨fun i _ hi q => ⟨xs, ys, xs[i]'(by omega), ys[i], q.1, q.2, List.getElem?_eq_getElem (by omega), List.getElem?_eq_getElem hi⟩, fun _ q => ⟨xs, ys, q.1, q.2, .inr (Nat.le_refl _)⟩, fun i _ _ _ _ q ⟨T, x, z, e, n, l, one, two⟩ => ⟨T, x, z, e, n, l, one xs q.1, two ys q.2⟩⟩
section
variable {P : Program} {w : World} {K : PySem.W.Frag} {mg : Str → Option Value} {base : Heap} {C CF : Addr} {Tl : Addr → List Pt → Hp → Prop} {sp : Addr → Sp}
/-- the rows that a renewal tells -/
def Gs.rows (S : Gs) (p : Int) (rs : List Pt) (ts : List Int) : List Row := S.ws.flatMap (rowsG (S.cf p) (cellF rs) (S.cells ts))
def spRn (K : PySem.W.Frag) (C CF : Addr) (Tl : Addr → List Pt → Hp → Prop) : Sp := fun vs H Q _ => ∃ (g wa kd hd l fI : Addr) (ts : List Int) (w0 p n : Int) (S : Gs) (rk : Addr → Option Ow) (rs : List Pt), vs = [.ref g, .int p, .ref l, .ref fI, .int n] ∧ GiA C H g wa kd hd false ∧ GrG K CF H wa kd hd S rk ∧ WOk S.ws ∧ S.ws[0]? = some w0 ∧
  H l = some (.lst (ts.map V.int)) ∧ ts.length ≤ 20 ∧ (∀ x, x ∈ S.ws → (S.ss p x).length ≤ 400 ∧ (S.pls x).length ≤ 900) ∧ (∀ (i : Nat) (x y : Int), S.ws[i]? = some x → S.ws[i + 1]? = some y → JaOk rs x y (S.ss p x) (S.cells ts x) (S.cells ts y) (S.cf p x)) ∧ TbOk rs ∧ Tl fI rs H ∧
  ∀ r H' rk', (∀ b o, rk b = none → H b = some o → H' b = some o) → H r = none → GrG K CF H' wa kd hd (S.aft p n (S.rows p rs ts) S.ws) rk' → (∀ b, H b ≠ none → rk' b = rk b) → (∃ xs, H' r = some (.lst xs) ∧ RwAll K CF H' xs (S.rows p rs ts)) → rk' r = none → Q (.ref r) H'
set_option maxHeartbeats 4000000 in
theorem ok_rn {f : Addr} {fd : FuncData} {k : Nat} (Z : Teller K Tl sp) (F : Fun K "renew" "Grains.renew" sRn f fd) (T : TGr K C) (M_check_idle_0 : CalM P w K mg base k C "check_idle" ["self"] (spCIx C)) (M_asked_anew : CalM P w K mg base k C "asked_anew" ["self", "times", "points_in"] (spAA K C CF Tl))
    (M_cells_with : CalM P w K mg base k C "cells_with" ["self", "times", "width"] (spCW K C CF)) (M_joined_anew : CalM P w K mg base k C "joined_anew" ["self", "place", "finer", "anew", "width", "starts"] (spJA K C CF)) (M_settled : CalM P w K mg base k C "settled" ["self", "place", "folds_by_width", "number"] (spSt K C CF)) (m_list : mg "list" = none) (m_zip : mg "zip" = none) :
    FnOk P w K mg base CX0 (k + 1) f fd ["self", "place", "times", "points_in", "number"] (spRn K C CF Tl) := by
  refine F.ok scRn (fun vs H Q E h => ?_) (fun cdv A outer s H vs Q E hr h => ?_)
  · obtain ⟨g, wa, kd, hd, l, fI, ts, w0, p, n, S, rk, rs, rfl, _⟩ := h
    rfl
  · obtain ⟨g, wa, kd, hd, l, fI, ts, w0, p, n, S, rk, rs, rfl, gi, gr, okw, ew, hl, lt, lss, jas, okr, tl, q⟩ := h
    have hu := hu_of hr
    refine ⟨_, pss_cons (ps_expr (pe_calM0 (pv 0) T.cl M_check_idle_0 (hr.mono (by omega))))
      (pss_cons (ps_set (i := 5) scRn.nd rfl (.inl rfl) (pe_callTy call_list_of (by rfl) m_list (by decide +kernel) (pa_cons (pv 2) pa_nil)))
      (pss_cons (ps_set (i := 6) scRn.nd rfl (.inl rfl) (pe_disp (pps_cons (pe_ix ix_tup (pe_fld (pv 0) rfl) pe_int (fun _ _ => rfl)) (pe_calM (pv 0) T.cl M_asked_anew (hr.mono (by omega)) (pa_cons (pv 5) (pa_cons (pv 3) pa_nil))) pps_nil) rfl rfl (by decide) (by decide)))
      (pss_cons (ps_for PassesOwn.never rfl (RZ.pi_zipA (by rfl) m_zip (pa_cons (pe_fld (pv 0) rfl) (pa_cons (pe_slice sl_tup (pe_fld (pv 0) rfl) (po_some pe_int) po_none) pa_nil))) (pg_tup rfl (pgs_cons (pg_name (i := 7) scRn.nd rfl (.inl rfl)) (pgs_cons (pg_name (i := 8) scRn.nd rfl (.inl rfl)) pgs_nil)))
        (pss_cons (ps_set (i := 9) scRn.nd rfl (.inl rfl) (pe_calM (pv 0) T.cl M_cells_with (hr.mono (by omega)) (pa_cons (pv 5) (pa_cons (pv 8) pa_nil))))
        (pss_one (ps_dput hu (pv 6) (pv 8) (pe_calM (pv 0) T.cl M_joined_anew (hr.mono (by omega)) (pa_cons (pv 1) (pa_cons (pv 7) (pa_cons (pe_dget hu (pv 6) (pv 7) (fun _ _ => rfl)) (pa_cons (pv 8) (pa_cons (pv 9) pa_nil)))))) rfl))))
      (pss_one (ps_ret (pe_calM (pv 0) T.cl M_settled (hr.mono (by omega)) (pa_cons (pv 1) (pa_cons (pv 6) (pa_cons (pv 4) pa_nil))))))))), ?_⟩
    obtain ⟨dx, hg⟩ := id gi
    have nd := wok_nd okw
    refine ⟨_, rfl, g, dx, _, rfl, hg, rfl, g, wa, kd, hd, rfl, gi, ?_⟩
    refine ⟨_, rfl, l, _, rfl, .inl (SqL.of hl), fun t nt => ?_⟩
    have s1 := same_new (o := .lst (ts.map V.int)) nt
    intro fb nfb
    have s2 := s1.trans (same_new (o := .dK []) nfb)
    obtain ⟨H2, e2⟩ : ∃ H2, upd (upd H t (.lst (ts.map V.int))) fb (.dK []) = H2 := ⟨_, rfl⟩
    have hfb2 : H2 fb = some (.dK []) := by
      rw [← e2]
      exact upd_same
    have ht2 : H2 t = some (.lst (ts.map V.int)) := by
      rw [← e2]
      exact same_new nfb _ _ upd_same
    have nfbH : H fb = none := s1.free nfb
    rw [e2] at s2 ⊢
    have gr2 := gr.same s2
    have l0 := List.length_pos_iff.mpr okw.ne
    have pos : ∀ x, x ∈ S.ws → 0 < x := fun x hx => by
      obtain ⟨i, hi⟩ := List.getElem?_of_mem hx
      have := (okw.pos i x hi).1
      omega
    have w0in : w0 ∈ S.ws := List.mem_of_getElem? ew
    have eat : (S.ws.map V.int)[0]? = some (.int w0) := by rw [List.getElem?_map, ew] <;> rfl
    have hg2 := s2 _ _ hg
    have rz : ∀ b, H b = none → rk b = none := fun b h => Classical.byContradiction fun h2 => by
      obtain ⟨kvs, z⟩ := gr.own b h2
      rw [h] at z
      cases z
    refine ⟨_, rfl, g, C, dx, _, .ref wa, rfl, hg2, T.cl, T.no _ (by decide), rfl, wa, _, _, .int w0, rfl, rfl, gr2.gw, (by show atI _ ((0 : Nat) : Int) = _; exact atI_nat eat), ?_⟩
    refine ⟨_, rfl, g, dx, _, rfl, hg2, rfl, _, rfl, _, rfl, g, wa, kd, hd, t, fI, ts, w0, rs, S, rk, rfl, ⟨dx, hg2⟩, gr2, ew, pos w0 w0in, ht2, by omega, Z.stay tl fun b o h _ => s2 _ _ h, okr, fun r0 H3 s3 nr0 dr0 => ?_⟩
    have r0fb : r0 ≠ fb := fun z => by
      rw [z, hfb2] at nr0
      cases nr0
    have hfb3 : H3 fb = some (.dK []) := s3 _ _ hfb2
    refine ⟨hfb3, [(.inl w0, .ref r0)], rfl, (by show 1 ≤ 15; decide), ?_⟩
    obtain ⟨H4, e4⟩ : ∃ H4, upd H3 fb (.dK (mergeK [] [(.inl w0, .ref r0)])) = H4 := ⟨_, rfl⟩
    have st4 : ∀ b o, b ≠ fb → H3 b = some o → H4 b = some o := fun b o n1 h => by
      rw [← e4, upd_ne n1]
      exact h
    have hk34 : HK CF H3 H4 := by
      rw [← e4]
      exact .put hfb3 soft_dK
    have hfb4 : H4 fb = some (.dK [(.inl w0, .ref r0)]) := by
      rw [← e4]
      exact upd_same
    rw [e4]
    have s4 : Same H H4 := fun b o h => st4 _ _ (ne_of_none h nfbH) (s3 _ _ (s2 _ _ h))
    have tfb : t ≠ fb := fun z => by
      rw [z, ← z] at ht2
      rw [← z, upd_same] at nfb
      cases nfb
    have ht4 := st4 _ _ tfb (s3 _ _ ht2)
    have d4 : DcI H4 fb (S.ws.take 1) (FbW K CF H4 rk fb (S.cells ts) (cellF rs)) := by
      have t1 : S.ws.take 1 = [w0] := by
        rw [take_snoc ew] <;> rfl
      rw [t1]
      refine ⟨_, hfb4, rfl, List.pairwise_singleton _ _, fun s hs => ?_⟩
      rw [List.mem_singleton.mp hs]
      obtain ⟨avs, ha, ak⟩ := dr0.k
      exact ⟨_, valV_pos rfl, r0, rfl, rz r0 (s2.free nr0), r0fb, (ak.imp fun _ _ _ h => FoR.hk hk34 h).at_ (st4 _ _ r0fb ha)⟩
    have hg4 := s4 _ _ hg
    have gr4 := gr.same s4
    have lm : (S.ws.map V.int).length = S.ws.length := List.length_map ..
    have cut : ¬ (HT.sIx (S.ws.map V.int).length 0 (some ((1 : Nat) : Int)) = 0 ∧ HT.sIx (S.ws.map V.int).length (S.ws.map V.int).length none = (S.ws.map V.int).length) := fun z => by
      have z1 := z.1
      rw [HT.sIx_nat, lm] at z1
      omega
    refine ⟨_, rfl, g, C, dx, _, .ref wa, rfl, hg4, T.cl, T.no _ (by decide), rfl, _, rfl, g, C, dx, _, .ref wa, rfl, hg4, T.cl, T.no _ (by decide), rfl, 1, rfl, wa, _, rfl, gr4.gw, cut, fun cu ncu => ?_⟩
    have ecut : cutV (S.ws.map V.int) (some 1) none = (S.ws.drop 1).map V.int := cut_drop S.ws 1
    rw [ecut]
    obtain ⟨H5, e5⟩ : ∃ H5, upd H4 cu (.tup ((S.ws.drop 1).map V.int)) = H5 := ⟨_, rfl⟩
    have s5 : Same H4 H5 := by
      rw [← e5]
      exact same_new ncu
    have hcu5 : SqT K H5 cu ((S.ws.drop 1).map V.int) := by
      rw [← e5]
      exact SqT.of upd_same
    rw [e5]
    have l1 : (S.ws.drop 1).length = S.ws.length - 1 := List.length_drop ..
    refine ⟨wa, cu, _, _, rfl, .inr ⟨sqT_same s5 gr4.gw, hcu5, ?_⟩⟩
    refine for_it (walk_zipS (K := K) (a := wa) (b := cu) (xs := S.ws.map V.int) (ys := (S.ws.drop 1).map V.int) (by rw [List.length_map, l1, lm]; omega)) (fun i σ Hc => ∃ (z7 z8 z9 : Option V), σ = [some (.ref g), some (.int p), some (.ref l), some (.ref fI), some (.int n), some (.ref t), some (.ref fb), z7, z8, z9] ∧ Same H Hc ∧ Hc t = some (.lst (ts.map V.int)) ∧ SqT K Hc cu ((S.ws.drop 1).map V.int) ∧
      DcI Hc fb (S.ws.take (i + 1)) (FbW K CF Hc rk fb (S.cells ts) (cellF rs)))
      ⟨none, none, none, rfl, s4.trans s5, s5 _ _ ht4, hcu5, d4.same s5 fun x v _ ⟨e, h1, h2, h3, h4⟩ => ⟨e, h1, h2, h3, h4.same s5 fun _ _ _ => FoR.same s5⟩⟩ (fun i σ Hc _ ⟨_, _, _, _, kc, _, h, _⟩ => ⟨(gr.same kc).gw, h⟩) ?_ ?_
    · rintro i y0 σ Hc Hd hi ⟨z7, z8, z9, rfl, kc, htc, hcu, dfb⟩ ⟨T0, x1, x2, rfl, nT, rfl, f1, f2⟩
      dsimp only at f1 f2
      obtain ⟨x, ex, rfl⟩ := map_at f1
      obtain ⟨y, ey, rfl⟩ := map_at f2
      rw [List.getElem?_drop] at ey
      have ey2 : S.ws[i + 1]? = some y := by
        rw [Nat.add_comm]
        exact ey
      have hx := List.mem_of_getElem? ex
      have hy := List.mem_of_getElem? ey2
      have il : i + 1 < S.ws.length := (List.getElem?_eq_some_iff.mp ey2).1
      have sT : Same Hc (upd Hc T0 (.tup [.int x, .int y])) := same_new nT
      have grT := gr.same (kc.trans sT)
      have hgT := sT _ _ (kc _ _ hg)
      refine ⟨T0, _, rfl, SqT.of upd_same, rfl, _, _, rfl, _, _, rfl, rfl, ?_⟩
      refine ⟨_, rfl, g, dx, _, rfl, hgT, rfl, _, rfl, _, rfl, g, wa, kd, hd, t, false, ts, y, S, rk, rfl, ⟨dx, hgT⟩, grT, sT _ _ htc, by omega, pos y hy, fun r1 H6 s6 nr1 hr1 => ?_⟩
      have s16 := sT.trans s6
      obtain ⟨fvs, hfbc, fk⟩ := dfb.k
      have xin : x ∈ S.ws.take (i + 1) := by
        rw [take_snoc ex]
        exact List.mem_append_right _ (List.mem_singleton.mpr rfl)
      obtain ⟨_, ev, fa, rfl, rfa, nfa, dfa⟩ := fk.all x xin
      have hfb6 := s16 _ _ hfbc
      have gd := DGet.k (k := .inl x) hfb6
      rw [ev] at gd
      have yno : y ∉ S.ws.take (i + 1) := not_take nd ey2
      have ly := cells_len S ts y
      have lss1 := lss x hx
      refine ⟨_, rfl, g, dx, _, rfl, s6 _ _ hgT, rfl, _, rfl, _, rfl, _, rfl, _, rfl, fb, _, rfl, gd, _, rfl, _, rfl, ?_⟩
      refine ⟨g, wa, kd, hd, fa, r1, p, x, y, S, rk, false, S.cells ts x, S.cells ts y, rs, rfl, ⟨dx, s6 _ _ hgT⟩, grT.same s6, hx, dfa.same s16 fun _ _ _ => FoR.same s16, jas i x y ex ey2, hr1, cells_nd S ts y, fun s hs => cells_mod hs, by omega, fun r2 H7 s7 nr2 d7 => ?_⟩
      have s17 := s16.trans s7
      have hfb7 := s17 _ _ hfbc
      have r2fb : r2 ≠ fb := fun z => by
        rw [z, hfb6] at nr2
        cases nr2
      have fresh : H r2 = none := (kc.trans s16).free nr2
      have lfv : fvs.length ≤ 4 := by
        rw [fk.len, List.length_take]
        have := okw.le
        omega
      refine ⟨_, rfl, _, rfl, fb, _, rfl, DPut.k (k := .inl y) hfb7 (small1000 (by omega)), ?_⟩
      have st8 : ∀ b o, b ≠ fb → H7 b = some o → (upd H7 fb (.dK (putK fvs (.inl y) (.ref r2)))) b = some o := fun b o n1 h => (upd_ne n1).trans h
      have hk8 : HK CF H7 (upd H7 fb (.dK (putK fvs (.inl y) (.ref r2)))) := .put hfb7 soft_dK
      have ea : addS (S.ws.take (i + 1)) y = S.ws.take (i + 1 + 1) := by
        unfold addS
        rw [if_neg yno, take_snoc ey2]
      refine ⟨_, _, _, rfl, fun b o h => st8 _ _ (ne_of_none h nfbH) (s17 _ _ (kc b o h)), st8 _ _ tfb (s17 _ _ htc), sqT_hk hk8 (sqT_same s17 hcu), ?_⟩
      rw [← ea]
      refine (fk.put (R2 := FbW K CF (upd H7 fb (.dK (putK fvs (.inl y) (.ref r2)))) rk fb (S.cells ts) (cellF rs)) ⟨r2, rfl, rz r2 fresh, r2fb, ?_⟩ fun z u _ _ ⟨e, h1, h2, h3, h4⟩ => ⟨e, h1, h2, h3, ?_⟩).at_ upd_same
      · obtain ⟨gvs, hg7, gk7⟩ := d7.k
        exact (gk7.imp fun _ _ _ h => FoR.hk hk8 h).at_ (st8 _ _ r2fb hg7)
      · obtain ⟨gvs, hg7, gk7⟩ := h4.k
        exact (gk7.imp fun _ _ _ h => FoR.hk hk8 (FoR.same s17 h)).at_ (st8 _ _ h3 (s17 _ _ hg7))
    · rintro σ Hc ⟨z7, z8, z9, rfl, kc, htc, hcu, dfb⟩
      have li : ((S.ws.drop 1).map V.int).length + 1 = S.ws.length := by rw [List.length_map, l1]; omega
      rw [li, List.take_length] at dfb
      have hgc := kc _ _ hg
      refine ⟨_, rfl, g, dx, _, rfl, hgc, rfl, _, rfl, _, rfl, _, rfl, g, wa, kd, hd, fb, p, n, S, rk, false, S.cells ts, cellF rs, rfl, ⟨dx, hgc⟩, gr.same kc, okw, rz fb nfbH, dfb, fun x hx => ⟨cells_nd S ts x, Nat.le_trans (cells_len S ts x) lt, (lss x hx).1, (lss x hx).2, fun s hs => cells_mod hs⟩, fun r H9 rk9 k9 nr9 gr9 rkk9 rows9 rr9 => ?_⟩
      have alive : ∀ b, H b ≠ none → Hc b ≠ none := fun b h z => by
        obtain ⟨o, ho⟩ := Option.ne_none_iff_exists'.mp h
        rw [kc b o ho] at z
        cases z
      exact q r H9 rk9 (fun b o h1 h3 => k9 b o h1 (kc b o h3)) (kc.free nr9) gr9 (fun b h => rkk9 b (alive b h)) rows9 rr9
end
end Tg

set_option maxHeartbeats 2000000
namespace Tg
open PySem PySem.Spec PyProof.Rows L2
/-! ### grains made: nothing is kept -/
set_option maxHeartbeats 2000000
section
variable {P : Program} {w : World} {K : PySem.W.Frag} {mg : Str → Option Value} {base : Heap} {C CF : Addr}
/-- new dicts at the widths, told apart by r -/
def KdN (H H' : Hp) (kd hd : Addr) (ws : List Int) (r : Addr → Option Ow) : Prop := DcI H' kd ws (fun x v => ∃ e, v = .ref e ∧ r e = some (.wide x) ∧ H' e = some (.dK [])) ∧ ∀ b, r b ≠ none → H b = none ∧ b ≠ kd ∧ b ≠ hd ∧ H' b = some (.dK [])
def spGI (K : PySem.W.Frag) (C : Addr) : Sp := fun vs H Q _ => ∃ (x dx wa : Addr) (ws : List Int), vs = [.ref x, .ref wa] ∧ H x = some (.ins C dx []) ∧ SqT K H wa (ws.map V.int) ∧ WOk ws ∧
  ∀ kd hd r H', (∀ b o, b ≠ x → H b = some o → H' b = some o) → H kd = none → H hd = none → kd ≠ hd → GiA C H' x wa kd hd false → KdN H H' kd hd ws r → H' hd = some (.dK []) → Q .non H'
theorem ok_gi {f : Addr} {fd : FuncData} {k : Nat} (F : Fun K "__init__" "Grains.__init__" sGI f fd) (T : TGr K C) (C_check_widths : Cal P w K mg base k "check_widths" ["widths"] (spCkW K)) (m_tuple : mg "tuple" = none) :
    FnOk P w K mg base CX0 (k + 1) f fd ["self", "widths"] (spGI K C) := by
  refine F.ok scGI (fun vs H Q E h => ?_) (fun cdv A outer s H vs Q E hr h => ?_)
  · obtain ⟨x, dx, wa, ws, rfl, _⟩ := h
    rfl
  · obtain ⟨x, dx, wa, ws, rfl, hx, hw, okw, qY⟩ := h
    refine ⟨_, pss_cons (ps_expr (pe_cal C_check_widths (hr.mono (by omega)) (by rfl) (pa_cons (pv 1) pa_nil)))
      (pss_cons (ps_fld (pv 0) (pe_callTy call_tupleT (by rfl) m_tuple (by decide +kernel) (pa_cons (pv 1) pa_nil)) rfl)
      (pss_cons (ps_fld (pv 0) pe_bl rfl)
      (pss_cons (ps_fld (pv 0) (pe_dc (own := [("width", 2)]) (g := (gName 2)) (tt := tYes) rfl scGI.nd (pi_tup (pe_fld (pv 0) rfl)) (blkOk_by (own := [("width", 2)]) (N := NGI) (sc := defScope sGI) (by decide +kernel)) (fun _ _ _ _ _ => (pg_name (i := 2) scGI.nd rfl (.inl rfl))) (fun _ _ _ _ _ => pts_nil) (fun _ _ _ _ _ => (pv 2)) (fun _ _ _ _ _ => pe_dnewK)) rfl)
      (pss_one (ps_fld (pv 0) pe_dnewK rfl))))), ?_⟩
    refine ⟨_, rfl, wa, ws, rfl, hw, okw, fun H1 s1 => ?_⟩
    have hx1 := s1 _ _ hx
    have nd := wok_nd okw
    refine ⟨_, rfl, wa, _, rfl, sqT_same s1 hw, _, rfl, x, C, dx, [], rfl, hx1, T.cl, T.no _ (by decide), (by show 0 < 1000; decide), ?_⟩
    obtain ⟨H2, e2⟩ : ∃ H2, upd H1 x (.ins C dx [("widths", .ref wa)]) = H2 := ⟨_, rfl⟩
    have hx2 : H2 x = some (.ins C dx [("widths", .ref wa)]) := by
      rw [← e2]
      exact upd_same
    have hw2 : SqT K H2 wa (ws.map V.int) := by
      rw [← e2]
      exact sqT_kt (KT.put hx1 nfix_ins) (sqT_same s1 hw)
    refine nx_atS e2 ?_
    refine ⟨_, rfl, x, C, dx, _, rfl, hx2, T.cl, T.no _ (by decide), (by show 1 < 1000; decide), ?_⟩
    obtain ⟨H3, e3⟩ : ∃ H3, upd H2 x (.ins C dx [("widths", .ref wa), ("busy", .bl false)]) = H3 := ⟨_, rfl⟩
    have hx3 : H3 x = some (.ins C dx [("widths", .ref wa), ("busy", .bl false)]) := by
      rw [← e3]
      exact upd_same
    have hw3 : SqT K H3 wa (ws.map V.int) := by
      rw [← e3]
      exact sqT_kt (KT.put hx2 nfix_ins) hw2
    refine nx_atS e3 ?_
    have keep3 : ∀ b o, b ≠ x → H b = some o → H3 b = some o := fun b o n e => by
      rw [← e3, upd_ne n, ← e2, upd_ne n]
      exact s1 _ _ e
    refine ⟨_, rfl, x, C, dx, _, .ref wa, rfl, hx3, T.cl, T.no _ (by decide), rfl, wa, rfl, ⟨_, hw3⟩, fun D nD => ?_⟩
    have four := okw.le
    refine walked_w (walk_tup (K := K) (a := wa) (xs := ws.map V.int)) (fun i Hc => Same H3 Hc ∧ ∃ r : Addr → Option Ow, DcI Hc D (ws.take i) (fun x v => ∃ e, v = .ref e ∧ r e = some (.wide x) ∧ Hc e = some (.dK [])) ∧ ∀ b, r b ≠ none → H3 b = none ∧ b ≠ D ∧ Hc b = some (.dK [])) ⟨same_new nD, fun _ => none, DcK.nil.at_ upd_same, fun b h => absurd rfl h⟩ (fun i Hc _ h => sqT_same h.1 hw3) ?_ ?_
    · rintro i y Hc Hd hi ⟨sc, r, dg, rb⟩ ⟨rfl, ey⟩
      rw [List.getElem?_map] at ey
      obtain ⟨w0, ew, rfl⟩ := Option.map_eq_some_iff.mp ey
      obtain ⟨kvs, hD, dk⟩ := dg.k
      have wp := (okw.pos i w0 ew).1
      refine ⟨rfl, yes_b (if_t ⟨_, rfl, fun e ne => ?_⟩)⟩
      have se := same_new (o := .dK []) ne
      have eD : e ≠ D := fun z => by
        rw [z, hD] at ne
        cases ne
      have ea : addS (ws.take i) w0 = ws.take (i + 1) := by
        unfold addS
        rw [if_neg (not_take nd ew), take_snoc ew]
      have old : ∀ {b : Addr}, Hd b = some (.dK []) → b ≠ e := fun {b} h z => by
        rw [z, ne] at h
        cases h
      refine ⟨kvs, .inl w0, rfl, se _ _ hD, small1000 (by rw [dk.len, List.length_take]; omega), same_put nD (sc.trans se), fun b => if b = e then some (.wide w0) else r b, ?_, fun b hb => ?_⟩
      · rw [← ea]
        refine (dk.put (R2 := fun x v => ∃ a, v = .ref a ∧ (if a = e then some (Ow.wide w0) else r a) = some (.wide x) ∧ (upd (upd Hd e (.dK [])) D (.dK (putK kvs (.inl w0) (.ref e)))) a = some (.dK [])) ⟨e, rfl, if_pos rfl, (upd_ne eD).trans upd_same⟩ fun z u _ hz ⟨a, h1, h2, h3⟩ => ⟨a, h1, (if_neg (old h3)).trans h2, (upd_ne fun y => ?_).trans (se _ _ h3)⟩).at_ upd_same
        refine (rb a ?_).2.1 y
        rw [h2]
        exact fun q => nomatch q
      · by_cases c : b = e
        · exact ⟨by rw [c]; exact sc.free ne, by rw [c]; exact eD, (upd_ne (by rw [c]; exact eD)).trans (by rw [c]; exact upd_same)⟩
        · dsimp only at hb
          rw [if_neg c] at hb
          obtain ⟨h2, h3, h4⟩ := rb b hb
          exact ⟨h2, h3, (upd_ne h3).trans (se _ _ h4)⟩
    · rintro Hc ⟨sc, r, dg, rb⟩
      rw [List.length_map, List.take_length] at dg
      have hxc := sc _ _ hx3
      refine ⟨_, rfl, x, C, dx, _, rfl, hxc, T.cl, T.no _ (by decide), (by show 2 < 1000; decide), fun hd nh => ?_⟩
      have Dx : D ≠ x := fun z => by
        rw [z, hx3] at nD
        cases nD
      have hx' : hd ≠ x := fun z => by
        rw [z, upd_same] at nh
        cases nh
      have nh2 : Hc hd = none := (upd_ne hx').symm.trans nh
      have nh3 : H3 hd = none := sc.free nh2
      obtain ⟨kvs, hD, dk⟩ := dg.k
      have Dh : D ≠ hd := fun z => by
        rw [z, nh2] at hD
        cases hD
      have back : ∀ b, b ≠ x → H3 b = none → H b = none := fun b n e => by
        cases e2 : H b with
        | none => rfl
        | some o =>
          have := keep3 b o n e2
          rw [e] at this
          cases this
      have st : ∀ b o, b ≠ x → b ≠ hd → Hc b = some o → (upd (upd (upd Hc x (.ins C dx (putF "kept" (.ref D) [("widths", .ref wa), ("busy", .bl false)]))) hd (.dK [])) x (.ins C dx (putF "horizons" (.ref hd) (putF "kept" (.ref D) [("widths", .ref wa), ("busy", .bl false)])))) b = some o := fun b o n1 n2 e => by
        rw [upd_ne n1, upd_ne n2, upd_ne n1]
        exact e
      have apart : ∀ b, Hc b = some (.dK []) → b ≠ x ∧ b ≠ hd := fun b h => ⟨fun z => (by rw [z, hxc] at h; cases h), fun z => (by rw [z, nh2] at h; cases h)⟩
      refine ⟨_, rfl, x, C, dx, _, rfl, (upd_ne hx'.symm).trans upd_same, T.cl, T.no _ (by decide), (by show 3 < 1000; decide), ?_⟩
      refine qY D hd r _ (fun b o n e => ?_) (back D Dx nD) (back hd hx' nh3) Dh ⟨dx, upd_same⟩ ⟨(dk.imp fun x v _ ⟨e, h1, h2, h3⟩ => ⟨e, h1, h2, st _ _ (apart e h3).1 (apart e h3).2 h3⟩).at_ (st _ _ Dx Dh hD), fun b hb => ?_⟩ ((upd_ne hx').trans upd_same)
      · have hb := sc _ _ (keep3 b o n e)
        exact st b o n (fun z => by rw [z, nh2] at hb; cases hb) hb
      · obtain ⟨h2, h3, h4⟩ := rb b hb
        exact ⟨back b (apart b h4).1 h2, h3, (apart b h4).2, st _ _ (apart b h4).1 (apart b h4).2 h4⟩
/-- what was made keeps nothing -/
def Gs.new (ws : List Int) : Gs := ⟨ws, fun _ => none, fun _ => [], fun _ _ => [], fun _ _ _ => (fOf [], 0)⟩
theorem grp_made {H H' : Hp} {wa kd hd : Addr} {ws : List Int} {r : Addr → Option Ow} (hw : SqT K H' wa (ws.map V.int)) (n1 : H kd = none) (n2 : H hd = none) (ne : kd ≠ hd) (kn : KdN H H' kd hd ws r) (hh : H' hd = some (.dK [])) :
    ∃ rk, GrG K CF H' wa kd hd (Gs.new ws) rk ∧ ∀ b, rk b ≠ none → H b = none := by
  obtain ⟨dg, rb⟩ := kn
  obtain ⟨kvs, hk, dk⟩ := dg.k
  obtain ⟨rk, ek⟩ : ∃ rk : Addr → Option Ow, (fun b => if b = hd then some .hz else if b = kd then some .kd else r b) = rk := ⟨_, rfl⟩
  have r1 : rk hd = some .hz := by
    rw [← ek]
    exact if_pos rfl
  have r2 : rk kd = some .kd := by
    rw [← ek]
    exact (if_neg ne).trans (if_pos rfl)
  have r3 : ∀ b, b ≠ hd → b ≠ kd → rk b = r b := fun b c1 c2 => by
    rw [← ek]
    exact (if_neg c1).trans (if_neg c2)
  have split : ∀ b, rk b ≠ none → b = hd ∨ b = kd ∨ r b ≠ none := fun b hb => by
    by_cases c1 : b = hd
    · exact .inl c1
    · by_cases c2 : b = kd
      · exact .inr (.inl c2)
      · rw [r3 b c1 c2] at hb
        exact .inr (.inr hb)
  have each : DcI H' kd (Gs.new ws).ws fun x v => ∃ e, v = .ref e ∧ rk e = some (.wide x) ∧ DcI H' e ((Gs.new ws).pls x) fun p u => ∃ c, u = .ref c ∧ rk c = some (.cells x p) ∧ DcI H' c ((Gs.new ws).ss p x) (CeR K CF H' ((Gs.new ws).cf p x)) := by
    refine DcK.at_ (dk.imp fun x v hx ⟨e, h1, h2, h3⟩ => ?_) hk
    have w := rb e (by rw [h2]; exact fun z => nomatch z)
    exact ⟨e, h1, (r3 e w.2.2.1 w.2.1).trans h2, DcK.nil.at_ h3⟩
  refine ⟨rk, ⟨hw, r1, r2, ⟨[], DcK.nil.at_ hh, fun _ _ => rfl, fun _ h => absurd h List.not_mem_nil⟩, each, fun _ _ _ => rfl, fun _ _ _ _ => rfl, fun a ha => ?_⟩, fun b hb => ?_⟩
  · rcases split a ha with c | c | c
    · rw [c]
      exact ⟨_, hh⟩
    · rw [c]
      exact ⟨_, hk⟩
    · exact ⟨_, (rb a c).2.2.2⟩
  · rcases split b hb with c | c | c
    · rw [c]
      exact n2
    · rw [c]
      exact n1
    · exact (rb b c).1
end
end Tg

set_option maxHeartbeats 2000000
namespace Tg
open PySem PySem.Spec PyProof.Rows L2
/-! ### drop_cells -/
set_option maxHeartbeats 2000000
theorem drop_key {kvs : List (Key × V)} {k : Key} : (dropK kvs k).map (·.1) = (kvs.map (·.1)).filter fun z => decide (z ≠ k) := by
  unfold dropK
  rw [List.filter_map]
  rfl
theorem drop_val {kvs : List (Key × V)} {k z : Key} (n : z ≠ k) : valV (dropK kvs k) z = valV kvs z := by
  induction kvs with
  | nil => rfl
  | cons p r ih =>
    unfold dropK at ih ⊢
    by_cases c : p.1 = k
    · rw [List.filter_cons_of_neg (p := fun kv : Key × V => decide (kv.1 ≠ k)) (by rw [decide_eq_true_eq]; exact fun h => h c), ih]
      exact (valV_neg fun e => n (e.symm.trans c)).symm
    · rw [List.filter_cons_of_pos (p := fun kv : Key × V => decide (kv.1 ≠ k)) (decide_eq_true c)]
      by_cases d : p.1 = z
      · exact (valV_pos d).trans (valV_pos d).symm
      · exact (valV_neg d).trans (ih.trans (valV_neg d).symm)
theorem DcK.drop {kvs : List (Key × V)} {ss : List Int} {R R2 : Int → V → Prop} (h : DcK kvs ss R) (s : Int) (keep : ∀ z u, z ≠ s → z ∈ ss → R z u → R2 z u) : DcK (dropK kvs (.inl s)) (ss.filter fun z => decide (z ≠ s)) R2 := by
  refine ⟨?_, h.nd.filter _, fun z hz => ?_⟩
  · rw [drop_key, h.ks, List.filter_map]
    refine congrArg _ (List.filter_congr fun z _ => ?_)
    show decide ((Sum.inl z : Key) ≠ .inl s) = decide (z ≠ s)
    exact decide_eq_decide.mpr ⟨fun n e => n (by rw [e]), fun n e => n (Sum.inl.inj e)⟩
  · obtain ⟨h1, h2⟩ := List.mem_filter.mp hz
    have n : z ≠ s := of_decide_eq_true h2
    obtain ⟨u, e1, e2⟩ := h.all z h1
    exact ⟨u, (drop_val fun e => n (Sum.inl.inj e)).trans e1, keep z u n h1 e2⟩
abbrev sDr : Stmt := topS 24
abbrev NDr : List Str := ["kept", "horizon", "dropped", "start", "full"]
theorem scDr : FnScope NDr ["kept", "horizon"] (defScope sDr) := ⟨rfl, rfl, rfl, by decide +kernel, rfl, by decide +kernel, by decide +kernel⟩
/-- all but one thing stands -/
def Xc (e : Addr) (H H' : Hp) : Prop := ∀ b o, b ≠ e → H b = some o → H' b = some o
theorem Xc.of {e : Addr} {H H' : Hp} (s : Same H H') : Xc e H H' := fun b o _ h => s b o h
theorem Xc.trans {e : Addr} {H H1 H2 : Hp} (a : Xc e H H1) (b : Xc e H1 H2) : Xc e H H2 := fun c o n h => b c o n (a c o n h)
theorem Xc.put {e : Addr} {H : Hp} {o : HO} : Xc e H (upd H e o) := fun b x n h => (upd_ne n).trans h
theorem Xc.hk {CF e : Addr} {H H' : Hp} {kvs : List (Key × V)} (x : Xc e H H') (he : H e = some (.dK kvs)) : HK CF H H' := fun b o h hd => x b o (fun z => by
  rw [z, he] at h
  cases h
  exact soft_dK hd) h
section
variable {P : Program} {w : World} {K : PySem.W.Frag} {mg : Str → Option Value} {base : Heap} {CF : Addr}
/-- those that begin below a horizon -/
def belowF (ss : List Int) (h : Int) : List Int := ss.filter fun s => decide (s < h)
/-- those of them that tell something -/
def fullF (cf : Int → FD × Int) (ss : List Int) : List Int := ss.filter fun s => decide (0 < (cf s).1.cnt)
def spDr (K : PySem.W.Frag) (CF : Addr) : Sp := fun vs H Q _ => ∃ (e : Addr) (h : Int) (ss : List Int) (cf : Int → FD × Int), vs = [.ref e, .int h] ∧ DcI H e ss (CeR K CF H cf) ∧ ss.length ≤ 900 ∧
  ∀ H', Xc e H H' → DcI H' e (ss.filter fun s => decide (¬ s < h)) (CeR K CF H' cf) → Q (.int ((fullF cf (belowF ss h)).length : Nat)) H'
theorem ok_dr {f : Addr} {fd : FuncData} {k : Nat} (F : Fun K "drop_cells" "drop_cells" sDr f fd) (TF : TFold K CF) (m_len : mg "len" = none) : FnOk P w K mg base CX0 (k + 1) f fd ["kept", "horizon"] (spDr K CF) := by
  refine F.ok scDr (fun vs H Q E h => ?_) (fun cdv A outer s H vs Q E hr h => ?_)
  · obtain ⟨e, h, ss, cf, rfl, _⟩ := h
    rfl
  · obtain ⟨e, h, ss, cf, rfl, de, few, q⟩ := h
    have hu := hu_of hr
    refine ⟨_, pss_cons (ps_lock (ps_setLc (i := 2) (own := [("start", 3)]) (g := (gName 3)) rfl scDr.nd rfl rfl (sw_true rfl rfl rfl (by decide +kernel)) (pi_keys (pv 0)) (blkOk_by (own := [("start", 3)]) (N := NDr) (sc := defScope sDr) (by decide +kernel)) (fun _ _ _ _ _ => (pg_name (i := 3) scDr.nd rfl (.inl rfl))) (fun _ _ _ _ _ => pts_one (pt_cmpR op_lt (pv 3) (pv 1) (nomark _))) (fun _ _ _ _ _ => (pv 3))))
      (pss_cons (ps_setLc (i := 4) (own := [("start", 3)]) (g := (gName 3)) rfl scDr.nd rfl rfl (sw_true rfl rfl rfl (by decide +kernel)) (pi_list (pv 2)) (blkOk_by (own := [("start", 3)]) (N := NDr) (sc := defScope sDr) (by decide +kernel)) (fun _ _ _ _ _ => (pg_name (i := 3) scDr.nd rfl (.inl rfl))) (fun _ _ _ _ _ => pts_one (pt_cmpR op_gt (pe_fldK K (pe_ix (r := rIxT K) ix_tup (pe_dget hu (pv 0) (pv 3) (fun _ _ => rfl)) pe_int (fun _ _ => rfl)) rfl) pe_int (nomark _))) (fun _ _ _ _ _ => (pv 3)))
      (pss_cons (ps_for PassesOwn.never rfl (pi_list (pv 2)) (pg_name (i := 3) scDr.nd rfl (.inl rfl))
        (pss_one (ps_ddel (pv 0) (pv 3))))
      (pss_one (ps_ret (pe_callB call_len_seq (by rfl) m_len (by decide +kernel) (pa_cons (pv 4) pa_nil)))))), ?_⟩
    obtain ⟨kvs, he, dk⟩ := de.k
    refine ⟨e, _, he, trivial, fun od => ?_⟩
    obtain ⟨H1, e1⟩ : ∃ H1, upd H e (.frz od (.dK kvs)) = H1 := ⟨_, rfl⟩
    have he1 : H1 e = some (.frz od (.dK kvs)) := by
      rw [← e1]
      exact upd_same
    rw [e1]
    have hkF : HK CF H H1 := by
      rw [← e1]
      exact .put he soft_dK
    refine ⟨_, rfl, e, od, rfl, .inl ⟨kvs, he1, fun D nD => ?_⟩⟩
    have eD : e ≠ D := ne_of_none he1 nD
    refine walked_w walk_keys (fun i Hc => Hc D = some (.lst ((belowF (ss.take i) h).map V.int)) ∧ Xc D H1 Hc) ⟨upd_same, Xc.put⟩ (fun i Hc _ h => h.2 _ _ eD he1) ?_ ?_
    · rintro i y Hc Hd hi ⟨hD, xD⟩ ⟨rfl, k0, v0, ekv, rfl⟩
      obtain ⟨s0, rfl, es, sin, _⟩ := dk.item ekv
      have tk : ss.take (i + 1) = ss.take i ++ [s0] := take_snoc es
      have fk : belowF (ss.take (i + 1)) h = belowF (ss.take i) h ++ if s0 < h then [s0] else [] := by
        unfold belowF
        rw [tk, List.filter_append, List.filter_cons]
        by_cases c : s0 < h
        · rw [if_pos (decide_eq_true c), if_pos c]
          rfl
        · rw [if_neg fun z => c (of_decide_eq_true z), if_neg c]
          rfl
      refine ⟨rfl, _, rfl, _, rfl, _, _, rfl, rfl, decide (s0 < h), rfl, ?_⟩
      by_cases c : s0 < h
      · rw [decide_eq_true c]
        have lf : ((belowF (ss.take i) h).map V.int).length ≤ 900 := by
          rw [List.length_map]
          refine Nat.le_trans (List.length_filter_le _ _) ?_
          rw [List.length_take]
          omega
        refine if_t ⟨_, rfl, _, hD, small1000 (by omega), upd_same.trans ?_, xD.trans Xc.put⟩
        rw [fk, if_pos c, List.map_append]
        rfl
      · rw [decide_eq_false c]
        refine if_f ⟨?_, xD⟩
        rw [fk, if_neg c, List.append_nil]
        exact hD
    · rintro Hc ⟨hD, xD⟩
      rw [dk.len, List.take_length] at hD
      refine ⟨xD _ _ eD he1, ?_⟩
      obtain ⟨H2, e2⟩ : ∃ H2, upd Hc e (.dK kvs) = H2 := ⟨_, rfl⟩
      have he2 : H2 e = some (.dK kvs) := by
        rw [← e2]
        exact upd_same
      have hD2 : H2 D = some (.lst ((belowF ss h).map V.int)) := by
        rw [← e2]
        exact (upd_ne eD.symm).trans hD
      have nD0 : H D = none := by
        rw [← e1, upd_ne eD.symm] at nD
        exact nD
      have st : Same H H2 := fun c o hc => by
        by_cases z : c = e
        · rw [z, he] at hc
          cases hc
          rw [z]
          exact he2
        · rw [← e2, upd_ne z]
          refine xD c o (ne_of_none hc nD0) ?_
          rw [← e1, upd_ne z]
          exact hc
      have dk2 : DcK kvs ss (CeR K CF H2 cf) := dk.imp fun s v _ z => CeR.same st z
      have bl : (belowF ss h).length ≤ 900 := Nat.le_trans (List.length_filter_le _ _) few
      refine nx_atS e2 ?_
      refine ⟨_, rfl, D, rfl, ⟨_, SqL.of hD2⟩, fun D2 nD2 => ?_⟩
      have s2 := same_new (o := .lst []) nD2
      have D12 : D ≠ D2 := ne_of_none hD2 nD2
      refine walked_w (walk_list (K := K) (a := D) (xs := (belowF ss h).map V.int)) (fun i Hc => Hc D2 = some (.lst ((fullF cf ((belowF ss h).take i)).map V.int)) ∧ Xc D2 H2 Hc) ⟨upd_same, Xc.put⟩ (fun i Hc _ h => SqL.of (h.2 _ _ D12 hD2)) ?_ ?_
      · rintro i y Hq Hc hi ⟨hL, xL⟩ ⟨rfl, ey⟩
        rw [List.getElem?_map] at ey
        obtain ⟨s0, ez, rfl⟩ := Option.map_eq_some_iff.mp ey
        have sin : s0 ∈ ss := (List.mem_filter.mp (List.mem_of_getElem? ez)).1
        obtain ⟨v, ev, cr⟩ := dk2.all s0 sin
        have sc : Same H2 Hc := fun b o z => xL b o (ne_of_none z nD2) z
        obtain ⟨t, a, rfl, ht, fa⟩ := CeR.same sc cr
        obtain ⟨fdx, vf, vl, ea, _⟩ := fa
        have tk : (belowF ss h).take (i + 1) = (belowF ss h).take i ++ [s0] := take_snoc ez
        have fk : fullF cf ((belowF ss h).take (i + 1)) = fullF cf ((belowF ss h).take i) ++ if 0 < (cf s0).1.cnt then [s0] else [] := by
          unfold fullF
          rw [tk, List.filter_append, List.filter_cons]
          by_cases c : 0 < (cf s0).1.cnt
          · rw [if_pos (decide_eq_true c), if_pos c]
            rfl
          · rw [if_neg fun z => c (of_decide_eq_true z), if_neg c]
            rfl
        have gd := DGet.k (k := .inl s0) (sc _ _ he2)
        rw [ev] at gd
        refine ⟨rfl, _, rfl, _, rfl, e, _, rfl, gd, t, _, _, _, rfl, rfl, ht, rfl, a, CF, fdx, _, .int (cf s0).1.cnt, rfl, ea, TF.cl, TF.no _ (by decide), rfl, _, _, rfl, rfl, decide (0 < (cf s0).1.cnt), rfl, ?_⟩
        by_cases c : 0 < (cf s0).1.cnt
        · have lf : ((fullF cf ((belowF ss h).take i)).map V.int).length ≤ 900 := by
            rw [List.length_map]
            refine Nat.le_trans (List.length_filter_le _ _) ?_
            rw [List.length_take]
            omega
          rw [decide_eq_true c]
          refine if_t ⟨_, rfl, _, hL, small1000 (by omega), upd_same.trans ?_, xL.trans Xc.put⟩
          rw [fk, if_pos c, List.map_append]
          rfl
        · rw [decide_eq_false c]
          refine if_f ⟨?_, xL⟩
          rw [fk, if_neg c, List.append_nil]
          exact hL
      · rintro Hc ⟨hL, xL⟩
        rw [List.length_map, List.take_length] at hL
        obtain ⟨FL, eFL⟩ : ∃ FL, fullF cf (belowF ss h) = FL := ⟨_, rfl⟩
        rw [eFL] at hL q
        have sc : Same H2 Hc := fun b o z => xL b o (ne_of_none z nD2) z
        have eD2 : e ≠ D2 := ne_of_none he2 nD2
        refine ⟨_, rfl, D, rfl, ⟨_, SqL.of (sc _ _ hD2)⟩, for_list (K := K) (a := D) (xs := (belowF ss h).map V.int) (fun i σ Hd => (∃ z3, σ = [some (.ref e), some (.int h), some (.ref D), z3, some (.ref D2)]) ∧ Xc e Hc Hd ∧ DcI Hd e (ss.filter fun s => decide (s ∉ (belowF ss h).take i)) (CeR K CF Hd cf)) ⟨⟨_, rfl⟩, fun b o _ z => z, ?_⟩ (fun i σ Hd _ z => SqL.of (z.2.1 _ _ eD.symm (sc _ _ hD2))) (fun i v σ Hd hv z => ?_) ?_⟩
        · have z := (dk2.imp fun s v _ z => CeR.same sc z).at_ (sc _ _ he2)
          rw [List.take_zero]
          have ef : (ss.filter fun s => decide (s ∉ ([] : List Int))) = ss := List.filter_eq_self.mpr fun s _ => decide_eq_true List.not_mem_nil
          rw [ef]
          exact z
        · obtain ⟨⟨z3, rfl⟩, xd, dd⟩ := z
          rw [List.getElem?_map] at hv
          obtain ⟨s0, ez, rfl⟩ := Option.map_eq_some_iff.mp hv
          have nd : (belowF ss h).Nodup := dk.nd.filter _
          have sin : s0 ∈ ss := (List.mem_filter.mp (List.mem_of_getElem? ez)).1
          obtain ⟨kv2, hed, dk3⟩ := dd.k
          obtain ⟨v, ev, _⟩ := dk3.all s0 (List.mem_filter.mpr ⟨sin, decide_eq_true (not_take nd ez)⟩)
          have tk : (belowF ss h).take (i + 1) = (belowF ss h).take i ++ [s0] := take_snoc ez
          have kh : HK CF Hd (upd Hd e (.dK (dropK kv2 (.inl s0)))) := .put hed soft_dK
          refine ⟨_, rfl, _, rfl, e, kv2, .inl s0, rfl, hed, rfl, by rw [ev]; rfl, ⟨_, rfl⟩, xd.trans Xc.put, ?_⟩
          have z := (dk3.drop (R2 := CeR K CF (upd Hd e (.dK (dropK kv2 (.inl s0)))) cf) s0 fun z u _ _ h => CeR.hk kh h).at_ (H := upd Hd e (.dK (dropK kv2 (.inl s0)))) (r := e) upd_same
          have ef : ((ss.filter fun s => decide (s ∉ (belowF ss h).take i)).filter fun z => decide (z ≠ s0)) = ss.filter fun s => decide (s ∉ (belowF ss h).take (i + 1)) := by
            rw [List.filter_filter]
            refine List.filter_congr fun s _ => ?_
            rw [tk, ← Bool.decide_and]
            refine decide_eq_decide.mpr ?_
            rw [List.mem_append, List.mem_singleton, not_or]
            exact ⟨fun h => ⟨h.2, h.1⟩, fun h => ⟨h.2, h.1⟩⟩
          rw [ef] at z
          exact z
        · rintro σ Hd ⟨⟨z3, rfl⟩, xd, dd⟩
          have eDD : D2 ≠ e := eD2.symm
          refine ⟨_, rfl, D2, _, rfl, .inl (SqL.of (xd _ _ eDD hL)), ?_⟩
          have ef : (ss.filter fun s => decide (s ∉ (belowF ss h).take ((belowF ss h).map V.int).length)) = ss.filter fun s => decide (¬ s < h) := by
            refine List.filter_congr fun s hs => ?_
            rw [List.length_map, List.take_length]
            refine decide_eq_decide.mpr ⟨fun n c => n (List.mem_filter.mpr ⟨hs, decide_eq_true c⟩), fun n c => n (of_decide_eq_true (List.mem_filter.mp c).2)⟩
          rw [ef] at dd
          rw [List.length_map]
          exact q Hd ((Xc.of st).trans ((Xc.of sc).trans xd)) dd
end
end Tg

set_option maxHeartbeats 2000000
namespace Tg
open PySem PySem.Spec PyProof.Rows L2
/-! ### what a letting go changes -/
set_option maxHeartbeats 2000000
/-- another horizon of a width -/
def Gs.hor (S : Gs) (x m : Int) : Gs := ⟨S.ws, setF S.hz x (some m), S.pls, S.ss, S.cf⟩
/-- the new horizon -/
def Gs.topH (S : Gs) (x h : Int) : Int := if (S.hz x).getD h > h then (S.hz x).getD h else h
/-- starts that are left, and what they tell -/
def leftF (ss : List Int) (h : Int) : List Int := ss.filter fun s => decide (¬ s < h)
def leftC (cf : Int → FD × Int) (h : Int) : Int → FD × Int := fun s => if s < h then (fOf [], 0) else cf s
/-- at some places the cells below a horizon are taken out -/
def Gs.cut (S : Gs) (x h : Int) (ps : List Int) : Gs := ⟨S.ws, S.hz, S.pls, fun p y => if y = x ∧ p ∈ ps then leftF (S.ss p y) h else S.ss p y, fun p y => if y = x ∧ p ∈ ps then leftC (S.cf p y) h else S.cf p y⟩
/-- what is kept behind let_go -/
def Gs.letgo (S : Gs) (x h : Int) : Gs := (S.hor x (S.topH x h)).cut x h (S.pls x)
/-- how many full cells went -/
def Gs.went (S : Gs) (x h : Int) (ps : List Int) : Nat := (ps.map fun p => (fullF (S.cf p x) (belowF (S.ss p x) h)).length).sum
theorem addS_in {ss : List Int} {s : Int} (h : s ∈ ss) : addS ss s = ss := if_pos h
theorem cut_at2 {α : Type} {f : Int → Int → α} {g : α → α} {x p : Int} {ps : List Int} :
    setF (fun (q y : Int) => if y = x ∧ q ∈ ps then g (f q y) else f q y) p (setF (fun y => if y = x ∧ p ∈ ps then g (f p y) else f p y) x (g (f p x))) = fun q y => if y = x ∧ q ∈ ps ++ [p] then g (f q y) else f q y := by
  funext q y
  unfold setF
  by_cases c : q = p
  · subst c
    rw [if_pos rfl]
    by_cases d : y = x
    · subst d
      rw [if_pos rfl, if_pos ⟨rfl, List.mem_append_right _ (List.mem_singleton.mpr rfl)⟩]
    · dsimp only
      rw [if_neg d, if_neg fun z : y = x ∧ _ => d z.1, if_neg fun z : y = x ∧ _ => d z.1]
  · rw [if_neg c]
    dsimp only
    by_cases d : y = x ∧ q ∈ ps
    · rw [if_pos d, if_pos ⟨d.1, List.mem_append_left _ d.2⟩]
    · rw [if_neg d, if_neg fun z => d ⟨z.1, (List.mem_append.mp z.2).resolve_right fun w => c (List.mem_singleton.mp w)⟩]
theorem Gs.cut_snoc {S : Gs} {x h p : Int} {ps : List Int} (hp : p ∈ S.pls x) : (S.cut x h ps).put x p (leftF (S.ss p x) h) (leftC (S.cf p x) h) = S.cut x h (ps ++ [p]) := by
  unfold Gs.put Gs.cut
  dsimp only
  congr 1
  · rw [addS_in hp]
    exact setF_id
  · exact cut_at2 (g := fun ss => leftF ss h)
  · exact cut_at2 (g := fun cf => leftC cf h)
theorem Gs.cut_nil {S : Gs} {x h : Int} : S.cut x h [] = S := by
  unfold Gs.cut
  have e1 : (fun (p y : Int) => if y = x ∧ p ∈ ([] : List Int) then leftF (S.ss p y) h else S.ss p y) = S.ss := funext fun p => funext fun y => if_neg fun z => List.not_mem_nil z.2
  have e2 : (fun (p y : Int) => if y = x ∧ p ∈ ([] : List Int) then leftC (S.cf p y) h else S.cf p y) = S.cf := funext fun p => funext fun y => if_neg fun z => List.not_mem_nil z.2
  rw [e1, e2]
theorem Gs.cut_ss {S : Gs} {x h p : Int} {ps : List Int} (n : p ∉ ps) : (S.cut x h ps).ss p x = S.ss p x := if_neg fun z => n z.2
theorem Gs.cut_cf {S : Gs} {x h p : Int} {ps : List Int} (n : p ∉ ps) : (S.cut x h ps).cf p x = S.cf p x := if_neg fun z => n z.2
theorem left_mem {ss : List Int} {h s : Int} : s ∈ leftF ss h ↔ s ∈ ss ∧ ¬ s < h := List.mem_filter.trans (and_congr_right fun _ => decide_eq_true_iff)
section
variable {K : PySem.W.Frag} {C CF : Addr} {H H' : Hp} {wa kd hd : Addr} {S : Gs} {rk : Addr → Option Ow}
theorem GrG.hor {x m : Int} {hs : List Int} (gr : GrG K CF H wa kd hd S rk) (xc : Xc hd H H') (dh : DcI H' hd hs fun z v => ∃ h, v = .int h ∧ setF S.hz x (some m) z = some h) (no : ∀ z, z ∉ hs → setF S.hz x (some m) z = none) (sub : ∀ z, z ∈ hs → z ∈ S.ws) :
    GrG K CF H' wa kd hd (S.hor x m) rk := by
  obtain ⟨hs0, d0, _⟩ := gr.gh
  obtain ⟨kv0, h0, _⟩ := d0.k
  have hk : HK CF H H' := xc.hk h0
  have ow : ∀ {b : Addr} {u : Ow}, rk b = some u → u ≠ .hz → ∀ o, H b = some o → H' b = some o := fun {b u} r n o e => xc b o (fun z => by
    rw [z, gr.rh] at r
    exact n (Option.some.inj r).symm) e
  refine ⟨sqT_hk hk gr.gw, gr.rh, gr.rd, ⟨hs, dh, no, sub⟩, gr.gk.move (ow gr.rd fun z => nomatch z) fun x v _ ⟨e, g1, g2, g3⟩ => ⟨e, g1, g2, g3.move (ow g2 fun z => nomatch z) fun p u _ ⟨c, k1, k2, k3⟩ => ⟨c, k1, k2, k3.move (ow k2 fun z => nomatch z) fun _ _ _ => CeR.hk hk⟩⟩, gr.no, gr.out, fun a n => ?_⟩
  by_cases c : a = hd
  · rw [c]
    obtain ⟨kv, h1, _⟩ := dh.k
    exact ⟨kv, h1⟩
  · obtain ⟨kvs, z⟩ := gr.own a n
    exact ⟨kvs, xc _ _ c z⟩
/-- the cells of a place are cut -/
theorem GrG.cut1 {x h p : Int} {ps : List Int} {e c : Addr} {pvs : List (Key × V)} (gr : GrG K CF H wa kd hd (S.cut x h ps) rk) (hx : x ∈ S.ws) (hp : p ∈ S.pls x) (n : p ∉ ps) (xc : Xc c H H') (rc : rk c = some (.cells x p))
    (he : ∀ kvs v, H kd = some (.dK kvs) → valV kvs (.inl x) = some v → v = .ref e) (hpv : H e = some (.dK pvs)) (hcv : valV pvs (.inl p) = some (.ref c)) (dc : DcI H' c (leftF (S.ss p x) h) (CeR K CF H' (S.cf p x))) : GrG K CF H' wa kd hd (S.cut x h (ps ++ [p])) rk := by
  rw [← Gs.cut_snoc hp]
  refine gr.step hx (fun b o h1 _ n2 => xc b o (fun z => n2 (by rw [z]; exact rc)) h1) (fun _ _ => rfl) (fun a na => ?_) (fun e2 kvs re hk hv de => ?_) fun s hs => ?_
  · by_cases z : a = c
    · rw [z]
      obtain ⟨kv, h1, _⟩ := dc.k
      exact ⟨kv, h1⟩
    · obtain ⟨kvs, y⟩ := gr.own a na
      exact ⟨kvs, xc _ _ z y⟩
  · have ee := he kvs _ hk hv
    cases ee
    obtain ⟨kv2, h2, dk⟩ := de.k
    rw [hpv] at h2
    cases h2
    have ec : e ≠ c := fun z => by
      rw [z, rc] at re
      cases re
    have ep : (S.cut x h ps).pls x = S.pls x := rfl
    rw [ep] at dk ⊢
    rw [addS_in hp]
    refine ⟨pvs, xc _ _ ec hpv, dk.ks, dk.nd, fun q hq => ?_⟩
    obtain ⟨v, ev, rv⟩ := dk.all q hq
    refine ⟨v, ev, ?_⟩
    by_cases z : q = p
    · subst z
      rw [hcv] at ev
      cases ev
      refine .inl ⟨rfl, c, rfl, rc, dc.move (fun _ z => z) fun s v hs cr => ?_⟩
      have ns : ¬ s < h := (left_mem.mp hs).2
      have es : leftC (S.cf q x) h s = S.cf q x s := if_neg ns
      obtain ⟨t, a, h1, h2, h3⟩ := cr
      refine ⟨t, a, h1, ?_, ?_⟩
      · rw [es]
        exact h2
      · rw [es]
        exact h3
    · exact .inr ⟨z, rv⟩
  · show leftC (S.cf p x) h s = _
    unfold leftC
    by_cases c : s < h
    · exact if_pos c
    · rw [if_neg c]
      have z := gr.out p x s
      rw [Gs.cut_ss n, Gs.cut_cf n] at z
      exact z fun w => hs (left_mem.mpr ⟨w, c⟩)
end
end Tg

set_option maxHeartbeats 2000000
namespace Tg
open PySem PySem.Spec PyProof.Rows L2
/-! ### let_go -/
set_option maxHeartbeats 2000000
abbrev sLG : Stmt := inClass (topS 25) 5
abbrev NLG : List Str := ["self", "width", "time", "horizon", "gone", "kept"]
theorem scLG : FnScope NLG ["self", "width", "time"] (defScope sLG) := ⟨rfl, rfl, rfl, by decide +kernel, rfl, by decide +kernel, by decide +kernel⟩
theorem went_snoc {S : Gs} {x h p : Int} {ps : List Int} : S.went x h (ps ++ [p]) = S.went x h ps + (fullF (S.cf p x) (belowF (S.ss p x) h)).length := by
  unfold Gs.went
  rw [List.map_append, List.sum_append]
  rfl
section
variable {P : Program} {w : World} {K : PySem.W.Frag} {mg : Str → Option Value} {base : Heap} {C CF : Addr}
def spLG (K : PySem.W.Frag) (C CF : Addr) : Sp := fun vs H Q _ => ∃ (g wa kd hd : Addr) (x t : Int) (S : Gs) (rk : Addr → Option Ow), vs = [.ref g, .int x, .int t] ∧ GiA C H g wa kd hd false ∧ GrG K CF H wa kd hd S rk ∧ x ∈ S.ws ∧ 0 < x ∧ S.ws.length ≤ 900 ∧ (S.pls x).length ≤ 900 ∧ (∀ p, (S.ss p x).length ≤ 900) ∧
  ∀ H', (∀ b o, rk b = none → H b = some o → H' b = some o) → GrG K CF H' wa kd hd (S.letgo x (t - t % x)) rk → Q (.int (S.went x (t - t % x) (S.pls x) : Nat)) H'
theorem ok_lg {f : Addr} {fd : FuncData} {k : Nat} (F : Fun K "let_go" "Grains.let_go" sLG f fd) (T : TGr K C) (C_check_width : Cal P w K mg base k "check_width" ["widths", "width"] (spCkw K)) (M_check_idle_0 : CalM P w K mg base k C "check_idle" ["self"] (spCIx C)) (C_cell_of : Cal P w K mg base k "cell_of" ["time", "width"] spCell)
    (C_drop_cells : Cal P w K mg base k "drop_cells" ["kept", "horizon"] (spDr K CF)) (m_max : mg "max" = none) (m_list : mg "list" = none) : FnOk P w K mg base CX0 (k + 1) f fd ["self", "width", "time"] (spLG K C CF) := by
  refine F.ok scLG (fun vs H Q E h => ?_) (fun cdv A outer s H vs Q E hr h => ?_)
  · obtain ⟨g, wa, kd, hd, x, t, S, rk, rfl, _⟩ := h
    rfl
  · obtain ⟨g, wa, kd, hd, x, t, S, rk, rfl, gi, gr, hx, x0, fw, fp, fs, q⟩ := h
    have hu := hu_of hr
    obtain ⟨dx, hg⟩ := id gi
    obtain ⟨hs, dh, hno, hsub⟩ := gr.gh
    obtain ⟨hv, hh, hk⟩ := dh.k
    have fh : hs.length ≤ 900 := Nat.le_trans (nodup_len hk.nd hsub) fw
    refine ⟨_, pss_cons (ps_expr (pe_cal C_check_width (hr.mono (by omega)) (by rfl) (pa_cons (pe_fld (pv 0) rfl) (pa_cons (pv 1) pa_nil))))
      (pss_cons (ps_expr (pe_calM0 (pv 0) T.cl M_check_idle_0 (hr.mono (by omega))))
      (pss_cons (ps_set (i := 3) scLG.nd rfl (.inl rfl) (pe_cal C_cell_of (hr.mono (by omega)) (by rfl) (pa_cons (pv 2) (pa_cons (pv 1) pa_nil))))
      (pss_cons (ps_dput hu (pe_fld (pv 0) rfl) (pv 1) (pe_callB (call_max2 rfl) (by rfl) m_max (by decide +kernel) (pa_cons (pv 3) (pa_cons (pe_dget2 hu (pe_fld (pv 0) rfl) (pv 1) (pv 3) ⟨rfl, rfl, rfl, rfl⟩) pa_nil))) rfl)
      (pss_cons (ps_set (i := 4) scLG.nd rfl (.inl rfl) pe_int)
      (pss_cons (ps_for PassesOwn.never rfl (pi_list (pe_callTy (call_listVV rfl) (by rfl) m_list (by decide +kernel) (pa_cons (pe_bm0 PySem.F.plainAttrs_dict PySem.F.slot_dict_values PySem.F.type_dict_values mt_valsV (pe_dget hu (pe_fld (pv 0) rfl) (pv 1) (fun _ _ => rfl))) pa_nil))) (pg_name (i := 5) scLG.nd rfl (.inl rfl))
        (pss_one (ps_aug (i := 4) scLG.nd rfl (.inl rfl) (pe_cal C_drop_cells (hr.mono (by omega)) (by rfl) (pa_cons (pv 5) (pa_cons (pv 3) pa_nil))) ip_add)))
      (pss_one (ps_ret (pv 4)))))))), ?_⟩
    refine ⟨_, rfl, g, C, dx, _, .ref wa, rfl, hg, T.cl, T.no _ (by decide), rfl, _, rfl, wa, S.ws, x, rfl, gr.gw, hx, ?_⟩
    refine ⟨_, rfl, g, dx, _, rfl, hg, rfl, g, wa, kd, hd, rfl, gi, ?_⟩
    refine ⟨_, rfl, _, rfl, t, x, rfl, x0, ?_⟩
    obtain ⟨h, eh⟩ : ∃ h : Int, t - t % x = h := ⟨_, rfl⟩
    rw [eh] at q ⊢
    obtain ⟨i0, ei, ei2⟩ : ∃ i0 : Int, (valV hv (.inl x)).getD (.int h) = .int i0 ∧ (S.hz x).getD h = i0 := by
      by_cases c : x ∈ hs
      · obtain ⟨v, ev, i, rfl, e2⟩ := hk.all x c
        rw [ev, e2]
        exact ⟨i, rfl, rfl⟩
      · rw [hk.miss c, hno x c]
        exact ⟨h, rfl, rfl⟩
    refine ⟨_, rfl, _, rfl, g, C, dx, _, .ref hd, rfl, hg, T.cl, T.no _ (by decide), rfl, hd, rfl, .inl ⟨_, .inl hh⟩, _, rfl, _, rfl, _, DGet.k (k := .inl x) hh, ?_⟩
    rw [ei]
    refine ⟨_, i0, rfl, ?_⟩
    obtain ⟨m, em⟩ : ∃ m : Int, (if i0 > h then i0 else h) = m := ⟨_, rfl⟩
    have em2 : S.topH x h = m := by
      unfold Gs.topH
      rw [ei2]
      exact em
    rw [em]
    refine ⟨_, rfl, g, C, dx, _, .ref hd, rfl, hg, T.cl, T.no _ (by decide), rfl, _, rfl, hd, _, rfl, DPut.k (k := .inl x) hh (small1000 (by rw [hk.len]; omega)), ?_⟩
    obtain ⟨H1, e1⟩ : ∃ H1, upd H hd (.dK (putK hv (.inl x) (.int m))) = H1 := ⟨_, rfl⟩
    have x1 : Xc hd H H1 := by
      rw [← e1]
      exact Xc.put
    have gr1 : GrG K CF H1 wa kd hd (S.hor x m) rk := by
      refine gr.hor x1 (hs := addS hs x) ((hk.put (R2 := fun z v => ∃ h, v = .int h ∧ setF S.hz x (some m) z = some h) ⟨m, rfl, setF_at⟩ fun z u n _ ⟨i, h1, h2⟩ => ⟨i, h1, (setF_ne n).trans h2⟩).at_ (by rw [← e1]; exact upd_same)) (fun z n => ?_) fun z hz => ?_
      · rw [setF_ne fun e => n (mem_addS.mpr (.inr e))]
        exact hno z fun e => n (mem_addS.mpr (.inl e))
      · exact (mem_addS.mp hz).elim (hsub z) fun e => e ▸ hx
    refine nx_atS e1 ?_
    have ghd : g ≠ hd := fun z => by
      rw [z, hh] at hg
      cases hg
    have hg1 := x1 _ _ ghd hg
    obtain ⟨kvs, hk1, gk⟩ := gr1.gk.k
    obtain ⟨v, ev, e, rfl, re, de⟩ := gk.all x hx
    obtain ⟨pvs, he, pk⟩ := de.k
    have epl : (S.hor x m).pls x = S.pls x := rfl
    rw [epl] at pk
    have gd := DGet.k (k := .inl x) hk1
    rw [ev] at gd
    refine ⟨_, rfl, g, C, dx, _, .ref kd, rfl, hg1, T.cl, T.no _ (by decide), rfl, _, rfl, kd, _, rfl, gd, .inr (.inr (.inl ⟨rfl, .inl ⟨_, he⟩⟩)), e, pvs, rfl, rfl, he, fun p np => ?_⟩
    have s1 := same_new (o := vvO p e) np
    refine ⟨p, e, pvs, rfl, upd_same, s1 _ _ he, fun l nl => ?_⟩
    have s2 := s1.trans (same_new (o := .lst (pvs.map (·.2))) nl)
    have nl1 : H1 l = none := s1.free nl
    obtain ⟨H2, e2⟩ : ∃ H2, upd (upd H1 p (vvO p e)) l (.lst (pvs.map (·.2))) = H2 := ⟨_, rfl⟩
    have hl2 : H2 l = some (.lst (pvs.map (·.2))) := by
      rw [← e2]
      exact upd_same
    rw [e2] at s2
    rw [e2]
    have gr2 := gr1.same s2
    have rl : rk l = none := Classical.byContradiction fun n => by
      obtain ⟨_, z⟩ := gr1.own l n
      rw [nl1] at z
      cases z
    refine ⟨l, rfl, ⟨_, SqL.of hl2⟩, for_list (K := K) (xs := pvs.map (·.2)) (fun i σ Hc => (∃ z5, σ = [some (.ref g), some (.int x), some (.int t), some (.int h), some (.int (S.went x h ((S.pls x).take i) : Nat)), z5]) ∧ (∀ b o, rk b = none → H2 b = some o → Hc b = some o) ∧ Hc kd = some (.dK kvs) ∧ Hc e = some (.dK pvs) ∧ GrG K CF Hc wa kd hd ((S.hor x m).cut x h ((S.pls x).take i)) rk) ⟨⟨none, rfl⟩, fun b o _ z => z, s2 _ _ hk1, s2 _ _ he, ?_⟩ (fun i σ Hc _ z => SqL.of (z.2.1 _ _ rl hl2)) (fun i v σ Hc hv z => ?_) ?_⟩
    · rw [List.take_zero, Gs.cut_nil]
      exact gr2
    · obtain ⟨⟨z5, rfl⟩, st, hkc, hec, gc⟩ := z
      rw [List.getElem?_map] at hv
      obtain ⟨⟨k0, u0⟩, ekv, rfl⟩ := Option.map_eq_some_iff.mp hv
      obtain ⟨p0, rfl, ep, hp0, c, rfl, rc, _⟩ := pk.item ekv
      have n0 : p0 ∉ (S.pls x).take i := not_take pk.nd ep
      have tk : (S.pls x).take (i + 1) = (S.pls x).take i ++ [p0] := take_snoc ep
      have hcv : valV pvs (.inl p0) = some (.ref c) := val_in (by rw [pk.ks]; exact keys_nd pk.nd) (List.mem_of_getElem? ekv)
      have dcc : DcI Hc c (S.ss p0 x) (CeR K CF Hc (S.cf p0 x)) := by
        obtain ⟨kv3, h3, k3⟩ := gc.gk.k
        rw [hkc] at h3
        cases h3
        obtain ⟨v3, ev3, e3, rfl, re3, de3⟩ := k3.all x hx
        rw [ev] at ev3
        cases ev3
        obtain ⟨pv3, h4, k4⟩ := de3.k
        rw [hec] at h4
        cases h4
        obtain ⟨u, eu, c4, rfl, rc4, dc4⟩ := k4.all p0 hp0
        rw [hcv] at eu
        cases eu
        rw [Gs.cut_ss n0, Gs.cut_cf n0] at dc4
        exact dc4
      have no : ∀ {b : Addr}, rk b ≠ some (.cells x p0) → b ≠ c := fun {b} n z => n (by rw [z]; exact rc)
      refine ⟨_, rfl, _, rfl, _, rfl, c, h, _, _, rfl, dcc, fs p0, fun H' xc dd => ?_⟩
      refine ⟨_, _, rfl, rfl, ⟨some (.ref c), ?_⟩, fun b o n z => xc b o (no (by rw [n]; exact fun z => nomatch z)) (st b o n z), xc _ _ (no (by rw [gr1.rd]; exact fun z => nomatch z)) hkc, xc _ _ (no (by rw [re]; exact fun z => nomatch z)) hec, ?_⟩
      · rw [tk, went_snoc, Int.natCast_add]
        rfl
      · rw [tk]
        exact gc.cut1 hx hp0 n0 xc rc (fun kv5 v5 h5 h6 => by
          rw [hkc] at h5
          cases h5
          rw [ev] at h6
          cases h6
          rfl) hec hcv dd
    · rintro σ Hc ⟨⟨z5, rfl⟩, st, hkc, hec, gc⟩
      rw [List.length_map, pk.len, List.take_length] at gc ⊢
      refine ⟨_, rfl, q Hc (fun b o n z => st b o n (s2 _ _ (x1 _ _ (fun y => by rw [y, gr.rh] at n; cases n) z))) ?_⟩
      unfold Gs.letgo
      rw [em2]
      exact gc
end
end Tg

/-! dicts compared whose values are instances of an own class with an own == -/
namespace Tg
open PySem PySem.Spec PyProof.Rows L2
section
variable {prog : Program} {w : World} {Ky : Type} [DecidableEq Ky] {knd : KeyKind prog w Ky} {A : Around} {E : Value → Shared → Prop}
/-- how a dict's pairs are met in another; W tells what == says of two values -/
inductive Met (W : Value → Value → Bool → Prop) (kb : List (Ky × Value)) : List (Ky × Value) → Bool → Prop
  | done : Met W kb [] true
  | out {k : Ky} {v : Value} {r : List (Ky × Value)} : valueAt kb k = none → Met W kb ((k, v) :: r) false
  | met {k : Ky} {v y : Value} {r : List (Ky × Value)} {e b : Bool} : valueAt kb k = some y → W v y e → Met W kb r b → Met W kb ((k, v) :: r) (e && b)
theorem pairs_by {nm : String} {a b : Addr} {oa ob : Obj} {ka kb : List (Ky × Value)} {r : Bool} {I : Shared → Prop} {W : Value → Value → Bool → Prop} {Q : Bool → Shared → Prop} {s : Shared} (la : (a == sysModules) = false) (lb : (b == sysModules) = false)
    (stand : ∀ s', I s' → s'.heap.get? a = some oa ∧ s'.heap.get? b = some ob) (da : s.heap.DictOf knd a ka) (db : s.heap.DictOf knd b kb)
    (eq_ : ∀ v y e s', W v y e → I s' → wpAny (model prog w) A (eqBool v y) (fun c s2 => c = e ∧ I s2) E s') (M : Met W kb ka r) (i : I s) (q : ∀ s', I s' → Q (ka.length == kb.length && r) s') : wpAny (model prog w) A (Builtin.Dict.samePairs nm a b) Q E s := by
  obtain ⟨o1, es, ep, g1, _, c1, keys1, prs1, _⟩ := da
  obtain ⟨o2, fs, fp, g2, _, c2, keys2, prs2, _⟩ := db
  cases g1.symm.trans (stand s i).1
  cases g2.symm.trans (stand s i).2
  have len1 : es.size = ka.length := by rw [← prs1.length, Array.length_toList]
  have len2 : fs.size = kb.length := by rw [← prs2.length, Array.length_toList]
  have look : ∀ k, findBy knd.is fs k = valueAt kb k := fun k => by
    have z := prs2.find k
    rw [← z]
    unfold findBy
    rw [Array.find?_toList]
  rw [← len1, ← len2] at q
  unfold Builtin.Dict.samePairs
  unfold Builtin.Dict.showsAll
  rw [if_neg (fun z => by rw [la] at z; cases z), if_neg (fun z => by rw [lb] at z; cases z)]
  refine wpAny_bind ?_
  refine wpAny_pure ?_
  refine wpAny_bind ?_
  refine wpAny_pure ?_
  refine wpAny_bind (wpAny_dictEntries (stand s i).1 c1 (wpAny_bind (wpAny_dictEntries (stand s i).2 c2 ?_)))
  by_cases many : es.size = fs.size
  · have q2 : ∀ s', I s' → Q r s' := fun s' j => by
      have z := q s' j
      rw [many, beq_self_eq_true, Bool.true_and] at z
      exact z
    rw [if_neg (fun z => by rw [many] at z; simp at z)]
    refine wpAny_bind (wpAny_dictEpoch (stand s i).1 c1 (wpAny_bind ?_))
    simp only [Std.Legacy.Range.forIn_eq_forIn_range', Std.Legacy.Range.size, Nat.add_sub_cancel, Nat.sub_zero, Nat.div_one]
    refine wpAny_forIn_list _ (fun todo st s' => I s' ∧ st = (none, ()) ∧ ∃ j, j ≤ es.size ∧ todo = List.range' j (es.size - j) ∧ Met W kb (ka.drop j) r) _ ?_ ?_ _ _ ⟨i, rfl, 0, Nat.zero_le _, rfl, M⟩
    · rintro x todo st s' ⟨here, rfl, j, le, eq1, met⟩
      have lt : j < es.size := Nat.lt_of_not_le fun z => by
        rw [Nat.sub_eq_zero_of_le z] at eq1
        cases eq1
      obtain ⟨m, em⟩ : ∃ m, es.size - j = m + 1 := ⟨es.size - j - 1, by omega⟩
      rw [em, List.range'_succ] at eq1
      obtain ⟨ex, et⟩ := List.cons.inj eq1
      have xj : j = x := ex.symm
      subst xj
      subst et
      have rest : List.range' (j + 1) m = List.range' (j + 1) (es.size - (j + 1)) := by
        rw [show es.size - (j + 1) = m from by omega]
      have ltk : j < ka.length := by rw [← len1]; exact lt
      refine wpAny_bind (wpAny_dictEntries (stand s' here).1 c1 ?_)
      rw [Array.getElem?_eq_getElem lt]
      obtain ⟨⟨k, v⟩, ekv⟩ : ∃ kv, ka[j] = kv := ⟨_, rfl⟩
      obtain ⟨isk, isv⟩ := prs1.get? (i := j) (e := es[j]) (k := k) (v := v) (by rw [Array.getElem?_toList, Array.getElem?_eq_getElem lt]) (by rw [List.getElem?_eq_getElem ltk, ekv])
      obtain ⟨k0, is0, hash0⟩ := keys1 es[j] (Array.getElem_mem lt)
      have ek : k0 = k := knd.inj _ _ _ is0 isk
      subst ek
      rw [List.drop_eq_getElem_cons ltk, ekv] at met
      show wpAny _ _ (holding [es[j].key, es[j].val] _ >>= _) _ _ _
      rw [hash0]
      refine wpAny_bind (wpAny_holding (wpAny_bind (wpAny_dictFind_of isk (stand s' here).2 c2 keys2 ?_)))
      have seen := look k0
      rw [findBy_of_findIdx?] at seen
      cases at2 : fs.findIdx? fun e => knd.is k0 e.key with
      | none =>
        rw [at2] at seen
        cases met with
        | out no =>
          refine wpAny_pure ?_
          change wpAny _ _ (ite ((!false) = true) _ _) _ _ _
          rw [if_pos (by rfl : (!false) = true)]
          exact wpAny_pure (wpAny_pure (q2 s' here))
        | met yes => cases seen.trans yes
      | some j2 =>
        obtain ⟨lt2, _, _⟩ := Array.findIdx?_eq_some_iff_getElem.mp at2
        rw [at2] at seen
        dsimp only at seen
        rw [Array.getElem?_eq_getElem lt2] at seen
        refine wpAny_bind (wpAny_dictEntries (stand s' here).2 c2 ?_)
        rw [Array.getElem?_eq_getElem lt2]
        cases met with
        | out no => cases seen.trans no
        | @met _ _ y _ e b yes same more =>
          have ey : fs[j2].val = y := Option.some.inj (seen.trans yes)
          subst ey
          rw [← isv] at same
          refine wpAny_holding (wpAny_mono (eq_ _ _ e s' same here) (fun c s2 told => ?_) fun _ _ z => z)
          obtain ⟨rfl, here2⟩ := told
          cases c with
          | false =>
            change wpAny _ _ (ite ((!false) = true) _ _) _ _ _
            rw [if_pos (by rfl : (!false) = true)]
            exact wpAny_pure (wpAny_pure (q2 s2 here2))
          | true =>
            change wpAny _ _ (ite ((!true) = true) _ _) _ _ _
            rw [if_neg (show ¬ (!true) = true from Bool.false_ne_true)]
            refine wpAny_bind (wpAny_dictEpoch (stand s2 here2).1 c1 ?_)
            rw [if_neg (by simp)]
            rw [Bool.true_and] at q2 ⊢
            exact wpAny_pure ⟨here2, rfl, j + 1, lt, rest, more⟩
    · rintro st s' ⟨here, rfl, j, le, eq1, met⟩
      have all : j = es.size := by
        rcases Nat.lt_or_ge j es.size with z | z
        · rw [show es.size - j = (es.size - j - 1) + 1 from by omega, List.range'_succ] at eq1
          cases eq1
        · omega
      rw [all, len1, List.drop_length] at met
      cases met
      exact wpAny_pure (q2 s' here)
  · rw [if_pos (by simpa using many)]
    have z := q s i
    rw [show (es.size == fs.size) = false from by simpa using many, Bool.false_and] at z
    exact wpAny_bind (wpAny_rule (wpAny_pure z))
end
end Tg

namespace Tg
open PySem PySem.Spec PyProof.Rows L2
section
variable {prog : Program} {w : World} {Ky : Type} [DecidableEq Ky] {knd : KeyKind prog w Ky} {A : Around} {E : Value → Shared → Prop}
theorem ne_by {a b : Addr} {oa ob : Obj} {ka kb : List (Ky × Value)} {r : Bool} {I : Shared → Prop} {W : Value → Value → Bool → Prop} {Q : Value → Shared → Prop} {s : Shared} (la : (a == sysModules) = false) (lb : (b == sysModules) = false) (room : A.units < cLine)
    (stand : ∀ s', I s' → s'.heap.get? a = some oa ∧ s'.heap.get? b = some ob) (da : s.heap.DictOf knd a ka) (db : s.heap.DictOf knd b kb)
    (eq_ : ∀ v y e s', W v y e → I s' → wpAny (model prog w) A.in1 (eqBool v y) (fun c s2 => c = e ∧ I s2) E s') (M : Met W kb ka r) (i : I s) (q : ∀ s', I s' → Q (.bool (!(ka.length == kb.length && r))) s') : wpAny (model prog w) A (compareOp .NotEq (.ref a) (.ref b)) Q E s := by
  have tA := da.typeIs
  have tB := db.typeIs
  refine wpAny_richCompare_same_room (op := .NotEq) tA tB PySem.F.slot_dict_ne (wpAny_call_entry PySem.F.slot_dict_ne tA PySem.F.entry_dict_ne ?inside (PySem.F.args_dict_ne_2 _ _)) room
  case inside =>
    change wpAny _ _ (Builtin.Dict.dictSlotArgs "__ne__" ⟨[.ref a, .ref b], []⟩ >>= _) _ _ s
    have two : wpAny (model prog w) A.in1 (Builtin.Dict.dictSlotArgs "__ne__" ⟨[.ref a, .ref b], []⟩) (fun p s' => p = (.ref a, .ref b) ∧ s' = s) (fun _ _ => False) s := by
      unfold Builtin.Dict.dictSlotArgs; exact wpAny_bind (wpAny_notOrdered_dict tA (wpAny_pure ⟨rfl, rfl⟩))
    refine wpAny_bind (wpAny_mono two (fun p s' same => ?_) fun _ _ no => no.elim)
    obtain ⟨rfl, rfl⟩ := same
    refine wpAny_bind (wpAny_isInstance (T := "dict") tB PySem.F.sub_dict_dict ?_)
    rw [if_neg (show ¬ (!true) = true from Bool.false_ne_true)]
    refine wpAny_bind (wpAny_pure (wpAny_bind (wpAny_pure (wpAny_bind (pairs_by la lb stand da db eq_ M i fun s2 j => ?_)))))
    exact wpAny_pure ⟨_, rfl, (fun z => nomatch z), by simpa using q s2 j⟩
end
/-! ### own instances as a dict's values -/
section
variable {X : Cx} {n : Nat}
abbrev Eqb := V → V → Bool → Hp → Prop
/-- == of two things below the running body: D tells what it says -/
def EqB (X : Cx) (n : Nat) (D : Eqb) : Prop :=
  ∀ (A : Around) (pins : List (Addr × Obj)) (s : Shared) (σ : L2.St) (H : Hp) (x y : V) (u v : Value) (b : Bool), Sub X n A → Inv X pins σ H s → RelV x u → RelV y v → D x y b H →
    wpAny (model X.prog X.w) A (eqBool u v) (fun r s' => r = b ∧ ∃ H', Inv X pins σ H' s' ∧ Ext H H') X.xe s
def DInsB (C : Addr) (R : Addr → V → Bool → Hp → Prop) : Eqb := fun x y b H => ∃ a c dx dy fs gs, x = .ref a ∧ y = .ref c ∧ H a = some (.ins C dx fs) ∧ H c = some (.ins C dy gs) ∧ R a (.ref c) b H
theorem eqB_ins {CX : CXT} {C f : Addr} {fd : FuncData} {ps : List Str} {R : Addr → V → Bool → Hp → Prop} {E : XK} (F : FnOk X.prog X.w X.K X.mg X.base CX n f fd ps (spEqB R))
    (hs : PySem.W.findIn X.K (.ref C) "__eq__" = some (some (.ref f))) (hf : PySem.W.isFn X.K (.ref f) = true) (hb : Binds X.K fd ps []) (hx : Passes CX X E) (own : ∀ (pins : List (Addr × Obj)) (s : Shared) (σ : L2.St) (H : Hp) (a : Addr) (b : Bool), Inv X pins σ H s → R a (.ref a) b H → b = true) : EqB X n (DInsB C R) := by
  rintro A pins s σ H x y u v b sb I rx ry ⟨a, c, dx, dy, fs, gs, rfl, rfl, ha, hc, says⟩
  cases rx
  cases ry
  by_cases same : a = c
  · subst same
    rw [own _ _ _ _ _ _ I says]
    refine SeqAt.EqAt.same (s := s) (A := A) (.ref a) X.prog X.w X.xe _ ⟨rfl, H, I, ?_⟩
    exact Ext.rfl'
  · obtain ⟨_, JA, _⟩ := ins_get I.hok ha
    obtain ⟨_, JC, _⟩ := ins_get I.hok hc
    obtain ⟨_, JA, _⟩ := JA.look
    obtain ⟨_, JC, _⟩ := JC.look
    obtain ⟨m, frame⟩ := I.fr
    refine GQ.eqBool_refG same (PySem.W.cmp_K (op := .Eq) (tb := .ref C) sb.room.units0 frame I.ok.mod.kin JA JC.type (by simp [PySem.W.notFirst]) hs hf (wpAny_mono (own_said F hb hx sb I (y := .ref c) rfl says) (fun z s' told => ?_) fun _ _ z => z))
    obtain ⟨rfl, more⟩ := told
    exact ⟨b, rfl, rfl, more⟩
/-- all but dicts stands -/
def NoD (H H' : Hp) : Prop := ∀ b o, (∀ kvs, o ≠ .dK kvs) → H b = some o → H' b = some o
def MonB (D : Eqb) : Prop := ∀ x y b H H', NoD H H' → D x y b H → D x y b H'
theorem NoD.ext {H H' : Hp} (e : Ext H H') : NoD H H' := fun b o _ h => e b o h
/-- what == says of the pairs of a dict, met in another -/
inductive MetV (D : Eqb) (H : Hp) (kb : List (Key × V)) : List (Key × V) → Bool → Prop
  | done : MetV D H kb [] true
  | out {k : Key} {v : V} {r : List (Key × V)} : valV kb k = none → MetV D H kb ((k, v) :: r) false
  | met {k : Key} {v y : V} {r : List (Key × V)} {e b : Bool} : valV kb k = some y → D v y e H → MetV D H kb r b → MetV D H kb ((k, v) :: r) (e && b)
theorem va_pos {k : Key} {p : Key × Value} {vb : List (Key × Value)} (h : p.1 = k) : valueAt (p :: vb) k = some p.2 := by
  unfold valueAt
  rw [List.find?_cons, decide_eq_true h]
  rfl
theorem va_neg {k : Key} {p : Key × Value} {vb : List (Key × Value)} (h : p.1 ≠ k) : valueAt (p :: vb) k = valueAt vb k := by
  unfold valueAt
  rw [List.find?_cons, decide_eq_false h]
theorem val_both {k : Key} : ∀ {kb : List (Key × V)} {vb : List (Key × Value)}, KV kb vb → (valV kb k = none ∧ valueAt vb k = none) ∨ ∃ y u, valV kb k = some y ∧ valueAt vb k = some u ∧ RelV y u
  | _, _, .nil => Or.inl ⟨rfl, rfl⟩
  | p :: kb, q :: vb, .cons ⟨e, r⟩ t => by
    by_cases h : p.1 = k
    · exact .inr ⟨p.2, q.2, valV_pos h, va_pos (e.symm.trans h), r⟩
    · rcases val_both (k := k) t with ⟨n1, n2⟩ | ⟨y, u, n1, n2, z⟩
      · exact .inl ⟨(valV_neg h).trans n1, (va_neg fun y => h (e.trans y)).trans n2⟩
      · exact .inr ⟨y, u, (valV_neg h).trans n1, (va_neg fun y => h (e.trans y)).trans n2, z⟩
theorem met_of {D : Eqb} {H H2 : Hp} (mono : MonB D) (nd : NoD H H2) {kb : List (Key × V)} {vb : List (Key × Value)} (rb : KV kb vb) : ∀ {ka : List (Key × V)} {va : List (Key × Value)} {r : Bool}, MetV D H kb ka r → KV ka va →
    Met (fun v y e => ∃ x z, RelV x v ∧ RelV z y ∧ D x z e H2) vb va r
  | _, _, _, .done, .nil => .done
  | (k, v) :: _, (k2, v2) :: _, _, .out no, .cons ⟨e, _⟩ _ => by
    have e : k = k2 := e
    subst e
    rcases val_both (k := k) rb with ⟨_, n2⟩ | ⟨_, _, n1, _⟩
    · exact .out n2
    · rw [no] at n1
      cases n1
  | (k, v) :: _, (k2, v2) :: _, _, .met yes d more, .cons ⟨e, rv⟩ t => by
    have e : k = k2 := e
    subst e
    rcases val_both (k := k) rb with ⟨n1, _⟩ | ⟨y, u, n1, n2, ry⟩
    · rw [yes] at n1
      cases n1
    · rw [yes] at n1
      cases n1
      exact .met n2 ⟨v, _, rv, ry, mono _ _ _ _ _ nd d⟩ (met_of mono nd rb more t)
/-- a != b of such dicts -/
def rNeW (D : Eqb) : R2 := fun x y H Q => ∃ (a b : Addr) (ka kb : List (Key × V)) (r : Bool), x = .ref a ∧ y = .ref b ∧ a ≠ b ∧ H a = some (.dK ka) ∧ H b = some (.dK kb) ∧ MetV D H kb ka r ∧ ∀ H', Ext H H' → Q (.bl (!(ka.length == kb.length && r))) H'
theorem op_neW {D : Eqb} (mono : MonB D) (h : EqB X n D) (hr : Room (n + 1) X.A) : OpR X (compareOp .NotEq) (rNeW D) := by
  rintro pins s σ H x y v u Q I rx ry ⟨a, b, ka, kb, r, rfl, rfl, ab, ha, hb, met, q⟩
  cases rx
  cases ry
  obtain ⟨_, la, va, ra, dA⟩ := (show ObjOk X.prog X.w H s.heap a (.dK ka) from I.hok a _ ha)
  obtain ⟨_, lb, vb, rb, dB⟩ := (show ObjOk X.prog X.w H s.heap b (.dK kb) from I.hok b _ hb)
  obtain ⟨oa, I1⟩ := I.lock ha trivial
  have hb1 : upd H a (.frz oa (.dK ka)) b = some (.dK kb) := (upd_ne ab.symm).trans hb
  obtain ⟨ob, I2⟩ := I1.lock hb1 trivial
  obtain ⟨H2, e2⟩ : ∃ H2, upd (upd H a (.frz oa (.dK ka))) b (.frz ob (.dK kb)) = H2 := ⟨_, rfl⟩
  rw [e2] at I2
  have a2 : H2 a = some (.frz oa (.dK ka)) := by
    rw [← e2, upd_ne ab]
    exact upd_same
  have b2 : H2 b = some (.frz ob (.dK kb)) := by
    rw [← e2]
    exact upd_same
  have old : ∀ c o, c ≠ a → c ≠ b → H c = some o → H2 c = some o := fun c o n1 n2 e => by
    rw [← e2, upd_ne n2, upd_ne n1]
    exact e
  have nd : NoD H H2 := fun c o no e => old c o (fun z => by
    rw [z, ha] at e
    exact no _ (Option.some.inj e).symm) (fun z => by
    rw [z, hb] at e
    exact no _ (Option.some.inj e).symm) e
  have lenA : va.length = ka.length := (Paired.length ra).symm
  have lenB : vb.length = kb.length := (Paired.length rb).symm
  refine ne_by (oa := oa) (ob := ob) (I := fun s' => ∃ H', Inv X pins σ H' s' ∧ Ext H2 H') la lb hr.units0 (fun s' ⟨H', I', x⟩ => ⟨(I'.hok a _ (x _ _ a2)).1, (I'.hok b _ (x _ _ b2)).1⟩) dA dB ?_ (met_of mono nd rb met ra) ⟨H2, I2, Ext.rfl'⟩ ?_
  · rintro v y e s' ⟨x0, y0, rx, ry, d⟩ ⟨H', I', x⟩
    refine wpAny_mono (h X.A.in1 pins s' σ H' x0 y0 v y e (Sub.in1 ⟨hr, rfl⟩) I' rx ry (mono _ _ _ _ _ (.ext x) d)) (fun c s2 ⟨ec, H3, I3, x3⟩ => ⟨ec, H3, I3, x.trans x3⟩) fun _ _ z => z
  · rintro s' ⟨H', I', x⟩
    have I4 := I'.unlock (x _ _ b2) (I1.nofrz hb1 trivial)
    have a4 : upd H' b (.dK kb) a = some (.frz oa (.dK ka)) := (upd_ne ab).trans (x _ _ a2)
    have I5 := I4.unlock a4 (I.nofrz ha trivial)
    rw [lenA, lenB]
    refine ⟨.bl _, _, I5, rfl, q _ fun c o e => ?_⟩
    by_cases ca : c = a
    · rw [ca] at e ⊢
      rw [upd_same, ← ha, e]
    · rw [upd_ne ca]
      by_cases cb : c = b
      · rw [cb] at e ⊢
        rw [upd_same, ← hb, e]
      · rw [upd_ne cb]
        exact x _ _ (old c o ca cb e)
end
end Tg

set_option maxHeartbeats 2000000
namespace Tg
open PySem PySem.Spec PyProof.Rows L2
/-! ### grains that tell a table, but for the cells let go -/
set_option maxHeartbeats 2000000
structure RtH (S : Gs) (p : Int) (rs : List Pt) : Prop where
  is : ∀ x, x ∈ S.ws → ∀ s, s ∈ S.ss p x → (S.cf p x s).1 = cellF rs x s ∧ s % x = 0 ∧ S.gone x s = false
  all : ∀ x, x ∈ S.ws → ∀ q, q ∈ rs → S.gone x (q.1 - q.1 % x) = false → q.1 - q.1 % x ∈ S.ss p x
/-- a horizon is an end of its width, and of the next one -/
structure HzOk (S : Gs) : Prop where
  own : ∀ x h, S.hz x = some h → h % x = 0
  nxt : ∀ (i : Nat) (x y h : Int), S.ws[i]? = some x → S.ws[i + 1]? = some y → S.hz x = some h → h % y = 0
/-- times at the horizons or behind -/
def TsH (S : Gs) (ts : List Int) : Prop := ∀ t, t ∈ ts → ∀ x h, S.hz x = some h → h ≤ t
/-- rs: the table ps, other at the times ts alone -/
def ChT (ps rs : List Pt) (ts : List Int) : Prop := ∀ p : Pt, p.1 ∉ ts → (p ∈ ps ↔ p ∈ rs)
theorem gone_iff {S : Gs} {x s : Int} : S.gone x s = false ↔ ∀ h, S.hz x = some h → h ≤ s := by
  unfold Gs.gone
  cases e : S.hz x with
  | none => exact Iff.intro (fun _ _ h => by cases h) (fun _ => rfl)
  | some h0 =>
    constructor
    · intro h h1 e1
      cases e1
      exact Int.not_lt.mp (of_decide_eq_false h)
    · exact fun h => decide_eq_false (Int.not_lt.mpr (h h0 rfl))
theorem le_start {h t x : Int} (x0 : 0 < x) (hm : h % x = 0) (l : h ≤ t) : h ≤ t - t % x := by
  have h1 := Int.mul_ediv_add_emod t x
  have h2 := Int.mul_ediv_add_emod h x
  rw [hm, Int.add_zero] at h2
  have h3 : h / x ≤ t / x := Int.ediv_le_ediv x0 l
  have h4 := Int.mul_le_mul_of_nonneg_left h3 (Int.le_of_lt x0)
  omega
theorem told_kept {S : Gs} {ts : List Int} (hz : HzOk S) (tl : TsH S ts) {x s : Int} (x0 : 0 < x) (hs : s ∈ startsF ts x) : S.gone x s = false := by
  obtain ⟨t, ht, rfl⟩ := starts_cell.mp hs
  exact gone_iff.mpr fun h e => le_start x0 (hz.own x h e) (tl t ht x h e)
theorem cells_all {S : Gs} {ts : List Int} (hz : HzOk S) (tl : TsH S ts) {x : Int} (x0 : 0 < x) : S.cells ts x = startsF ts x := by
  unfold Gs.cells
  refine List.filter_eq_self.mpr fun s hs => ?_
  rw [told_kept hz tl x0 hs]
  rfl
/-- a cell without a told time is what it was -/
theorem cell_same {ps rs : List Pt} {ts : List Int} {x s : Int} (x0 : 0 < x) (sm : s % x = 0) (okp : TbOk ps) (okr : TbOk rs) (c : ChT ps rs ts) (n : s ∉ startsF ts x) : cellF ps x s = cellF rs x s := by
  refine Sel.cell okr.nd ?_
  have h := sel_cell okp.nd x s
  have no : ∀ p : Pt, (s ≤ p.1 ∧ p.1 < s + x) → p.1 ∉ ts := fun p h2 z => n (starts_cell.mpr ⟨p.1, z, (cell_iff x0 sm).mpr h2⟩)
  exact ⟨h.up, fun p => (h.all p).trans ⟨fun ⟨h1, h2⟩ => ⟨(c p (no p h2)).mp h1, h2⟩, fun ⟨h1, h2⟩ => ⟨(c p (no p h2)).mpr h1, h2⟩⟩⟩
theorem ja_okH {S : Gs} {p : Int} {ps rs : List Pt} {ts : List Int} {i : Nat} {x y : Int} (x0 : 0 < x) (y0 : 0 < y) (dv : y % x = 0) (ex : S.ws[i]? = some x) (ey : S.ws[i + 1]? = some y) (hz : HzOk S) (tl : TsH S ts) (rt : RtH S p ps) (okp : TbOk ps) (okr : TbOk rs) (c : ChT ps rs ts)
    (lt : ts.length ≤ 20) (ls : (S.ss p x).length ≤ 400) : JaOk rs x y (S.ss p x) (S.cells ts x) (S.cells ts y) (S.cf p x) := by
  have hx := List.mem_of_getElem? ex
  rw [cells_all hz tl x0, cells_all hz tl y0]
  refine ⟨x0, y0, dv, okr, fun s hs n _ => ?_, fun s hs => (rt.is x hx s hs).2.1, fun s hs => ?_, fun q hq hy => ?_, ls, ?_⟩
  · obtain ⟨h1, h2, _⟩ := rt.is x hx s hs
    rw [h1]
    exact cell_same x0 h2 okp okr c n
  · obtain ⟨t, _, rfl⟩ := starts_cell.mp hs
    exact cell_mod t x
  · by_cases z : q.1 ∈ ts
    · exact .inr (starts_cell.mpr ⟨q.1, z, rfl⟩)
    · refine .inl (rt.all x hx q ((c q z).mpr hq) (gone_iff.mpr fun h e => le_start x0 (hz.own x h e) ?_))
      obtain ⟨t, ht, et⟩ := starts_cell.mp hy
      have h1 := le_start y0 (hz.nxt i x y h ex ey e) (tl t ht x h e)
      have h2 := Int.emod_nonneg q.1 (Int.ne_of_gt y0)
      omega
  · have := starts_len x ts (l := startsF ts x) rfl
    omega
theorem flat_congr {α β : Type} {f g : α → List β} : ∀ {l : List α}, (∀ a, a ∈ l → f a = g a) → l.flatMap f = l.flatMap g
  | [], _ => rfl
  | a :: l, h => by
    rw [List.flatMap_cons, List.flatMap_cons, h a List.mem_cons_self, flat_congr (l := l) fun b hb => h b (List.mem_cons_of_mem _ hb)]
theorem rows_st {S : Gs} {p : Int} {rs : List Pt} {ts : List Int} (pos : ∀ x, x ∈ S.ws → 0 < x) (hz : HzOk S) (tl : TsH S ts) : S.rows p rs ts = S.ws.flatMap (rowsG (S.cf p) (cellF rs) (startsF ts)) := by
  unfold Gs.rows
  refine flat_congr fun x hx => ?_
  unfold rowsG
  rw [cells_all hz tl (pos x hx)]
/-- what is told of any cell that wasn't let go is its fold -/
theorem rth_any {S : Gs} {p : Int} {rs : List Pt} (rt : RtH S p rs) (okr : TbOk rs) (out : ∀ x s, s ∉ S.ss p x → S.cf p x s = (fOf [], 0)) {x s : Int} (x0 : 0 < x) (hx : x ∈ S.ws) (sm : s % x = 0) (ng : S.gone x s = false) : (S.cf p x s).1 = cellF rs x s := by
  by_cases c : s ∈ S.ss p x
  · exact (rt.is x hx s c).1
  · rw [out x s c]
    refine Sel.cell okr.nd (Sel.nil fun q hq h => c ?_)
    have e := (cell_iff x0 sm).mpr h
    have z := rt.all x hx q hq
    rw [e] at z
    exact z ng
theorem rth_gone {S : Gs} {p : Int} {rs : List Pt} (rt : RtH S p rs) (out : ∀ x s, s ∉ S.ss p x → S.cf p x s = (fOf [], 0)) {x s : Int} (hx : x ∈ S.ws) (g : S.gone x s = true) : S.cf p x s = (fOf [], 0) := by
  refine out x s fun c => ?_
  rw [(rt.is x hx s c).2.2] at g
  cases g
/-- the rows that are due are those told -/
theorem rows_dueH {S : Gs} {p : Int} {os rs : List Pt} {ts : List Int} (pos : ∀ x, x ∈ S.ws → 0 < x) (hz : HzOk S) (tl : TsH S ts) (rt : RtH S p os) (oko : TbOk os) (out : ∀ x s, s ∉ S.ss p x → S.cf p x s = (fOf [], 0)) : S.rows p rs ts = dueF os rs ts S.ws := by
  rw [rows_st pos hz tl]
  unfold dueF
  refine flat_congr fun x hx => flat_congr fun s hs => ?_
  obtain ⟨t, _, e⟩ := starts_cell.mp hs
  have sm : s % x = 0 := by
    rw [← e]
    exact cell_mod t x
  unfold rowG rowF
  rw [rth_any rt oko out (pos x hx) hx sm (told_kept hz tl (pos x hx) hs), fd9_sym]
/-- behind the renewal what is kept tells the new table -/
theorem rth_next {S : Gs} {p n : Int} {ps rs : List Pt} {ts : List Int} (pos : ∀ x, x ∈ S.ws → 0 < x) (nd : S.ws.Nodup) (hz : HzOk S) (tl : TsH S ts) (rt : RtH S p ps) (out : ∀ x s, s ∉ S.ss p x → S.cf p x s = (fOf [], 0)) (okp : TbOk ps) (okr : TbOk rs) (c : ChT ps rs ts) :
    RtH (S.aft p n (S.rows p rs ts) S.ws) p rs ∧ Once (S.rows p rs ts) := by
  rw [rows_st pos hz tl]
  obtain ⟨cf, ecf⟩ : ∃ cf, S.cf p = cf := ⟨_, rfl⟩
  rw [ecf]
  obtain ⟨rows, er⟩ : ∃ rows, S.ws.flatMap (rowsG cf (cellF rs) (startsF ts)) = rows := ⟨_, rfl⟩
  have once : Once rows := by
    rw [← er]
    refine List.pairwise_flatMap.mpr ⟨fun x _ => List.pairwise_flatMap.mpr ⟨fun s _ => ?_, ?_⟩, ?_⟩
    · unfold rowG
      split
      · exact .nil
      · exact List.pairwise_singleton _ _
    · refine (starts_up x ts).imp fun {a b} h u hu v hv e => ?_
      rw [(row_mem hu).2, (row_mem hv).2] at e
      exact absurd e.2 (Int.ne_of_lt h)
    · refine nd.imp fun {a b} h u hu v hv e => ?_
      obtain ⟨_, _, hu⟩ := List.mem_flatMap.mp hu
      obtain ⟨_, _, hv⟩ := List.mem_flatMap.mp hv
      rw [(row_mem hu).1, (row_mem hv).1] at e
      exact h e.1
  have form : ∀ r, r ∈ rows → r.1 ∈ S.ws ∧ r.2.1 ∈ startsF ts r.1 ∧ r.2.2.2 = cellF rs r.1 r.2.1 := fun r hr => by
    rw [← er] at hr
    obtain ⟨x, hx, hr⟩ := List.mem_flatMap.mp hr
    obtain ⟨s, hs, hr⟩ := List.mem_flatMap.mp hr
    unfold rowG at hr
    split at hr
    · exact absurd hr List.not_mem_nil
    · cases List.mem_singleton.mp hr
      exact ⟨hx, hs, rfl⟩
  have none_ : ∀ x, x ∈ S.ws → ∀ s, s ∈ startsF ts x → (∀ r, r ∈ rows → ¬ (r.1 = x ∧ r.2.1 = s)) → cellF rs x s = (cf x s).1 := fun x hx s hs h => by
    refine Classical.byContradiction fun ne => ?_
    refine h (x, s, (cf x s).1, cellF rs x s) ?_ ⟨rfl, rfl⟩
    rw [← er]
    refine List.mem_flatMap.mpr ⟨x, hx, List.mem_flatMap.mpr ⟨s, hs, ?_⟩⟩
    unfold rowG
    rw [if_neg fun z => ne ((fd9_iff _ _).mp z)]
    exact List.mem_singleton.mpr rfl
  rw [er]
  have ess : (S.aft p n rows S.ws).ss p = ssR (S.ss p) rows := setF_at
  have ecf2 : (S.aft p n rows S.ws).cf p = cfR n cf rows := by
    rw [← ecf]
    exact setF_at
  refine ⟨⟨fun x hx s hs => ?_, fun x hx q hq ng => ?_⟩, once⟩
  · rw [ess] at hs
    rw [ecf2]
    have hx : x ∈ S.ws := hx
    show _ ∧ _ ∧ S.gone x s = false
    by_cases hit : ∃ r, r ∈ rows ∧ r.1 = x ∧ r.2.1 = s
    · obtain ⟨r, hr, rfl, rfl⟩ := hit
      obtain ⟨h1, h2, h3⟩ := form r hr
      rw [cfR_hit once hr]
      obtain ⟨t, _, e⟩ := starts_cell.mp h2
      refine ⟨h3, ?_, told_kept hz tl (pos _ hx) h2⟩
      rw [← e]
      exact cell_mod t r.1
    · have miss : ∀ r, r ∈ rows → ¬ (r.1 = x ∧ r.2.1 = s) := fun r hr e => hit ⟨r, hr, e⟩
      have hs2 := (ssR_mem.mp hs).resolve_right fun ⟨r, hr, e⟩ => hit ⟨r, hr, e⟩
      rw [cfR_miss miss]
      obtain ⟨h1, h2, h3⟩ := rt.is x hx s hs2
      rw [ecf] at h1
      refine ⟨?_, h2, h3⟩
      by_cases c2 : s ∈ startsF ts x
      · exact (none_ x hx s c2 miss).symm
      · rw [h1]
        exact cell_same (pos x hx) h2 okp okr c c2
  · rw [ess]
    have hx : x ∈ S.ws := hx
    have ng : S.gone x (q.1 - q.1 % x) = false := ng
    by_cases z : q.1 ∈ ts
    · have cs : q.1 - q.1 % x ∈ startsF ts x := starts_cell.mpr ⟨q.1, z, rfl⟩
      by_cases hit : ∃ r, r ∈ rows ∧ r.1 = x ∧ r.2.1 = q.1 - q.1 % x
      · exact ssR_mem.mpr (.inr hit)
      · have e := none_ x hx _ cs fun r hr e => hit ⟨r, hr, e⟩
        refine ssR_mem.mpr (.inl (Decidable.byContradiction fun no => ?_))
        rw [← ecf, out x _ no] at e
        have hin : q ∈ cutF rs (q.1 - q.1 % x) (q.1 - q.1 % x + x) := ((sel_cell okr.nd x _).all q).mpr ⟨hq, (cell_iff (pos x hx) (cell_mod q.1 x)).mp rfl⟩
        have e2 : ((cutF rs (q.1 - q.1 % x) (q.1 - q.1 % x + x)).length : Int) = 0 := congrArg FD.cnt e
        have := List.length_pos_of_mem hin
        omega
    · exact ssR_mem.mpr (.inl (rt.all x hx q ((c q z).mpr hq) ng))
/-- of another place nothing is another -/
theorem rth_other {S : Gs} {p p2 n : Int} {rs : List Pt} {rows : List Row} {wd : List Int} (ne : p2 ≠ p) (rt : RtH S p2 rs) : RtH (S.aft p n rows wd) p2 rs := by
  have ess : (S.aft p n rows wd).ss p2 = S.ss p2 := setF_ne ne
  have ecf : (S.aft p n rows wd).cf p2 = S.cf p2 := setF_ne ne
  refine ⟨fun x hx s hs => ?_, fun x hx q hq ng => ?_⟩
  · rw [ess] at hs
    rw [ecf]
    exact rt.is x hx s hs
  · rw [ess]
    exact rt.all x hx q hq ng
/-! ### let_go -/
theorem letgo_hz {S : Gs} {x h y : Int} : (S.letgo x h).hz y = if y = x then some (S.topH x h) else S.hz y := rfl
theorem top_ge {S : Gs} {x h : Int} : h ≤ S.topH x h ∧ ∀ h0, S.hz x = some h0 → h0 ≤ S.topH x h := by
  unfold Gs.topH
  cases e : S.hz x with
  | none =>
    refine ⟨?_, fun _ z => nomatch z⟩
    show h ≤ if h > h then h else h
    split <;> exact Int.le_refl _
  | some i =>
    refine ⟨?_, fun h0 z => ?_⟩
    · show h ≤ if i > h then i else h
      split <;> omega
    · cases z
      show i ≤ if i > h then i else h
      split <;> omega
theorem top_is {S : Gs} {x h : Int} : S.topH x h = h ∨ S.hz x = some (S.topH x h) := by
  unfold Gs.topH
  cases e : S.hz x with
  | none =>
    refine .inl ?_
    show (if h > h then h else h) = h
    split <;> rfl
  | some i =>
    show (if i > h then i else h) = h ∨ some i = some (if i > h then i else h)
    split
    · exact .inr rfl
    · exact .inl rfl
theorem hz_letgo {S : Gs} {i : Nat} {x h : Int} (nd : S.ws.Nodup) (ex : S.ws[i]? = some x) (hm : h % x = 0) (hn : ∀ y, S.ws[i + 1]? = some y → h % y = 0) (hz : HzOk S) : HzOk (S.letgo x h) := by
  refine ⟨fun y h1 e => ?_, fun j y z h1 ey ez e => ?_⟩
  · rw [letgo_hz] at e
    split at e
    · rename_i c
      cases e
      rcases top_is (S := S) (x := x) (h := h) with t | t
      · rw [t, c]
        exact hm
      · rw [c]
        exact hz.own x _ t
    · exact hz.own y h1 e
  · have ey : S.ws[j]? = some y := ey
    have ez : S.ws[j + 1]? = some z := ez
    rw [letgo_hz] at e
    split at e
    · rename_i c
      cases e
      have ij : i = j := by
        rw [c] at ey
        obtain ⟨h1, e1⟩ := List.getElem?_eq_some_iff.mp ex
        obtain ⟨h2, e2⟩ := List.getElem?_eq_some_iff.mp ey
        exact (List.getElem_inj nd).mp (e1.trans e2.symm)
      rcases top_is (S := S) (x := x) (h := h) with t | t
      · rw [t]
        exact hn z (by rw [ij]; exact ez)
      · exact hz.nxt i x z _ ex (by rw [ij]; exact ez) t
    · exact hz.nxt j y z h1 ey ez e
theorem letgo_gone {S : Gs} {x h y s : Int} : (S.letgo x h).gone y s = false ↔ S.gone y s = false ∧ (y = x → h ≤ s) := by
  rw [gone_iff, gone_iff, letgo_hz]
  by_cases c : y = x
  · subst c
    rw [if_pos rfl]
    obtain ⟨t1, t2⟩ := top_ge (S := S) (x := y) (h := h)
    constructor
    · intro k
      have k1 := k _ rfl
      exact ⟨fun h0 e => Int.le_trans (t2 h0 e) k1, fun _ => Int.le_trans t1 k1⟩
    · rintro ⟨k1, k2⟩ h0 e
      cases e
      rcases top_is (S := S) (x := y) (h := h) with t | t
      · rw [t]
        exact k2 rfl
      · exact k1 _ t
  · rw [if_neg c]
    exact ⟨fun k => ⟨k, fun z => absurd z c⟩, fun k => k.1⟩
theorem rth_letgo {S : Gs} {p x h : Int} {rs : List Pt} (no : ∀ y, p ∉ S.pls y → S.ss p y = []) (rt : RtH S p rs) : RtH (S.letgo x h) p rs := by
  have ess : ∀ y s, s ∈ (S.letgo x h).ss p y ↔ s ∈ S.ss p y ∧ (y = x → ¬ s < h) := fun y s => by
    show s ∈ (if y = x ∧ p ∈ S.pls x then leftF (S.ss p y) h else S.ss p y) ↔ _
    by_cases c : y = x
    · subst c
      by_cases d : p ∈ S.pls y
      · rw [if_pos ⟨rfl, d⟩, left_mem]
        exact ⟨fun k => ⟨k.1, fun _ => k.2⟩, fun k => ⟨k.1, k.2 rfl⟩⟩
      · rw [if_neg fun z => d z.2, no y d]
        exact ⟨fun k => absurd k List.not_mem_nil, fun k => absurd k.1 List.not_mem_nil⟩
    · rw [if_neg fun z => c z.1]
      exact ⟨fun k => ⟨k, fun z => absurd z c⟩, fun k => k.1⟩
  have ecf : ∀ y s, (y = x → ¬ s < h) → (S.letgo x h).cf p y s = S.cf p y s := fun y s n => by
    show (if y = x ∧ p ∈ S.pls x then leftC (S.cf p y) h else S.cf p y) s = _
    by_cases c : y = x ∧ p ∈ S.pls x
    · rw [if_pos c]
      exact if_neg (n c.1)
    · rw [if_neg c]
  refine ⟨fun y hy s hs => ?_, fun y hy q hq ng => ?_⟩
  · obtain ⟨h1, h2⟩ := (ess y s).mp hs
    obtain ⟨k1, k2, k3⟩ := rt.is y hy s h1
    rw [ecf y s h2]
    exact ⟨k1, k2, letgo_gone.mpr ⟨k3, fun e => Int.not_lt.mp (h2 e)⟩⟩
  · obtain ⟨h1, h2⟩ := letgo_gone.mp ng
    exact (ess y _).mpr ⟨rt.all y hy q hq h1, fun e => Int.not_lt.mpr (h2 e)⟩
end Tg

set_option maxHeartbeats 2000000
/-! a lambda whose own names are cells too (an inner comprehension reads them) -/
namespace CloX
open PySem PySem.Spec PyProof.Rows L2 LamX NdefX Tg
open Classical
theorem cells_app : ∀ (names : List (Str × NameKind)) (n : Nat) (acc : List (Str × Addr)), cellsFrom n names acc = cellsFrom n names [] ++ acc
  | [], _, _ => rfl
  | (x, k) :: r, n, acc => by
    unfold cellsFrom
    split
    · rw [cells_app r (n + 1) ((x, n) :: acc), cells_app r (n + 1) [(x, n)], List.append_assoc]
      rfl
    · exact cells_app r n acc
section
variable {M : Model} {A : Around} {E : Value → Shared → Prop} {s0 : Shared} {env : Env}
/-- while the parameters are bound: those bound so far stand where they belong -/
structure BoundSt (s0 : Shared) (env : Env) (done : List (Str × Value)) (s : Shared) : Prop where
  st : ∃ h tk m, s = { s0 with heap := h, toks := tk } ∧ h.Ns env.locals m ∧ (∀ b o, s0.heap.get? b = some o → h.get? b = some o) ∧ (∀ x c, env.cells.lookup x = some c → ∃ v, h.IsCell c v) ∧
    ∀ x v, (x, v) ∈ done → (env.kindOf x = some .local ∧ m x = some v) ∨ (env.kindOf x = some .cell ∧ ∃ c, env.cells.lookup x = some c ∧ h.IsCell c (some v))
theorem bind_all (kind : env.scope.kind = .function) (f : Str × Value → PUnit → Sem (ForInStep PUnit)) (hf : ∀ n v u, f (n, v) u = (do storeName env n v; pure (.yield ⟨⟩))) (inj : ∀ x y c, env.cells.lookup x = some c → env.cells.lookup y = some c → x = y)
    (sz : s0.heap.objs.size ≤ env.locals) (off : ∀ x c, env.cells.lookup x = some c → c ≠ env.locals) :
    ∀ (todo done : List (Str × Value)) (s : Shared) (Q : PUnit → Shared → Prop), ((done ++ todo).map (·.1)).Nodup → BoundSt s0 env done s → (∀ x, x ∈ todo → env.kindOf x.1 = some .local ∨ (env.kindOf x.1 = some .cell ∧ ∃ c, env.cells.lookup x.1 = some c ∧ s0.heap.objs.size ≤ c)) →
      (∀ s', BoundSt s0 env (done ++ todo) s' → Q ⟨⟩ s') → wpAny M A (forIn todo ⟨⟩ f) Q E s
  | [], done, s, Q, _, b, _, q => by
    rw [List.append_nil] at q
    rw [List.forIn_nil]
    exact wpAny_pure (q s b)
  | (x, v) :: todo, done, s, Q, nd, b, kinds, q => by
    rw [List.forIn_cons, hf]
    have e1 : done ++ (x, v) :: todo = (done ++ [(x, v)]) ++ todo := by rw [List.append_assoc] <;> rfl
    rw [e1] at nd q
    have fresh : ∀ y u, (y, u) ∈ done → y ≠ x := fun y u hy z => by
      rw [List.append_assoc, List.map_append] at nd
      exact (List.nodup_append.mp nd).2.2 _ (List.mem_map.mpr ⟨_, hy, rfl⟩) _ (List.mem_map.mpr ⟨(x, v), List.mem_append_left _ (List.mem_singleton.mpr rfl), rfl⟩) z
    have next : ∀ s', BoundSt s0 env (done ++ [(x, v)]) s' → wpAny M A (forIn todo ⟨⟩ f) Q E s' := fun s' b' => bind_all kind f hf inj sz off todo _ s' Q nd b' (fun y hy => kinds y (List.mem_cons_of_mem _ hy)) q
    obtain ⟨h, tk, m, rfl, ns, old, cells, here⟩ := b.st
    rcases kinds (x, v) List.mem_cons_self with loc | ⟨cel, c, hc, ge⟩
    · refine wpAny_bind (wpAny_bind (wpAny_storeName_local loc ns (fun h' ns' but => wpAny_pure (next _ ⟨h', _, _, rfl, ns', fun b o e => ?_, fun y d e => ?_, fun y u hy => ?_⟩)) (by rw [kind] <;> rfl)))
      · exact but.extBut b o (Nat.ne_of_lt (Nat.lt_of_lt_of_le (Heap.lt_size e) sz)) (old b o e)
      · obtain ⟨z, hz⟩ := cells y d e
        exact ⟨z, hz.sameBut but (off y d e)⟩
      · rcases List.mem_append.mp hy with hy | hy
        · rcases here y u hy with ⟨k1, k2⟩ | ⟨k1, d, k2, k3⟩
          · exact .inl ⟨k1, (if_neg (fresh y u hy)).trans k2⟩
          · exact .inr ⟨k1, d, k2, k3.sameBut but (off y d k2)⟩
        · cases List.mem_singleton.mp hy
          exact .inl ⟨loc, if_pos rfl⟩
    · obtain ⟨v0, at_c⟩ := cells x c hc
      refine wpAny_bind (wpAny_bind (wpAny_storeName_cell kind cel hc at_c fun h' at' but => wpAny_pure (next _ ⟨h', _, _, rfl, ns.sameBut but (off x c hc).symm, fun b o e => ?_, fun y d e => ?_, fun y u hy => ?_⟩)))
      · exact but.extBut b o (Nat.ne_of_lt (Nat.lt_of_lt_of_le (Heap.lt_size e) ge)) (old b o e)
      · by_cases z : d = c
        · rw [z]
          exact ⟨_, at'⟩
        · obtain ⟨z2, hz⟩ := cells y d e
          exact ⟨z2, hz.sameBut but z⟩
      · rcases List.mem_append.mp hy with hy | hy
        · rcases here y u hy with ⟨k1, k2⟩ | ⟨k1, d, k2, k3⟩
          · exact .inl ⟨k1, k2⟩
          · exact .inr ⟨k1, d, k2, k3.sameBut but fun z => fresh y u hy (inj _ _ _ (z ▸ k2) hc)⟩
        · cases List.mem_singleton.mp hy
          exact .inr ⟨cel, c, hc, at'⟩
end
end CloX

set_option maxHeartbeats 2000000
namespace CloX
open PySem PySem.Spec PyProof.Rows L2 LamX NdefX Tg
open Classical
/-- names of such a lambda: its parameters (some of them cells), then the captured ones, then its own -/
structure CScope (N ps fr : List Str) (sc : Scope) : Prop where
  kind : sc.kind = .function
  co : sc.isCoroutine = false
  gen : sc.isGenerator = false
  nd : N.Nodup
  pre : (N.take (ps.length + fr.length)) = ps ++ fr
  par : ∀ x ∈ ps, sc.names.lookup x = some .local ∨ sc.names.lookup x = some .cell
  free : ∀ y, y ∈ sc.names → y.2 = .free → y.1 ∈ fr
  frk : ∀ x, x ∈ fr → sc.names.lookup x = some .free
  sep : ∀ y ∈ sc.names, y.2 = .cell → y.1 ∉ fr
def cscB (N ps fr : List Str) (sc : Scope) : Bool :=
  decide (sc.kind = .function) && (!sc.isCoroutine && (!sc.isGenerator && (decide N.Nodup && (decide (N.take (ps.length + fr.length) = ps ++ fr) && (ps.all (fun x => decide (sc.names.lookup x = some .local ∨ sc.names.lookup x = some .cell)) && (sc.names.all (fun y => !decide (y.2 = .free) || decide (y.1 ∈ fr)) && (fr.all (fun x => decide (sc.names.lookup x = some .free)) && sc.names.all (fun y => !decide (y.2 = .cell) || !decide (y.1 ∈ fr)))))))))
theorem cscope_by {N ps fr : List Str} {sc : Scope} (h : cscB N ps fr sc = true) : CScope N ps fr sc := by
  unfold cscB at h
  simp only [Bool.or_eq_true, Bool.and_eq_true, decide_eq_true_eq, Bool.not_eq_true', decide_eq_false_iff_not, List.all_eq_true] at h
  obtain ⟨h1, h2, h3, h4, h5, h6, h7, h8, h9⟩ := h
  exact ⟨h1, h2, h3, h4, h5, h6, fun y hy e => (h7 y hy).resolve_left fun z => z e, h8, fun y hy e => (h9 y hy).resolve_left fun z => z e⟩
/-- the cells of its frame at L: its own, then the captured ones -/
abbrev ownCells (F : LF) (L : Addr) : List (Str × Addr) := cellsFrom (L + 1) F.scope.names []
def LF.at_ (F : LF) (L : Addr) : LF := { F with cl := ownCells F L ++ F.cl }
section
variable {CX : CXT} {P : Program} {w : World} {K : PySem.W.Frag} {mg : Str → Option Value} {base : Heap} {N ps fr : List Str} {F : LF} {f : Addr} {A : Around} {outer : List Env} {s : Shared} {H : Hp} {E : XK} {us : List Value} {vs : List V} {ws : List (Option V)}
/-- what stands where its body begins -/
structure CStart (ps : List Str) (us : List Value) (F : LF) (s s' : Shared) : Prop where
  inj : ∀ x y c, (F.at_ s.heap.objs.size).cl.lookup x = some c → (F.at_ s.heap.objs.size).cl.lookup y = some c → x = y
  st : ∃ h tk m, s' = { s with heap := h, toks := tk } ∧ h.Ns s.heap.objs.size m ∧ (∀ b o, s.heap.get? b = some o → h.get? b = some o) ∧ (∀ x c, (F.at_ s.heap.objs.size).cl.lookup x = some c → ∃ v, h.IsCell c v) ∧
    ∀ x v, (x, v) ∈ ps.zip us → (F.scope.names.lookup x = some .local ∧ m x = some v) ∨ (F.scope.names.lookup x = some .cell ∧ ∃ c, (F.at_ s.heap.objs.size).cl.lookup x = some c ∧ h.IsCell c (some v))
theorem own_at {L : Addr} {x : Str} {c : Addr} (h : (ownCells F L).lookup x = some c) : L + 1 ≤ c ∧ (x, NameKind.cell) ∈ F.scope.names := by
  have in_ : ∀ (names : List (Str × NameKind)) (n : Nat) (x : Str) (c : Addr), (x, c) ∈ cellsFrom n names [] → n ≤ c ∧ (x, NameKind.cell) ∈ names := fun names => by
    induction names with
    | nil => exact fun n x c h => nomatch h
    | cons y r ih =>
      obtain ⟨y, k⟩ := y
      intro n x c h
      unfold cellsFrom at h
      split at h
      · rename_i isC
        rw [cells_app] at h
        obtain h | h := List.mem_append.mp h
        · obtain ⟨h1, h2⟩ := ih _ _ _ h
          exact ⟨by omega, List.mem_cons_of_mem _ h2⟩
        · cases List.mem_singleton.mp h
          have : k = NameKind.cell := by simpa using isC
          rw [this]
          exact ⟨Nat.le_refl _, List.mem_cons_self⟩
      · obtain ⟨h1, h2⟩ := ih _ _ _ h
        exact ⟨h1, List.mem_cons_of_mem _ h2⟩
  exact in_ _ _ _ _ (PySem.mem_of_lookup h)
theorem at_split {L : Addr} {x : Str} {c : Addr} (h : (F.at_ L).cl.lookup x = some c) : (ownCells F L).lookup x = some c ∨ F.cl.lookup x = some c := by
  have h : (ownCells F L ++ F.cl).lookup x = some c := h
  rw [List.lookup_append] at h
  cases e : (ownCells F L).lookup x with
  | none =>
    rw [e] at h
    exact .inr h
  | some d =>
    rw [e] at h
    exact .inl h
theorem at_own {L : Addr} {x : Str} (h : F.scope.names.lookup x = some .cell) : ∃ c, (F.at_ L).cl.lookup x = some c ∧ L + 1 ≤ c := by
  obtain ⟨c, e⟩ := Option.isSome_iff_exists.mp (PySem.W.cellsFrom_some F.scope.names (L + 1) [] (x := x) (.inl h))
  refine ⟨c, ?_, (own_at e).1⟩
  show (ownCells F L ++ F.cl).lookup x = some c
  rw [List.lookup_append, e] <;> rfl
theorem at_free {L : Addr} {x : Str} {c : Addr} (S : CScope N ps fr F.scope) (hx : x ∈ fr) (h : F.cl.lookup x = some c) : (F.at_ L).cl.lookup x = some c := by
  show (ownCells F L ++ F.cl).lookup x = some c
  rw [List.lookup_append]
  cases e : (ownCells F L).lookup x with
  | none => exact h
  | some d => exact absurd hx (S.sep _ (own_at e).2 rfl)
theorem fenv_made {qual : Str} {func : Option Addr} {code : Value} {builtins globals : Addr} {Q : Env → Shared → Prop} {X : Value → Shared → Prop} (S : CScope N ps fr F.scope) (len : us.length = ps.length) (C : CellsAt F.cl fr ws s.heap H)
    (q : ∀ s', CStart ps us F s s' → Q (newEnv F.scope s.heap.objs.size globals (F.at_ s.heap.objs.size).cl qual func code none builtins) s') :
    wpAny (model P w) A (newFunctionEnv F.scope globals F.cl (ps.zip us) qual func code none builtins) Q X s := by
  have ndP : ps.Nodup := by
    have z := S.nd.sublist (List.take_sublist (ps.length + fr.length) N)
    rw [S.pre] at z
    exact (List.nodup_append.mp z).1
  simp only [Option.isSome_none, newFunctionEnv, if_false, Bool.false_eq_true]
  refine wpAny_bind ?_
  refine wpAny_alloc ?_
  refine wpAny_bind (wpAny_layCells _ (fun x kd have_ => by cases isC : kd == NameKind.cell <;> simp [isC]) _ _ _ _ ?_)
  have laid := cellsFrom_ok F.scope.names (s.heap.push { cls := .type "frame", data := .dict #[] }) (s.heap.objs.size + 1) [] ⟨fun _ _ no => (nomatch no), List.Pairwise.nil⟩ (by rw [Heap.size_push]; exact Nat.le_refl _)
  rw [Heap.size_push] at laid
  rw [show ({ s with heap := s.heap.push { cls := .type "frame", data := .dict #[] } } : Shared).heap.objs.size = s.heap.objs.size + 1 from Heap.size_push .., cells_app]
  have old : ∀ b o, s.heap.get? b = some o → (pushCells (s.heap.push { cls := .type "frame", data := .dict #[] }) F.scope.names).get? b = some o := fun b o e => pushCells_keeps _ _ b o (Heap.get?_push_of_some _ e)
  have small : ∀ x c, F.cl.lookup x = some c → c < s.heap.objs.size := fun x c e => let ⟨_, z⟩ := (C.all x c e).2; z.lt
  have cells : ∀ x c, (F.at_ s.heap.objs.size).cl.lookup x = some c → ∃ v, (pushCells (s.heap.push { cls := .type "frame", data := .dict #[] }) F.scope.names).IsCell c v := fun x c e => by
    rcases at_split e with e | e
    · exact ⟨_, (laid.empty x c (PySem.mem_of_lookup e)).1⟩
    · obtain ⟨v, z⟩ := (C.all x c e).2
      exact ⟨v, z.keeps old⟩
  have inj : ∀ x y c, (F.at_ s.heap.objs.size).cl.lookup x = some c → (F.at_ s.heap.objs.size).cl.lookup y = some c → x = y := fun x y c e1 e2 => by
    rcases at_split e1 with e1 | e1 <;> rcases at_split e2 with e2 | e2
    · exact name_of_addr laid.apart (PySem.mem_of_lookup e1) (PySem.mem_of_lookup e2)
    · exact absurd (Nat.lt_of_lt_of_le (small y c e2) (Nat.le_of_succ_le (own_at e1).1)) (Nat.lt_irrefl _)
    · exact absurd (Nat.lt_of_lt_of_le (small x c e1) (Nat.le_of_succ_le (own_at e2).1)) (Nat.lt_irrefl _)
    · exact C.inj x y c e1 e2
  have off : ∀ x c, (F.at_ s.heap.objs.size).cl.lookup x = some c → c ≠ s.heap.objs.size := fun x c e => by
    rcases at_split e with e | e
    · exact Nat.ne_of_gt (own_at e).1
    · exact Nat.ne_of_lt (small x c e)
  have start : BoundSt s (newEnv F.scope s.heap.objs.size globals (F.at_ s.heap.objs.size).cl qual func code none builtins) [] { s with heap := pushCells (s.heap.push { cls := .type "frame", data := .dict #[] }) F.scope.names } :=
    ⟨_, s.toks, _, rfl, (Heap.Ns.new s.heap (.type "frame")).keeps (pushCells_keeps _ _), old, cells, fun _ _ no => nomatch no⟩
  refine wpAny_bind (bind_all (s0 := s) (env := newEnv F.scope s.heap.objs.size globals (F.at_ s.heap.objs.size).cl qual func code none builtins) S.kind _ (fun _ _ _ => rfl) inj (Nat.le_refl _) off (ps.zip us) [] _ _ ?_ start (fun x hx => ?_) fun s' b => wpAny_pure (q s' ?_))
  · rw [List.nil_append, List.map_fst_zip (by omega)]
    exact ndP
  · rcases S.par x.1 (List.of_mem_zip (a := x.1) (b := x.2) hx).1 with z | z
    · exact .inl z
    · obtain ⟨c, h1, h2⟩ := at_own (F := F) (L := s.heap.objs.size) z
      exact .inr ⟨z, c, h1, Nat.le_of_succ_le h2⟩
  · rw [List.nil_append] at b
    exact ⟨inj, b.st⟩
end
end CloX

set_option maxHeartbeats 2000000
namespace CloX
open PySem PySem.Spec PyProof.Rows L2 LamX NdefX Tg
open Classical
section
variable {CX : CXT} {P : Program} {w : World} {K : PySem.W.Frag} {mg : Str → Option Value} {base : Heap} {N ps fr : List Str} {F : LF} {f : Addr} {A : Around} {outer : List Env} {s : Shared} {H : Hp} {E : XK} {us : List Value} {vs : List V} {ws : List (Option V)} {k : Nat} {sp : List (Option V) → Sp}
theorem inv_startC {s1 : Shared} (S : CScope N ps fr F.scope) (calm : A.handled = none) (e0 : Env0 P w K mg base A outer s H) (size : vs.length = ps.length) (vals : Vals vs us) (C : CellsAt F.cl fr ws s.heap H) (x : CStart ps us F s s1) :
    Inv (ncx CX P w K mg base N (F.at_ s.heap.objs.size).nf f A outer s H E) [] (startF N vs ws) H s1 := by
  obtain ⟨h, tk, m, rfl, ns, old, cells, here⟩ := x.st
  have wide : ps.length + fr.length ≤ N.length := by
    have z := congrArg List.length S.pre
    rw [List.length_take, List.length_append] at z
    omega
  have noA : ∀ b : Addr, b ∉ (ncx CX P w K mg base N (F.at_ s.heap.objs.size).nf f A outer s H E).ex := fun b z => absurd (show b ∈ ([] : List Addr) from z) List.not_mem_nil
  have clen := C.len
  refine ⟨⟨e0.mod, S.kind, rfl, rfl, Nat.le_refl _, x.inj, fun y hy => ?has, (fun y c no _ => Bool.noConfusion (show false = true from no)), fun _ => calm, Around.frames_deeper e0.frames, .inr ⟨rfl, rfl⟩, fun b z => absurd z (noA b), e0.bs, e0.bsz, fun b _ _ => noA b, fun b z => absurd z (noA b), e0.funs, e0.frf⟩,
    rfl, e0.bare, Un.kept old, ⟨m, ns, fun i y v e1 e2 e3 => ?loc⟩, cells, e0.hok.fresh (Nat.le_refl _), fun y c e => ?out, fun q hq => absurd (show q ∈ ([] : List (Addr × Obj)) ++ [] from hq) (by simp), e0.hok.kept old, ?size⟩
  case has =>
    have hy : F.scope.names.lookup y = some .cell ∨ F.scope.names.lookup y = some .free := hy
    rcases hy with hy | hy
    · obtain ⟨c, e, _⟩ := at_own (F := F) (L := s.heap.objs.size) hy
      exact ⟨c, e⟩
    · have inF := S.free _ (PySem.mem_of_lookup hy) rfl
      obtain ⟨i, hi⟩ := List.mem_iff_getElem?.mp inF
      obtain ⟨c, atC, _⟩ := C.has i y hi
      exact ⟨c, at_free S inF atC⟩
  case out =>
    rcases at_split e with e | e
    · exact e0.hok.fresh (Nat.le_of_succ_le (own_at e).1)
    · exact (C.all y c e).1
  case size =>
    show (startF N vs ws).length = N.length
    unfold startF
    simp only [List.length_append, List.length_map, List.length_replicate]
    omega
  case loc =>
    have e1 : N[i]? = some y := e1
    unfold startF at e2
    by_cases first : i < ps.length + fr.length
    · have named : (ps ++ fr)[i]? = some y := by
        rw [← S.pre, List.getElem?_take_of_lt first]
        exact e1
      by_cases isP : i < ps.length
      · rw [List.getElem?_append_left isP] at named
        rw [List.getElem?_append_left (by simp only [List.length_map]; omega)] at e2
        rw [List.getElem?_map] at e2
        obtain ⟨v1, hv, e3⟩ := Option.map_eq_some_iff.mp e2
        cases e3
        obtain ⟨u, hu, rv⟩ := vals.get hv
        have both : (y, u) ∈ ps.zip us := List.mem_of_getElem? (i := i) ((List.getElem?_zip_eq_some (z := (y, u))).mpr ⟨named, hu⟩)
        refine ⟨u, rv, ?_⟩
        rcases here y u both with ⟨k1, k2⟩ | ⟨k1, k2⟩
        · exact .inl ⟨k1, k2⟩
        · exact .inr ⟨.inl k1, k2⟩
      · rw [List.getElem?_append_right (by omega)] at named
        rw [List.getElem?_append_right (by rw [List.length_map]; omega), List.length_map, List.getElem?_append_left (by omega), size] at e2
        obtain ⟨c, hc, hv⟩ := C.has (i - ps.length) y named
        obtain ⟨u, ru, hu⟩ := hv v e2
        have inF := List.mem_of_getElem? named
        exact ⟨u, ru, .inr ⟨.inr (S.frk y inF), c, at_free S inF hc, hu.keeps old⟩⟩
    · rw [List.getElem?_append_right (by rw [List.length_map]; omega), List.length_map, List.getElem?_append_right (by omega), List.getElem?_replicate] at e2
      split at e2 <;> cases e2
/-- such a lambda by its body -/
theorem lok_ofC (S : CScope N ps fr F.scope) (binds : ∀ (pm ctv : Value) (us : List Value), us.length = ps.length → bindArgs (PySem.W.kla_fn "<lambda>" F.qual F.params F.body F.scope F.cl pm (.ref F.c) ctv) ⟨us, []⟩ = pure (ps.zip us)) (many : ∀ ws vs H Q E, sp ws vs H Q E → vs.length = ps.length)
    (body : ∀ (A : Around) (outer : List Env) (s : Shared) (H : Hp) (vs : List V) (ws : List (Option V)) (Q : VK) (E : XK), Room k (A.deeper (envF (F.at_ s.heap.objs.size).nf f s.heap.objs.size)) → ws.length = fr.length → sp ws vs H Q E →
      ∃ t, PE (ncx CX0 P w K mg base N (F.at_ s.heap.objs.size).nf f A outer s H E) F.body t ∧ t (startF N vs ws) H Q) :
    LOk P w K mg base (k + 1) f F ps fr sp := by
  refine ⟨many, fun A outer s H us vs ws Q E room here is_f is_c C vals told => ?_⟩
  have size := many _ _ _ _ _ told
  have lenU : us.length = ps.length := by rw [← vals.length]; exact size
  have lim : s.heap.NoLimit := here.mod.nolimit.keeps fun b o e => (here.bs b o e).1
  obtain ⟨pm, ctv, at_f⟩ := lamO_at here.hok is_f
  refine PySem.W.kla_callFunE room.depth at_f rfl S.co S.gen rfl (codeO_at here.hok is_c) ?_
  rw [binds pm ctv us lenU]
  refine wpAny_pure (fenv_made S lenU C fun s1 x => ?_)
  obtain ⟨t, reads, wants⟩ := body A outer s H vs ws Q E (room.deeper _) C.len told
  have I := inv_startC (CX := CX0) (f := f) (E := E) S room.hd here size vals C x
  obtain ⟨h, tk, m, e1, ns, old, cells, bound⟩ := x.st
  refine ⟨by rw [e1]; exact lim.keeps old, ?_⟩
  show codeAny _ _ (.expr F.body (envF (F.at_ s.heap.objs.size).nf f s.heap.objs.size)) _ _
  refine PySem.W.kla_codeExpr (wpAny_mono (reads.run [] _ _ H Q I wants) (fun v s' done => ?_) fun e s' done => done)
  obtain ⟨w', H', J, rv, q⟩ := done
  exact ⟨w', H', J.os, J.bare, J.base, J.hok, rv, q⟩
end
end CloX

set_option maxHeartbeats 2000000
namespace Tg
open PySem PySem.Spec PyProof.Rows L2
/-! ### points by their cells -/
abbrev sBC : Stmt := topS 22
abbrev NBC : List Str := ["points", "width", "groups", "time", "worth", "start", "group"]
theorem scBC : FnScope NBC ["points", "width"] (defScope sBC) := ⟨rfl, rfl, rfl, by decide +kernel, rfl, by decide +kernel, by decide +kernel⟩
/-- the points of a cell -/
def inC (x s : Int) (ps : List Pt) : List Pt := ps.filter fun p => decide (p.1 - p.1 % x = s)
theorem inC_snoc {x s : Int} {ps : List Pt} {p : Pt} : inC x s (ps ++ [p]) = if p.1 - p.1 % x = s then inC x s ps ++ [p] else inC x s ps := by
  unfold inC
  rw [List.filter_append, List.filter_cons, List.filter_nil]
  split
  · rename_i h
    rw [if_pos (of_decide_eq_true h)]
  · rename_i h
    rw [if_neg (fun z => h (decide_eq_true z)), List.append_nil]
/-- groups by cell: each a list of its own, at lf -/
structure GrC (K : PySem.W.Frag) (H : Hp) (g : Addr) (x : Int) (ps : List Pt) (ks : List Int) (lf : Int → Addr) : Prop where
  d : DcI H g ks fun s v => v = .ref (lf s)
  l : ∀ s, s ∈ ks → lf s ≠ g ∧ LD K H (lf s) ((inC x s ps).map pd)
  inj : ∀ s t, s ∈ ks → t ∈ ks → lf s = lf t → s = t
theorem GrC.app {K : PySem.W.Frag} {H : Hp} {g u : Addr} {x s0 : Int} {p : Pt} {ps : List Pt} {ks : List Int} {lf : Int → Addr} {xs : List V} (G : GrC K H g x ps ks lf) (h0 : s0 ∈ ks) (e : p.1 - p.1 % x = s0) (hx : H (lf s0) = some (.lst xs)) (dx : DpAll K H xs ((inC x s0 ps).map pd)) (hu : H u = some (.tup [.int p.1, .int p.2])) :
    GrC K (upd H (lf s0) (.lst (xs ++ [.ref u]))) g x (ps ++ [p]) ks lf := by
  obtain ⟨n0, _⟩ := G.l s0 h0
  refine ⟨?_, fun s hs => ⟨(G.l s hs).1, ?_⟩, G.inj⟩
  · obtain ⟨kvs, h, dk⟩ := G.d.k
    exact dk.at_ ((upd_ne n0.symm).trans h)
  · by_cases c : s = s0
    · rw [c, inC_snoc, if_pos e, List.map_append]
      exact .snoc (KT.refl _) hx dx (td_pds _) (.tup (SqT.of hu) (.cons (.int _) (.cons (.int _) .nil))) (td_pd p)
    · rw [inC_snoc, if_neg fun z => c (z.symm.trans e)]
      have ne : lf s ≠ lf s0 := fun z => c (G.inj s s0 hs h0 z)
      exact (G.l s hs).2.kt (KT.put hx nfix_lst) (fun o z => (upd_ne ne).trans z) (td_pds _)
theorem GrC.same {K : PySem.W.Frag} {H H' : Hp} {g : Addr} {x : Int} {ps : List Pt} {ks : List Int} {lf : Int → Addr} (G : GrC K H g x ps ks lf) (s : Same H H') : GrC K H' g x ps ks lf :=
  ⟨let ⟨kvs, h, dk⟩ := G.d.k; dk.at_ (s _ _ h), fun t ht => ⟨(G.l t ht).1, (G.l t ht).2.same s⟩, G.inj⟩
/-- a group more, still empty -/
theorem GrC.more {K : PySem.W.Frag} {H : Hp} {g l0 : Addr} {x s0 : Int} {ps : List Pt} {ks : List Int} {lf : Int → Addr} {kvs : List (Key × V)} (G : GrC K H g x ps ks lf) (hg : H g = some (.dK kvs)) (n0 : s0 ∉ ks) (em : inC x s0 ps = []) (hl : H l0 = some (.lst [])) (fr : ∀ s, s ∈ ks → lf s ≠ l0) :
    GrC K (upd H g (.dK (putK kvs (.inl s0) (.ref l0)))) g x ps (addS ks s0) (fun s => if s = s0 then l0 else lf s) := by
  have gl : l0 ≠ g := fun z => by
    rw [z, hg] at hl
    cases hl
  obtain ⟨kv2, h2, dk⟩ := G.d.k
  rw [hg] at h2
  cases h2
  refine ⟨(dk.put (R2 := fun s v => v = .ref (if s = s0 then l0 else lf s)) (by rw [if_pos rfl]) fun z u ne _ h => by rw [if_neg ne]; exact h).at_ upd_same, fun s hs => ?_, fun s t hs ht e => ?_⟩
  · by_cases c : s = s0
    · rw [if_pos c, c, em]
      exact ⟨gl, [], (upd_ne gl).trans hl, .nil⟩
    · rw [if_neg c]
      have hs := (mem_addS.mp hs).resolve_right c
      obtain ⟨h1, h2⟩ := G.l s hs
      exact ⟨h1, h2.kt (KT.put hg nfix_dK) (fun o z => (upd_ne h1).trans z) (td_pds _)⟩
  · by_cases c : s = s0 <;> by_cases d : t = s0
    · rw [c, d]
    · rw [if_pos c, if_neg d] at e
      exact absurd e.symm (fr t ((mem_addS.mp ht).resolve_right d))
    · rw [if_neg c, if_pos d] at e
      exact absurd e (fr s ((mem_addS.mp hs).resolve_right c))
    · rw [if_neg c, if_neg d] at e
      exact G.inj s t ((mem_addS.mp hs).resolve_right c) ((mem_addS.mp ht).resolve_right d) e
theorem inC_sel {x s : Int} {ps : List Pt} (up : (ps.map (·.1)).Pairwise (· < ·)) : Sel ps (fun t => t - t % x = s) (inC x s ps) :=
  ⟨List.pairwise_map.mpr ((List.pairwise_map.mp up).filter _), fun p => by
    unfold inC
    rw [List.mem_filter, decide_eq_true_iff]⟩
theorem inC_cell {x s : Int} {ps : List Pt} (x0 : 0 < x) (sm : s % x = 0) (up : (ps.map (·.1)).Pairwise (· < ·)) (okp : TbOk ps) : fOf (inC x s ps) = cellF ps x s := by
  have z := inC_sel (x := x) (s := s) up
  exact Sel.cell okp.nd ⟨z.up, fun p => (z.all p).trans (and_congr_right fun _ => cell_iff x0 sm)⟩
section
variable {P : Program} {w : World} {K : PySem.W.Frag} {mg : Str → Option Value} {base : Heap} {CF : Addr}
def spBC (K : PySem.W.Frag) (CF : Addr) : Sp := fun vs H Q _ => ∃ (l : Addr) (x : Int) (ps : List Pt), vs = [.ref l, .int x] ∧ LD K H l (ps.map pd) ∧ (ps.map (·.1)).Pairwise (· < ·) ∧ TbOk ps ∧ 0 < x ∧ ps.length ≤ 900 ∧
  ∀ r ks H', Same H H' → H r = none → (∀ s, s ∈ ks ↔ ∃ p, p ∈ ps ∧ p.1 - p.1 % x = s) → ks.length ≤ ps.length → DcI H' r ks (FoR K CF H' (cellF ps x)) → Q (.ref r) H'
set_option maxHeartbeats 4000000 in
theorem ok_bc {f : Addr} {fd : FuncData} {k : Nat} (F : Fun K "folds_by_cell" "folds_by_cell" sBC f fd) (C_cell_of : Cal P w K mg base k "cell_of" ["time", "width"] spCell) (C_fold_of : Cal P w K mg base k "fold_of" ["points"] (spFO K CF)) : FnOk P w K mg base CX0 (k + 1) f fd ["points", "width"] (spBC K CF) := by
  refine F.ok scBC (fun vs H Q E h => ?_) (fun cdv A outer s H vs Q E hr h => ?_)
  · obtain ⟨l, x, ps, rfl, _⟩ := h
    rfl
  · obtain ⟨l, x, ps, rfl, ldl, up, okp, x0, few, q⟩ := h
    have hu := hu_of hr
    refine ⟨_, pss_cons (ps_set (i := 2) scBC.nd rfl (.inl rfl) pe_dnewK)
      (pss_cons (ps_for PassesOwn.never rfl (pi_list (pv 0)) (pg_tup rfl (pgs_cons (pg_name (i := 3) scBC.nd rfl (.inl rfl)) (pgs_cons (pg_name (i := 4) scBC.nd rfl (.inl rfl)) pgs_nil)))
        (pss_one (ps_expr (pe_bm PySem.F.plainAttrs_list PySem.F.slot_list_append PySem.F.type_list_append mt_append (pe_dsetd (pv 2) (pe_cal C_cell_of (hr.mono (by omega)) (by rfl) (pa_cons (pv 3) (pa_cons (pv 1) pa_nil))) (pe_lst pa_nil) ⟨rfl, rfl, rfl, rfl⟩) (pa_cons (pe_tup (pa_cons (pv 3) (pa_cons (pv 4) pa_nil))) pa_nil)))))
      (pss_one (ps_ret (pe_lock (pe_dc (own := [("start", 5), ("group", 6)]) (g := (gTup K 2 (gCons (gName 5) (gCons (gName 6) gNil)))) (tt := tYes) rfl scBC.nd (pi_items (pv 2)) (blkOk_by (own := [("start", 5), ("group", 6)]) (N := NBC) (sc := defScope sBC) (by decide +kernel)) (fun _ _ _ _ _ => (pg_tup rfl (pgs_cons (pg_name (i := 5) scBC.nd rfl (.inl rfl)) (pgs_cons (pg_name (i := 6) scBC.nd rfl (.inl rfl)) pgs_nil)))) (fun _ _ _ _ _ => pts_nil) (fun _ _ _ _ _ => (pv 5)) (fun _ _ _ _ _ => (pe_cal C_fold_of (hr.mono (by omega)) (by rfl) (pa_cons (pv 6) pa_nil)))))))), ?_⟩
    intro g ng
    have s0 := same_new (o := .dK []) ng
    obtain ⟨H1, e1⟩ : ∃ H1, upd H g (.dK []) = H1 := ⟨_, rfl⟩
    have hg1 : H1 g = some (.dK []) := by
      rw [← e1]
      exact upd_same
    rw [e1] at s0 ⊢
    obtain ⟨xs, hl, dl⟩ := ldl
    have lx := dl_len dl
    refine ⟨_, rfl, l, rfl, ⟨_, SqL.of (s0 _ _ hl)⟩, for_list (K := K) (a := l) (xs := xs) (fun i σ Hc => ∃ z3 z4 : Option V, σ = [some (.ref l), some (.int x), some (.ref g), z3, z4, none, none] ∧ Same H Hc ∧ ∃ ks lf, GrC K Hc g x (ps.take i) ks lf ∧ (∀ s, s ∈ ks → H (lf s) = none) ∧ (∀ s, s ∈ ks ↔ ∃ p, p ∈ ps.take i ∧ p.1 - p.1 % x = s) ∧ ks.length ≤ i)
      ⟨none, none, rfl, s0, [], fun _ => g, ⟨DcK.nil.at_ hg1, (fun _ h => absurd h List.not_mem_nil), (fun _ _ h => absurd h List.not_mem_nil)⟩, (fun _ h => absurd h List.not_mem_nil), (fun s => ⟨fun h => absurd h List.not_mem_nil, fun ⟨_, h, _⟩ => absurd h List.not_mem_nil⟩), Nat.le_refl _⟩ (fun i σ Hc _ ⟨_, _, _, sc, _⟩ => SqL.of (sc _ _ hl)) ?_ ?_⟩
    · rintro i v σ Hc hv ⟨z3, z4, rfl, sc, ks, lf, G, fr, mem, len⟩
      obtain ⟨p0, ep, dq⟩ := dl_at dl hv
      obtain ⟨ta, rfl, hta⟩ := dp_pd dq
      have il : i < ps.length := (List.getElem?_eq_some_iff.mp ep).1
      have tk : ps.take (i + 1) = ps.take i ++ [p0] := take_snoc ep
      obtain ⟨kvs, hg, dk⟩ := G.d.k
      have lk := dk.len
      refine ⟨ta, _, rfl, sqT_same sc hta, rfl, _, _, rfl, _, _, rfl, rfl, ?_⟩
      refine ⟨_, rfl, g, rfl, .inl ⟨_, .inl hg⟩, _, rfl, _, rfl, p0.1, x, rfl, x0, ?_⟩
      refine ⟨Nat.zero_le _, fun l0 nl0 => ?_⟩
      have s1 := same_new (o := .lst []) nl0
      obtain ⟨H2, e2⟩ : ∃ H2, upd Hc l0 (.lst []) = H2 := ⟨_, rfl⟩
      have hl02 : H2 l0 = some (.lst []) := by
        rw [← e2]
        exact upd_same
      rw [e2] at s1 ⊢
      have nl0H : H l0 = none := sc.free nl0
      have G2 := G.same s1
      obtain ⟨s0, es0⟩ : ∃ s0, p0.1 - p0.1 % x = s0 := ⟨_, rfl⟩
      rw [es0]
      refine ⟨kvs, .inl s0, s1 _ _ hg, rfl, small1000 (by omega), fun v ev => ?hit, fun ev => ?miss⟩
      case' hit =>
        have in0 : s0 ∈ ks := Decidable.byContradiction fun no => by
          rw [dk.miss no] at ev
          cases ev
        obtain ⟨v2, ev2, rfl⟩ := dk.all s0 in0
        rw [ev] at ev2
        cases ev2
        have G3 := G2
        have sm := sc.trans s1
        have fr3 := fr
        have mem3 : ∀ s, s ∈ ks ↔ (∃ p, p ∈ ps.take i ∧ p.1 - p.1 % x = s) ∨ s = s0 := fun s => (mem s).trans ⟨.inl, fun h => h.elim id fun e => (mem s).mp (e ▸ in0)⟩
        have len3 : ks.length ≤ i + 1 := by omega
      case' miss =>
        have out0 : s0 ∉ ks := fun no => by
          obtain ⟨v2, ev2, _⟩ := dk.all s0 no
          rw [ev] at ev2
          cases ev2
        have em : inC x s0 (ps.take i) = [] := by
          unfold inC
          exact List.filter_eq_nil_iff.mpr fun p hp z => out0 ((mem s0).mpr ⟨p, hp, of_decide_eq_true z⟩)
        have fresh : ∀ s, s ∈ ks → lf s ≠ l0 := fun s hs z => by
          obtain ⟨_, _, h, _⟩ := G.l s hs
          rw [z, nl0] at h
          cases h
        have G3 := G2.more (s1 _ _ hg) out0 em hl02 fresh
        have sm : Same H (upd H2 g (.dK (putK kvs (.inl s0) (.ref l0)))) := same_put ng (sc.trans s1)
        have in0 : s0 ∈ addS ks s0 := mem_addS.mpr (.inr rfl)
        have fr3 : ∀ s, s ∈ addS ks s0 → H (if s = s0 then l0 else lf s) = none := fun s hs => by
          by_cases c : s = s0
          · rw [if_pos c]
            exact nl0H
          · rw [if_neg c]
            exact fr s ((mem_addS.mp hs).resolve_right c)
        have mem3 : ∀ s, s ∈ addS ks s0 ↔ (∃ p, p ∈ ps.take i ∧ p.1 - p.1 % x = s) ∨ s = s0 := fun s => mem_addS.trans (or_congr_left (mem s))
        have len3 : (addS ks s0).length ≤ i + 1 := Nat.le_trans len_addS (by omega)
        obtain ⟨lf3, elf⟩ : ∃ lf3, (fun s => if s = s0 then l0 else lf s) = lf3 := ⟨_, rfl⟩
        have el0 : l0 = lf3 s0 := by
          rw [← elf]
          exact (if_pos rfl).symm
        have fr3 : ∀ s, s ∈ addS ks s0 → H (lf3 s) = none := by
          rw [← elf]
          exact fr3
        rw [elf] at G3
        obtain ⟨H3, e3⟩ : ∃ H3, upd H2 g (.dK (putK kvs (.inl s0) (.ref l0))) = H3 := ⟨_, rfl⟩
        rw [e3] at G3 sm ⊢
        rw [el0]
      all_goals
        obtain ⟨nlg, xl, hxl, dxl⟩ := G3.l s0 in0
        have lxl := dl_len dxl
        have lin : (inC x s0 (ps.take i)).length ≤ i := by
          unfold inC
          refine Nat.le_trans (List.length_filter_le _ _) ?_
          rw [List.length_take]
          omega
        refine ⟨.inl ⟨rfl, _, SqL.of hxl⟩, _, rfl, _, rfl, (by show 2 ≤ sizeLine; decide), fun u nu => ?_⟩
        have su := same_new (o := .tup [.int p0.1, .int p0.2]) nu
        have G4 := G3.same su
        have lne := fr3 s0 in0
        refine ⟨_, _, _, rfl, rfl, su _ _ hxl, small1000 (by omega), _, _, rfl, same_put lne (sm.trans su), _, _, ?_, fr3, fun s => ?_, len3⟩
        · rw [tk]
          exact G4.app in0 es0 (su _ _ hxl) (dpAll_same su dxl) upd_same
        · rw [mem3 s, tk]
          constructor
          · rintro (⟨p, h1, h2⟩ | rfl)
            · exact ⟨p, List.mem_append_left _ h1, h2⟩
            · exact ⟨p0, List.mem_append_right _ (List.mem_singleton.mpr rfl), es0⟩
          · rintro ⟨p, h1, h2⟩
            rcases List.mem_append.mp h1 with h1 | h1
            · exact .inl ⟨p, h1, h2⟩
            · rw [List.mem_singleton.mp h1] at h2
              exact .inr (h2.symm.trans es0)
    · rintro σ Hc ⟨z3, z4, rfl, sc, ks, lf, G, fr, mem, len⟩
      rw [lx, List.take_length] at G mem
      rw [lx] at len
      obtain ⟨kvs, hg, dk⟩ := G.d.k
      refine ⟨g, _, hg, trivial, fun od => ?_⟩
      obtain ⟨H2, e2⟩ : ∃ H2, upd Hc g (.frz od (.dK kvs)) = H2 := ⟨_, rfl⟩
      have h2 : H2 g = some (.frz od (.dK kvs)) := by
        rw [← e2]
        exact upd_same
      rw [e2]
      refine ⟨_, rfl, g, od, _, rfl, h2, fun D nD => ?_⟩
      have gD : g ≠ D := ne_of_none h2 nD
      have nDc : Hc D = none := by
        rw [← e2, upd_ne gD.symm] at nD
        exact nD
      have sD := same_new (o := .dK []) nD
      have old : ∀ b o, b ≠ g → Hc b = some o → H2 b = some o := fun b o n h => by
        rw [← e2, upd_ne n]
        exact h
      have kt2 : KT Hc H2 := by
        rw [← e2]
        exact KT.put hg nfix_dK
      refine walked_w walk_items (fun i Hd => Same H2 Hd ∧ DcI Hd D (ks.take i) (FoR K CF Hd (cellF ps x))) ⟨sD, DcK.nil.at_ upd_same⟩ (fun i Hd _ h => h.1 _ _ h2) ?_ ?_
      · rintro i y Hd He hi ⟨sd, dg⟩ ⟨T0, x1, x2, rfl, nT, rfl, f1, f2⟩
        obtain ⟨kv, ekv, rfl⟩ := Option.map_eq_some_iff.mp f1
        dsimp only at ekv f2
        rw [ekv] at f2
        obtain ⟨kk, vv⟩ := kv
        cases f2
        obtain ⟨s0, rfl, es, sin, rfl⟩ := dk.item ekv
        have sT : Same Hd (upd Hd T0 (.tup [kV (.inl s0), .ref (lf s0)])) := same_new nT
        have tk : ks.take (i + 1) = ks.take i ++ [s0] := take_snoc es
        have sm : s0 % x = 0 := by
          obtain ⟨p, _, e⟩ := (mem s0).mp sin
          rw [← e]
          exact cell_mod p.1 x
        obtain ⟨nlg, xl, hxl, dxl⟩ := G.l s0 sin
        have sdT := sd.trans sT
        have lxl : LD K Hc (lf s0) ((inC x s0 ps).map pd) := ⟨xl, hxl, dxl⟩
        have ld2 : LD K H2 (lf s0) ((inC x s0 ps).map pd) := lxl.kt kt2 (fun o e => old _ _ nlg e) (td_pds _)
        obtain ⟨xl3, h3, d3⟩ := ld2.same sdT
        have sel := inC_sel (x := x) (s := s0) up
        refine ⟨T0, _, rfl, SqT.of upd_same, rfl, _, _, rfl, _, _, rfl, rfl, rfl, yes_b (if_t ⟨_, rfl, _, rfl, lf s0, inC x s0 ps, rfl, ⟨xl3, SqL.of h3, d3⟩, sel.ok okp, fun a H6 s6 fa => ?_⟩)⟩
        rw [inC_cell x0 sm up okp] at fa
        obtain ⟨gvs, hD, gk⟩ := dg.k
        have hD6 := s6 _ _ (sT _ _ hD)
        have lke := gk.len
        have ltk : (ks.take i).length ≤ i := by
          rw [List.length_take]
          omega
        have ik : i < ks.length := (List.getElem?_eq_some_iff.mp es).1
        refine ⟨gvs, .inl s0, rfl, hD6, small1000 (by omega), same_put nD (sdT.trans s6), ?_⟩
        have ea : addS (ks.take i) s0 = ks.take (i + 1) := by
          unfold addS
          rw [if_neg (not_take dk.nd es), tk]
        rw [← ea]
        exact (gk.put (R2 := FoR K CF (upd H6 D (.dK (putK gvs (.inl s0) (.ref a)))) (cellF ps x)) ⟨a, rfl, fa.hk (.put hD6 soft_dK)⟩ fun _ _ _ _ h => (h.same (sT.trans s6)).hk (.put hD6 soft_dK)).at_ upd_same
      · rintro Hd ⟨sd, dg⟩
        have lke := dk.len
        rw [lke, List.take_length] at dg
        have hd2 := sd _ _ h2
        refine ⟨hd2, ?_⟩
        obtain ⟨gvs, hD, gk⟩ := dg.k
        refine q D ks _ (fun b o h => ?_) (sc.free nDc) mem len ((gk.imp fun _ _ _ h => h.hk (.put hd2 soft_frz)).at_ ((upd_ne gD.symm).trans hD))
        by_cases z : b = g
        · rw [z, ng] at h
          cases h
        · rw [upd_ne z]
          exact sd _ _ (old _ _ z (sc _ _ h))
end
end Tg

set_option maxHeartbeats 2000000
namespace Tg
open PySem PySem.Spec PyProof.Rows L2
/-! ### whether grains are right of points -/
abbrev sRi : Stmt := inClass (topS 25) 6
abbrev NRi : List Str := ["self", "place", "points", "width", "told", "left", "start"]
theorem scRi : FnScope NRi ["self", "place", "points"] (defScope sRi) := ⟨rfl, rfl, rfl, by decide +kernel, rfl, by decide +kernel, by decide +kernel⟩
/-- of a width -/
def RightX (S : Gs) (p : Int) (ps : List Pt) (x : Int) : Prop := (∀ s, (s ∈ S.ss p x ∧ 0 < (S.cf p x s).1.cnt) ↔ ((∃ q, q ∈ ps ∧ q.1 - q.1 % x = s) ∧ S.gone x s = false)) ∧ ∀ s, s ∈ S.ss p x → 0 < (S.cf p x s).1.cnt → (S.cf p x s).1 = cellF ps x s
def RightP (S : Gs) (p : Int) (ps : List Pt) : Prop := ∀ x, x ∈ S.ws → RightX S p ps x
/-! dicts of folds compared -/
abbrev DFo (K : PySem.W.Frag) (CF : Addr) : Eqb := DInsB CF (EqF K CF)
theorem hk_nd {CF : Addr} {H H' : Hp} (s : NoD H H') : HK CF H H' := fun b o e h => s b o (fun kvs z => soft_dK (z ▸ h)) e
theorem mono_fo {K : PySem.W.Frag} {CF : Addr} : MonB (DFo K CF) := fun x y b H H' s ⟨a, c, dx, dy, fs, gs, h1, h2, h3, h4, c2, FA, FB, e1, f1, f2, e2⟩ =>
  ⟨a, c, dx, dy, fs, gs, h1, h2, s _ _ (fun _ z => nomatch z) h3, s _ _ (fun _ z => nomatch z) h4, c2, FA, FB, e1, f1.hk (hk_nd s), f2.hk (hk_nd s), e2⟩
theorem fold_met {K : PySem.W.Frag} {CF : Addr} {H : Hp} {a c : Addr} {FA FB : FD} (f1 : FdO K CF H a FA) (f2 : FdO K CF H c FB) : DFo K CF (.ref a) (.ref c) (PyData.eqv (fd9 FA) (fd9 FB)) H := by
  obtain ⟨d1, v1, w1, e1, g1⟩ := id f1
  obtain ⟨d2, v2, w2, e2, g2⟩ := id f2
  exact ⟨a, c, d1, d2, _, _, rfl, rfl, e1, e2, c, FA, FB, rfl, f1, f2, rfl⟩
/-- what one object tells -/
theorem fold_own {X : Cx} {CF : Addr} (pins : List (Addr × Obj)) (s : Shared) (σ : L2.St) (H : Hp) (a : Addr) (b : Bool) (I : Inv X pins σ H s) (h : EqF X.K CF a (.ref a) b H) : b = true := by
  obtain ⟨c, FA, FB, e, ⟨d1, v1, w1, e1, p1, q1⟩, ⟨d2, v2, w2, e2, p2, q2⟩, rfl⟩ := h
  cases e
  rw [e1] at e2
  obtain ⟨_, _, e3⟩ := HO.ins.inj (Option.some.inj e2)
  unfold flds at e3
  simp only [List.cons.injEq, Prod.mk.injEq, true_and, and_true] at e3
  obtain ⟨h1, h2, h3, h4, h5, h6, h7, h8, h9⟩ := e3
  have vwi : ∀ {o p : Option Int}, vw o = vw p → o = p := fun {o p} h => by
    cases o <;> cases p
    · rfl
    · cases h
    · cases h
    · rw [V.int.inj h]
  have poi : ∀ {v : V} {o p : Option Pt}, PO X.K H v o → PO X.K H v p → o = p := fun {v o p} h k => by
    cases o with
    | none =>
      cases p with
      | none => rfl
      | some p =>
        obtain ⟨t, e, _⟩ := k
        rw [show v = .non from h] at e
        cases e
    | some o =>
      obtain ⟨t, rfl, ht⟩ := h
      cases p with
      | none => cases (show V.ref t = .non from k)
      | some p =>
        obtain ⟨u, e, hu⟩ := k
        cases e
        have z := I.tuple_inj ht hu
        simp only [List.cons.injEq, and_true] at z
        rw [Prod.ext (V.int.inj z.1) (V.int.inj z.2)]
  rw [← h6] at p2
  rw [← h7] at q2
  have e4 : FA = FB := by
    obtain ⟨a1, a2, a3, a4, a5, a6, a7, a8, a9⟩ := FA
    obtain ⟨b1, b2, b3, b4, b5, b6, b7, b8, b9⟩ := FB
    cases V.int.inj h1
    cases V.int.inj h2
    cases V.int.inj h3
    cases vwi h4
    cases vwi h5
    cases poi p1 p2
    cases poi q1 q2
    cases V.int.inj h8
    cases V.int.inj h9
    rfl
  exact (fd9_iff _ _).mpr e4
/-- two dicts of folds are alike just where they have the same starts and folds -/
theorem met_folds {K : PySem.W.Frag} {CF : Addr} {H : Hp} {ka kb : List (Key × V)} {sa sb : List Int} {fo go : Int → FD} (da : DcK ka sa (FoR K CF H fo)) (db : DcK kb sb (FoR K CF H go)) :
    ∃ r, MetV (DFo K CF) H kb ka r ∧ ((ka.length == kb.length && r) = true ↔ (∀ s, s ∈ sa ↔ s ∈ sb) ∧ ∀ s, s ∈ sa → fo s = go s) := by
  have all : ∀ l : List (Key × V), (∀ e, e ∈ l → ∃ s, e.1 = .inl s ∧ FoR K CF H fo s e.2) → ∃ r, MetV (DFo K CF) H kb l r ∧ (r = true ↔ ∀ e, e ∈ l → ∀ s, e.1 = .inl s → s ∈ sb ∧ fo s = go s) := fun l => by
    induction l with
    | nil => exact fun _ => ⟨true, .done, fun _ e he => absurd he List.not_mem_nil, fun _ => rfl⟩
    | cons e l ih =>
      intro h
      obtain ⟨r, m1, m2⟩ := ih fun z hz => h z (List.mem_cons_of_mem _ hz)
      obtain ⟨s, es, a, ea, fa⟩ := h e List.mem_cons_self
      obtain ⟨k, v⟩ := e
      have es : k = .inl s := es
      have ea : v = .ref a := ea
      subst es
      subst ea
      by_cases c : s ∈ sb
      · obtain ⟨u, eu, b, rfl, fb⟩ := db.all s c
        refine ⟨_, .met eu (fold_met fa fb) m1, ?_⟩
        rw [Bool.and_eq_true, fd9_iff, m2]
        constructor
        · rintro ⟨h1, h2⟩ z hz t et
          obtain rfl | hz := List.mem_cons.mp hz
          · cases et
            exact ⟨c, h1⟩
          · exact h2 z hz t et
        · exact fun h => ⟨(h _ List.mem_cons_self s rfl).2, fun z hz => h z (List.mem_cons_of_mem _ hz)⟩
      · exact ⟨false, .out (db.miss c), (fun z => nomatch z), fun h => absurd (h _ List.mem_cons_self s rfl).1 c⟩
  obtain ⟨r, m1, m2⟩ := all ka fun e he => by
    obtain ⟨i, hi⟩ := List.getElem?_of_mem he
    obtain ⟨k, v⟩ := e
    obtain ⟨s, e1, _, _, e2⟩ := da.item hi
    exact ⟨s, e1, e2⟩
  refine ⟨r, m1, ?_⟩
  have keyed : ∀ s, s ∈ sa → ∃ v, ((.inl s : Key), v) ∈ ka := fun s hs => by
    have z : (.inl s : Key) ∈ ka.map (·.1) := by
      rw [da.ks]
      exact key_mem.mpr hs
    obtain ⟨⟨k, v⟩, h1, h2⟩ := List.mem_map.mp z
    cases h2
    exact ⟨v, h1⟩
  rw [Bool.and_eq_true, beq_iff_eq, da.len, db.len, m2]
  constructor
  · rintro ⟨len, h⟩
    have sub : ∀ s, s ∈ sa → s ∈ sb ∧ fo s = go s := fun s hs => let ⟨v, hv⟩ := keyed s hs; h _ hv s rfl
    refine ⟨fun s => ⟨fun hs => (sub s hs).1, fun hs => ?_⟩, fun s hs => (sub s hs).2⟩
    refine Decidable.byContradiction fun no => ?_
    have z := nodup_len (List.nodup_cons.mpr ⟨no, da.nd⟩) fun t ht => (List.mem_cons.mp ht).elim (fun e => e ▸ hs) fun ht => (sub t ht).1
    rw [List.length_cons] at z
    omega
  · rintro ⟨h1, h2⟩
    refine ⟨Nat.le_antisymm (nodup_len da.nd fun s hs => (h1 s).mp hs) (nodup_len db.nd fun s hs => (h1 s).mpr hs), fun e he s es => ?_⟩
    obtain ⟨i, hi⟩ := List.getElem?_of_mem he
    obtain ⟨k, v⟩ := e
    obtain ⟨s2, e1, _, hs, _⟩ := da.item hi
    cases e1.symm.trans es
    exact ⟨(h1 _).mp hs, h2 _ hs⟩
section
variable {P : Program} {w : World} {K : PySem.W.Frag} {mg : Str → Option Value} {base : Heap} {C CF : Addr}
def spRi (K : PySem.W.Frag) (C CF : Addr) : Sp := fun vs H Q _ => ∃ (g wa kd hd l : Addr) (p : Int) (S : Gs) (rk : Addr → Option Ow) (ps : List Pt) (b : Bool), vs = [.ref g, .int p, .ref l] ∧ GiA C H g wa kd hd b ∧ GrG K CF H wa kd hd S rk ∧ WOk S.ws ∧ LD K H l (ps.map pd) ∧ (ps.map (·.1)).Pairwise (· < ·) ∧ TbOk ps ∧ ps.length ≤ 900 ∧ (∀ x, x ∈ S.ws → (S.ss p x).length ≤ 900) ∧
  ∀ b H', Same H H' → (b = true ↔ RightP S p ps) → Q (.bl b) H'
set_option maxHeartbeats 4000000 in
theorem ok_ri {f fE : Addr} {fd fdE : FuncData} {k : Nat} (F : Fun K "right" "Grains.right" sRi f fd) (T : TGr K C) (C_folds_by_cell : Cal P w K mg base k "folds_by_cell" ["points", "width"] (spBC K CF)) (M_is_gone : CalM P w K mg base k C "is_gone" ["self", "width", "start"] (spIG K C CF)) (M_full_folds : CalM P w K mg base k C "full_folds" ["self", "place", "width"] (spFF K C CF))
    (FE : FnOk P w K mg base CX0 k fE fdE ["self", "other"] (spEqB (EqF K CF))) (atE : PySem.W.findIn K (.ref CF) "__eq__" = some (some (.ref fE))) (fnE : PySem.W.isFn K (.ref fE) = true) (hbE : Binds K fdE ["self", "other"] []) :
    FnOk P w K mg base CX0 (k + 2) f fd ["self", "place", "points"] (spRi K C CF) := by
  refine F.ok scRi (fun vs H Q E h => ?_) (fun cdv A outer s H vs Q E hr h => ?_)
  · obtain ⟨g, wa, kd, hd, l, p, S, rk, ps, b, rfl, _⟩ := h
    rfl
  · obtain ⟨g, wa, kd, hd, l, p, S, rk, ps, b, rfl, gi, gr, okw, ldl, up, okp, few, lss, q⟩ := h
    have hu := hu_of hr
    obtain ⟨dx, hg⟩ := id gi
    refine ⟨_, pss_cons (ps_for PassesOwn.never rfl (pi_tup (pe_fld (pv 0) rfl)) (pg_name (i := 3) scRi.nd rfl (.inr rfl))
        (pss_cons (ps_set (i := 4) scRi.nd rfl (.inr rfl) (pe_cal C_folds_by_cell (hr.mono (by omega)) (by rfl) (pa_cons (pv 2) (pa_cons (pv 3) pa_nil))))
        (pss_cons (ps_lock (ps_setDc (i := 5) (own := [("start", 6)]) (g := (gName 6)) rfl scRi.nd rfl rfl (sw_dict rfl rfl rfl (by decide +kernel)) (pi_keys (pv 4)) (blkOk_by (own := [("start", 6)]) (N := NRi) (sc := defScope sRi) (by decide +kernel)) (fun _ _ _ _ _ => (pg_name (i := 6) scRi.nd rfl (.inl rfl))) (fun _ _ _ _ _ => pts_one (pt_not (pt_val (pe_calM (pv 0) T.cl M_is_gone (hr.mono (by omega)) (pa_cons (pv 3) (pa_cons (pv 6) pa_nil)))))) (fun _ _ _ _ _ => (pv 6)) (fun _ _ _ _ _ => (pe_dget hu (pv 4) (pv 6) (fun _ _ => rfl)))))
        (pss_one (ps_if (pt_cmpR (op_neW mono_fo (eqB_ins FE atE fnE hbE pass0 fold_own) (hr.mono (by omega))) (pe_calM (pv 0) T.cl M_full_folds (hr.mono (by omega)) (pa_cons (pv 1) (pa_cons (pv 3) pa_nil))) (pv 5) (nomark _))
          (pss_one (ps_ret pe_bl))
          pss_nil)))))
      (pss_one (ps_ret pe_bl)), ?_⟩
    have pos : ∀ x, x ∈ S.ws → 0 < x := fun x hx => by
      obtain ⟨jx, hj⟩ := List.getElem?_of_mem hx
      have := (okw.pos jx x hj).1
      omega
    refine ⟨_, rfl, g, C, dx, _, .ref wa, rfl, hg, T.cl, T.no _ (by decide), rfl, wa, rfl, ⟨_, gr.gw⟩, for_tup (K := K) (a := wa) (xs := S.ws.map V.int) (fun i σ Hc => ∃ z3 z4 z5 : Option V, σ = [some (.ref g), some (.int p), some (.ref l), z3, z4, z5, none] ∧ Same H Hc ∧ ∀ x, x ∈ S.ws.take i → RightX S p ps x) ⟨none, none, none, rfl, Same.refl _, fun x h => absurd h List.not_mem_nil⟩ (fun i σ Hc _ ⟨_, _, _, _, sc, _⟩ => sqT_same sc gr.gw) ?_ ?_⟩
    · rintro i v σ Hc hv ⟨z3, z4, z5, rfl, sc, so⟩
      rw [List.getElem?_map] at hv
      obtain ⟨x, ex, rfl⟩ := Option.map_eq_some_iff.mp hv
      have hx := List.mem_of_getElem? ex
      have x0 := pos x hx
      refine ⟨_, rfl, _, rfl, l, x, ps, rfl, ldl.same sc, up, okp, x0, few, fun r ks H1 s1 nr mem lks dr => ?_⟩
      obtain ⟨kvs, hr1, dk⟩ := dr.k
      have lkv := dk.len
      refine ⟨r, _, hr1, trivial, fun od => ?_⟩
      obtain ⟨H2, e2⟩ : ∃ H2, upd H1 r (.frz od (.dK kvs)) = H2 := ⟨_, rfl⟩
      have h2 : H2 r = some (.frz od (.dK kvs)) := by
        rw [← e2]
        exact upd_same
      rw [e2]
      have sc1 := sc.trans s1
      have gr1 := gr.same sc1
      have rkr : rk r = none := by
        cases z : rk r with
        | none => rfl
        | some u =>
          obtain ⟨kv2, e⟩ := (gr.same sc).own r (by rw [z]; exact fun y => nomatch y)
          rw [nr] at e
          cases e
      have old : ∀ b o, b ≠ r → H1 b = some o → H2 b = some o := fun b o n h => by
        rw [← e2, upd_ne n]
        exact h
      have hk2 : HK CF H1 H2 := by
        rw [← e2]
        exact .put hr1 soft_dK
      have gr2 : GrG K CF H2 wa kd hd S rk := gr1.hk hk2 fun b o n h => old b o (fun z => n (by rw [z]; exact rkr)) h
      have hgr : g ≠ r := fun z => by
        have h := sc _ _ hg
        rw [z, nr] at h
        cases h
      have hg2 := old _ _ hgr (sc1 _ _ hg)
      refine ⟨_, rfl, r, od, rfl, .inl ⟨kvs, h2, fun D nD => ?_⟩⟩
      have rD : r ≠ D := ne_of_none h2 nD
      have nD1 : H1 D = none := by
        rw [← e2, upd_ne rD.symm] at nD
        exact nD
      have sD := same_new (o := .dK []) nD
      refine walked_w walk_keys (fun i Hd => Same H2 Hd ∧ ∃ gs, DcI Hd D gs (FoR K CF Hd (cellF ps x)) ∧ (∀ s, s ∈ gs ↔ s ∈ ks.take i ∧ S.gone x s = false) ∧ gs.length ≤ i) ⟨sD, [], DcK.nil.at_ upd_same, (fun s => ⟨fun z => absurd z List.not_mem_nil, fun z => by rw [List.take_zero] at z; exact absurd z.1 List.not_mem_nil⟩), Nat.le_refl _⟩ (fun i Hd _ h => h.1 _ _ h2) ?_ ?_
      · rintro j y Hq Hd hj ⟨sd, gs, dg, mg2, lg⟩ ⟨rfl, k0, v0, ekv, rfl⟩
        obtain ⟨s0, rfl, es, sin, a, rfl, fa⟩ := dk.item ekv
        have tk : ks.take (j + 1) = ks.take j ++ [s0] := take_snoc es
        have hgd := sd _ _ hg2
        have jk : j < ks.length := (List.getElem?_eq_some_iff.mp es).1
        refine ⟨rfl, _, rfl, g, dx, _, rfl, hgd, rfl, _, rfl, _, rfl, g, wa, kd, hd, b, x, s0, S, rk, rfl, ⟨dx, hgd⟩, gr2.same sd, S.gone x s0, rfl, ?_⟩
        cases c : S.gone x s0
        · obtain ⟨gvs, hD, gk⟩ := dg.k
          have gd : DGet Hd r (kV (.inl s0)) (valV kvs (.inl s0)) := .inl ⟨kvs, .inl s0, .inr ⟨od, sd _ _ h2⟩, rfl, rfl⟩
          obtain ⟨v, ev, a2, rfl, fa2⟩ := dk.all s0 sin
          rw [ev] at gd
          have fa3 := (fa2.hk hk2).same sd
          refine if_t ⟨_, rfl, _, rfl, _, rfl, r, _, rfl, gd, gvs, .inl s0, rfl, hD, small1000 (by have := gk.len; omega), same_put nD sd, addS gs s0, (gk.put (R2 := FoR K CF (upd Hd D (.dK (putK gvs (.inl s0) (.ref a2)))) (cellF ps x)) ⟨a2, rfl, fa3.hk (.put hD soft_dK)⟩ fun _ _ _ _ h => h.hk (.put hD soft_dK)).at_ upd_same, fun s => ?_, Nat.le_trans len_addS (by omega)⟩
          rw [mem_addS, mg2 s, tk, List.mem_append, List.mem_singleton]
          constructor
          · rintro (⟨h1, h2⟩ | h)
            · exact ⟨.inl h1, h2⟩
            · exact ⟨.inr h, h ▸ c⟩
          · rintro ⟨h1 | h1, h2⟩
            · exact .inl ⟨h1, h2⟩
            · exact .inr h1
        · refine if_f ⟨sd, gs, dg, fun s => ?_, by omega⟩
          rw [mg2 s, tk, List.mem_append, List.mem_singleton]
          refine ⟨fun h => ⟨.inl h.1, h.2⟩, fun ⟨h1, h2⟩ => ⟨h1.resolve_right fun e => ?_, h2⟩⟩
          rw [e, c] at h2
          cases h2
      rintro Hd ⟨sd, gs, dg, mg2, lg⟩
      rw [lkv, List.take_length] at mg2
      rw [lkv] at lg
      have hr2 := sd _ _ h2
      refine ⟨hr2, ?_⟩
      obtain ⟨H3, e3⟩ : ∃ H3, upd Hd r (.dK kvs) = H3 := ⟨_, rfl⟩
      refine nx_atS e3 ?_
      have rest : ∀ b o, b ≠ r → Hd b = some o → H3 b = some o := fun b o n h => by
        rw [← e3, upd_ne n]
        exact h
      have hk3 : HK CF Hd H3 := by
        rw [← e3]
        exact .put hr2 soft_frz
      have sc3 : Same H H3 := fun b o h => by
        have n : b ≠ r := ne_of_none h (sc.free nr)
        exact rest b o n (sd b o (old b o n (sc1 b o h)))
      obtain ⟨gvs, hD, gk⟩ := dg.k
      have hD3 := rest _ _ rD.symm hD
      have gk3 := gk.imp (R2 := FoR K CF H3 (cellF ps x)) fun _ _ _ h => h.hk hk3
      have hg3 := sc3 _ _ hg
      refine ⟨_, rfl, g, dx, _, rfl, hg3, rfl, _, rfl, _, rfl, g, wa, kd, hd, p, x, S, rk, b, rfl, ⟨dx, hg3⟩, gr.same sc3, hx, lss x hx, fun r4 fs H4 s4 nr4 df mem4 => ?_⟩
      obtain ⟨fvs, hr4, fk⟩ := df.k
      have hD4 := s4 _ _ hD3
      have gk4 := gk3.imp (R2 := FoR K CF H4 (cellF ps x)) fun _ _ _ h => h.same s4
      have apart : r4 ≠ D := fun z => by
        rw [z, hD3] at nr4
        cases nr4
      obtain ⟨rr, met, iff⟩ := met_folds fk gk4
      have right : (fvs.length == gvs.length && rr) = true ↔ RightX S p ps x := by
        rw [iff]
        constructor
        · rintro ⟨h1, h2⟩
          refine ⟨fun s => ?_, fun s hs hc => h2 s ((mem4 s).mpr ⟨hs, hc⟩)⟩
          rw [← mem s, ← mg2 s, ← h1 s, mem4 s]
        · rintro ⟨h1, h2⟩
          refine ⟨fun s => ?_, fun s hs => ?_⟩
          · rw [mem4 s, h1 s, mg2 s, mem s]
          · obtain ⟨h3, h4⟩ := (mem4 s).mp hs
            exact h2 s h3 h4
      refine ⟨_, rfl, r4, D, fvs, gvs, rr, rfl, rfl, apart, hr4, hD4, met, fun H5 x5 => ?_⟩
      have sc5 : Same H H5 := (sc3.trans s4).trans fun b o h => x5 b o h
      cases c : (fvs.length == gvs.length && rr)
      · refine ⟨true, rfl, if_t (q false H5 sc5 ⟨(fun z => nomatch z), fun z => ?_⟩)⟩
        have := right.mpr (z x hx)
        rw [c] at this
        cases this
      · refine ⟨false, rfl, if_f ⟨_, _, _, rfl, sc5, fun y hy => ?_⟩⟩
        rw [take_snoc ex] at hy
        rcases List.mem_append.mp hy with h | h
        · exact so y h
        · rw [List.mem_singleton.mp h]
          exact right.mp c
    · rintro σ Hc ⟨z3, z4, z5, rfl, sc, so⟩
      rw [List.length_map, List.take_length] at so
      exact q true Hc sc ⟨fun _ => so, fun _ => rfl⟩
end
end Tg

set_option maxHeartbeats 2000000
namespace Tg
open PySem PySem.Spec PyProof.Rows L2
/-! ### _law_kept_folds -/
abbrev sKF : Stmt := topS 40
abbrev NKF : List Str := ["_law_widths_here", "_law_ends", "_law_some_points", "_law_found", "_law_width", "_law_some_cells", "_law_time_here", "_law_worth_here", "_law_start"]
theorem scKF : FnScope NKF ["_law_widths_here", "_law_ends", "_law_some_points"] (defScope sKF) := ⟨rfl, rfl, rfl, by decide +kernel, rfl, by decide +kernel, by decide +kernel⟩
/-- the ends by width -/
def EnD (H : Hp) (e : Addr) (ws : List Int) (hz : Int → Option Int) : Prop := DcI H e ws fun x v => v = vw (hz x)
/-- a cell that ends above what was let go -/
def keptB (o : Option Int) (x s : Int) : Bool := match o with
  | none => true
  | some h => decide (h < s + x)
def stsF (rs : List Pt) (x : Int) : List Int := startsF (rs.map (·.1)) x
theorem sts_mem {rs : List Pt} {x s : Int} : s ∈ stsF rs x ↔ ∃ p, p ∈ rs ∧ p.1 - p.1 % x = s := by
  unfold stsF
  rw [starts_cell]
  constructor
  · rintro ⟨t, ht, e⟩
    obtain ⟨p, hp, rfl⟩ := List.mem_map.mp ht
    exact ⟨p, hp, e⟩
  · rintro ⟨p, hp, e⟩
    exact ⟨p.1, List.mem_map.mpr ⟨p, hp, rfl⟩, e⟩
/-- the starts of a width that are kept -/
def ksF (o : Option Int) (rs : List Pt) (x : Int) : List Int := (stsF rs x).filter fun s => keptB o x s
theorem ks_len {o : Option Int} {rs : List Pt} {x : Int} : (ksF o rs x).length ≤ rs.length := by
  refine Nat.le_trans (List.length_filter_le _ _) ?_
  have h := starts_len x (rs.map (·.1)) (l := stsF rs x) rfl
  rw [List.length_map] at h
  exact h
abbrev KRow := Int × Int × FD
def kD (r : KRow) : PyData := .tuple [.int r.1, .int r.2.1, fd9 r.2.2]
def kfX (o : Option Int) (rs : List Pt) (x : Int) : List KRow := (ksF o rs x).map fun s => (x, s, cellF rs x s)
def kfF (hz : Int → Option Int) (rs : List Pt) (ws : List Int) : List KRow := ws.flatMap fun x => kfX (hz x) rs x
theorem kf_len {hz : Int → Option Int} {rs : List Pt} {ws : List Int} : (kfF hz rs ws).length ≤ rs.length * ws.length := by
  refine flat_len _ _ (fun x => ?_) ws
  unfold kfX
  rw [List.length_map]
  exact ks_len
theorem td_k (r : KRow) : TD (kD r) := .tup fun d hd => by
  simp only [List.mem_cons, List.not_mem_nil, or_false] at hd
  rcases hd with rfl | rfl | rfl
  · exact .int _
  · exact .int _
  · exact td_fd9 _
theorem tds_k {rs : List KRow} : ∀ d, d ∈ rs.map kD → TD d := fun d hd => by
  obtain ⟨r, _, rfl⟩ := List.mem_map.mp hd
  exact td_k r
/-- the points whose cells are kept -/
def keepP (o : Option Int) (x : Int) (ps : List Pt) : List Pt := ps.filter fun p => keptB o x (p.1 - p.1 % x)
theorem keepP_snoc {o : Option Int} {x : Int} {ps : List Pt} {p : Pt} : keepP o x (ps ++ [p]) = if keptB o x (p.1 - p.1 % x) = true then keepP o x ps ++ [p] else keepP o x ps := by
  unfold keepP
  rw [List.filter_append, List.filter_cons, List.filter_nil]
  split
  · rfl
  · rw [List.append_nil]
theorem inC_keep {o : Option Int} {x s : Int} {ps : List Pt} (k : keptB o x s = true) : inC x s (keepP o x ps) = inC x s ps := by
  unfold inC keepP
  rw [List.filter_filter]
  refine List.filter_congr fun p _ => ?_
  by_cases c : p.1 - p.1 % x = s
  · rw [decide_eq_true c, c, k]
    rfl
  · rw [decide_eq_false c, Bool.false_and]
/-! a group found or made anew, and a point put into it -/
/-- behind setdefault: v is the list of the cell s0 -/
def SetP (K : PySem.W.Frag) (Hb Hm : Hp) (g : Addr) (x s0 : Int) (qs : List Pt) (n : Nat) (v : V) : Prop := ∃ (ks : List Int) (lf : Int → Addr), v = .ref (lf s0) ∧ Same Hb Hm ∧ GrC K Hm g x qs ks lf ∧ s0 ∈ ks ∧ (∀ s, s ∈ ks → Hb (lf s) = none) ∧ (∀ s, s ∈ ks ↔ (∃ p, p ∈ qs ∧ p.1 - p.1 % x = s) ∨ s = s0) ∧ ks.length ≤ n + 1
theorem GrC.setd {K : PySem.W.Frag} {Hb Hd : Hp} {g l0 : Addr} {x s0 : Int} {qs : List Pt} {ks : List Int} {lf : Int → Addr} {kvs : List (Key × V)} (G : GrC K Hd g x qs ks lf) (hg : Hd g = some (.dK kvs)) (sd : Same Hb Hd) (ng : Hb g = none) (fr : ∀ s, s ∈ ks → Hb (lf s) = none) (mem : ∀ s, s ∈ ks ↔ ∃ p, p ∈ qs ∧ p.1 - p.1 % x = s) (nl0 : Hd l0 = none) :
    (∀ v, valV kvs (.inl s0) = some v → SetP K Hb (upd Hd l0 (.lst [])) g x s0 qs ks.length v) ∧ (valV kvs (.inl s0) = none → SetP K Hb (upd (upd Hd l0 (.lst [])) g (.dK (putK kvs (.inl s0) (.ref l0)))) g x s0 qs ks.length (.ref l0)) := by
  have s1 := same_new (o := .lst []) nl0
  obtain ⟨kv2, hg2, dk⟩ := G.d.k
  rw [hg] at hg2
  cases hg2
  have G2 := G.same s1
  refine ⟨fun v ev => ?_, fun ev => ?_⟩
  · have in0 : s0 ∈ ks := Decidable.byContradiction fun no => by
      rw [dk.miss no] at ev
      cases ev
    obtain ⟨v2, ev2, rfl⟩ := dk.all s0 in0
    rw [ev] at ev2
    cases ev2
    exact ⟨ks, lf, rfl, sd.trans s1, G2, in0, fr, fun s => (mem s).trans ⟨.inl, fun h => h.elim id fun e => (mem s).mp (e ▸ in0)⟩, Nat.le_succ _⟩
  · have out0 : s0 ∉ ks := fun no => by
      obtain ⟨v2, ev2, _⟩ := dk.all s0 no
      rw [ev] at ev2
      cases ev2
    have em : inC x s0 qs = [] := List.filter_eq_nil_iff.mpr fun p hp z => out0 ((mem s0).mpr ⟨p, hp, of_decide_eq_true z⟩)
    have fresh : ∀ s, s ∈ ks → lf s ≠ l0 := fun s hs z => by
      obtain ⟨_, _, h, _⟩ := G.l s hs
      rw [z, nl0] at h
      cases h
    refine ⟨addS ks s0, fun s => if s = s0 then l0 else lf s, congrArg V.ref (if_pos rfl).symm, same_put ng (sd.trans s1), G2.more (s1 _ _ hg) out0 em upd_same fresh, mem_addS.mpr (.inr rfl), fun s hs => ?_, fun s => mem_addS.trans (or_congr_left (mem s)), len_addS⟩
    show Hb (if s = s0 then l0 else lf s) = none
    by_cases c : s = s0
    · rw [if_pos c]
      exact sd.free nl0
    · rw [if_neg c]
      exact fr s ((mem_addS.mp hs).resolve_right c)
/-- behind append -/
theorem GrC.put_ {K : PySem.W.Frag} {Hb Hm : Hp} {g : Addr} {x s0 : Int} {p0 : Pt} {qs : List Pt} {ks : List Int} {lf : Int → Addr} (G : GrC K Hm g x qs ks lf) (sm : Same Hb Hm) (in0 : s0 ∈ ks) (es0 : p0.1 - p0.1 % x = s0) (fr : ∀ s, s ∈ ks → Hb (lf s) = none) (mem : ∀ s, s ∈ ks ↔ (∃ p, p ∈ qs ∧ p.1 - p.1 % x = s) ∨ s = s0) :
    ∃ xl, Hm (lf s0) = some (.lst xl) ∧ xl.length ≤ qs.length ∧ (∀ s, s ∈ ks ↔ ∃ p, p ∈ qs ++ [p0] ∧ p.1 - p.1 % x = s) ∧ ∀ u, Hm u = none → Same Hb (upd (upd Hm u (.tup [.int p0.1, .int p0.2])) (lf s0) (.lst (xl ++ [.ref u]))) ∧ GrC K (upd (upd Hm u (.tup [.int p0.1, .int p0.2])) (lf s0) (.lst (xl ++ [.ref u]))) g x (qs ++ [p0]) ks lf := by
  obtain ⟨nlg, xl, hxl, dxl⟩ := G.l s0 in0
  have lxl := dl_len dxl
  refine ⟨xl, hxl, ?_, fun s => ?_, fun u nu => ?_⟩
  · rw [lxl]
    exact List.length_filter_le _ _
  · rw [mem s]
    constructor
    · rintro (⟨p, h1, h2⟩ | rfl)
      · exact ⟨p, List.mem_append_left _ h1, h2⟩
      · exact ⟨p0, List.mem_append_right _ (List.mem_singleton.mpr rfl), es0⟩
    · rintro ⟨p, h1, h2⟩
      rcases List.mem_append.mp h1 with h1 | h1
      · exact .inl ⟨p, h1, h2⟩
      · rw [List.mem_singleton.mp h1] at h2
        exact .inr (h2.symm.trans es0)
  · have su := same_new (o := .tup [.int p0.1, .int p0.2]) nu
    exact ⟨same_put (fr s0 in0) (sm.trans su), (G.same su).app in0 es0 (su _ _ hxl) (dpAll_same su dxl) upd_same⟩
section
variable {P : Program} {w : World} {K : PySem.W.Frag} {mg : Str → Option Value} {base : Heap}
def spKF (K : PySem.W.Frag) : Sp := fun vs H Q _ => ∃ (wa e l : Addr) (ws : List Int) (hz : Int → Option Int) (ps : List Pt), vs = [.ref wa, .ref e, .ref l] ∧ SqT K H wa (ws.map V.int) ∧ WOk ws ∧ EnD H e ws hz ∧ LD K H l (ps.map pd) ∧ (ps.map (·.1)).Pairwise (· < ·) ∧ TbOk ps ∧ ps.length ≤ 200 ∧ (∀ p, p ∈ ps → p.1.natAbs ≤ 11 * 10 ^ 14) ∧
  ∀ r H', Same H H' → H r = none → LD K H' r ((kfF hz ps ws).map kD) → Q (.ref r) H'
set_option maxHeartbeats 4000000 in
theorem ok_kf {f : Addr} {fd : FuncData} {k : Nat} (F : Fun K "_law_kept_folds" "_law_kept_folds" sKF f fd) (L_fold : Cal P w K mg base k "_law_fold" ["_law_some_points"] (spLf K)) (m_sorted : mg "sorted" = none) :
    FnOk P w K mg base CX0 (k + 1) f fd ["_law_widths_here", "_law_ends", "_law_some_points"] (spKF K) := by
  refine F.ok scKF (fun vs H Q E h => ?_) (fun cdv A outer s H vs Q E hr h => ?_)
  · obtain ⟨wa, e, l, ws, hz, ps, rfl, _⟩ := h
    rfl
  · obtain ⟨wa, e, l, ws, hz, ps, rfl, hw, okw, de, ldl, up, okp, few, tz, q⟩ := h
    have hu := hu_of hr
    refine ⟨_, pss_cons (ps_set (i := 3) scKF.nd rfl (.inl rfl) (pe_lst pa_nil))
      (pss_cons (ps_for PassesOwn.never rfl (pi_tup (pv 0)) (pg_name (i := 4) scKF.nd rfl (.inl rfl))
        (pss_cons (ps_set (i := 5) scKF.nd rfl (.inl rfl) pe_dnewK)
        (pss_cons (ps_for PassesOwn.never rfl (pi_list (pv 2)) (pg_tup rfl (pgs_cons (pg_name (i := 6) scKF.nd rfl (.inl rfl)) (pgs_cons (pg_name (i := 7) scKF.nd rfl (.inl rfl)) pgs_nil)))
          (pss_cons (ps_set (i := 8) scKF.nd rfl (.inl rfl) (pe_op op_mulW (pe_op op_fdivW (pv 6) (pv 4)) (pv 4)))
          (pss_one (ps_if (PW.pt (pw_or (pt_cmpR op_isN (pe_dget hu (pv 1) (pv 4) (fun _ _ => rfl)) pe_non (nomark _)) (pw_or1 (pt_cmpR op_gt (pe_op op_add (pv 8) (pv 4)) (pe_dget hu (pv 1) (pv 4) (fun _ _ => rfl)) (nomark _)))))
            (pss_one (ps_expr (pe_bm PySem.F.plainAttrs_list PySem.F.slot_list_append PySem.F.type_list_append mt_append (pe_dsetd (pv 5) (pv 8) (pe_lst pa_nil) ⟨rfl, rfl, rfl, rfl⟩) (pa_cons (pe_tup (pa_cons (pv 6) (pa_cons (pv 7) pa_nil))) pa_nil))))
            pss_nil))))
        (pss_one (ps_for PassesOwn.never rfl (pi_list (pe_callB (cr_sortedDI rfl) (by rfl) m_sorted (by decide +kernel) (pa_cons (pv 5) pa_nil))) (pg_name (i := 8) scKF.nd rfl (.inl rfl))
          (pss_one (ps_expr (pe_bm PySem.F.plainAttrs_list PySem.F.slot_list_append PySem.F.type_list_append mt_append (pv 3) (pa_cons (pe_tup (pa_cons (pv 4) (pa_cons (pv 8) (pa_cons (pe_cal L_fold (hr.mono (by omega)) (by rfl) (pa_cons (pe_dget hu (pv 5) (pv 8) (fun _ _ => rfl)) pa_nil)) pa_nil)))) pa_nil)))))))))
      (pss_one (ps_ret (pv 3)))), ?_⟩
    refine ⟨Nat.zero_le _, fun fl nfl => ?_⟩
    have sl := same_new (o := .lst []) nfl
    obtain ⟨evs, he, ek⟩ := de.k
    have four := okw.le
    refine ⟨_, rfl, wa, rfl, ⟨_, sqT_same sl hw⟩, for_tup (K := K) (a := wa) (xs := ws.map V.int) (fun i σ Hc => ∃ z4 z5 z6 z7 z8 : Option V, σ = [some (.ref wa), some (.ref e), some (.ref l), some (.ref fl), z4, z5, z6, z7, z8] ∧ Same H Hc ∧ LD K Hc fl ((kfF hz ps (ws.take i)).map kD)) ⟨none, none, none, none, none, rfl, sl, [], upd_same, .nil⟩ (fun i σ Hc _ ⟨_, _, _, _, _, _, sc, _⟩ => sqT_same sc hw) ?_ ?_⟩
    · rintro i v σ Hc hv ⟨z4, z5, z6, z7, z8, rfl, sc, ldf⟩
      rw [List.getElem?_map] at hv
      obtain ⟨x, ex, rfl⟩ := Option.map_eq_some_iff.mp hv
      have hx := List.mem_of_getElem? ex
      have xb := okw.pos i x ex
      have x0 : 0 < x := by omega
      intro g ng
      have s0 := same_new (o := .dK []) ng
      obtain ⟨H1, e1⟩ : ∃ H1, upd Hc g (.dK []) = H1 := ⟨_, rfl⟩
      have hg1 : H1 g = some (.dK []) := by
        rw [← e1]
        exact upd_same
      rw [e1] at s0 ⊢
      obtain ⟨xs, hl, dl⟩ := ldl.same sc
      have lx := dl_len dl
      refine ⟨_, rfl, l, rfl, ⟨_, SqL.of (s0 _ _ hl)⟩, for_list (K := K) (a := l) (xs := xs) (fun j σ Hd => ∃ z6 z7 z8 : Option V, σ = [some (.ref wa), some (.ref e), some (.ref l), some (.ref fl), some (.int x), some (.ref g), z6, z7, z8] ∧ Same Hc Hd ∧ ∃ ks lf, GrC K Hd g x (keepP (hz x) x (ps.take j)) ks lf ∧ (∀ s, s ∈ ks → Hc (lf s) = none) ∧ (∀ s, s ∈ ks ↔ ∃ p, p ∈ keepP (hz x) x (ps.take j) ∧ p.1 - p.1 % x = s) ∧ ks.length ≤ j)
        ⟨z6, z7, z8, rfl, s0, [], fun _ => g, ⟨DcK.nil.at_ hg1, (fun _ h => absurd h List.not_mem_nil), (fun _ _ h => absurd h List.not_mem_nil)⟩, (fun _ h => absurd h List.not_mem_nil), (fun s => ⟨fun h => absurd h List.not_mem_nil, fun ⟨_, h, _⟩ => absurd h List.not_mem_nil⟩), Nat.le_refl _⟩ (fun j σ Hd _ ⟨_, _, _, _, sd, _⟩ => SqL.of (sd _ _ hl)) ?_ ?_⟩
      · rintro j v σ Hd hv ⟨z6, z7, z8, rfl, sd, ks, lf, G, fr, mem, len⟩
        obtain ⟨p0, ep, dq⟩ := dl_at dl hv
        obtain ⟨ta, rfl, hta⟩ := dp_pd dq
        have il : j < ps.length := (List.getElem?_eq_some_iff.mp ep).1
        have tk0 : ps.take (j + 1) = ps.take j ++ [p0] := take_snoc ep
        obtain ⟨kvs, hg, dk⟩ := G.d.k
        have lk := dk.len
        obtain ⟨d1, d2⟩ := dv (d := x) xb.1 xb.2 (tz p0 (List.mem_of_getElem? ep))
        refine ⟨ta, _, rfl, sqT_same sd hta, rfl, _, _, rfl, _, _, rfl, rfl, ?_⟩
        refine ⟨_, rfl, _, rfl, _, _, rfl, rfl, wide_div (b := 50) (by omega) (by omega) (by decide) (by decide), _, rfl, _, _, rfl, rfl, wide_mul (a := 64) (b := 64) (by omega) (by omega) (by decide) (by decide) (by decide), ?_⟩
        dsimp only
        rw [d1]
        obtain ⟨s0, es0⟩ : ∃ s0, p0.1 - p0.1 % x = s0 := ⟨_, rfl⟩
        rw [es0]
        have ev0 : valV evs (.inl x) = some (vw (hz x)) := by
          obtain ⟨v, e1, rfl⟩ := ek.all x hx
          exact e1
        have gd := DGet.k (k := .inl x) (sd _ _ (sc _ _ he))
        rw [ev0] at gd
        by_cases kb : keptB (hz x) x s0 = true
        · have tk : keepP (hz x) x (ps.take (j + 1)) = keepP (hz x) x (ps.take j) ++ [p0] := by
            rw [tk0, keepP_snoc, es0, if_pos kb]
          cases eo : hz x
          case' none =>
            rw [eo] at gd
            refine ⟨_, rfl, _, rfl, e, _, rfl, gd, rfl, true, rfl, if_t ?_⟩
            rw [← eo]
          case' some h0 =>
            rw [eo] at gd kb
            refine ⟨_, rfl, _, rfl, e, _, rfl, gd, rfl, false, rfl, if_f ⟨_, rfl, _, rfl, _, _, rfl, rfl, _, rfl, _, rfl, e, _, rfl, gd, _, _, rfl, rfl, decide (h0 < s0 + x), rfl, ?_⟩⟩
            rw [show decide (h0 < s0 + x) = true from kb]
            refine if_t ?_
            rw [← eo] at kb ⊢
          all_goals
            refine ⟨_, rfl, g, rfl, .inl ⟨_, .inl hg⟩, _, rfl, Nat.zero_le _, fun l0 nl0 => ?_⟩
            obtain ⟨hitP, missP⟩ := G.setd (s0 := s0) hg sd ng fr mem nl0
            have lq : (keepP (hz x) x (ps.take j)).length ≤ j := by
              unfold keepP
              refine Nat.le_trans (List.length_filter_le _ _) ?_
              rw [List.length_take]
              omega
            refine ⟨kvs, .inl s0, same_new nl0 _ _ hg, rfl, small1000 (by omega), fun v ev => ?_, fun ev => ?_⟩
            · obtain ⟨ks3, lf3, rfl, sm, G3, in0, fr3, mem3, len3⟩ := hitP v ev
              obtain ⟨xl, hxl, lxl, mem4, ap⟩ := G3.put_ sm in0 es0 fr3 mem3
              refine ⟨.inl ⟨rfl, _, SqL.of hxl⟩, _, rfl, _, rfl, (by show 2 ≤ sizeLine; decide), fun u nu => ⟨_, _, _, rfl, rfl, same_new nu _ _ hxl, small1000 (by omega), _, _, _, rfl, (ap u nu).1, ks3, lf3, ?_, fr3, ?_, by omega⟩⟩
              · rw [tk]
                exact (ap u nu).2
              · rw [tk]
                exact mem4
            · obtain ⟨ks3, lf3, e3, sm, G3, in0, fr3, mem3, len3⟩ := missP ev
              rw [e3] at sm G3 ⊢
              obtain ⟨xl, hxl, lxl, mem4, ap⟩ := G3.put_ sm in0 es0 fr3 mem3
              refine ⟨.inl ⟨rfl, _, SqL.of hxl⟩, _, rfl, _, rfl, (by show 2 ≤ sizeLine; decide), fun u nu => ⟨_, _, _, rfl, rfl, same_new nu _ _ hxl, small1000 (by omega), _, _, _, rfl, (ap u nu).1, ks3, lf3, ?_, fr3, ?_, by omega⟩⟩
              · rw [tk]
                exact (ap u nu).2
              · rw [tk]
                exact mem4
        · have tk : keepP (hz x) x (ps.take (j + 1)) = keepP (hz x) x (ps.take j) := by
            rw [tk0, keepP_snoc, es0, if_neg kb]
          cases eo : hz x with
          | none =>
            rw [eo] at kb
            exact absurd rfl kb
          | some h0 =>
            rw [eo] at gd
            have kb2 : ¬ decide (h0 < s0 + x) = true := by
              rw [eo] at kb
              exact kb
            refine ⟨_, rfl, _, rfl, e, _, rfl, gd, rfl, false, rfl, if_f ⟨_, rfl, _, rfl, _, _, rfl, rfl, _, rfl, _, rfl, e, _, rfl, gd, _, _, rfl, rfl, decide (h0 < s0 + x), rfl, ?_⟩⟩
            rw [show decide (h0 < s0 + x) = false from Bool.not_eq_true _ ▸ kb2]
            refine if_f ⟨_, _, _, rfl, sd, ks, lf, ?_, fr, ?_, by omega⟩
            · rw [← eo, tk]
              exact G
            · rw [← eo, tk]
              exact mem
      · rintro σ Hd ⟨z6, z7, z8, rfl, sd, ks, lf, G, fr, mem, len⟩
        rw [lx, List.take_length] at G mem
        rw [lx] at len
        obtain ⟨kvs, hg, dk⟩ := G.d.k
        refine ⟨_, rfl, g, kvs, ks, rfl, .inl hg, dk.ks, fun ns pp pm le npp => ?_⟩
        have s4 := same_new (o := .lst (ns.map V.int)) npp
        obtain ⟨H4, e4⟩ : ∃ H4, upd Hd pp (.lst (ns.map V.int)) = H4 := ⟨_, rfl⟩
        have hpp : H4 pp = some (.lst (ns.map V.int)) := by
          rw [← e4]
          exact upd_same
        rw [e4] at s4 ⊢
        have kmem : ∀ s, s ∈ ks ↔ s ∈ ksF (hz x) ps x := fun s => by
          rw [mem s]
          unfold ksF keepP
          rw [List.mem_filter, sts_mem]
          constructor
          · rintro ⟨p, hp, rfl⟩
            obtain ⟨h1, h2⟩ := List.mem_filter.mp hp
            exact ⟨⟨p, h1, rfl⟩, h2⟩
          · rintro ⟨⟨p, h1, rfl⟩, h2⟩
            exact ⟨p, List.mem_filter.mpr ⟨h1, h2⟩, rfl⟩
        have ens : ns = ksF (hz x) ps x := by
          refine ups_one ?_ ((starts_up x _).filter _) fun z => pm.mem_iff.trans (kmem z)
          exact ups_lt le (pm.nodup_iff.mpr dk.nd)
        subst ens
        obtain ⟨ss, ess⟩ : ∃ ss, ksF (hz x) ps x = ss := ⟨_, rfl⟩
        have lss : ss.length ≤ 200 := by
          rw [← ess]
          exact Nat.le_trans ks_len few
        have il : i < ws.length := (List.getElem?_eq_some_iff.mp ex).1
        have tk : ws.take (i + 1) = ws.take i ++ [x] := take_snoc ex
        have eF : kfF hz ps (ws.take (i + 1)) = kfF hz ps (ws.take i) ++ ss.map fun s => (x, s, cellF ps x s) := by
          rw [tk, ← ess]
          unfold kfF
          rw [List.flatMap_append, List.flatMap_cons, List.flatMap_nil, List.append_nil]
          rfl
        have lF : (kfF hz ps (ws.take i)).length ≤ 600 := Nat.le_trans kf_len (Nat.le_trans (Nat.mul_le_mul few (show (ws.take i).length ≤ 3 by rw [List.length_take]; omega)) (by decide))
        obtain ⟨rows, erw⟩ : ∃ rows, kfF hz ps (ws.take i) = rows := ⟨_, rfl⟩
        rw [ess] at hpp kmem
        rw [erw] at eF lF ldf
        have ld4 := (ldf.same sd).same s4
        have ppf : pp ≠ fl := fun z => by
          obtain ⟨ys, h, _⟩ := ldf.same sd
          rw [← z, npp] at h
          cases h
        have G4 := G.same s4
        have nlf : ∀ s, s ∈ ks → lf s ≠ fl := fun s hs z => by
          have h := fr s hs
          obtain ⟨ys, h2, _⟩ := id ldf
          rw [z, h2] at h
          cases h
        have gfl : g ≠ fl := fun z => by
          obtain ⟨ys, h2, _⟩ := id ldf
          rw [z, h2] at ng
          cases ng
        refine ⟨pp, rfl, ⟨_, SqL.of hpp⟩, for_list (K := K) (a := pp) (xs := ss.map V.int) (fun j σ He => ∃ z8 : Option V, σ = [some (.ref wa), some (.ref e), some (.ref l), some (.ref fl), some (.int x), some (.ref g), z6, z7, z8] ∧ (∀ b o, b ≠ fl → H4 b = some o → He b = some o) ∧ LD K He fl ((rows ++ (ss.take j).map fun s => (x, s, cellF ps x s)).map kD)) ⟨z8, rfl, (fun _ _ _ h => h), by rw [List.take_zero, List.map_nil, List.append_nil]; exact ld4⟩ (fun j σ He _ ⟨_, _, kc, _⟩ => SqL.of (kc _ _ ppf hpp)) ?_ ?_⟩
        · rintro j v σ He hv ⟨z8, rfl, kc, ld⟩
          rw [List.getElem?_map] at hv
          obtain ⟨s0, es, rfl⟩ := Option.map_eq_some_iff.mp hv
          have sin : s0 ∈ ks := (kmem s0).mpr (List.mem_of_getElem? es)
          have sk : s0 ∈ ksF (hz x) ps x := by
            rw [ess]
            exact List.mem_of_getElem? es
          obtain ⟨sk1, sk2⟩ := List.mem_filter.mp sk
          have smod : s0 % x = 0 := by
            obtain ⟨p, _, e0⟩ := sts_mem.mp sk1
            rw [← e0]
            exact cell_mod p.1 x
          have tk2 : ss.take (j + 1) = ss.take j ++ [s0] := take_snoc es
          obtain ⟨kv4, hg4, dk4⟩ := G4.d.k
          obtain ⟨v4, ev4, rfl⟩ := dk4.all s0 sin
          have hge := kc _ _ gfl hg4
          have gd := DGet.k (k := .inl s0) hge
          rw [ev4] at gd
          obtain ⟨ys, hfl, dys⟩ := ld
          have lys := dl_len dys
          rw [List.length_append, List.length_map, List.length_take] at lys
          obtain ⟨nlg, xl, hxl, dxl⟩ := G4.l s0 sin
          have kte : KT H4 He := fun a o fx h => kc a o (fun z => by
            obtain ⟨y0, h2, _⟩ := ld4
            rw [z, h2] at h
            cases h
            exact nfix_lst fx) h
          have sel := inC_sel (x := x) (s := s0) up
          rw [inC_keep sk2] at dxl
          refine ⟨_, rfl, .inl ⟨rfl, _, SqL.of hfl⟩, _, rfl, _, rfl, _, rfl, _, rfl, g, _, rfl, gd, lf s0, inC x s0 ps, rfl, ⟨xl, SqL.of (kc _ _ (nlf s0 sin) hxl), dpAll_kt kte dxl (td_pds _)⟩, sel.ok okp, fun a H6 s6 da => ?_⟩
          rw [inC_cell x0 smod up okp] at da
          refine ⟨(by show 3 ≤ sizeLine; decide), fun u nu => ?_⟩
          have su := same_new (o := .tup [.int x, .int s0, .ref a]) nu
          have hfl6 := su _ _ (s6 _ _ hfl)
          refine ⟨fl, ys, _, rfl, rfl, hfl6, small1000 (by omega), _, rfl, fun b o n h => (upd_ne n).trans (su _ _ (s6 _ _ (kc b o n h))), ?_⟩
          rw [tk2, show (rows ++ (ss.take j ++ [s0]).map fun s => (x, s, cellF ps x s)) = (rows ++ (ss.take j).map fun s => (x, s, cellF ps x s)) ++ [(x, s0, cellF ps x s0)] from by rw [List.map_append, List.append_assoc] <;> rfl, List.map_append]
          exact .snoc (KT.of (s6.trans su)) hfl6 dys tds_k (.tup (SqT.of upd_same) (.cons (.int _) (.cons (.int _) (.cons (dp_same su da) .nil)))) (td_k (x, s0, cellF ps x s0))
        · rintro σ He ⟨z8, rfl, kc, ld⟩
          rw [List.length_map, List.take_length, ← eF] at ld
          refine ⟨_, _, _, _, _, rfl, fun b o h => ?_, ld⟩
          exact kc b o (fun z => by
            rw [z, nfl] at h
            cases h) (s4 _ _ (sd _ _ (sc _ _ h)))
    · rintro σ Hc ⟨z4, z5, z6, z7, z8, rfl, sc, ldf⟩
      rw [List.length_map, List.take_length] at ldf
      exact ⟨_, rfl, q fl Hc sc nfl ldf⟩
end
end Tg

set_option maxHeartbeats 2000000
namespace Tg
open PySem PySem.Spec PyProof.Rows L2
/-! ### tables less some times, or with a point more -/
abbrev sWt : Stmt := topS 41
abbrev NWt : List Str := ["_law_table", "_law_times", "_law_found", "_law_time_here"]
theorem scWt : FnScope NWt ["_law_table", "_law_times"] (defScope sWt) := ⟨rfl, rfl, rfl, by decide +kernel, rfl, by decide +kernel, by decide +kernel⟩
abbrev sWi : Stmt := topS 42
abbrev NWi : List Str := ["_law_table", "_law_time_here", "_law_worth_here", "_law_found"]
theorem scWi : FnScope NWi ["_law_table", "_law_time_here", "_law_worth_here"] (defScope sWi) := ⟨rfl, rfl, rfl, by decide +kernel, rfl, by decide +kernel, by decide +kernel⟩
/-- a table: its points, how many, how far, how great -/
structure Tt (ps : List Pt) (m a b : Nat) : Prop where
  nd : (ps.map (·.1)).Nodup
  len : ps.length ≤ m
  tz : ∀ p, p ∈ ps → p.1.natAbs ≤ a
  vz : ∀ p, p ∈ ps → p.2.natAbs ≤ b
theorem Tt.mono {ps : List Pt} {m a b m2 a2 b2 : Nat} (t : Tt ps m a b) (h1 : m ≤ m2) (h2 : a ≤ a2) (h3 : b ≤ b2) : Tt ps m2 a2 b2 := ⟨t.nd, Nat.le_trans t.len h1, fun p hp => Nat.le_trans (t.tz p hp) h2, fun p hp => Nat.le_trans (t.vz p hp) h3⟩
theorem Tt.less {ps qs : List Pt} {m a b : Nat} (t : Tt ps m a b) (s : qs.Sublist ps) : Tt qs m a b := ⟨t.nd.sublist (s.map _), Nat.le_trans s.length_le t.len, fun p hp => t.tz p (s.subset hp), fun p hp => t.vz p (s.subset hp)⟩
theorem Tt.ok {ps : List Pt} {m a b : Nat} (t : Tt ps m a b) (h1 : m < 1000) (h2 : b < 2 ^ 60) : TbOk ps := ⟨t.nd, Nat.lt_of_le_of_lt t.len h1, fun p hp => Nat.lt_of_le_of_lt (t.vz p hp) h2⟩
theorem Tt.put {ps : List Pt} {m a b : Nat} {t v : Int} (h : Tt ps m a b) (ht : t.natAbs ≤ a) (hv : v.natAbs ≤ b) : Tt (putL ps t v) (m + 1) a b := by
  refine ⟨putL_nd h.nd, Nat.le_trans putL_len (Nat.succ_le_succ h.len), fun p hp => ?_, fun p hp => ?_⟩
  · rcases mem_putL.mp hp with rfl | hp
    · exact ht
    · exact h.tz p hp.1
  · rcases mem_putL.mp hp with rfl | hp
    · exact hv
    · exact h.vz p hp.1
theorem drop_g {ps : List Pt} {t : Int} : dropK (tbG V.int ps) (Sum.inl t) = tbG V.int (ps.filter fun p => decide (p.1 ≠ t)) := by
  unfold dropK tbG
  rw [List.filter_map]
  refine congrArg _ (List.filter_congr fun p _ => ?_)
  show decide ((Sum.inl p.1 : Key) ≠ Sum.inl t) = decide (p.1 ≠ t)
  exact decide_eq_decide.mpr ⟨fun n e => n (congrArg _ e), fun n e => n (Sum.inl.inj e)⟩
section
variable {P : Program} {w : World} {K : PySem.W.Frag} {mg : Str → Option Value} {base : Heap}
def spWt : Sp := fun vs H Q _ => ∃ (d l : Addr) (ps : List Pt) (ts : List Int), vs = [.ref d, .ref l] ∧ H d = some (.dK (tbG V.int ps)) ∧ H l = some (.lst (ts.map V.int)) ∧ ∀ r qs H', Same H H' → H r = none → H' r = some (.dK (tbG V.int qs)) → qs.Sublist ps → Q (.ref r) H'
theorem ok_wt {f : Addr} {fd : FuncData} {k : Nat} (F : Fun K "_law_without" "_law_without" sWt f fd) (m_dict : mg "dict" = none) : FnOk P w K mg base CX0 (k + 1) f fd ["_law_table", "_law_times"] spWt := by
  refine F.ok scWt (fun vs H Q E h => ?_) (fun cdv A outer s H vs Q E hr h => ?_)
  · obtain ⟨d, l, ps, ts, rfl, _⟩ := h
    rfl
  · obtain ⟨d, l, ps, ts, rfl, hd, hl, q⟩ := h
    refine ⟨_, pss_cons (ps_set (i := 2) scWt.nd rfl (.inl rfl) (pe_callTy call_dictD (by rfl) m_dict (by decide +kernel) (pa_cons (pv 0) pa_nil)))
      (pss_cons (ps_for PassesOwn.never rfl (pi_list (pv 1)) (pg_name (i := 3) scWt.nd rfl (.inl rfl))
        (pss_one (ps_expr (pe_dpop2 (pv 2) (pv 3) pe_int ⟨rfl, rfl, rfl, rfl⟩))))
      (pss_one (ps_ret (pv 2)))), ?_⟩
    refine ⟨_, rfl, d, _, rfl, .inl hd, fun r nr => ?_⟩
    have s1 := same_new (o := .dK (tbG V.int ps)) nr
    have lr : l ≠ r := ne_of_none hl nr
    refine ⟨_, rfl, l, rfl, ⟨_, SqL.of (s1 _ _ hl)⟩, for_list (K := K) (a := l) (xs := ts.map V.int) (fun i σ Hc => ∃ z3 : Option V, σ = [some (.ref d), some (.ref l), some (.ref r), z3] ∧ Same H Hc ∧ ∃ qs, Hc r = some (.dK (tbG V.int qs)) ∧ qs.Sublist ps) ⟨none, rfl, s1, ps, upd_same, List.Sublist.refl _⟩ (fun i σ Hc _ ⟨_, _, sc, _⟩ => SqL.of (sc _ _ hl)) ?_ ?_⟩
    · rintro i v σ Hc hv ⟨z3, rfl, sc, qs, hr, sub⟩
      rw [List.getElem?_map] at hv
      obtain ⟨t, et, rfl⟩ := Option.map_eq_some_iff.mp hv
      refine ⟨_, rfl, r, rfl, .inl ⟨_, .inl hr⟩, _, rfl, _, .inl t, hr, rfl, fun v ev => ?_, fun ev => ?_⟩
      · exact ⟨_, rfl, same_put nr sc, _, by rw [drop_g]; exact upd_same, List.filter_sublist.trans sub⟩
      · exact ⟨_, rfl, sc, qs, hr, sub⟩
    · rintro σ Hc ⟨z3, rfl, sc, qs, hr, sub⟩
      exact ⟨_, rfl, q r qs Hc sc nr hr sub⟩
def spWi : Sp := fun vs H Q _ => ∃ (d : Addr) (ps : List Pt) (t v : Int), vs = [.ref d, .int t, .int v] ∧ H d = some (.dK (tbG V.int ps)) ∧ ps.length ≤ 900 ∧ ∀ r H', Same H H' → H r = none → H' r = some (.dK (tbG V.int (putL ps t v))) → Q (.ref r) H'
theorem ok_wi {f : Addr} {fd : FuncData} {k : Nat} (F : Fun K "_law_with" "_law_with" sWi f fd) (m_dict : mg "dict" = none) : FnOk P w K mg base CX0 (k + 1) f fd ["_law_table", "_law_time_here", "_law_worth_here"] spWi := by
  refine F.ok scWi (fun vs H Q E h => ?_) (fun cdv A outer s H vs Q E hr h => ?_)
  · obtain ⟨d, ps, t, v, rfl, _⟩ := h
    rfl
  · obtain ⟨d, ps, t, v, rfl, hd, few, q⟩ := h
    have hu := hu_of hr
    refine ⟨_, pss_cons (ps_set (i := 3) scWi.nd rfl (.inl rfl) (pe_callTy call_dictD (by rfl) m_dict (by decide +kernel) (pa_cons (pv 0) pa_nil)))
      (pss_cons (ps_dput hu (pv 3) (pv 1) (pv 2) rfl)
      (pss_one (ps_ret (pv 3)))), ?_⟩
    refine ⟨_, rfl, d, _, rfl, .inl hd, fun r nr => ?_⟩
    have s1 := same_new (o := .dK (tbG V.int ps)) nr
    have lt : (tbG V.int ps).length = ps.length := List.length_map ..
    refine ⟨_, rfl, _, rfl, _, rfl, r, _, rfl, DPut.k (k := .inl t) upd_same (small1000 (by omega)), _, rfl, ?_⟩
    refine q r _ (same_put nr s1) nr ?_
    rw [put_g]
    exact upd_same
end
end Tg

set_option maxHeartbeats 2000000
namespace Tg
open PySem PySem.Spec PyProof.Rows L2
/-! ### _law_bent, _law_pops -/
abbrev sBe : Stmt := topS 43
abbrev PBe : List Str := ["_law_purse_here", "_law_table", "_law_base_here", "_law_widths_here"]
abbrev NBe : List Str := ["_law_purse_here", "_law_table", "_law_base_here", "_law_widths_here", "_law_way", "_law_times", "_law_one", "_law_other", "_law_time_here"]
theorem scBe : FnScope NBe PBe (defScope sBe) := ⟨rfl, rfl, rfl, by decide +kernel, rfl, by decide +kernel, by decide +kernel⟩
abbrev sPp : Stmt := topS 47
abbrev NPp : List Str := ["_law_purse_here", "_law_table", "_law_base_here", "_law_widths_here", "_law_bent_here", "_law_time_here"]
theorem scPp : FnScope NPp PBe (defScope sPp) := ⟨rfl, rfl, rfl, by decide +kernel, rfl, by decide +kernel, by decide +kernel⟩
section
variable {P : Program} {w : World} {K : PySem.W.Frag} {mg : Str → Option Value} {base : Heap}
def spBe (K : PySem.W.Frag) : Sp := fun vs H Q _ => ∃ (p d wa : Addr) (n m a c : Nat) (ws : List Int) (b : Int) (ps : List Pt), vs = [.ref p, .ref d, .int b, .ref wa] ∧ Pu H p n ∧ n < 2 ^ 36 ∧ SqT K H wa (ws.map V.int) ∧ WOk ws ∧ b.natAbs ≤ 10 ^ 14 ∧ H d = some (.dK (tbG V.int ps)) ∧ Tt ps m a c ∧ m ≤ 400 ∧ 10 ^ 15 ≤ a ∧ a ≤ 106 * 10 ^ 13 ∧ 10 ^ 14 ≤ c ∧ c ≤ 2 * 10 ^ 14 ∧
  ∀ r qs H', Kp p H H' → Pu H' p (n + 20) → H r = none → H' r = some (.dK (tbG V.int qs)) → Tt qs (m + 2) (a + 2 * 10 ^ 13) (c + 1) → Q (.ref r) H'
set_option maxHeartbeats 4000000 in
theorem ok_be {f : Addr} {fd : FuncData} {k : Nat} (F : Fun K "_law_bent" "_law_bent" sBe f fd) (L_draw : CDraw P w K mg base k) (L_time : Cal P w K mg base k "_law_time" ["_law_purse_here", "_law_base_here", "_law_widths_here"] (spTi K)) (L_worth : Cal P w K mg base k "_law_worth" ["_law_purse_here"] spWo)
    (L_with : Cal P w K mg base k "_law_with" ["_law_table", "_law_time_here", "_law_worth_here"] spWi) (L_without : Cal P w K mg base k "_law_without" ["_law_table", "_law_times"] spWt) (m_sorted : mg "sorted" = none) (m_len : mg "len" = none) (m_dict : mg "dict" = none) : FnOk P w K mg base CX0 (k + 1) f fd PBe (spBe K) := by
  refine F.ok scBe (fun vs H Q E h => ?_) (fun cdv A outer s H vs Q E hr h => ?_)
  · obtain ⟨p, d, wa, n, m, a, c, ws, b, ps, rfl, _⟩ := h
    rfl
  · obtain ⟨p, d, wa, n, m, a, c, ws, b, ps, rfl, hp, hn, hw, ok, hb, hd, tt, hm, a0, a1, c0, c1, q⟩ := h
    have hu := hu_of hr
    have hk : (A.deeper (envOfC "_law_bent" (defScope sBe) s.heap.objs.size f cdv)).units + 65 < cLine := by have := hr.un; omega
    refine ⟨_, pss_cons (ps_set (i := 4) scBe.nd rfl (.inl rfl) (pe_cal L_draw (hr.mono (by omega)) (by rfl) (pa_cons (pv 0) (pa_cons pe_int pa_nil))))
      (pss_cons (ps_if (PW.pt (pw_or (pt_cmpR (op_eqK hk) (pv 1) pe_dnewK (nomark _)) (pw_or1 (pt_cmpR op_eq (pv 4) pe_int (nomark _)))))
        (pss_one (ps_ret (pe_cal L_with (hr.mono (by omega)) (by rfl) (pa_cons (pv 1) (pa_cons (pe_cal L_time (hr.mono (by omega)) (by rfl) (pa_cons (pv 0) (pa_cons (pv 2) (pa_cons (pv 3) pa_nil)))) (pa_cons (pe_cal L_worth (hr.mono (by omega)) (by rfl) (pa_cons (pv 0) pa_nil)) pa_nil))))))
        pss_nil)
      (pss_cons (ps_set (i := 5) scBe.nd rfl (.inl rfl) (pe_callB (cr_sortedDI rfl) (by rfl) m_sorted (by decide +kernel) (pa_cons (pv 1) pa_nil)))
      (pss_cons (ps_set (i := 6) scBe.nd rfl (.inr rfl) (pe_ix ix_list (pv 5) (pe_cal L_draw (hr.mono (by omega)) (by rfl) (pa_cons (pv 0) (pa_cons (pe_callB call_len_seq (by rfl) m_len (by decide +kernel) (pa_cons (pv 5) pa_nil)) pa_nil))) (fun _ _ => rfl)))
      (pss_cons (ps_set (i := 7) scBe.nd rfl (.inl rfl) (pe_ix ix_list (pv 5) (pe_cal L_draw (hr.mono (by omega)) (by rfl) (pa_cons (pv 0) (pa_cons (pe_callB call_len_seq (by rfl) m_len (by decide +kernel) (pa_cons (pv 5) pa_nil)) pa_nil))) (fun _ _ => rfl)))
      (pss_cons (ps_if (pt_cmpR op_eq (pv 4) pe_int (nomark _))
        (pss_one (ps_ret (pe_cal L_without (hr.mono (by omega)) (by rfl) (pa_cons (pv 1) (pa_cons (pe_lst (pa_cons (pv 6) pa_nil)) pa_nil)))))
        pss_nil)
      (pss_cons (ps_if (pt_cmpR op_eq (pv 4) pe_int (nomark _))
        (pss_one (ps_ret (pe_cal L_without (hr.mono (by omega)) (by rfl) (pa_cons (pv 1) (pa_cons (pe_lc (own := [("_law_time_here", 8)]) (g := (gName 8)) rfl scBe.nd (pi_list (pv 5)) (blkOk_by (own := [("_law_time_here", 8)]) (N := NBe) (sc := defScope sBe) (by decide +kernel)) (fun _ _ _ _ _ => (pg_name (i := 8) scBe.nd rfl (.inl rfl))) (fun _ _ _ _ _ => pts_one (pt_cmpR op_eq (pe_op op_fdivW (pv 8) (pe_ix (r := rIxT K) ix_tup (pv 3) pe_int (fun _ _ => rfl))) (pe_op op_fdivW (pv 6) (pe_ix (r := rIxT K) ix_tup (pv 3) pe_int (fun _ _ => rfl))) (nomark _))) (fun _ _ _ _ _ => (pv 8))) pa_nil)))))
        pss_nil)
      (pss_cons (ps_if (pt_cmpR op_eq (pv 4) pe_int (nomark _))
        (pss_one (ps_ret (pe_cal L_with (hr.mono (by omega)) (by rfl) (pa_cons (pv 1) (pa_cons (pv 6) (pa_cons (pe_op op_sub (pe_op op_add (pe_dget hu (pv 1) (pv 6) (fun _ _ => rfl)) pe_int) (pe_op op_mul pe_int (pe_cal L_draw (hr.mono (by omega)) (by rfl) (pa_cons (pv 0) (pa_cons pe_int pa_nil))))) pa_nil))))))
        pss_nil)
      (pss_cons (ps_if (pt_cmpR op_eq (pv 4) pe_int (nomark _))
        (pss_one (ps_ret (pe_cal L_with (hr.mono (by omega)) (by rfl) (pa_cons (pe_cal L_with (hr.mono (by omega)) (by rfl) (pa_cons (pv 1) (pa_cons (pv 6) (pa_cons (pe_dget hu (pv 1) (pv 7) (fun _ _ => rfl)) pa_nil)))) (pa_cons (pv 7) (pa_cons (pe_dget hu (pv 1) (pv 6) (fun _ _ => rfl)) pa_nil))))))
        pss_nil)
      (pss_cons (ps_if (pt_cmpR op_eq (pv 4) pe_int (nomark _))
        (pss_one (ps_ret (pe_cal L_with (hr.mono (by omega)) (by rfl) (pa_cons (pe_cal L_without (hr.mono (by omega)) (by rfl) (pa_cons (pv 1) (pa_cons (pe_lst (pa_cons (pv 6) pa_nil)) pa_nil))) (pa_cons (pe_op op_add (pe_op op_add (pv 6) pe_int) (pe_cal L_draw (hr.mono (by omega)) (by rfl) (pa_cons (pv 0) (pa_cons (pe_ix ix_tup (pv 3) pe_int (fun _ _ => rfl)) pa_nil)))) (pa_cons (pe_dget hu (pv 1) (pv 6) (fun _ _ => rfl)) pa_nil))))))
        pss_nil)
      (pss_cons (ps_if (pt_cmpR op_eq (pv 4) pe_int (nomark _))
        (pss_one (ps_ret (pe_callTy call_dictD (by rfl) m_dict (by decide +kernel) (pa_cons (pv 1) pa_nil))))
        pss_nil)
      (pss_one (ps_ret (pe_cal L_without (hr.mono (by omega)) (by rfl) (pa_cons (pv 1) (pa_cons (pe_slice sl_list (pv 5) po_none (po_some (pe_cal L_draw (hr.mono (by omega)) (by rfl) (pa_cons (pv 0) (pa_cons (pe_op op_add (pe_callB call_len_seq (by rfl) m_len (by decide +kernel) (pa_cons (pv 5) pa_nil)) pe_int) pa_nil))))) pa_nil))))))))))))))), ?_⟩
    have lp := tt.len
    have dp : d ≠ p := fun z => by
      obtain ⟨_, _, _, z2, _⟩ := hp
      rw [z, z2] at hd
      cases hd
    refine ⟨_, rfl, p, n, 8, rfl, hp, by omega, by decide, by decide, fun way H1 k1 p1 v0 v1 => ?_⟩
    have hd1 := k1 _ _ dp hd
    have hw1 := sqT_kt (hp.kt k1) hw
    refine ⟨_, rfl, fun e ne => ?_⟩
    have se := same_new (o := .dK []) ne
    have k2 : Kp p H (upd H1 e (.dK [])) := k1.trans (.of se)
    have p2 := p1.same se
    have hw2 := sqT_same se hw1
    have hd2 := se _ _ hd1
    refine ⟨d, e, _, _, tbD ps, [], rfl, rfl, hd2, upd_same, tb_dpk K _ ps, .nil, decide (ps = []), by rw [if_neg Bool.false_ne_true, tbD_nil], ?_⟩
    obtain ⟨H2, e2⟩ : ∃ H2, upd H1 e (.dK []) = H2 := ⟨_, rfl⟩
    rw [e2] at k2 p2 hw2 hd2 ⊢
    by_cases hps : ps = []
    · rw [decide_eq_true hps]
      refine if_t (if_t ?_)
      refine ⟨_, rfl, _, rfl, _, rfl, _, rfl, p, wa, n + 2, ws, b, rfl, p2, by omega, hw2, ok, hb, fun t H3 k3 p3 tb => ?_⟩
      refine ⟨_, rfl, p, n + 10, rfl, p3, by omega, fun x H4 k4 p4 xb => ?_⟩
      refine ⟨d, ps, t, x, rfl, k4 _ _ dp (k3 _ _ dp hd2), by omega, fun r H5 s5 nr hr5 => ?_⟩
      have kk := (k2.trans k3).trans k4
      exact q r _ H5 (kk.trans (.of s5)) ((p4.same s5).mono (by omega)) (fin_new kk p4.at_ nr) hr5 ((tt.mono (Nat.le_refl _) (Nat.le_refl _) (Nat.le_refl _)).put (by omega) (by omega) |>.mono (by omega) (by omega) (by omega))
    rw [decide_eq_false hps]
    refine if_f ⟨_, rfl, rfl, _, rfl, ite2 (fun g => ?_) (fun g => ?_)⟩
    · refine ⟨_, rfl, _, rfl, _, rfl, _, rfl, p, wa, n + 2, ws, b, rfl, p2, by omega, hw2, ok, hb, fun t H3 k3 p3 tb => ?_⟩
      refine ⟨_, rfl, p, n + 10, rfl, p3, by omega, fun x H4 k4 p4 xb => ?_⟩
      refine ⟨d, ps, t, x, rfl, k4 _ _ dp (k3 _ _ dp hd2), by omega, fun r H5 s5 nr hr5 => ?_⟩
      have kk := (k2.trans k3).trans k4
      exact q r _ H5 (kk.trans (.of s5)) ((p4.same s5).mono (by omega)) (fin_new kk p4.at_ nr) hr5 ((tt.mono (Nat.le_refl _) (Nat.le_refl _) (Nat.le_refl _)).put (by omega) (by omega) |>.mono (by omega) (by omega) (by omega))
    have lpos : 0 < ps.length := List.length_pos_iff.mpr hps
    refine ⟨_, rfl, d, _, _, rfl, .inl hd2, g_keys V.int ps, fun ts l pm up nl => ?_⟩
    have s3 := same_new (o := .lst (ts.map V.int)) nl
    obtain ⟨H3, e3⟩ : ∃ H3, upd H2 l (.lst (ts.map V.int)) = H3 := ⟨_, rfl⟩
    have hl3 : H3 l = some (.lst (ts.map V.int)) := by
      rw [← e3]
      exact upd_same
    rw [e3] at s3 ⊢
    have k3 := k2.trans (.of s3)
    have p3 := p2.same s3
    have lp3 : l ≠ p := p2.ne nl
    have hd3 := s3 _ _ hd2
    have lts : ts.length = ps.length := by
      rw [pm.length_eq, List.length_map]
    have lmp : (ts.map V.int).length = ps.length := by
      rw [List.length_map, lts]
    have tin : ∀ t, t ∈ ts → ∃ v, (t, v) ∈ ps := fun t ht => by
      obtain ⟨⟨t2, v⟩, h1, h2⟩ := List.mem_map.mp (pm.mem_iff.mp ht)
      cases h2
      exact ⟨v, h1⟩
    refine ⟨_, rfl, _, rfl, _, rfl, l, _, rfl, .inl (SqL.of hl3), p, n + 2, _, rfl, p3, by omega, by rw [lmp]; omega, by rw [lmp]; omega, fun i1 H4 k4 p4 i10 i11 => ?_⟩
    obtain ⟨one, hone, at1⟩ := atI_mem (xs := ts) i10 (by rw [lmp] at i11; rw [lts]; exact i11)
    have hl4 := k4 _ _ lp3 hl3
    refine ⟨l, _, i1, .int one, rfl, rfl, SqL.of hl4, at1, ?_⟩
    refine ⟨_, rfl, _, rfl, _, rfl, l, _, rfl, .inl (SqL.of hl4), p, n + 4, _, rfl, p4, by omega, by rw [lmp]; omega, by rw [lmp]; omega, fun i2 H5 k5 p5 i20 i21 => ?_⟩
    obtain ⟨oth, hoth, at2⟩ := atI_mem (xs := ts) i20 (by rw [lmp] at i21; rw [lts]; exact i21)
    have hl5 := k5 _ _ lp3 hl4
    refine ⟨l, _, i2, .int oth, rfl, rfl, SqL.of hl5, at2, ?_⟩
    have kk := (k3.trans k4).trans k5
    have hd5 := k5 _ _ dp (k4 _ _ dp hd3)
    have hw5 := sqT_kt (p4.kt k5) (sqT_kt (p3.kt k4) (sqT_same s3 hw2))
    obtain ⟨v1, hv1⟩ := tin one hone
    obtain ⟨v2, hv2⟩ := tin oth hoth
    have val1 : valV (tbG V.int ps) (.inl one) = some (.int v1) := g_val hv1 tt.nd
    have val2 : valV (tbG V.int ps) (.inl oth) = some (.int v2) := g_val hv2 tt.nd
    have b1 := tt.tz _ hv1
    have b2 := tt.tz _ hv2
    have w1 := tt.vz _ hv1
    have w2 := tt.vz _ hv2
    dsimp only at b1 b2 w1 w2
    have fin : ∀ {r : Addr} {qs : List Pt} {H' : Hp} {m2 a2 c2 : Nat}, Same H5 H' → H5 r = none → H' r = some (.dK (tbG V.int qs)) → Tt qs m2 a2 c2 → m2 ≤ m + 2 → a2 ≤ a + 2 * 10 ^ 13 → c2 ≤ c + 1 → Q (.ref r) H' := fun {r qs H' m2 a2 c2} s nr hr t h1 h2 h3 =>
      q r qs H' (kk.trans (.of s)) ((p5.same s).mono (by omega)) (fin_new kk p5.at_ nr) hr (t.mono h1 h2 h3)
    refine ⟨_, rfl, rfl, _, rfl, ite2 (fun g => ?_) (fun g => ?_)⟩
    · refine ⟨_, rfl, _, rfl, (by show 1 ≤ sizeLine; decide), fun l0 nl0 => ?_⟩
      have s6 := same_new (o := .lst [.int one]) nl0
      refine ⟨d, l0, ps, [one], rfl, s6 _ _ hd5, upd_same, fun r qs H' s' nr hr sub => fin (s6.trans s') (s6.free nr) hr (tt.less sub) (by omega) (by omega) (by omega)⟩
    obtain ⟨w0, at0, wa0, wb0⟩ := w_first ok
    have fin2 : ∀ {r : Addr} {qs : List Pt} {H6 H' : Hp} {m2 a2 c2 : Nat}, Kp p H5 H6 → Pu H6 p (n + 12) → Same H6 H' → H6 r = none → H' r = some (.dK (tbG V.int qs)) → Tt qs m2 a2 c2 → m2 ≤ m + 2 → a2 ≤ a + 2 * 10 ^ 13 → c2 ≤ c + 1 → Q (.ref r) H' := fun {r qs H6 H' m2 a2 c2} k6 p6 s nr hr t h1 h2 h3 =>
      q r qs H' ((kk.trans k6).trans (.of s)) ((p6.same s).mono (by omega)) (fin_new (kk.trans k6) p6.at_ nr) hr (t.mono h1 h2 h3)
    refine ⟨_, rfl, rfl, _, rfl, ite2 (fun g => ?_) (fun g => ?_)⟩
    · refine ⟨_, rfl, _, rfl, l, rfl, ⟨_, SqL.of hl5⟩, fun D nD => lc_list (K := K) (a := l) (xs := ts.map V.int) (fun j Hc => (∃ ys : List Int, Hc D = some (.lst (ys.map V.int)) ∧ ys.length ≤ j) ∧ ∀ b o, b ≠ D → H5 b = some o → Hc b = some o) ⟨⟨[], upd_same, Nat.le_refl _⟩, fun b o n h => (upd_ne n).trans h⟩ (fun j Hc _ h => SqL.of (h.2 _ _ (ne_of_none hl5 nD) hl5)) ?_ ?_⟩
      · rintro j v Hc hv ⟨⟨ys, hD, ly⟩, kc⟩
        rw [List.getElem?_map] at hv
        obtain ⟨t, et, rfl⟩ := Option.map_eq_some_iff.mp hv
        have jl : j < ts.length := (List.getElem?_eq_some_iff.mp et).1
        have hwc : SqT K Hc wa (ws.map V.int) := sqT_same (fun b o h => kc b o (ne_of_none h nD) h) hw5
        refine ⟨rfl, _, rfl, _, rfl, wa, _, _, .int w0, rfl, rfl, hwc, at0, _, _, rfl, rfl, wide_div (b := 50) (by omega) (by omega) (by decide) (by decide), _, rfl, _, rfl, wa, _, _, .int w0, rfl, rfl, hwc, at0, _, _, rfl, rfl, wide_div (b := 50) (by omega) (by omega) (by decide) (by decide), rfl, _, rfl, ite2 (fun g => ?_) (fun g => ?_)⟩
        · refine ⟨_, rfl, _, hD, small1000 (by rw [List.length_map]; omega), ⟨ys ++ [t], upd_same.trans (by rw [List.map_append] <;> rfl), by rw [List.length_append, List.length_singleton]; omega⟩, fun b o n h => (upd_ne n).trans (kc b o n h)⟩
        · exact ⟨⟨ys, hD, by omega⟩, kc⟩
      · rintro Hc ⟨⟨ys, hD, ly⟩, kc⟩
        have s6 : Same H5 Hc := fun b o h => kc b o (ne_of_none h nD) h
        exact ⟨d, D, ps, ys, rfl, s6 _ _ hd5, hD, fun r qs H' s' nr hr sub => fin (s6.trans s') (s6.free nr) hr (tt.less sub) (by omega) (by omega) (by omega)⟩
    have gd1 : ∀ {Hc : Hp}, Hc d = some (.dK (tbG V.int ps)) → DGet Hc d (.int one) (some (.int v1)) := fun {Hc} h => by
      have z := DGet.k (k := .inl one) h
      rw [val1] at z
      exact z
    have gd2 : ∀ {Hc : Hp}, Hc d = some (.dK (tbG V.int ps)) → DGet Hc d (.int oth) (some (.int v2)) := fun {Hc} h => by
      have z := DGet.k (k := .inl oth) h
      rw [val2] at z
      exact z
    refine ⟨_, rfl, rfl, _, rfl, ite2 (fun g => ?_) (fun g => ?_)⟩
    · refine ⟨_, rfl, _, rfl, _, rfl, _, rfl, d, _, rfl, gd1 hd5, _, _, rfl, rfl, _, rfl, p, n + 6, 2, rfl, p5, by omega, by decide, by decide, fun u H6 k6 p6 u0 u1 => ?_⟩
      refine ⟨_, _, rfl, rfl, .inl ⟨by decide, by decide⟩, _, _, rfl, rfl, d, ps, one, _, rfl, k6 _ _ dp hd5, by omega, fun r H7 s7 nr hr7 => ?_⟩
      exact fin2 k6 (p6.mono (by omega)) s7 nr hr7 ((tt.mono (Nat.le_refl _) (Nat.le_refl _) (Nat.le_succ _)).put (by omega) (by omega)) (by omega) (by omega) (by omega)
    have lq : ∀ {t v : Int}, (putL ps t v).length ≤ m + 1 := fun {t v} => Nat.le_trans putL_len (Nat.succ_le_succ lp)
    refine ⟨_, rfl, rfl, _, rfl, ite2 (fun g => ?_) (fun g => ?_)⟩
    · refine ⟨_, rfl, _, rfl, _, rfl, _, rfl, d, _, rfl, gd2 hd5, d, ps, one, v2, rfl, hd5, by omega, fun r1 H6 s6 nr1 hr1 => ?_⟩
      refine ⟨_, rfl, _, rfl, _, rfl, d, _, rfl, gd1 (s6 _ _ hd5), r1, _, oth, v1, rfl, hr1, by have := lq (t := one) (v := v2); omega, fun r H7 s7 nr hr7 => ?_⟩
      exact fin (s6.trans s7) (s6.free nr) hr7 ((tt.put (t := one) (v := v2) b1 w2).put b2 w1) (by omega) (by omega) (by omega)
    refine ⟨_, rfl, rfl, _, rfl, ite2 (fun g => ?_) (fun g => ?_)⟩
    · refine ⟨_, rfl, _, rfl, (by show 1 ≤ sizeLine; decide), fun l0 nl0 => ?_⟩
      have s6 := same_new (o := .lst [.int one]) nl0
      refine ⟨d, l0, ps, [one], rfl, s6 _ _ hd5, upd_same, fun r1 qs1 H6 s6' nr1 hr1 sub => ?_⟩
      have s56 := s6.trans s6'
      have lsub := sub.length_le
      refine ⟨_, rfl, _, _, rfl, rfl, _, rfl, _, rfl, wa, _, _, .int w0, rfl, rfl, sqT_same s56 hw5, at0, p, n + 6, w0, rfl, p5.same s56, by omega, by omega, by omega, fun u H7 k7 p7 u0 u1 => ?_⟩
      have r1p : r1 ≠ p := (p5.same s6).ne nr1
      have hd7 := k7 _ _ dp (s56 _ _ hd5)
      refine ⟨_, _, rfl, rfl, _, rfl, _, rfl, d, _, rfl, gd1 hd7, r1, qs1, _, v1, rfl, k7 _ _ r1p hr1, by omega, fun r H8 s8 nr hr8 => ?_⟩
      have k57 : Kp p H5 H7 := (Kp.of s56).trans k7
      exact fin2 k57 (p7.mono (by omega)) s8 nr hr8 (((tt.less sub).mono (Nat.le_refl m) (show a ≤ a + 2 * 10 ^ 13 by omega) (Nat.le_refl c)).put (by omega) w1) (by omega) (by omega) (by omega)
    refine ⟨_, rfl, rfl, _, rfl, ite2 (fun g => ?_) (fun g => ?_)⟩
    · exact ⟨_, rfl, d, _, rfl, .inl hd5, fun r nr => fin (same_new nr) nr upd_same tt (by omega) (by omega) (by omega)⟩
    · refine ⟨_, rfl, _, rfl, _, rfl, _, rfl, l, _, rfl, .inl (SqL.of hl5), _, _, rfl, rfl, p, n + 6, _, rfl, p5, by omega, by rw [lmp]; omega, by rw [lmp]; omega, fun u H6 k6 p6 u0 u1 => ?_⟩
      have hl6 := k6 _ _ lp3 hl5
      refine ⟨u, rfl, l, _, rfl, SqL.of hl6, fun l0 nl0 => ?_⟩
      obtain ⟨ms, em, _⟩ := cut_ints ts none (some u)
      have s7 := same_new (o := .lst (cutV (ts.map V.int) none (some u))) nl0
      refine ⟨d, l0, ps, ms, rfl, s7 _ _ (k6 _ _ dp hd5), by rw [← em]; exact upd_same, fun r qs H' s' nr hr sub => ?_⟩
      exact fin2 k6 (p6.mono (by omega)) (s7.trans s') (s7.free nr) hr (tt.less sub) (by omega) (by omega) (by omega)
end
end Tg

set_option maxHeartbeats 2000000
namespace Tg
open PySem PySem.Spec PyProof.Rows L2
/-! ### the points of a table by rising times -/
structure SrP (ps qs : List Pt) : Prop where
  up : (qs.map (·.1)).Pairwise (· < ·)
  all : ∀ p, p ∈ qs ↔ p ∈ ps
theorem SrP.len {ps qs : List Pt} (s : SrP ps qs) (nd : (ps.map (·.1)).Nodup) : qs.length ≤ ps.length := by
  have n2 : (qs.map (·.1)).Nodup := s.up.imp fun h => Int.ne_of_lt h
  have h := nodup_len n2 (L := ps.map (·.1)) fun t ht => by
    obtain ⟨p, hp, e⟩ := List.mem_map.mp ht
    exact List.mem_map.mpr ⟨p, (s.all p).mp hp, e⟩
  rw [List.length_map, List.length_map] at h
  exact h
theorem SrP.tt {ps qs : List Pt} {m a b : Nat} (s : SrP ps qs) (t : Tt ps m a b) : Tt qs m a b :=
  ⟨s.up.imp fun h => Int.ne_of_lt h, Nat.le_trans (s.len t.nd) t.len, fun p hp => t.tz p ((s.all p).mp hp), fun p hp => t.vz p ((s.all p).mp hp)⟩
/-- while they are listed -/
structure SrI (K : PySem.W.Frag) (H1 Hc : Hp) (D : Addr) (ps : List Pt) (ns : List Int) (i : Nat) : Prop where
  st : ∃ qs : List Pt, LD K Hc D (qs.map pd) ∧ qs.map (·.1) = ns.take i ∧ (∀ x, x ∈ qs → x ∈ ps) ∧ ∀ c o, c ≠ D → H1 c = some o → Hc c = some o
theorem SrI.nil {K : PySem.W.Frag} {H1 : Hp} {D : Addr} {ps : List Pt} {ns : List Int} : SrI K H1 (upd H1 D (.lst [])) D ps ns 0 := ⟨[], ⟨[], upd_same, .nil⟩, rfl, fun x h => absurd h List.not_mem_nil, fun c o n e => (upd_ne n).trans e⟩
theorem SrI.step {K : PySem.W.Frag} {H1 Hc : Hp} {D : Addr} {ps : List Pt} {ns : List Int} {i : Nat} {p : Pt} (h : SrI K H1 Hc D ps ns i) (hp : p ∈ ps) (e : ns[i]? = some p.1) (few : ns.length ≤ 900) :
    ∃ xs, Hc D = some (.lst xs) ∧ xs.length < sizeLine ∧ ∀ u, Hc u = none → SrI K H1 (upd (upd Hc u (.tup [.int p.1, .int p.2])) D (.lst (xs ++ [.ref u]))) D ps ns (i + 1) := by
  obtain ⟨qs, ⟨xs, hx, dx⟩, em, sub, kc⟩ := h.st
  have tk : ns.take (i + 1) = ns.take i ++ [p.1] := take_snoc e
  have ln : xs.length ≤ 900 := by
    have h1 := congrArg List.length em
    rw [List.length_map, List.length_take] at h1
    rw [dl_len dx]
    omega
  refine ⟨xs, hx, small1k (by omega), fun u nu => ?_⟩
  have st := same_new (o := .tup [.int p.1, .int p.2]) nu
  refine ⟨qs ++ [p], ?_, ?_, fun y hy => ?_, fun c o n e => ?_⟩
  · rw [List.map_append]
    exact .snoc (KT.of st) (st _ _ hx) dx (td_pds qs) (pd_new (x := p) upd_same) (td_pd p)
  · rw [List.map_append, em, tk] <;> rfl
  · rcases List.mem_append.mp hy with h | h
    · exact sub y h
    · rw [List.mem_singleton.mp h]
      exact hp
  · rw [upd_ne n]
    exact st _ _ (kc c o n e)
theorem SrI.done {K : PySem.W.Frag} {H1 Hc : Hp} {D : Addr} {ps : List Pt} {ns : List Int} (h : SrI K H1 Hc D ps ns ns.length) (nd : (ps.map (·.1)).Nodup) (pm : ns.Perm (ps.map (·.1))) (up : ns.Pairwise (· ≤ ·)) (nD : H1 D = none) : ∃ qs, LD K Hc D (qs.map pd) ∧ SrP ps qs ∧ Same H1 Hc := by
  obtain ⟨qs, ld, em, sub, kc⟩ := h.st
  rw [List.take_length] at em
  refine ⟨qs, ld, ⟨?_, fun y => ⟨sub y, fun hy => ?_⟩⟩, fun c o e => kc c o (ne_of_none e nD) e⟩
  · rw [em]
    exact ups_lt up (pm.nodup_iff.mpr nd)
  · have h : y.1 ∈ qs.map (·.1) := by
      rw [em]
      exact pm.mem_iff.mpr (List.mem_map.mpr ⟨y, hy, rfl⟩)
    obtain ⟨z, hz, ez⟩ := List.mem_map.mp h
    rw [key_one nd (sub z hz) hy ez] at hz
    exact hz
section
variable {P : Program} {w : World} {K : PySem.W.Frag} {mg : Str → Option Value} {base : Heap}
def spPp (K : PySem.W.Frag) : Sp := fun vs H Q _ => ∃ (p d wa : Addr) (n m : Nat) (ws : List Int) (b : Int) (ps : List Pt), vs = [.ref p, .ref d, .int b, .ref wa] ∧ Pu H p n ∧ n < 2 ^ 35 ∧ SqT K H wa (ws.map V.int) ∧ WOk ws ∧ b.natAbs ≤ 10 ^ 14 ∧ H d = some (.dK (tbG V.int ps)) ∧ Tt ps m (10 ^ 15) (10 ^ 14) ∧ m ≤ 190 ∧
  ∀ r qs H', Kp p H H' → LD K H' r (qs.map pd) → (qs.map (·.1)).Pairwise (· < ·) → Tt qs (m + 4) (104 * 10 ^ 13) (2 * 10 ^ 14) → Q (.ref r) H'
set_option maxHeartbeats 4000000 in
theorem ok_pp {f : Addr} {fd : FuncData} {k : Nat} (F : Fun K "_law_pops" "_law_pops" sPp f fd) (L_draw : CDraw P w K mg base k) (L_bent : Cal P w K mg base k "_law_bent" ["_law_purse_here", "_law_table", "_law_base_here", "_law_widths_here"] (spBe K)) (m_sorted : mg "sorted" = none) : FnOk P w K mg base CX0 (k + 1) f fd PBe (spPp K) := by
  refine F.ok scPp (fun vs H Q E h => ?_) (fun cdv A outer s H vs Q E hr h => ?_)
  · obtain ⟨p, d, wa, n, m, ws, b, ps, rfl, _⟩ := h
    rfl
  · obtain ⟨p, d, wa, n, m, ws, b, ps, rfl, hp, hn, hw, ok, hb, hd, tt, hm, q⟩ := h
    have hu := hu_of hr
    refine ⟨_, pss_cons (ps_set (i := 4) scPp.nd rfl (.inr rfl) (pe_cal L_bent (hr.mono (by omega)) (by rfl) (pa_cons (pv 0) (pa_cons (pv 1) (pa_cons (pv 2) (pa_cons (pv 3) pa_nil))))))
      (pss_cons (ps_if (pt_cmpR op_eq (pe_cal L_draw (hr.mono (by omega)) (by rfl) (pa_cons (pv 0) (pa_cons pe_int pa_nil))) pe_int (nomark _))
        (pss_one (ps_set (i := 4) scPp.nd rfl (.inr rfl) (pe_cal L_bent (hr.mono (by omega)) (by rfl) (pa_cons (pv 0) (pa_cons (pv 4) (pa_cons (pv 2) (pa_cons (pv 3) pa_nil)))))))
        pss_nil)
      (pss_one (ps_ret (pe_lc (own := [("_law_time_here", 5)]) (g := (gName 5)) (tt := tYes) rfl scPp.nd (pi_list (pe_callB (cr_sortedDI rfl) (by rfl) m_sorted (by decide +kernel) (pa_cons (pv 4) pa_nil))) (blkOk_by (own := [("_law_time_here", 5)]) (N := NPp) (sc := defScope sPp) (by decide +kernel)) (fun _ _ _ _ _ => (pg_name (i := 5) scPp.nd rfl (.inl rfl))) (fun _ _ _ _ _ => pts_nil) (fun _ _ _ _ _ => (pe_tup (pa_cons (pv 5) (pa_cons (pe_dget hu (pv 4) (pv 5) (fun _ _ => rfl)) pa_nil)))))))), ?_⟩
    refine ⟨_, rfl, _, rfl, _, rfl, _, rfl, p, d, wa, n, m, 10 ^ 15, 10 ^ 14, ws, b, ps, rfl, hp, by omega, hw, ok, hb, hd, tt, by omega, by omega, by omega, by omega, by omega, fun r1 qs1 H1 k1 p1 nr1 hr1 t1 => ?_⟩
    have r1p : r1 ≠ p := fun z => by
      obtain ⟨_, _, _, e, _⟩ := hp
      rw [z, e] at nr1
      cases nr1
    refine ⟨_, rfl, p, n + 20, 4, rfl, p1, by omega, by decide, by decide, fun u H2 k2 p2 u0 u1 => ?_⟩
    have hr2 := k2 _ _ r1p hr1
    have k12 := k1.trans k2
    refine ⟨rfl, _, rfl, ite2 (fun g => ?a) (fun g => ?b)⟩
    case' a =>
      refine ⟨_, rfl, _, rfl, _, rfl, _, rfl, p, r1, wa, n + 22, m + 2, _, _, ws, b, qs1, rfl, p2, by omega, sqT_kt (hp.kt k12) hw, ok, hb, hr2, t1, by omega, by omega, by omega, by omega, by omega, fun r2 qs2 H3 k3 p3 nr2 hr3 t2 => ?_⟩
      have kk := k12.trans k3
      have hrr := hr3
      have tq : Tt qs2 (m + 4) (104 * 10 ^ 13) (2 * 10 ^ 14) := t2.mono (by omega) (by omega) (by omega)
      rename Addr => rr
      rename List Pt => rs
      rename Hp => HH
    case' b =>
      have kk := k12
      have hrr := hr2
      have tq : Tt qs1 (m + 4) (104 * 10 ^ 13) (2 * 10 ^ 14) := t1.mono (by omega) (by omega) (by omega)
      rename Addr => rr
      rename List Pt => rs
      rename Hp => HH
    all_goals
      refine ⟨_, rfl, rr, _, _, rfl, .inl hrr, g_keys V.int rs, fun ns l pm up nl => ?_⟩
      obtain ⟨H4, e4⟩ : ∃ H4, upd HH l (.lst (ns.map V.int)) = H4 := ⟨_, rfl⟩
      have s4 := same_new (o := .lst (ns.map V.int)) nl
      have hl4 : H4 l = some (.lst (ns.map V.int)) := by
        rw [← e4]
        exact upd_same
      rw [e4] at s4 ⊢
      have hr4 := s4 _ _ hrr
      have lns : ns.length ≤ 900 := by
        have h1 := tq.len
        rw [pm.length_eq, List.length_map]
        omega
      refine ⟨l, rfl, ⟨_, SqL.of hl4⟩, fun D nD => lc_list (K := K) (a := l) (xs := ns.map V.int) (fun i Hc => SrI K H4 Hc D rs ns i) SrI.nil (fun i Hc _ h => let ⟨_, _, _, _, kc⟩ := h.st; SqL.of (kc _ _ (ne_of_none hl4 nD) hl4)) ?_ ?_⟩
      · intro i v Hc hv h
        rw [List.getElem?_map] at hv
        obtain ⟨t, et, ev⟩ := Option.map_eq_some_iff.mp hv
        subst ev
        obtain ⟨p0, hx2, ex⟩ := List.mem_map.mp (pm.mem_iff.mp (List.mem_of_getElem? et))
        subst ex
        obtain ⟨_, _, _, _, kc⟩ := h.st
        have gd : DGet Hc rr (kV (.inl p0.1)) (valV (tbG V.int rs) (.inl p0.1)) := DGet.k (kc _ _ (ne_of_none hr4 nD) hr4)
        rw [g_val hx2 tq.nd] at gd
        obtain ⟨xs, hx, sx, go⟩ := h.step hx2 et lns
        exact ⟨rfl, yes_b (if_t ⟨_, rfl, _, rfl, _, rfl, rr, _, rfl, gd, (by show 2 ≤ sizeLine; decide), fun u nu => ⟨xs, same_new nu _ _ hx, sx, go u nu⟩⟩)⟩
      · intro Hc h
        rw [List.length_map] at h
        obtain ⟨qs, ld, srt, s5⟩ := h.done tq.nd pm up nD
        exact q D qs Hc ((kk.trans (.of s4)).trans (.of s5)) ld srt.up (srt.tt tq)
end
end Tg

set_option maxHeartbeats 2000000
namespace Tg
open PySem PySem.Spec PyProof.Rows L2
/-! ### _law_truth, _law_gone -/
abbrev sTh : Stmt := topS 46
theorem scTh : FnScope ["_law_told", "_law_due"] ["_law_told", "_law_due"] (defScope sTh) := ⟨rfl, rfl, rfl, by decide +kernel, rfl, by decide +kernel, by decide +kernel⟩
abbrev sGo : Stmt := topS 45
abbrev PGo : List Str := ["_law_purse_here", "_law_grains", "_law_base_here", "_law_ends"]
abbrev NGo : List Str := ["_law_purse_here", "_law_grains", "_law_base_here", "_law_ends", "_law_some", "_law_width"]
theorem scGo : FnScope NGo PGo (defScope sGo) := ⟨rfl, rfl, rfl, by decide +kernel, rfl, by decide +kernel, by decide +kernel⟩
/-- what is kept behind some lettings go; hz: the ends told -/
structure Link (S0 S : Gs) (hz : Int → Option Int) (p : Int) (rs : List Pt) : Prop where
  ws : S.ws = S0.ws
  pls : S.pls = S0.pls
  len : ∀ q x, (S.ss q x).length ≤ (S0.ss q x).length
  hzk : ∀ x, x ∈ S0.ws → S.hz x = (hz x).map fun h => h - h % x
  rt : RtH S p rs
theorem letgo_len {S : Gs} {x h p y : Int} : ((S.letgo x h).ss p y).length ≤ (S.ss p y).length := by
  show (if y = x ∧ p ∈ S.pls x then leftF (S.ss p y) h else S.ss p y).length ≤ _
  split
  · exact List.length_filter_le _ _
  · exact Nat.le_refl _
theorem Link.one {S0 S : Gs} {hz : Int → Option Int} {p x t : Int} {rs : List Pt} (L : Link S0 S hz p rs) (no : ∀ y, p ∉ S.pls y → S.ss p y = []) (e : hz x = none) (hx : x ∈ S0.ws) : Link S0 (S.letgo x (t - t % x)) (setF hz x (some t)) p rs := by
  refine ⟨L.ws, L.pls, fun q y => Nat.le_trans letgo_len (L.len q y), fun y hy => ?_, rth_letgo no L.rt⟩
  rw [letgo_hz]
  by_cases c : y = x
  · rw [if_pos c, c, setF_at]
    have z := L.hzk x hx
    rw [e] at z
    unfold Gs.topH
    rw [z]
    show some (if t - t % x > t - t % x then t - t % x else t - t % x) = some (t - t % x)
    rw [if_neg (Int.lt_irrefl _)]
  · rw [if_neg c, setF_ne c]
    exact L.hzk y hy
theorem Link.more {S0 S : Gs} {hz : Int → Option Int} {p x t u : Int} {rs : List Pt} (L : Link S0 S hz p rs) (no : ∀ y, p ∉ S.pls y → S.ss p y = []) (e : hz x = some t) (hx : x ∈ S0.ws) (x0 : 0 < x) (le : u ≤ t) : Link S0 (S.letgo x (u - u % x)) hz p rs := by
  refine ⟨L.ws, L.pls, fun q y => Nat.le_trans letgo_len (L.len q y), fun y hy => ?_, rth_letgo no L.rt⟩
  rw [letgo_hz]
  by_cases c : y = x
  · rw [if_pos c, c, e]
    have z := L.hzk x hx
    rw [e] at z
    unfold Gs.topH
    rw [z]
    have h1 := Int.mul_ediv_add_emod t x
    have h2 := Int.mul_ediv_add_emod u x
    have h3 : u / x ≤ t / x := Int.ediv_le_ediv x0 le
    have h4 := Int.mul_le_mul_of_nonneg_left h3 (Int.le_of_lt x0)
    have h5 : u - u % x ≤ t - t % x := by omega
    show some (if (some (t - t % x)).getD (u - u % x) > u - u % x then (some (t - t % x)).getD (u - u % x) else u - u % x) = some (t - t % x)
    show some (if t - t % x > u - u % x then t - t % x else u - u % x) = some (t - t % x)
    by_cases d : t - t % x > u - u % x
    · rw [if_pos d]
    · rw [if_neg d]
      refine congrArg some ?_
      omega
  · rw [if_neg c]
    exact L.hzk y hy
section
variable {P : Program} {w : World} {K : PySem.W.Frag} {mg : Str → Option Value} {base : Heap} {C CF : Addr}
def spTh : Sp := fun vs H Q _ => ∃ b c : Bool, vs = [.bl b, .bl c] ∧ ∀ t, (t = true ↔ b = c) → Q (.bl t) H
theorem ok_th {f : Addr} {fd : FuncData} {k : Nat} (F : Fun K "_law_truth" "_law_truth" sTh f fd) (m_isinstance : mg "isinstance" = none) (m_bool : mg "bool" = none) : FnOk P w K mg base CX0 (k + 1) f fd ["_law_told", "_law_due"] spTh := by
  refine F.ok scTh (fun vs H Q E h => ?_) (fun cdv A outer s H vs Q E hr h => ?_)
  · obtain ⟨b, c, rfl, _⟩ := h
    rfl
  · obtain ⟨b, c, rfl, q⟩ := h
    refine ⟨_, pss_one (ps_ret (pe_and (pe_callB call_isi (by rfl) m_isinstance (by decide +kernel) (pa_cons (pv 0) (pa_cons (pe_bltn (v := .ty "bool") (by rfl) m_bool (by decide +kernel) rfl) pa_nil))) (pe_one (pe_cmpR op_eq (pv 0) (pv 1) (nomark _))))), ?_⟩
    refine ⟨_, rfl, .bl b, .ty "bool", .type "bool", .type "bool", true, rfl, .ty _, .base (.bl b), kit_ty (by decide +kernel), true, rfl, if_t ⟨_, rfl, _, rfl, rfl, ?_⟩⟩
    refine q _ ?_
    cases b <;> cases c <;> decide
/-- the ends at e, and what is kept -/
def spGo (K : PySem.W.Frag) (C CF : Addr) : Sp := fun vs H Q _ => ∃ (p g wa kd hd e : Addr) (n : Nat) (b : Int) (S0 : Gs) (rk : Addr → Option Ow) (rs : List Pt), vs = [.ref p, .ref g, .int b, .ref e] ∧ Pu H p n ∧ n < 2 ^ 35 ∧ b.natAbs ≤ 10 ^ 14 ∧ GiA C H g wa kd hd false ∧ GrG K CF H wa kd hd S0 rk ∧ WOk S0.ws ∧ EnD H e S0.ws (fun _ => none) ∧ rk e = none ∧ (∀ x, x ∈ S0.ws → S0.hz x = none) ∧ RtH S0 3 rs ∧ (∀ q x, x ∈ S0.ws → (S0.ss q x).length ≤ 400) ∧ (∀ x, (S0.pls x).length ≤ 900) ∧
  ∀ S hz H', (∀ b o, b ≠ p → b ≠ e → rk b = none → H b = some o → H' b = some o) → GrG K CF H' wa kd hd S rk → Link S0 S hz 3 rs → EnD H' e S0.ws hz → Pu H' p (n + 100) → Q .non H'
set_option maxHeartbeats 4000000 in
theorem ok_go {f : Addr} {fd : FuncData} {k : Nat} (F : Fun K "_law_gone" "_law_gone" sGo f fd) (T : TGr K C) (L_draw : CDraw P w K mg base k) (M_let_go : CalM P w K mg base k C "let_go" ["self", "width", "time"] (spLG K C CF)) (m_len : mg "len" = none) (m_list : mg "list" = none) : FnOk P w K mg base CX0 (k + 1) f fd PGo (spGo K C CF) := by
  refine F.ok scGo (fun vs H Q E h => ?_) (fun cdv A outer s H vs Q E hr h => ?_)
  · obtain ⟨p, g, wa, kd, hd, e, n, b, S0, rk, rs, rfl, _⟩ := h
    rfl
  · obtain ⟨p, g, wa, kd, hd, e, n, b, S0, rk, rs, rfl, hp, hn, hb, gi, gr, okw, de, rke, hz0, rt, lss, lpl, q⟩ := h
    have hu := hu_of hr
    refine ⟨_, pss_cons (ps_set (i := 4) scGo.nd rfl (.inl rfl) (pe_ix ix_list (pe_lst (pa_cons (pe_lst pa_nil) (pa_cons (pe_lst (pa_cons (pe_ix ix_tup (pe_fld (pv 1) rfl) (pe_cal L_draw (hr.mono (by omega)) (by rfl) (pa_cons (pv 0) (pa_cons (pe_callB call_len_seq (by rfl) m_len (by decide +kernel) (pa_cons (pe_fld (pv 1) rfl) pa_nil)) pa_nil))) (fun _ _ => rfl)) pa_nil)) (pa_cons (pe_callTy call_list_of (by rfl) m_list (by decide +kernel) (pa_cons (pe_fld (pv 1) rfl) pa_nil)) pa_nil)))) (pe_cal L_draw (hr.mono (by omega)) (by rfl) (pa_cons (pv 0) (pa_cons pe_int pa_nil))) (fun _ _ => rfl)))
      (pss_one (ps_for PassesOwn.never rfl (pi_list (pv 4)) (pg_name (i := 5) scGo.nd rfl (.inl rfl))
        (pss_cons (ps_dput hu (pv 3) (pv 5) (pe_op op_add (pe_op op_mulW (pe_op op_sub (pe_op op_add (pe_op op_fdivW (pv 2) (pv 5)) (pe_cal L_draw (hr.mono (by omega)) (by rfl) (pa_cons (pv 0) (pa_cons pe_int pa_nil)))) pe_int) (pv 5)) (pe_op op_mulW (pe_cal L_draw (hr.mono (by omega)) (by rfl) (pa_cons (pv 0) (pa_cons pe_int pa_nil))) (pe_cal L_draw (hr.mono (by omega)) (by rfl) (pa_cons (pv 0) (pa_cons (pv 5) pa_nil))))) rfl)
        (pss_cons (ps_expr (pe_calM (pv 1) T.cl M_let_go (hr.mono (by omega)) (pa_cons (pv 5) (pa_cons (pe_dget hu (pv 3) (pv 5) (fun _ _ => rfl)) pa_nil))))
        (pss_one (ps_if (pt_cmpR op_eq (pe_cal L_draw (hr.mono (by omega)) (by rfl) (pa_cons (pv 0) (pa_cons pe_int pa_nil))) pe_int (nomark _))
          (pss_one (ps_expr (pe_calM (pv 1) T.cl M_let_go (hr.mono (by omega)) (pa_cons (pv 5) (pa_cons (pe_op op_sub (pe_op op_sub (pe_dget hu (pv 3) (pv 5) (fun _ _ => rfl)) pe_int) (pe_cal L_draw (hr.mono (by omega)) (by rfl) (pa_cons (pv 0) (pa_cons (pe_op op_mul pe_int (pv 5)) pa_nil)))) pa_nil)))))
          pss_nil)))))), ?_⟩
    obtain ⟨dx, hg⟩ := id gi
    obtain ⟨_, _, _, hpp, _⟩ := id hp
    have nd := wok_nd okw
    have four := okw.le
    have lw : (S0.ws.map V.int).length = S0.ws.length := List.length_map ..
    have ne0 : 0 < S0.ws.length := List.length_pos_iff.mpr okw.ne
    have gp : g ≠ p := fun z => by
      rw [z, hpp] at hg
      cases hg
    have rkp : rk p = none := by
      cases z : rk p with
      | none => rfl
      | some u =>
        obtain ⟨kvs, y⟩ := gr.own p (by rw [z]; exact fun y => nomatch y)
        rw [hpp] at y
        cases y
    refine ⟨Nat.zero_le _, fun l1 nl1 => ?_⟩
    have s1 := same_new (o := .lst []) nl1
    have hg1 := s1 _ _ hg
    refine ⟨_, rfl, g, C, dx, _, .ref wa, rfl, hg1, T.cl, T.no _ (by decide), rfl, _, rfl, _, rfl, g, C, dx, _, .ref wa, rfl, hg1, T.cl, T.no _ (by decide), rfl, wa, _, rfl, .inr (sqT_same s1 gr.gw), p, n, _, rfl, hp.same s1, by omega, by rw [lw]; omega, by rw [lw]; omega, fun v H2 k2 p2 v0 v1 => ?_⟩
    rw [lw] at v1
    obtain ⟨gr0, rfl⟩ : ∃ gr0 : Nat, v = gr0 := ⟨v.toNat, by omega⟩
    obtain ⟨x1, ex1⟩ : ∃ x1, S0.ws[gr0]? = some x1 := ⟨_, List.getElem?_eq_getElem (by omega)⟩
    have hx1 := List.mem_of_getElem? ex1
    have l1p : l1 ≠ p := hp.ne nl1
    have k12 : Kp p H H2 := (Kp.of s1).trans k2
    have kt12 : KT H H2 := hp.kt k12
    refine ⟨wa, _, _, .int x1, rfl, rfl, sqT_kt kt12 gr.gw, atI_nat (by rw [List.getElem?_map, ex1] <;> rfl), ?_⟩
    refine ⟨(by show 1 ≤ sizeLine; decide), fun l2 nl2 => ?_⟩
    have s3 := same_new (o := .lst [.int x1]) nl2
    have hg3 := s3 _ _ (k2 _ _ gp hg1)
    refine ⟨_, rfl, g, C, dx, _, .ref wa, rfl, hg3, T.cl, T.no _ (by decide), rfl, wa, _, rfl, .inr (sqT_same s3 (sqT_kt kt12 gr.gw)), fun l3 nl3 => ?_⟩
    have s4 := same_new (o := .lst (S0.ws.map V.int)) nl3
    refine ⟨(by show 3 ≤ sizeLine; decide), fun l4 nl4 => ?_⟩
    have s5 := same_new (o := .lst [.ref l1, .ref l2, .ref l3]) nl4
    have s25 := s3.trans (s4.trans s5)
    have p5 := p2.same s25
    refine ⟨_, rfl, p, n + 2, 3, rfl, p5, by omega, by decide, by decide, fun u H6 k6 p6 u0 u1 => ?_⟩
    have l2p : l2 ≠ p := p2.ne nl2
    have l3p : l3 ≠ p := (p2.same s3).ne nl3
    have l4p : l4 ≠ p := (p2.same (s3.trans s4)).ne nl4
    have h4 := k6 _ _ l4p upd_same
    have h3 := k6 _ _ l3p (s5 _ _ upd_same)
    have h2 := k6 _ _ l2p ((s4.trans s5) _ _ upd_same)
    have h1 := k6 _ _ l1p (s25 _ _ (k2 _ _ l1p upd_same))
    obtain ⟨sm, zs, at_, hsm, zsub, znd⟩ : ∃ (sm : Addr) (zs : List Int), atI [V.ref l1, .ref l2, .ref l3] u = some (.ref sm) ∧ H6 sm = some (.lst (zs.map V.int)) ∧ (∀ z, z ∈ zs → z ∈ S0.ws) ∧ zs.Nodup := by
      obtain rfl | rfl | rfl : u = 0 ∨ u = 1 ∨ u = 2 := by omega
      · exact ⟨l1, [], rfl, h1, fun z h => absurd h List.not_mem_nil, List.nodup_nil⟩
      · exact ⟨l2, [x1], rfl, h2, fun z h => by rw [List.mem_singleton.mp h]; exact hx1, List.nodup_cons.mpr ⟨List.not_mem_nil, List.nodup_nil⟩⟩
      · exact ⟨l3, S0.ws, rfl, h3, fun z h => h, nd⟩
    have k16 : Kp p H H6 := (k12.trans (.of s25)).trans k6
    refine ⟨l4, _, _, .ref sm, rfl, rfl, SqL.of h4, at_, ?_⟩
    have hg6 := k16 _ _ gp hg
    have hk6 : HK CF H H6 := fun a o h hh => k16 a o (fun z => by
      rw [z, hpp] at h
      cases h
      exact soft_lst hh) h
    have gr6 : GrG K CF H6 wa kd hd S0 rk := gr.hk hk6 fun a o h e => k16 a o (fun z => h (z ▸ rkp)) e
    obtain ⟨evs, he, ek⟩ := de.k
    have ep : e ≠ p := fun z => by
      rw [z, hpp] at he
      cases he
    have de6 : EnD H6 e S0.ws (fun _ => none) := ek.at_ (k16 _ _ ep he)
    have smp : sm ≠ p := fun z => by
      obtain ⟨_, _, _, y, _⟩ := p6
      obtain rfl | rfl | rfl : u = 0 ∨ u = 1 ∨ u = 2 := by omega
      · cases at_
        exact l1p z
      · cases at_
        exact l2p z
      · cases at_
        exact l3p z
    have rksm : rk sm = none := by
      cases z : rk sm with
      | none => rfl
      | some u =>
        obtain ⟨kvs, y⟩ := gr6.own sm (by rw [z]; exact fun y => nomatch y)
        rw [hsm] at y
        cases y
    have lzs : zs.length ≤ 4 := Nat.le_trans (nodup_len znd fun z h => zsub z h) four
    have sme : sm ≠ e := fun z => by
      rw [z, k16 _ _ ep he] at hsm
      cases hsm
    refine ⟨_, rfl, sm, rfl, ⟨_, SqL.of hsm⟩, for_list (K := K) (a := sm) (xs := zs.map V.int) (fun i σ Hc => ∃ (z5 : Option V) (S : Gs) (hz : Int → Option Int), σ = [some (.ref p), some (.ref g), some (.int b), some (.ref e), some (.ref sm), z5] ∧ (∀ b o, b ≠ p → b ≠ e → rk b = none → H6 b = some o → Hc b = some o) ∧ GrG K CF Hc wa kd hd S rk ∧ Link S0 S hz 3 rs ∧ EnD Hc e S0.ws hz ∧ Pu Hc p (n + 4 + 20 * i) ∧ ∀ x, x ∈ S0.ws → x ∉ zs.take i → hz x = none)
      ⟨none, S0, fun _ => none, rfl, (fun _ _ _ _ _ h => h), gr6, ⟨rfl, rfl, fun _ _ => Nat.le_refl _, fun x hx => hz0 x hx, rt⟩, de6, p6.mono (by omega), fun _ _ _ => rfl⟩ (fun i σ Hc _ ⟨_, _, _, _, kc, _⟩ => SqL.of (kc _ _ smp sme rksm hsm)) ?_ ?_⟩
    · rintro i v σ Hc hv ⟨z5, S, hz, rfl, kc, grc, L, dec, pc, hno⟩
      rw [List.getElem?_map] at hv
      obtain ⟨x, ex, rfl⟩ := Option.map_eq_some_iff.mp hv
      have hx := zsub x (List.mem_of_getElem? ex)
      have il : i < zs.length := (List.getElem?_eq_some_iff.mp ex).1
      have xb : 1 ≤ x ∧ x ≤ 10 ^ 13 := by
        obtain ⟨jx, hj⟩ := List.getElem?_of_mem hx
        exact okw.pos jx x hj
      have x0 : 0 < x := by omega
      have nox : hz x = none := hno x hx (not_take znd ex)
      obtain ⟨d1, d2⟩ := dv (d := x) xb.1 xb.2 hb
      refine ⟨_, rfl, _, rfl, _, _, rfl, rfl, wide_div (b := 50) (by omega) (by omega) (by decide) (by decide), _, rfl, p, _, 3, rfl, pc, by omega, by decide, by decide, fun u1 H7 k7 p7 a0 a1 => ?_⟩
      refine ⟨_, _, rfl, rfl, _, _, rfl, rfl, _, rfl, _, _, rfl, rfl, wide_mul (a := 64) (b := 64) (by omega) (by omega) (by decide) (by decide) (by decide), ?_⟩
      refine ⟨_, rfl, p, _, 2, rfl, p7, by omega, by decide, by decide, fun u2 H8 k8 p8 b0 b1 => ?_⟩
      refine ⟨_, rfl, _, rfl, p, _, x, rfl, p8, by omega, by omega, by omega, fun u3 H9 k9 p9 c0 c1 => ?_⟩
      refine ⟨_, _, rfl, rfl, wide_mul (a := 64) (b := 64) (by omega) (by omega) (by decide) (by decide) (by decide), _, _, rfl, rfl, ?_⟩
      obtain ⟨t, et⟩ : ∃ t, (b / x + u1 - 1) * x + u2 * u3 = t := ⟨_, rfl⟩
      dsimp only
      rw [et]
      have k79 : Kp p Hc H9 := (k7.trans k8).trans k9
      obtain ⟨ev2, he2, ek2⟩ := dec.k
      have he9 := k79 _ _ ep he2
      have lev : ev2.length = S0.ws.length := ek2.len
      refine ⟨_, rfl, _, rfl, e, _, rfl, DPut.k (k := .inl x) he9 (small1000 (by omega)), ?_⟩
      obtain ⟨H10, e10⟩ : ∃ H10, upd H9 e (.dK (putK ev2 (.inl x) (.int t))) = H10 := ⟨_, rfl⟩
      have he10 : H10 e = some (.dK (putK ev2 (.inl x) (.int t))) := by
        rw [← e10]
        exact upd_same
      have x10 : ∀ a o, a ≠ e → H9 a = some o → H10 a = some o := fun a o n h => by
        rw [← e10, upd_ne n]
        exact h
      have dk10 : DcK (putK ev2 (.inl x) (.int t)) S0.ws (fun y v => v = vw (setF hz x (some t) y)) := by
        have z := ek2.put (s := x) (v := .int t) (R2 := fun y v => v = vw (setF hz x (some t) y)) (by rw [setF_at] <;> rfl) fun y u ne _ h => by rw [setF_ne ne]; exact h
        rw [addS_in hx] at z
        exact z
      have p10 : Pu H10 p (n + 4 + 20 * i + 2 + 2 + 2) := by
        obtain ⟨q1, q2, q3, q4, q5⟩ := p9
        exact ⟨q1, q2, q3, x10 _ _ ep.symm q4, q5⟩
      have hk10 : HK CF Hc H10 := fun a o h hh => x10 a o (fun z => by
        rw [z, he2] at h
        cases h
        exact soft_dK hh) (k79 a o (fun z => by
        obtain ⟨_, _, _, y, _⟩ := pc
        rw [z, y] at h
        cases h
        exact soft_lst hh) h)
      have gr10 : GrG K CF H10 wa kd hd S rk := grc.hk hk10 fun a o h z => x10 a o (fun y => h (y ▸ rke)) (k79 a o (fun y => h (y ▸ rkp)) z)
      have rkg : rk g = none := by
        cases z : rk g with
        | none => rfl
        | some u =>
          obtain ⟨kvs, y⟩ := gr.own g (by rw [z]; exact fun y => nomatch y)
          rw [hg] at y
          cases y
      have ge : g ≠ e := fun z => by
        rw [z, he] at hg
        cases hg
      have hg10 := x10 _ _ ge (k79 _ _ gp (kc _ _ gp ge rkg hg6))
      have gd : ∀ {Hx : Hp}, Hx e = some (.dK (putK ev2 (.inl x) (.int t))) → DGet Hx e (.int x) (some (.int t)) := fun {Hx} h => by
        have z := DGet.k (k := .inl x) h
        rw [valV_put, if_pos rfl] at z
        exact z
      have wsx : x ∈ S.ws := by
        rw [L.ws]
        exact hx
      have wl : S.ws.length ≤ 900 := by
        rw [L.ws]
        omega
      rw [e10]
      refine ⟨_, rfl, g, dx, _, rfl, hg10, rfl, _, rfl, _, rfl, _, rfl, e, _, rfl, gd he10, g, wa, kd, hd, x, t, S, rk, rfl, ⟨dx, hg10⟩, gr10, wsx, x0, wl, by rw [L.pls]; exact lpl x, fun q1 => Nat.le_trans (L.len q1 x) (Nat.le_trans (lss q1 x hx) (by decide)), fun H11 k11 gr11 => ?_⟩
      have L1 := L.one (t := t) (fun y => grc.no y 3) nox hx
      have he11 := k11 _ _ rke he10
      have p11 : Pu H11 p (n + 4 + 20 * i + 2 + 2 + 2) := by
        obtain ⟨q1, q2, q3, q4, q5⟩ := p10
        exact ⟨q1, q2, q3, k11 _ _ rkp q4, q5⟩
      have hg11 := k11 _ _ rkg hg10
      refine ⟨_, rfl, p, _, 2, rfl, p11, by omega, by decide, by decide, fun u4 H12 k12 p12 _ _ => ?_⟩
      have tk : zs.take (i + 1) = zs.take i ++ [x] := take_snoc ex
      have no2 : ∀ y, y ∈ S0.ws → y ∉ zs.take (i + 1) → setF hz x (some t) y = none := fun y hy h => by
        rw [tk, List.mem_append, not_or, List.mem_singleton] at h
        rw [setF_ne h.2]
        exact hno y hy h.1
      have base : ∀ a o, a ≠ p → a ≠ e → rk a = none → H6 a = some o → H12 a = some o := fun a o n1 n2 n3 h => k12 _ _ n1 (k11 _ _ n3 (x10 _ _ n2 (k79 _ _ n1 (kc _ _ n1 n2 n3 h))))
      have gr12 : GrG K CF H12 wa kd hd (S.letgo x (t - t % x)) rk := gr11.hk (fun a o h hh => k12 a o (fun z => by
        obtain ⟨_, _, _, y, _⟩ := p11
        rw [z, y] at h
        cases h
        exact soft_lst hh) h) fun a o h z => k12 a o (fun y => h (y ▸ rkp)) z
      have he12 := k12 _ _ ep he11
      refine ⟨rfl, _, rfl, ite2 (fun g1 => ?_) (fun g1 => ?_)⟩
      · have hg12 := k12 _ _ gp hg11
        refine ⟨_, rfl, g, dx, _, rfl, hg12, rfl, _, rfl, _, rfl, _, rfl, e, _, rfl, gd he12, _, _, rfl, rfl, _, rfl, _, rfl, _, _, rfl, rfl, .inl ⟨by decide, by decide⟩, p, _, _, rfl, p12, by omega, by omega, by omega, fun u5 H13 k13 p13 e0 e1 => ?_⟩
        have gr13 : GrG K CF H13 wa kd hd (S.letgo x (t - t % x)) rk := gr12.hk (fun a o h hh => k13 a o (fun z => by
          obtain ⟨_, _, _, y, _⟩ := p12
          rw [z, y] at h
          cases h
          exact soft_lst hh) h) fun a o h z => k13 a o (fun y => h (y ▸ rkp)) z
        have hg13 := k13 _ _ gp hg12
        refine ⟨_, _, rfl, rfl, g, wa, kd, hd, x, t - 1 - u5, _, rk, rfl, ⟨dx, hg13⟩, gr13, wsx, x0, wl, by rw [L1.pls]; exact lpl x, fun q1 => Nat.le_trans (L1.len q1 x) (Nat.le_trans (lss q1 x hx) (by decide)), fun H14 k14 gr14 => ?_⟩
        refine ⟨_, _, _, rfl, fun a o n1 n2 n3 h => k14 _ _ n3 (k13 _ _ n1 (base a o n1 n2 n3 h)), gr14, L1.more (fun y => gr13.no y 3) setF_at hx x0 (by omega), dk10.at_ (k14 _ _ rke (k13 _ _ ep he12)), ?_, no2⟩
        obtain ⟨q1, q2, q3, q4, q5⟩ := p13
        exact ⟨q1, q2, q3, k14 _ _ rkp q4, by omega⟩
      · exact ⟨_, _, _, rfl, base, gr12, L1, dk10.at_ he12, p12.mono (by omega), no2⟩
    · rintro σ Hc ⟨z5, S, hz, rfl, kc, grc, L, dec, pc, hno⟩
      rw [List.length_map] at pc
      exact q S hz Hc (fun a o n1 n2 n3 h => kc a o n1 n2 n3 (k16 a o n1 h)) grc L dec (pc.mono (by omega))
end
end Tg

set_option maxHeartbeats 2000000
namespace Tg
open PySem PySem.Spec PyProof.Rows L2 LamX NdefX CloX
/-! ### the lambda that _law_made hands on -/
abbrev sMa : Stmt := topS 44
abbrev noArgs : Arguments := ⟨[], [], none, [], [], none, []⟩
abbrev noScope : Scope := ⟨.function, [], false, false, []⟩
def lamArgs : Expr → Arguments
  | .Lambda (args := a) .. => a
  | _ => noArgs
def lamBody : Expr → Expr
  | .Lambda (body := b) .. => b
  | e => e
def lamScope : Expr → Scope
  | .Lambda (scope := s) .. => s
  | _ => noScope
def handedIn : Stmt → Expr
  | .Expr (value := .Call (args := [_, _, e]) ..) .. => e
  | _ => .Name "k" ⟨0, 0, 0, 0⟩
def rowsIn : Stmt → List Stmt
  | .For (body := b) .. => b
  | _ => []
abbrev noRow : Stmt := .Pass ⟨0, 0, 0, 0⟩
abbrev eLm : Expr := handedIn ((rowsIn ((defBody sMa).getD 1 noRow)).getD 4 noRow)
abbrev qLm : Str := "_law_made.<locals>.<lambda>"
abbrev lfLm (cl : List (Str × Addr)) (c : Addr) : LF := ⟨qLm, lamArgs eLm, lamBody eLm, lamScope eLm, cl, c⟩
abbrev PLm : List Str := ["_law_start", "_law_end"]
abbrev frLm : List Str := ["_law_handed"]
abbrev NLm : List Str := ["_law_start", "_law_end", "_law_handed", "_law_row"]
theorem SLm : CScope NLm PLm frLm (lamScope eLm) := cscope_by (by decide +kernel)
/-- the points from a on, below b -/
def cutQ (qs : List Pt) (a b : Int) : List Pt := qs.filter fun p => decide (a ≤ p.1) && decide (p.1 < b)
theorem cutQ_snoc {qs : List Pt} {a b : Int} {p : Pt} : cutQ (qs ++ [p]) a b = if (decide (a ≤ p.1) && decide (p.1 < b)) = true then cutQ qs a b ++ [p] else cutQ qs a b := by
  unfold cutQ
  rw [List.filter_append, List.filter_cons, List.filter_nil]
  split
  · rfl
  · rw [List.append_nil]
section
variable {P : Program} {w : World} {K : PySem.W.Frag} {mg : Str → Option Value} {base : Heap}
def spLm (K : PySem.W.Frag) : List (Option V) → Sp := fun ws vs H Q _ => ∃ (l : Addr) (qs : List Pt) (a b : Int), ws = [some (.ref l)] ∧ vs = [.int a, .int b] ∧ LD K H l (qs.map pd) ∧ qs.length ≤ 900 ∧
  ∀ r H', Same H H' → H r = none → LD K H' r ((cutQ qs a b).map pd) → Q (.ref r) H'
theorem ok_lm {f c : Addr} {cl : List (Str × Addr)} {k : Nat} : LOk P w K mg base (k + 1) f (lfLm cl c) PLm frLm (spLm K) := by
  refine lok_ofC (N := NLm) SLm (fun pm ctv us hl => ?_) (fun ws vs H Q E h => ?_) (fun A outer s H vs ws Q E hr hl h => ?_)
  · match us, hl with
    | [u1, u2], _ => rfl
  · obtain ⟨l, qs, a, b, rfl, rfl, _⟩ := h
    rfl
  · obtain ⟨l, qs, a, b, rfl, rfl, ld, few, q⟩ := h
    refine ⟨_, pe_lc (own := [("_law_row", 3)]) (g := (gName 3)) rfl SLm.nd (pi_list (pv 2)) (blkOk_by (own := [("_law_row", 3)]) (N := NLm) (sc := lamScope eLm) (by decide +kernel)) (fun _ _ _ _ _ => (pg_name (i := 3) SLm.nd rfl (.inl rfl))) (fun _ _ _ _ _ => pts_one (pt_chain op_le op_lt (pv 0) (pe_ix (r := rIxT K) ix_tup (pv 3) pe_int (fun _ _ => rfl)) (pv 1))) (fun _ _ _ _ _ => (pv 3)), ?_⟩
    obtain ⟨xs, hl, dl⟩ := id ld
    have lx := dl_len dl
    refine ⟨_, rfl, l, rfl, ⟨_, SqL.of hl⟩, fun D nD => lc_list (K := K) (a := l) (xs := xs) (fun i Hc => LD K Hc D ((cutQ (qs.take i) a b).map pd) ∧ ∀ b o, b ≠ D → H b = some o → Hc b = some o) ⟨⟨[], upd_same, .nil⟩, fun b o n h => (upd_ne n).trans h⟩ (fun i Hc _ h => SqL.of (h.2 _ _ (ne_of_none hl nD) hl)) ?_ ?_⟩
    · rintro i v Hc hv ⟨⟨ys, hD, dy⟩, kc⟩
      obtain ⟨p0, ep, dq⟩ := dl_at dl hv
      obtain ⟨ta, rfl, hta⟩ := dp_pd dq
      have sc : Same H Hc := fun b o h => kc b o (ne_of_none h nD) h
      have hta2 := sqT_same sc hta
      have tk : qs.take (i + 1) = qs.take i ++ [p0] := take_snoc ep
      have ly := dl_len dy
      have lcut : (cutQ (qs.take i) a b).length ≤ 900 := by
        unfold cutQ
        refine Nat.le_trans (List.length_filter_le _ _) ?_
        rw [List.length_take]
        omega
      have stay : (decide (a ≤ p0.1) && decide (p0.1 < b)) = false → LD K Hc D ((cutQ (qs.take (i + 1)) a b).map pd) ∧ ∀ b o, b ≠ D → H b = some o → Hc b = some o := fun no => ⟨⟨ys, hD, by rw [tk, cutQ_snoc, if_neg (by rw [no]; exact Bool.false_ne_true)]; exact dy⟩, kc⟩
      refine ⟨rfl, _, rfl, _, rfl, ta, _, _, .int p0.1, rfl, rfl, hta2, rfl, _, _, rfl, rfl, decide (a ≤ p0.1), rfl, ?_⟩
      by_cases c1 : a ≤ p0.1
      case neg =>
        rw [decide_eq_false c1]
        refine if_f ⟨false, rfl, if_f (stay ?_)⟩
        rw [decide_eq_false c1] <;> rfl
      rw [decide_eq_true c1]
      refine if_t ⟨_, rfl, _, _, rfl, rfl, decide (p0.1 < b), rfl, ?_⟩
      by_cases c2 : p0.1 < b
      case neg =>
        rw [decide_eq_false c2]
        refine if_f (stay ?_)
        rw [decide_eq_false c2, Bool.and_false]
      rw [decide_eq_true c2]
      refine if_t ⟨_, rfl, ys, hD, small1000 (by rw [ly]; omega), ?_, fun b o n h => (upd_ne n).trans (kc b o n h)⟩
      rw [tk, cutQ_snoc, if_pos (by rw [decide_eq_true c1, decide_eq_true c2] <;> rfl), List.map_append]
      exact .snoc (KT.refl _) hD dy (td_pds _) (.tup hta2 (.cons (.int _) (.cons (.int _) .nil))) (td_pd p0)
    · rintro Hc ⟨ldc, kc⟩
      rw [lx, List.take_length] at ldc
      exact q D Hc (fun b o h => kc b o (ne_of_none h nD) h) nD ldc
/-- such a lambda, whichever its cells are -/
def spHd (K : PySem.W.Frag) (f : Addr) : Sp := fun vs H Q E => ∃ cl c, spLam f (lfLm cl c) frLm (spLm K) vs H Q E
theorem ok_hd {f : Addr} {k : Nat} : CloOk P w K mg base L2.CX0 (k + 1) f PLm (spHd K f) := by
  refine ⟨fun vs H Q E h => ?_, fun A outer s H us vs Q E hr e0 r h => ?_⟩
  · obtain ⟨cl, c, h⟩ := h
    exact (lam_ok (ok_lm (P := P) (w := w) (mg := mg) (base := base) (k := k) (f := f) (cl := cl) (c := c))).many vs H Q E h
  · obtain ⟨cl, c, h⟩ := h
    exact (lam_ok (ok_lm (f := f) (cl := cl) (c := c))).run A outer s H us vs Q E hr e0 r h
/-- such a lambda tells the points of the table rs -/
def TlH (K : PySem.W.Frag) (f : Addr) (rs : List Pt) (H : Hp) : Prop := ∃ cl c l qs, LamAt f (lfLm cl c) frLm [some (.ref l)] H ∧ LD K H l (qs.map pd) ∧ SrP rs qs ∧ qs.length ≤ 900 ∧ TbOk rs
theorem cutQ_cut {rs qs : List Pt} (s : SrP rs qs) (a b : Int) : Cut rs a b (cutQ qs a b) :=
  ⟨List.pairwise_map.mpr ((List.pairwise_map.mp s.up).filter _), fun p => by
    unfold cutQ
    rw [List.mem_filter, s.all p, Bool.and_eq_true, decide_eq_true_iff, decide_eq_true_iff]⟩
theorem teller_h : Teller K (TlH K) (spHd K) where
  stay := fun {f rs H H'} ⟨cl, c, l0, qs, l, ld, srt, few, ok⟩ k => by
    have ke : ∀ {b φ}, H b = some (.ext φ) → H' b = some (.ext φ) := fun {b φ} e => k b _ e fun _ _ _ z => nomatch z
    have kt : KT H H' := fun a u fx h => k a u h fun c dx fs z => by
      rw [z] at fx
      exact nfix_ins fx
    refine ⟨cl, c, l0, qs, ⟨ke l.fn, ke l.code, told_at l.told fun b hb => ?_⟩, ld.kt kt (fun o h => ?_) (td_pds _), srt, few, ok⟩
    · obtain ⟨o, v, e, _⟩ := l.told.all b hb
      rw [e]
      exact ke e
    · obtain ⟨ys, hy, _⟩ := id ld
      rw [hy] at h
      cases h
      exact k _ _ hy fun _ _ _ z => nomatch z
  told := fun {f rs H Q E a b} ⟨cl, c, l0, qs, l, ld, srt, few, ok⟩ q => by
    refine ⟨cl, c, [some (.ref l0)], l, fun L less => ?_⟩
    have ktL : KT H L := fun a u fx h => by
      rw [less.out a (l.told.other h fun φ z => by rw [z] at fx; exact fx)]
      exact h
    have ldL : LD K L l0 (qs.map pd) := ld.kt ktL (fun o h => by
      obtain ⟨ys, hy, _⟩ := id ld
      rw [hy] at h
      cases h
      rw [less.out _ (l.told.other hy fun _ z => nomatch z)]
      exact hy) (td_pds _)
    refine ⟨l0, qs, a, b, rfl, rfl, ldL, few, fun r H1 k1 nr ldr B bk => ?_⟩
    have back : ∀ {b o}, H1 b = some o → B b = some o := fun {b o} h => by
      rw [bk.out b fun z => by rw [bk.gone b z] at h; cases h]
      exact h
    have nrH : H r = none := by
      obtain ⟨ys, hy, _⟩ := ldr
      have nc : ¬ Caught cl r := fun z => by
        rw [bk.gone r z] at hy
        cases hy
      rw [← less.out r nc]
      exact nr
    refine q r _ B (fun b o h => ?_) nrH (cutQ_cut srt a b) (ldr.same fun b o h => back h)
    by_cases z : Caught cl b
    · rw [bk.inn b z]
      exact h
    · exact back (k1 b o (by rw [less.out b z]; exact h))
  fn := fun {f rs H} ⟨cl, c, _, _, l, _⟩ => fnh_lam l.fn
end
end Tg

set_option maxHeartbeats 2000000
namespace Tg
open PySem PySem.Spec PyProof.Rows L2 LamX NdefX CloX
/-! ### _law_made -/
abbrev PMa : List Str := ["_law_script", "_law_grains", "_law_base_here"]
abbrev NMa : List Str := ["_law_script", "_law_grains", "_law_base_here", "_law_table", "_law_cell_here", "_law_purse_here", "_law_news_here", "_law_handed"]
theorem scMa : FnScope NMa PMa (defScope sMa) := ⟨rfl, rfl, rfl, by decide +kernel, rfl, by decide +kernel, by decide +kernel⟩
theorem NBL : ndefB (defScope sMa) (lamScope eLm) frLm = true := by decide +kernel
abbrev TLm (PT : Addr) : List (Addr × Str) := [(PT, qLm)]
theorem tabs_mv {T : List (Addr × Str)} {H H' : Hp} (t : Tabs T H) (st : ∀ b o, (∃ φ, o = .ext φ) ∨ (∃ xs, o = .tbl xs) → H b = some o → H' b = some o) : Tabs T H' := fun p hp => by
  obtain ⟨ps, h1, h2, h3⟩ := t p hp
  refine ⟨ps, st _ _ (.inr ⟨_, rfl⟩) h1, h2, fun pos cv hc => ?_⟩
  obtain ⟨code, e1, e2⟩ := h3 pos cv hc
  exact ⟨code, e1, st _ _ (.inl ⟨_, rfl⟩) e2⟩
theorem sqL_mv {K : PySem.W.Frag} {H H' : Hp} {a : Addr} {xs : List V} (h : SqL K H a xs) (f : ∀ o, (o = .lst xs ∨ ∃ ob, o = .frz ob (.lst xs)) → H a = some o → H' a = some o) : SqL K H' a xs := h.imp (fun r => r.imp (f _ (.inl rfl)) fun ⟨ob, e⟩ => ⟨ob, f _ (.inr ⟨ob, rfl⟩) e⟩) id
theorem GrG.soft {K : PySem.W.Frag} {CF : Addr} {H : Hp} {wa kd hd : Addr} {S : Gs} {rk : Addr → Option Ow} (gr : GrG K CF H wa kd hd S rk) {b : Addr} {o : HO} (h : H b = some o) (n : ∀ kvs, o ≠ .dK kvs) : rk b = none := by
  cases z : rk b with
  | none => rfl
  | some u =>
    obtain ⟨kvs, e⟩ := gr.own b (by rw [z]; exact fun y => nomatch y)
    rw [h] at e
    exact absurd (Option.some.inj e) (n kvs)
theorem GrG.nds {K : PySem.W.Frag} {CF : Addr} {H : Hp} {wa kd hd : Addr} {S : Gs} {rk : Addr → Option Ow} (h : GrG K CF H wa kd hd S rk) {x : Int} (hx : x ∈ S.ws) (p : Int) : (S.ss p x).Nodup := by
  by_cases c : p ∈ S.pls x
  · obtain ⟨kvs, hk, gk⟩ := h.gk.k
    obtain ⟨v, _, e, _, _, pl⟩ := gk.all x hx
    obtain ⟨_, _, ck⟩ := pl.k
    obtain ⟨u, _, c2, _, _, z⟩ := ck.all p c
    obtain ⟨_, _, dk⟩ := z.k
    exact dk.nd
  · rw [h.no x p c]
    exact List.nodup_nil
/-- grains that hold one table, at the place 3 -/
structure OneP (S : Gs) (ps : List Pt) (i : Nat) : Prop where
  okw : WOk S.ws
  hz : ∀ x, S.hz x = none
  rt : RtH S 3 ps
  ls : ∀ x, x ∈ S.ws → (S.ss 3 x).length ≤ 8 * i
  oth : ∀ q x, q ≠ 3 → S.ss q x = []
  pls : ∀ x, (S.pls x).length ≤ 1
  pin : ∀ x q, q ∈ S.pls x → q = 3
  tt : Tt ps (8 * i) (10 ^ 15) (10 ^ 14)
theorem OneP.new {ws : List Int} (okw : WOk ws) : OneP (Gs.new ws) [] 0 :=
  ⟨okw, fun _ => rfl, ⟨fun _ _ _ h => absurd h List.not_mem_nil, fun _ _ _ h => absurd h List.not_mem_nil⟩, fun _ _ => Nat.le_refl _, fun _ _ _ => rfl, fun _ => Nat.zero_le _, fun _ _ h => absurd h List.not_mem_nil, List.nodup_nil, Nat.le_refl _, fun _ h => absurd h List.not_mem_nil, fun _ h => absurd h List.not_mem_nil⟩
theorem OneP.mono {S : Gs} {ps : List Pt} {i j : Nat} (o : OneP S ps i) (h : i ≤ j) : OneP S ps j :=
  ⟨o.okw, o.hz, o.rt, fun x hx => by have := o.ls x hx; omega, o.oth, o.pls, o.pin, o.tt.mono (by omega) (Nat.le_refl _) (Nat.le_refl _)⟩
theorem OneP.hzOk {S : Gs} {ps : List Pt} {i : Nat} (o : OneP S ps i) : HzOk S := ⟨fun x h e => (by rw [o.hz x] at e; cases e), fun _ x _ h _ _ e => (by rw [o.hz x] at e; cases e)⟩
theorem OneP.tsH {S : Gs} {ps : List Pt} {i : Nat} (o : OneP S ps i) (ts : List Int) : TsH S ts := fun t _ x h e => by rw [o.hz x] at e; cases e
/-- a deed more -/
theorem OneP.step {K : PySem.W.Frag} {CF wa kd hd : Addr} {H : Hp} {S : Gs} {rk : Addr → Option Ow} {ps rs : List Pt} {ns : List (Int × Option Int)} {ts : List Int} {i : Nat} {n : Int} (o : OneP S ps i) (hi : i ≤ 20) (okn : NewsOk ps ns) (chg : Chg ps ns rs) (told : ∀ t, t ∈ ts ↔ t ∈ ns.map (·.1)) (few : ts.length ≤ 8) (out : ∀ x s, s ∉ S.ss 3 x → S.cf 3 x s = (fOf [], 0))
    (gr2 : GrG K CF H wa kd hd (S.aft 3 n (S.rows 3 rs ts) S.ws) rk) : OneP (S.aft 3 n (S.rows 3 rs ts) S.ws) rs (i + 1) := by
  have pos : ∀ x, x ∈ S.ws → 0 < x := fun x hx => by
    obtain ⟨jx, hj⟩ := List.getElem?_of_mem hx
    have := (o.okw.pos jx x hj).1
    omega
  have fewn := okn.few
  have lp := o.tt.len
  have tt2 : Tt rs (8 * (i + 1)) (10 ^ 15) (10 ^ 14) := by
    refine ⟨chg.nd, by have := chg.len; omega, fun p hp => ?_, fun p hp => ?_⟩
    · rcases (chg.all p).mp hp with h1 | h1
      · rcases okn.at_ _ h1 with h2 | h2
        · exact h2
        · obtain ⟨q0, hq0, e0⟩ := List.mem_map.mp h2
          dsimp only at e0
          rw [← e0]
          exact o.tt.tz q0 hq0
      · exact o.tt.tz p h1.1
    · rcases (chg.all p).mp hp with h1 | h1
      · exact okn.sz _ p.2 h1 rfl
      · exact o.tt.vz p h1.1
  have cht : ChT ps rs ts := fun p hp => by
    have nk : p.1 ∉ ns.map (·.1) := fun z => hp ((told _).mpr z)
    rw [chg.all p]
    exact ⟨fun h => .inr ⟨h, nk⟩, fun h => h.elim (fun z => absurd (List.mem_map.mpr ⟨_, z, rfl⟩) nk) fun z => z.1⟩
  have hz := o.hzOk
  obtain ⟨rt, once⟩ := rth_next (n := n) pos (wok_nd o.okw) hz (o.tsH ts) o.rt out (o.tt.ok (by omega) (by decide)) (tt2.ok (by omega) (by decide)) cht
  have fr : ∀ r, r ∈ S.rows 3 rs ts → r.1 ∈ S.ws ∧ r.2.1 ∈ startsF ts r.1 := fun r hr => by
    rw [rows_st pos hz (o.tsH ts)] at hr
    obtain ⟨x, hx, hr⟩ := List.mem_flatMap.mp hr
    obtain ⟨s, hs, hr⟩ := List.mem_flatMap.mp hr
    obtain ⟨h1, h2⟩ := row_mem hr
    rw [h1, h2]
    exact ⟨hx, hs⟩
  obtain ⟨rows, er⟩ : ∃ rows, S.rows 3 rs ts = rows := ⟨_, rfl⟩
  rw [er] at rt gr2 fr ⊢
  have ess : (S.aft 3 n rows S.ws).ss 3 = ssR (S.ss 3) rows := setF_at (f := S.ss) (x := 3) (v := ssR (S.ss 3) rows)
  refine ⟨o.okw, o.hz, rt, fun x hx => ?_, fun q x hq => ?_, fun x => ?_, fun x q hq => ?_, tt2⟩
  · have hx : x ∈ S.ws := hx
    have h1 : ((S.aft 3 n rows S.ws).ss 3 x).Nodup := gr2.nds hx 3
    rw [ess] at h1 ⊢
    have h2 := h1.length_le_of_subset (l₂ := S.ss 3 x ++ startsF ts x) fun s hs => by
      rcases ssR_mem.mp hs with h3 | ⟨r0, h0, h4, h5⟩
      · exact List.mem_append_left _ h3
      · have h6 := (fr r0 h0).2
        rw [h4, h5] at h6
        exact List.mem_append_right _ h6
    rw [List.length_append] at h2
    have h3 := o.ls x hx
    have h4 := starts_len x ts (l := startsF ts x) rfl
    omega
  · have e : (S.aft 3 n rows S.ws).ss q = S.ss q := setF_ne (f := S.ss) hq
    rw [e]
    exact o.oth q x hq
  · have h1 := o.pls x
    have h2 := o.pin x
    show (if x ∈ S.ws then addS (S.pls x) 3 else S.pls x).length ≤ 1
    split
    · unfold addS
      split
      · exact h1
      · rename_i no
        have : S.pls x = [] := List.eq_nil_iff_forall_not_mem.mpr fun q hq => no (h2 q hq ▸ hq)
        rw [this]
        exact Nat.le_refl _
    · exact h1
  · have hq : q ∈ (if x ∈ S.ws then addS (S.pls x) 3 else S.pls x) := hq
    split at hq
    · rcases mem_addS.mp hq with h | h
      · exact o.pin x q h
      · exact h
    · exact o.pin x q hq
end Tg

set_option maxHeartbeats 2000000
namespace Tg
open PySem PySem.Spec PyProof.Rows L2 LamX NdefX CloX
section
variable {P : Program} {w : World} {K : PySem.W.Frag} {mg : Str → Option Value} {base : Heap} {C CF : Addr}
/-- what stands behind some deeds -/
structure MadeI (K : PySem.W.Frag) (CF PT : Addr) (H H' : Hp) (d wa kd hd : Addr) (S : Gs) (rk rk' : Addr → Option Ow) (ps : List Pt) (i : Nat) : Prop where
  keep : ∀ b o, rk b = none → (∀ q, o ≠ .tbl q) → H b = some o → H' b = some o
  tabs : Tabs (TLm PT) H'
  gr : GrG K CF H' wa kd hd S rk'
  rks : ∀ b o, H b = some o → (∀ q, o ≠ .tbl q) → rk' b = rk b
  tab : H' d = some (.dK (tbG V.int ps))
  rd : rk' d = none
  one : OneP S ps i
def spMa (K : PySem.W.Frag) (C CF PT : Addr) : Sp := fun vs H Q _ => ∃ (sa g wa kd hd : Addr) (ns : List Int) (b : Int) (S0 : Gs) (rk : Addr → Option Ow), vs = [.ref sa, .ref g, .int b] ∧ SqL K H sa (ns.map V.int) ∧ ns.length ≤ 63 ∧ b.natAbs ≤ 10 ^ 14 ∧ GiA C H g wa kd hd false ∧ GrG K CF H wa kd hd S0 rk ∧ OneP S0 [] 0 ∧ Tabs (TLm PT) H ∧
  ∀ H' d S rk' ps, S.ws = S0.ws → MadeI K CF PT H H' d wa kd hd S rk rk' ps 8 → Q (.ref d) H'
set_option maxHeartbeats 8000000 in
theorem ok_ma {f c PT : Addr} {fd : FuncData} {k : Nat} (F : FunC K "_law_made" "_law_made" sMa c f fd) (TB : TabB base mg c PT) (T : TGr K C) (L_purse : Cal P w K mg base k "_law_purse" ["_law_script", "_law_at"] (spPurse K)) (L_news : Cal P w K mg base k "_law_news" ["_law_purse_here", "_law_table", "_law_base_here", "_law_widths_here"] (spNe K)) (L_changed : Cal P w K mg base k "_law_changed" ["_law_table", "_law_news_here"] spCh) (L_points : Cal P w K mg base k "_law_points" ["_law_table", "_law_start", "_law_end"] (spPs K))
    (M_renew : CalMN P w K mg base k C "renew" ["self", "place", "times", "points_in", "number"] 4 ["number"] (spRn K C CF (TlH K))) (m_range : mg "range" = none) (m_len : mg "len" = none) (m_max : mg "max" = none) (m_sorted : mg "sorted" = none) : FnOk P w K mg base L2.CX0 (k + 1) f fd PMa (spMa K C CF PT) := by
  refine F.ok scMa (fun vs H Q E h => ?_) (fun A outer s H vs Q E hr h => ?_)
  · obtain ⟨sa, g, wa, kd, hd, ns, b, S0, rk, rfl, _⟩ := h
    rfl
  · obtain ⟨sa, g, wa, kd, hd, ns, b, S0, rk, rfl, hS, hlen, hb, gi, gr, one0, tabs, q⟩ := h
    refine ⟨_, pss_cons (ps_set (i := 3) scMa.nd rfl (.inl rfl) pe_dnewK)
      (pss_cons (ps_for PassesOwn.never rfl (pi_range2 (by rfl) m_range (pa_cons pe_int (pa_cons (pe_callB (call_max2 rfl) (by rfl) m_max (by decide +kernel) (pa_cons pe_int (pa_cons (pe_callB call_len_seq (by rfl) m_len (by decide +kernel) (pa_cons (pe_slice sl_list (pv 0) po_none (po_some pe_int)) pa_nil)) pa_nil))) pa_nil))) (pg_name (i := 4) scMa.nd rfl (.inl rfl))
        (pss_cons (ps_set (i := 5) scMa.nd rfl (.inl rfl) (pe_cal L_purse (hr.mono (by omega)) (by rfl) (pa_cons (pv 0) (pa_cons (pv 4) pa_nil))))
        (pss_cons (ps_set (i := 6) scMa.nd rfl (.inl rfl) (pe_cal L_news (hr.mono (by omega)) (by rfl) (pa_cons (pv 5) (pa_cons (pv 3) (pa_cons (pv 2) (pa_cons (pe_fld (pv 1) rfl) pa_nil))))))
        (pss_cons (ps_set (i := 3) scMa.nd rfl (.inl rfl) (pe_cal L_changed (hr.mono (by omega)) (by rfl) (pa_cons (pv 3) (pa_cons (pv 6) pa_nil))))
        (pss_cons (ps_set (i := 7) scMa.nd rfl (.inr rfl) (pe_cal L_points (hr.mono (by omega)) (by rfl) (pa_cons (pv 3) (pa_cons (pe_op op_sub pe_int (pe_op op_pow pe_int pe_int)) (pa_cons (pe_op op_pow pe_int pe_int) pa_nil)))))
        (pss_one (ps_expr (pe_calML (fr := frLm) (js := [7]) (pv 1) T.cl M_renew (hr.mono (by omega)) (pa_cons pe_int (pa_cons (pe_callB (cr_sortedDI rfl) (by rfl) m_sorted (by decide +kernel) (pa_cons (pv 6) pa_nil)) (pa_cons (pe_lamL (T := TLm PT) TB rfl (List.mem_singleton.mpr rfl) (fun p hp _ => by rw [List.mem_singleton.mp hp]; rfl) (ndef_free NBL)) pa_nil))) (pk_cons (pv 4) pk_nil) (fun ok => Caps.made (scope := lamScope eLm) ok (ndef_free NBL) (ndef_fr NBL) rfl) (fun ok y c e => ok.cab y c rfl e)))))))))
      (pss_one (ps_ret (pv 3)))), ?_⟩
    obtain ⟨dx, hg⟩ := id gi
    intro d0 nd0
    have s1 := same_new (o := .dK []) nd0
    obtain ⟨H1, e1⟩ : ∃ H1, upd H d0 (.dK []) = H1 := ⟨_, rfl⟩
    have hd1 : H1 d0 = some (.dK []) := by
      rw [← e1]
      exact upd_same
    rw [e1] at s1
    refine nx_atS e1 ?_
    have rkn : ∀ {b}, H b = none → rk b = none := fun {b} h => Classical.byContradiction fun r2 => by
      obtain ⟨kvs, z⟩ := gr.own b r2
      rw [h] at z
      cases z
    have made0 : MadeI K CF PT H H1 d0 wa kd hd S0 rk rk [] 0 := ⟨fun b o _ _ h => s1 _ _ h, tabs.ext s1, gr.same s1, fun _ _ _ _ => rfl, hd1, rkn nd0, one0⟩
    obtain ⟨ms, em, lm⟩ : ∃ ms : List Int, cutV (ns.map V.int) none (some 9) = ms.map V.int ∧ ms.length ≤ 9 := by
      unfold cutV
      rw [show (9 : Int) = ((9 : Nat) : Int) from rfl, HT.sIx_none, HT.sIx_nat, ← List.map_drop, ← List.map_take]
      refine ⟨_, rfl, ?_⟩
      rw [List.length_take, List.length_map]
      omega
    refine ⟨_, rfl, 9, rfl, sa, _, rfl, sqL_same s1 hS, fun l0 n0 => ?_⟩
    rw [em]
    have lms : (ms.map V.int).length = ms.length := List.length_map ..
    refine ⟨l0, _, rfl, .inl (SqL.of upd_same), _, _, rfl, 1, _, rfl, ⟨by decide, by decide, ?_, ?_⟩, ?_⟩
    · rw [lms]
      split <;> omega
    · rw [lms]
      split <;> omega
    obtain ⟨tn, et⟩ : ∃ tn : Nat, ((if ((ms.map V.int).length : Int) > 3 then ((ms.map V.int).length : Int) else 3) - 1).toNat = tn := ⟨_, rfl⟩
    have tn8 : tn ≤ 8 := by
      rw [lms] at et
      split at et <;> omega
    rw [et]
    have sl := same_new (o := .lst (ms.map V.int)) n0
    have made1 : MadeI K CF PT H (upd H1 l0 (.lst (ms.map V.int))) d0 wa kd hd S0 rk rk [] 0 := ⟨fun b o _ _ h => sl _ _ (s1 _ _ h), (tabs.ext s1).ext sl, (gr.same s1).same sl, fun _ _ _ _ => rfl, sl _ _ hd1, rkn nd0, one0⟩
    refine for_range (n := tn) (fun i σ Hc => ∃ (d : Addr) (z4 z5 z6 z7 : Option V) (S : Gs) (rk' : Addr → Option Ow) (ps : List Pt), σ = [some (.ref sa), some (.ref g), some (.int b), some (.ref d), z4, z5, z6, z7] ∧ S.ws = S0.ws ∧ MadeI K CF PT H Hc d wa kd hd S rk rk' ps i)
      ⟨d0, none, none, none, none, S0, rk, [], rfl, rfl, made1⟩ ?_ ?_
    · rintro i σ Hc hi ⟨d, z4, z5, z6, z7, S, rk', ps, rfl, ews, M⟩
      have gi2 := M.gr
      have one := M.one
      have tt := one.tt
      have lps := tt.len
      have keepS : ∀ {b o}, H b = some o → (∀ kvs, o ≠ .dK kvs) → (∀ q, o ≠ .tbl q) → Hc b = some o := fun {b o} h n1 n2 => M.keep b o (gr.soft h n1) n2 h
      have hgc := keepS hg (by intro _ z; cases z) (by intro _ z; cases z)
      have sc : SqL K Hc sa (ns.map V.int) := sqL_mv hS fun o ho h => keepS h (fun kvs z => by rcases ho with rfl | ⟨ob, rfl⟩ <;> cases z) (fun kvs z => by rcases ho with rfl | ⟨ob, rfl⟩ <;> cases z)
      refine ⟨_, rfl, _, rfl, sa, ns, _, rfl, sc, hlen, by omega, by omega, fun p H2 s2 np p2 => ?_⟩
      have hgr := s2 _ _ hgc
      refine ⟨_, rfl, _, rfl, _, rfl, _, rfl, g, C, dx, _, .ref wa, rfl, hgr, T.cl, T.no _ (by decide), rfl, p, d, wa, 1000000, S.ws, b, ps, rfl, p2, by decide, sqT_same s2 gi2.gw, one.okw, hb, s2 _ _ M.tab, tt.nd, by omega, fun e nw H3 k3 p3 ne okn he => ?_⟩
      have same_kp : ∀ {Hx Hy : Hp}, Same Hc Hx → Kp p Hx Hy → Same Hc Hy := fun {Hx Hy} s k b o h => k b o (ne_of_none h np) (s b o h)
      have s3 := same_kp s2 k3
      have fewn := okn.few
      refine ⟨_, rfl, _, rfl, d, e, ps, nw, rfl, s3 _ _ M.tab, he, tt.nd, okn.nd, by omega, by omega, fun ra rs H4 s4 nra chg hra => ?_⟩
      have s04 := s3.trans s4
      have lrs := chg.len
      refine ⟨_, rfl, _, _, rfl, rfl, ⟨by decide, by decide, by decide⟩, _, _, rfl, rfl, _, _, rfl, rfl, ⟨by decide, by decide, by decide⟩, ra, rs, _, _, rfl, hra, chg.nd, by omega, fun lh qs H5 s5 nlh cut ldh => ?_⟩
      have s05 := s04.trans s5
      have hra5 := s5 _ _ hra
      have tt2 : Tt rs (8 * (i + 1)) (10 ^ 15) (10 ^ 14) := by
        refine ⟨chg.nd, by omega, fun p hp => ?_, fun p hp => ?_⟩
        · rcases (chg.all p).mp hp with h1 | h1
          · rcases okn.at_ _ h1 with h2 | h2
            · exact h2
            · obtain ⟨q0, hq0, e0⟩ := List.mem_map.mp h2
              dsimp only at e0
              rw [← e0]
              exact tt.tz q0 hq0
          · exact tt.tz p h1.1
        · rcases (chg.all p).mp hp with h1 | h1
          · exact okn.sz _ p.2 h1 rfl
          · exact tt.vz p h1.1
      have srt : SrP rs qs := ⟨cut.up, fun p => (cut.all p).trans ⟨fun h => h.1, fun h => ⟨h, by
        have := tt2.tz p h
        show (0 : Int) - 10 ^ 17 ≤ p.1 ∧ p.1 < 10 ^ 17
        omega⟩⟩⟩
      have lqs := srt.len chg.nd
      have okr := tt2.ok (by omega) (by decide)
      have oko := tt.ok (by omega) (by decide)
      have hg5 := s05 _ _ hgc
      have he5 := s5 _ _ (s4 _ _ he)
      refine ⟨_, rfl, g, dx, _, rfl, hg5, rfl, _, rfl, e, _, _, rfl, .inl he5, g_keys vw nw, fun ts l pm up nl => ?_⟩
      have s56 := same_new (o := .lst (ts.map V.int)) nl
      have s06 := s05.trans s56
      obtain ⟨H6, e6⟩ : ∃ H6, upd H5 l (.lst (ts.map V.int)) = H6 := ⟨_, rfl⟩
      have hl6 : H6 l = some (.lst (ts.map V.int)) := by
        rw [← e6]
        exact upd_same
      rw [e6] at s06 s56 ⊢
      refine ⟨M.tabs.ext s06, fun fL c' H7 x7 tabs7 nfL hfL hcL => ?_⟩
      have hfL2 : H7 fL = some (LamO fL (lfLm (cloFrom (cxOf CX0 P w K mg base NMa "_law_made" (defScope sMa) f (.ref c) A outer s H E).nox.env.cells (lamScope eLm).names []) c')) := hfL
      clear hfL
      obtain ⟨cl, ecl⟩ : ∃ cl, cloFrom (cxOf CX0 P w K mg base NMa "_law_made" (defScope sMa) f (.ref c) A outer s H E).nox.env.cells (lamScope eLm).names [] = cl := ⟨_, rfl⟩
      rw [ecl] at hfL2
      refine ⟨_, rfl, rfl, rfl, fun B ob => ?_⟩
      rw [ecl] at ob ⊢
      have keepB : ∀ b o, H7 b = some o → B b = some o := fun b o e => by
        rw [ob.out b fun z => by rw [ob.new b z] at e; cases e]
        exact e
      have k7 : ∀ b o, (∀ q, o ≠ .tbl q) → Hc b = some o → H7 b = some o := fun b o n h => x7 _ _ (s06 _ _ h) n
      have kB : ∀ b o, (∀ q, o ≠ .tbl q) → Hc b = some o → B b = some o := fun b o n h => keepB _ _ (k7 b o n h)
      have hkB : HK CF Hc B := fun b o h hh => kB b o (fun q z => soft_tbl (z ▸ hh)) h
      have rkn7 : ∀ {b o}, H7 b = some o → (∀ kvs, o ≠ .dK kvs) → rk' b = none := fun {b o} h n => Classical.byContradiction fun r => by
        obtain ⟨kvs, z⟩ := gi2.own b r
        have z4 := k7 b _ (fun _ y => by cases y) z
        rw [h] at z4
        exact n kvs (Option.some.inj z4)
      have grB : GrG K CF B wa kd hd S rk' := gi2.hk hkB fun b o n h => kB b o (fun q z => by
        obtain ⟨kvs, y⟩ := gi2.own b n
        rw [h, z] at y
        cases y) h
      have told : ∀ t, t ∈ ts ↔ t ∈ nw.map (·.1) := fun t => pm.mem_iff
      have cht : ChT ps rs ts := fun p hp => by
        have n1 : p.1 ∉ nw.map (·.1) := fun z => hp ((told _).mpr z)
        rw [chg.all p]
        exact ⟨fun h => .inr ⟨h, n1⟩, fun h => h.elim (fun z => absurd (List.mem_map.mpr ⟨_, z, rfl⟩) n1) fun z => z.1⟩
      have lts : ts.length ≤ 8 := by
        rw [pm.length_eq, List.length_map]
        exact fewn
      have pos : ∀ x, x ∈ S.ws → 0 < x := fun x hx => by
        obtain ⟨jx, hj⟩ := List.getElem?_of_mem hx
        have := (one.okw.pos jx x hj).1
        omega
      obtain ⟨w0, ew0⟩ : ∃ w0, S.ws[0]? = some w0 := ⟨_, List.getElem?_eq_getElem (List.length_pos_iff.mpr one.okw.ne)⟩
      have ldB : LD K B lh (qs.map pd) := by
        refine ldh.kt (fun a u fx h => keepB _ _ (x7 _ _ (s56 _ _ h) fun q z => by rw [z] at fx; exact fx)) (fun o h => ?_) (td_pds _)
        refine keepB _ _ (x7 _ _ (s56 _ _ h) fun q z => ?_)
        obtain ⟨ys, hy, _⟩ := ldh
        rw [hy, z] at h
        cases h
      have tlh : TlH K fL rs B := ⟨_, c', lh, qs, ⟨keepB _ _ hfL2, keepB _ _ hcL, ob.told⟩, ldB, srt, by omega, okr⟩
      refine ⟨g, wa, kd, hd, l, fL, ts, w0, 3, _, S, rk', rs, rfl, ⟨dx, kB _ _ (fun _ z => nomatch z) hgc⟩, grB, one.okw, ew0, keepB _ _ (x7 _ _ hl6 fun _ z => nomatch z), by omega, fun x hx => ⟨by have := one.ls x hx; omega, by have := one.pls x; omega⟩, fun j x y ex ey => ?_, okr, tlh, fun r H8 rk5 k5 nr gr5 rkk5 rows5 rk5r => ?_⟩
      · exact ja_okH (pos x (List.mem_of_getElem? ex)) (pos y (List.mem_of_getElem? ey)) (one.okw.up j x y ex ey).2 ex ey one.hzOk (one.tsH ts) one.rt oko okr cht (by omega) (by have := one.ls x (List.mem_of_getElem? ex); omega)
      have same5 : ∀ b, Caught cl b → H8 b = B b := fun b hb => by
        obtain ⟨o, v, eo, _⟩ := ob.told.all b hb
        rw [eo]
        refine k5 b _ (Classical.byContradiction fun r2 => ?_) eo
        obtain ⟨kvs, z⟩ := grB.own b r2
        rw [eo] at z
        cases z
      refine ⟨same5, fun L less => ?_⟩
      have nc : ∀ {b o}, H7 b = some o → ¬ Caught cl b := fun {b o} h z => by
        rw [ob.new b z] at h
        cases h
      have kL : ∀ b o, rk' b = none → H7 b = some o → L b = some o := fun b o rn h => by
        rw [less.out b (nc h)]
        exact k5 b o rn (keepB _ _ h)
      have soft : ∀ {b o}, H8 b = some o → (∀ φ, o ≠ .ext φ) → L b = some o := fun {b o} h nx => by
        refine (less.out b fun z => ?_).trans h
        obtain ⟨o1, v, eo, _⟩ := ob.told.all b z
        rw [same5 b z, eo] at h
        exact nx _ (Option.some.inj h).symm
      have hkL : HK CF H8 L := fun b o h hh => soft h fun φ z => soft_ext (z ▸ hh)
      have grL := gr5.hk hkL fun b o rn h => soft h fun φ z => by
        obtain ⟨kvs, y⟩ := gr5.own b rn
        rw [h, z] at y
        cases y
      have tabsL : Tabs (TLm PT) L := fun p hp => by
        obtain ⟨q0, h1, h2, h3⟩ := tabs7 p hp
        refine ⟨q0, kL _ _ (rkn7 h1 fun _ z => nomatch z) h1, h2, fun pos cv hc => ?_⟩
        obtain ⟨code, e1, e2⟩ := h3 pos cv hc
        exact ⟨code, e1, kL _ _ (rkn7 e2 fun _ z => nomatch z) e2⟩
      have nraC : Hc ra = none := s3.free nra
      have rkra : rk' ra = none := Classical.byContradiction fun r2 => by
        obtain ⟨kvs, z⟩ := gi2.own ra r2
        rw [nraC] at z
        cases z
      have hra7 := x7 _ _ (s56 _ _ hra5) fun _ z => nomatch z
      refine ⟨ra, _, _, _, _, S.aft 3 (1 + (i : Nat)) (S.rows 3 rs ts) S.ws, rk5, rs, rfl, ews, fun b o rn nt h => ?_, tabsL, grL, fun b o h nt => ?_, kL _ _ rkra hra7, (rkk5 ra fun z => ?_).trans rkra, one.step (by omega) okn chg told lts (gi2.out 3) gr5⟩
      · exact kL _ _ ((M.rks b o h nt).trans rn) (k7 b o nt (M.keep b o rn nt h))
      · have e0 := M.rks b o h nt
        refine (rkk5 b fun z => ?_).trans e0
        by_cases c : rk' b = none
        · have hb := kB b o nt (M.keep b o (e0.symm.trans c) nt h)
          rw [z] at hb
          cases hb
        · obtain ⟨kvs, y⟩ := grB.own b c
          rw [z] at y
          cases y
      · rw [keepB _ _ hra7] at z
        cases z
    · rintro σ Hc ⟨d, z4, z5, z6, z7, S, rk', ps, rfl, ews, M⟩
      exact ⟨_, rfl, q Hc d S rk' ps ews ⟨M.keep, M.tabs, M.gr, M.rks, M.tab, M.rd, M.one.mono tn8⟩⟩
end
end Tg

set_option maxHeartbeats 2000000
namespace Tg
open PySem PySem.Spec PyProof.Rows L2 LamX NdefX CloX
/-! ### what the law asks: rows of kept folds -/
theorem kept_gone {S : Gs} {hz : Int → Option Int} {x s : Int} (x0 : 0 < x) (sm : s % x = 0) (e : S.hz x = (hz x).map fun h => h - h % x) : keptB (hz x) x s = !S.gone x s := by
  unfold keptB Gs.gone
  rw [e]
  cases hz x with
  | none => rfl
  | some h =>
    show decide (h < s + x) = !decide (s < h - h % x)
    rw [← decide_not]
    have h1 := Int.mul_ediv_add_emod h x
    have h2 := Int.mul_ediv_add_emod s x
    have h3 := Int.emod_nonneg h (show x ≠ 0 by omega)
    have h4 := Int.emod_lt_of_pos h x0
    rw [sm] at h2
    refine decide_eq_decide.mpr ⟨fun l g => ?_, fun l => by omega⟩
    have h5 : x * 0 < x * (h / x - s / x) := by
      rw [Int.mul_sub]
      omega
    have h6 := Int.lt_of_mul_lt_mul_left h5 (Int.le_of_lt x0)
    have h7 : x * 1 ≤ x * (h / x - s / x) := Int.mul_le_mul_of_nonneg_left (by omega) (Int.le_of_lt x0)
    rw [Int.mul_sub] at h7
    omega
theorem cell_full {rs : List Pt} (okr : TbOk rs) {x s : Int} (x0 : 0 < x) (sm : s % x = 0) : 0 < (cellF rs x s).cnt ↔ ∃ p, p ∈ rs ∧ p.1 - p.1 % x = s := by
  have h := sel_cell okr.nd x s
  have e : (cellF rs x s).cnt = ((cutF rs s (s + x)).length : Nat) := rfl
  rw [e]
  constructor
  · intro l
    obtain ⟨p, hp⟩ := List.exists_mem_of_length_pos (show 0 < (cutF rs s (s + x)).length by omega)
    obtain ⟨h1, h2⟩ := (h.all p).mp hp
    exact ⟨p, h1, (cell_iff x0 sm).mpr h2⟩
  · rintro ⟨p, hp, e2⟩
    have := List.length_pos_of_mem ((h.all p).mpr ⟨hp, (cell_iff x0 sm).mp e2⟩)
    omega
theorem sts_mod {rs : List Pt} {x s : Int} (h : s ∈ stsF rs x) : s % x = 0 := by
  obtain ⟨p, _, e⟩ := sts_mem.mp h
  rw [← e]
  exact cell_mod p.1 x
theorem ksF_mem {o : Option Int} {rs : List Pt} {x s : Int} : s ∈ ksF o rs x ↔ (∃ p, p ∈ rs ∧ p.1 - p.1 % x = s) ∧ keptB o x s = true := by
  unfold ksF
  rw [List.mem_filter, sts_mem]
theorem kfX_inj {o : Option Int} {ps qs : List Pt} {x : Int} : kfX o ps x = kfX o qs x ↔ ksF o ps x = ksF o qs x ∧ ∀ s, s ∈ ksF o ps x → cellF ps x s = cellF qs x s := by
  unfold kfX
  constructor
  · intro h
    have h1 : ksF o ps x = ksF o qs x := by
      have z := congrArg (List.map fun r : KRow => r.2.1) h
      rw [List.map_map, List.map_map] at z
      have e : ∀ l : List Int, ∀ f : Int → FD, l.map ((fun r : KRow => r.2.1) ∘ fun s => (x, s, f s)) = l := fun l f => List.map_id l
      rw [e, e] at z
      exact z
    refine ⟨h1, fun s hs => ?_⟩
    rw [← h1] at h
    have z := (List.map_inj_left.mp h) s hs
    exact congrArg (fun r : KRow => r.2.2) z
  · rintro ⟨h1, h2⟩
    rw [← h1]
    exact List.map_congr_left fun s hs => by rw [h2 s hs]
theorem kfF_inj {hz : Int → Option Int} {ps qs : List Pt} : ∀ {ws : List Int}, ws.Nodup → (kfF hz ps ws = kfF hz qs ws ↔ ∀ x, x ∈ ws → kfX (hz x) ps x = kfX (hz x) qs x)
  | [], _ => ⟨fun _ _ h => absurd h List.not_mem_nil, fun _ => rfl⟩
  | y :: ws, nd => by
    obtain ⟨out, rest⟩ := List.nodup_cons.mp nd
    have cons : ∀ rs : List Pt, kfF hz rs (y :: ws) = kfX (hz y) rs y ++ kfF hz rs ws := fun rs => List.flatMap_cons
    have own : ∀ rs : List Pt, (kfX (hz y) rs y).filter (fun r => decide (r.1 = y)) = kfX (hz y) rs y := fun rs => List.filter_eq_self.mpr fun r hr => by
      obtain ⟨s, _, e⟩ := List.mem_map.mp hr
      rw [← e]
      exact decide_eq_true rfl
    have oth : ∀ rs : List Pt, (kfF hz rs ws).filter (fun r => decide (r.1 = y)) = [] := fun rs => List.filter_eq_nil_iff.mpr fun r hr z => by
      obtain ⟨x, hx, hr⟩ := List.mem_flatMap.mp hr
      obtain ⟨s, _, e⟩ := List.mem_map.mp hr
      have e2 := of_decide_eq_true z
      rw [← e] at e2
      exact out (e2 ▸ hx)
    rw [cons, cons]
    constructor
    · intro h x hx
      have z := congrArg (List.filter fun r : KRow => decide (r.1 = y)) h
      rw [List.filter_append, List.filter_append, own, own, oth, oth, List.append_nil, List.append_nil] at z
      rcases List.mem_cons.mp hx with first | hx
      · rw [first]
        exact z
      · rw [z] at h
        exact (kfF_inj rest).mp (List.append_cancel_left h) x hx
    · intro h
      rw [h y List.mem_cons_self, (kfF_inj rest).mpr fun x hx => h x (List.mem_cons_of_mem _ hx)]
theorem kfF_nil {hz : Int → Option Int} {ps : List Pt} {ws : List Int} : kfF hz ps ws = [] ↔ ∀ x, x ∈ ws → ksF (hz x) ps x = [] := by
  unfold kfF
  rw [List.flatMap_eq_nil_iff]
  refine forall_congr' fun x => imp_congr_right fun _ => ?_
  unfold kfX
  exact List.map_eq_nil_iff
theorem sorted_one {o : Option Int} {ps qs : List Pt} {x : Int} (h : ∀ s, s ∈ ksF o ps x ↔ s ∈ ksF o qs x) : ksF o ps x = ksF o qs x :=
  ups_one ((starts_up x _).filter _) ((starts_up x _).filter _) h
/-- grains that hold one table are right of just those points that have its kept folds -/
theorem right_iff {S0 S : Gs} {hz : Int → Option Int} {ps qs : List Pt} {i : Nat} (one : OneP S0 ps i) (L : Link S0 S hz 3 ps) (okp : TbOk ps) : RightP S 3 qs ↔ kfF hz qs S0.ws = kfF hz ps S0.ws := by
  rw [kfF_inj (wok_nd one.okw)]
  unfold RightP
  rw [L.ws]
  refine forall_congr' fun x => imp_congr_right fun hx => ?_
  have x0 : 0 < x := by
    obtain ⟨jx, hj⟩ := List.getElem?_of_mem hx
    have := (one.okw.pos jx x hj).1
    omega
  have hxS : x ∈ S.ws := by
    rw [L.ws]
    exact hx
  have kg : ∀ {s}, s % x = 0 → keptB (hz x) x s = !S.gone x s := fun {s} sm => kept_gone x0 sm (L.hzk x hx)
  have mine : ∀ s, (s ∈ S.ss 3 x ∧ 0 < (S.cf 3 x s).1.cnt) ↔ s ∈ ksF (hz x) ps x := fun s => by
    rw [ksF_mem]
    constructor
    · rintro ⟨h1, h2⟩
      obtain ⟨h3, h4, h5⟩ := L.rt.is x hxS s h1
      rw [h3] at h2
      refine ⟨(cell_full okp x0 h4).mp h2, ?_⟩
      rw [kg h4, h5]
      rfl
    · rintro ⟨⟨p, hp, e⟩, h3⟩
      have sm : s % x = 0 := by
        rw [← e]
        exact cell_mod p.1 x
      rw [kg sm] at h3
      have ng : S.gone x s = false := by
        cases g : S.gone x s
        · rfl
        · rw [g] at h3
          cases h3
      have h1 := L.rt.all x hxS p hp
      rw [e] at h1
      have h1 := h1 ng
      refine ⟨h1, ?_⟩
      rw [(L.rt.is x hxS s h1).1]
      exact (cell_full okp x0 sm).mpr ⟨p, hp, e⟩
  have his : ∀ s, ((∃ q, q ∈ qs ∧ q.1 - q.1 % x = s) ∧ S.gone x s = false) ↔ s ∈ ksF (hz x) qs x := fun s => by
    rw [ksF_mem]
    refine and_congr_right fun ⟨p, _, e⟩ => ?_
    have sm : s % x = 0 := by
      rw [← e]
      exact cell_mod p.1 x
    rw [kg sm]
    cases S.gone x s
    · exact ⟨fun _ => rfl, fun _ => rfl⟩
    · exact ⟨(fun z => nomatch z), fun z => nomatch z⟩
  unfold RightX
  rw [kfX_inj]
  constructor
  · rintro ⟨h1, h2⟩
    have e : ksF (hz x) qs x = ksF (hz x) ps x := sorted_one fun s => by rw [← his s, ← h1 s, mine s]
    refine ⟨e, fun s hs => ?_⟩
    rw [e] at hs
    obtain ⟨h3, h4⟩ := (mine s).mpr hs
    rw [← h2 s h3 h4]
    exact (L.rt.is x hxS s h3).1
  · rintro ⟨h1, h2⟩
    refine ⟨fun s => by rw [mine s, his s, h1], fun s h3 h4 => ?_⟩
    have hs := (mine s).mp ⟨h3, h4⟩
    rw [(L.rt.is x hxS s h3).1]
    rw [← h1] at hs
    exact (h2 s hs).symm
theorem right_none {S0 S : Gs} {hz : Int → Option Int} {ps qs : List Pt} {i : Nat} (one : OneP S0 ps i) (L : Link S0 S hz 3 ps) : RightP S 4 qs ↔ kfF hz qs S0.ws = [] := by
  rw [kfF_nil]
  unfold RightP
  rw [L.ws]
  refine forall_congr' fun x => imp_congr_right fun hx => ?_
  have x0 : 0 < x := by
    obtain ⟨jx, hj⟩ := List.getElem?_of_mem hx
    have := (one.okw.pos jx x hj).1
    omega
  have em : S.ss 4 x = [] := by
    have h := L.len 4 x
    rw [one.oth 4 x (by decide), List.length_nil] at h
    exact List.eq_nil_of_length_eq_zero (by omega)
  unfold RightX
  rw [em]
  constructor
  · rintro ⟨h1, _⟩
    refine List.eq_nil_iff_forall_not_mem.mpr fun s hs => ?_
    obtain ⟨⟨p, hp, e⟩, h3⟩ := ksF_mem.mp hs
    have sm : s % x = 0 := by
      rw [← e]
      exact cell_mod p.1 x
    rw [kept_gone x0 sm (L.hzk x hx)] at h3
    refine absurd ((h1 s).mpr ⟨⟨p, hp, e⟩, ?_⟩).1 List.not_mem_nil
    cases g : S.gone x s
    · rfl
    · rw [g] at h3
      cases h3
  · intro h
    refine ⟨fun s => ⟨fun z => absurd z.1 List.not_mem_nil, fun ⟨⟨p, hp, e⟩, ng⟩ => ?_⟩, fun s z => absurd z List.not_mem_nil⟩
    have sm : s % x = 0 := by
      rw [← e]
      exact cell_mod p.1 x
    have z : s ∈ ksF (hz x) qs x := ksF_mem.mpr ⟨⟨p, hp, e⟩, by rw [kept_gone x0 sm (L.hzk x hx), ng]; rfl⟩
    rw [h] at z
    exact absurd z List.not_mem_nil
/-- the same table, told by rising times -/
theorem kfF_srt {hz : Int → Option Int} {ps qs : List Pt} {ws : List Int} (s : SrP ps qs) (nd : (ps.map (·.1)).Nodup) (ndw : ws.Nodup) (pos : ∀ x, x ∈ ws → 0 < x) : kfF hz qs ws = kfF hz ps ws := by
  refine (kfF_inj ndw).mpr fun x hx => kfX_inj.mpr ⟨sorted_one fun z => ?_, fun z hz => ?_⟩
  · rw [ksF_mem, ksF_mem]
    refine and_congr_left fun _ => ⟨fun ⟨p, h1, h2⟩ => ⟨p, (s.all p).mp h1, h2⟩, fun ⟨p, h1, h2⟩ => ⟨p, (s.all p).mpr h1, h2⟩⟩
  · have n2 : (qs.map (·.1)).Nodup := s.up.imp fun h => Int.ne_of_lt h
    have c := sel_cell n2 x z
    exact Sel.cell nd ⟨c.up, fun p => (c.all p).trans (and_congr_left fun _ => s.all p)⟩
/-! rows as data -/
theorem form_dw : ∀ o : Option Int, Form (dw o) 0
  | none => .non 0
  | some x => .int x 0
theorem form_od : ∀ o : Option Pt, Form (od o) 1
  | none => .non 1
  | some p => .tup (.cons (.int _ 0) (.cons (.int _ 0) (.nil 0)))
theorem form_fd9 (F : FD) : Form (fd9 F) 2 := .tup (.cons (.int _ 1) (.cons (.int _ 1) (.cons (.int _ 1) (.cons ((form_dw _).up (by decide)) (.cons ((form_dw _).up (by decide)) (.cons (form_od _) (.cons (form_od _) (.cons (.int _ 1) (.cons (.int _ 1) (.nil 1))))))))))
theorem form_k (r : KRow) : Form (kD r) 3 := .tup (.cons (.int _ 2) (.cons (.int _ 2) (.cons (form_fd9 _) (.nil 2))))
theorem form_ks (rs : List KRow) : Form (.list (rs.map kD)) 4 := .list (.map form_k rs)
theorem form_pds (ps : List Pt) : Form (.list (ps.map pd)) 2 := .list (.map (fun p => .tup (.cons (.int _ 0) (.cons (.int _ 0) (.nil 0)))) ps)
theorem kD_iff {a b : KRow} : PyData.eqv (kD a) (kD b) = true ↔ a = b := by
  have e : PyData.eqv (kD a) (kD b) = (decide (V.int a.1 = V.int b.1) && (decide (V.int a.2.1 = V.int b.2.1) && (PyData.eqv (fd9 a.2.2) (fd9 b.2.2) && true))) := by
    show (_ == _ && (_ == _ && (_ && true))) = _
    have f : ∀ i j : Int, (i == j) = decide (V.int i = V.int j) := fun i j => by
      by_cases c : i = j
      · rw [c, beq_self_eq_true, decide_eq_true rfl]
      · rw [beq_eq_false_iff_ne.mpr c, decide_eq_false fun z => c (V.int.inj z)]
    rw [f, f]
  rw [e, Bool.and_eq_true, Bool.and_eq_true, Bool.and_true, decide_eq_true_iff, decide_eq_true_iff, fd9_iff]
  constructor
  · rintro ⟨h1, h2, h3⟩
    exact Prod.ext (V.int.inj h1) (Prod.ext (V.int.inj h2) h3)
  · rintro rfl
    exact ⟨rfl, rfl, rfl⟩
theorem kDs_iff : ∀ {a b : List KRow}, PyData.eqv (.list (a.map kD)) (.list (b.map kD)) = true ↔ a = b
  | [], [] => Iff.intro (fun _ => rfl) fun _ => rfl
  | [], _ :: _ => ⟨(fun z => nomatch z), fun z => nomatch z⟩
  | _ :: _, [] => ⟨(fun z => nomatch z), fun z => nomatch z⟩
  | x :: a, y :: b => by
    have ih := kDs_iff (a := a) (b := b)
    have e : PyData.eqv (.list ((x :: a).map kD)) (.list ((y :: b).map kD)) = (PyData.eqv (kD x) (kD y) && PyData.eqv (.list (a.map kD)) (.list (b.map kD))) := rfl
    rw [e, Bool.and_eq_true, kD_iff, ih]
    exact ⟨fun h => by rw [h.1, h.2], fun h => ⟨(List.cons.inj h).1, (List.cons.inj h).2⟩⟩
end Tg

set_option maxHeartbeats 2000000
namespace Tg
open PySem PySem.Spec PyProof.Rows L2 LamX NdefX CloX
/-! ### law: a turn -/
abbrev sLaw : Stmt := topS 48
abbrev NLaw : List Str := ["_law_script", "_law_purse_here", "_law_grains", "_law_base_here", "_law_table", "_law_ends", "_law_width", "_law_kept", "_law_time_here", "_law_cell_here", "_law_some_points", "_law_due", "_law_handed", "_law_start", "_law_fold_here"]
theorem scLaw : FnScope NLaw ["_law_script"] (defScope sLaw) := ⟨rfl, rfl, rfl, by decide +kernel, rfl, by decide +kernel, by decide +kernel⟩
abbrev bLaw : List Stmt := rowsIn ((defBody sLaw).getD 8 noRow)
structure Wl where
  sa : Addr
  g : Addr
  wa : Addr
  kd : Addr
  hd : Addr
  d : Addr
  e : Addr
  kl : Addr
  dx : Addr
  ns : List Int
  b : Int
  S0 : Gs
  S : Gs
  rk : Addr → Option Ow
  ps : List Pt
  hz : Int → Option Int
/-- what stands from the kept folds on -/
structure Lw (K : PySem.W.Frag) (C CF : Addr) (W : Wl) (H : Hp) : Prop where
  sc : SqL K H W.sa (W.ns.map V.int)
  few : W.ns.length ≤ 63
  hb : W.b.natAbs ≤ 10 ^ 14
  gi : H W.g = some (.ins C W.dx [("widths", .ref W.wa), ("busy", .bl false), ("kept", .ref W.kd), ("horizons", .ref W.hd)])
  gr : GrG K CF H W.wa W.kd W.hd W.S W.rk
  one : OneP W.S0 W.ps 8
  ln : Link W.S0 W.S W.hz 3 W.ps
  en : EnD H W.e W.S0.ws W.hz
  tab : H W.d = some (.dK (tbG V.int W.ps))
  kl : LD K H W.kl ((kfF W.hz W.ps W.S0.ws).map kD)
theorem Lw.same {K : PySem.W.Frag} {C CF : Addr} {W : Wl} {H H' : Hp} (L : Lw K C CF W H) (s : Same H H') : Lw K C CF W H' :=
  ⟨sqL_same s L.sc, L.few, L.hb, s _ _ L.gi, L.gr.same s, L.one, L.ln, let ⟨kvs, h, k⟩ := L.en.k; k.at_ (s _ _ h), s _ _ L.tab, L.kl.same s⟩
theorem Lw.gia {K : PySem.W.Frag} {C CF : Addr} {W : Wl} {H : Hp} (L : Lw K C CF W H) : GiA C H W.g W.wa W.kd W.hd false := ⟨W.dx, L.gi⟩
abbrev Wl.st (W : Wl) (z1 z6 z8 z9 z10 z11 z12 z13 z14 : Option V) : L2.St := [some (.ref W.sa), z1, some (.ref W.g), some (.int W.b), some (.ref W.d), some (.ref W.e), z6, some (.ref W.kl), z8, z9, z10, z11, z12, z13, z14]
def LI (K : PySem.W.Frag) (C CF : Addr) (W : Wl) (σ : L2.St) (H : Hp) : Prop := ∃ (z1 z6 z8 z9 z10 z11 z12 z13 z14 : Option V), σ = W.st z1 z6 z8 z9 z10 z11 z12 z13 z14 ∧ Lw K C CF W H
section
variable {P : Program} {w : World} {K : PySem.W.Frag} {mg : Str → Option Value} {base : Heap} {C CF f : Addr} {k : Nat} {cdv : Value} {A : Around} {outer : List Env} {s : Shared} {HH : Hp} {E : XK}
def RT0 (K : PySem.W.Frag) (C CF : Addr) (W : Wl) : TS := fun D σ H => ∃ (i : Nat) (z1 z6 z8 z10 z11 z12 z13 z14 : Option V), σ = W.st z1 z6 z8 (some (.int (9 + (i : Nat)))) z10 z11 z12 z13 z14 ∧ i < 20 ∧ Lw K C CF W H ∧ ∀ σ' H', LI K C CF W σ' H' → D.nx σ' H'
set_option maxHeartbeats 8000000 in
theorem lb_0 {W : Wl} (hr : Room (k + 1) (A.deeper (envOfC "law" (defScope sLaw) s.heap.objs.size f cdv))) (T : TGr K C) (L_purse : Cal P w K mg base k "_law_purse" ["_law_script", "_law_at"] (spPurse K)) (L_pops : Cal P w K mg base k "_law_pops" ["_law_purse_here", "_law_table", "_law_base_here", "_law_widths_here"] (spPp K)) (L_kept_folds : Cal P w K mg base k "_law_kept_folds" ["_law_widths_here", "_law_ends", "_law_some_points"] (spKF K))
    (L_truth : Cal P w K mg base k "_law_truth" ["_law_told", "_law_due"] spTh) (M_right : CalM P w K mg base k C "right" ["self", "place", "points"] (spRi K C CF)) (M_right_k : CalMK P w K mg base k C "right" ["self", "place", "points"] ["points", "place"] [1, 0] (spRi K C CF)) (m_list : mg "list" = none) :
    PSs (cxOf CX0 P w K mg base NLaw "law" (defScope sLaw) f cdv A outer s HH E).nox bLaw (RT0 K C CF W) := by
  have hD : (A.deeper (envOfC "law" (defScope sLaw) s.heap.objs.size f cdv)).units + 64 < cLine := by have := hr.un; omega
  refine pss_by (pss_cons (ps_set (i := 10) scLaw.nd rfl (.inl rfl) (pe_cal L_pops (hr.mono (by omega)) (by rfl) (pa_cons (pe_cal L_purse (hr.mono (by omega)) (by rfl) (pa_cons (pv 0) (pa_cons (pv 9) pa_nil))) (pa_cons (pv 4) (pa_cons (pv 3) (pa_cons (pe_fld (pv 2) rfl) pa_nil))))))
        (pss_cons (ps_set (i := 11) scLaw.nd rfl (.inl rfl) (pe_cal L_kept_folds (hr.mono (by omega)) (by rfl) (pa_cons (pe_fld (pv 2) rfl) (pa_cons (pv 5) (pa_cons (pv 10) pa_nil)))))
        (pss_cons (ps_set (i := 12) scLaw.nd rfl (.inl rfl) (pe_callTy call_list_of (by rfl) m_list (by decide +kernel) (pa_cons (pv 10) pa_nil)))
        (pss_cons (ps_if (PW.pt (pw_or (pt_not (pt_val (pe_cal L_truth (hr.mono (by omega)) (by rfl) (pa_cons (pe_calM (pv 2) T.cl M_right (hr.mono (by omega)) (pa_cons pe_int (pa_cons (pv 12) pa_nil))) (pa_cons (pe_cmpR (op_eqD hD) (pv 11) (pv 7) (nomark _)) pa_nil))))) (pw_or1 (pt_not (pt_val (pe_cal L_truth (hr.mono (by omega)) (by rfl) (pa_cons (pe_calM (pv 2) T.cl M_right (hr.mono (by omega)) (pa_cons pe_int (pa_cons (pv 12) pa_nil))) (pa_cons (pe_cmpR (op_eqD hD) (pv 11) (pe_lst pa_nil) (nomark _)) pa_nil))))))))
          (pss_one (ps_ret pe_bl))
          pss_nil)
        (pss_one (ps_if (PW.pt (pw_or (pt_not (pt_val (pe_cal L_truth (hr.mono (by omega)) (by rfl) (pa_cons (pe_calMK (pv 2) T.cl M_right_k (hr.mono (by omega)) (pk_cons (pv 12) (pk_cons pe_int pk_nil))) (pa_cons (pe_cmpR (op_eqD hD) (pv 11) (pv 7) (nomark _)) pa_nil))))) (pw_or1 (pt_cmpR (op_neD hD) (pv 12) (pv 10) (nomark _)))))
          (pss_one (ps_ret pe_bl))
          pss_nil)))))) ?_
  rintro D σ H ⟨i, z1, z6, z8, z10, z11, z12, z13, z14, rfl, hi, L, q⟩
  refine ⟨_, rfl, _, rfl, W.sa, W.ns, _, rfl, L.sc, L.few, by omega, by omega, fun p H2 s2 np p2 => ?_⟩
  have L2 := L.same s2
  have tt : Tt W.ps 64 (10 ^ 15) (10 ^ 14) := L.one.tt
  have okw := L.one.okw
  have gw2 := L2.gr.gw
  rw [L.ln.ws] at gw2
  refine ⟨_, rfl, _, rfl, _, rfl, W.g, C, W.dx, _, .ref W.wa, rfl, L2.gi, T.cl, T.no _ (by decide), rfl, p, W.d, W.wa, 1000000, 64, W.S0.ws, W.b, W.ps, rfl, p2, by decide, gw2, okw, L.hb, L2.tab, tt, by decide, fun sp qs H3 k3 ldq upq tq => ?_⟩
  have s3 : Same H H3 := fun b o h => k3 b o (ne_of_none h np) (s2 b o h)
  have L3 := L.same s3
  have gw3 := L3.gr.gw
  rw [L.ln.ws] at gw3
  have okq := tq.ok (by decide) (by decide)
  have lq := tq.len
  refine ⟨_, rfl, W.g, C, W.dx, _, .ref W.wa, rfl, L3.gi, T.cl, T.no _ (by decide), rfl, _, rfl, _, rfl, W.wa, W.e, sp, W.S0.ws, W.hz, qs, rfl, gw3, okw, L3.en, ldq, upq, okq, by omega, fun p hp => by have := tq.tz p hp; omega, fun du H4 s4 ndu ldu => ?_⟩
  obtain ⟨xs, hsp, dxs⟩ := ldq
  have hsp4 := s4 _ _ hsp
  refine ⟨_, rfl, sp, xs, rfl, .inl (SqL.of hsp4), fun hl nhl => ?_⟩
  have s5 := same_new (o := .lst xs) nhl
  have s35 := s4.trans s5
  have s05 := s3.trans s35
  obtain ⟨H5, e5⟩ : ∃ H5, upd H4 hl (.lst xs) = H5 := ⟨_, rfl⟩
  have hhl5 : H5 hl = some (.lst xs) := by
    rw [← e5]
    exact upd_same
  rw [e5] at s5 s35 s05
  refine nx_atS e5 ?_
  have L5 := L.same s05
  have ldh : LD K H5 hl (qs.map pd) := ⟨xs, hhl5, dpAll_same s35 dxs⟩
  have okwS : WOk W.S.ws := by
    rw [L.ln.ws]
    exact okw
  have lss : ∀ q x, x ∈ W.S.ws → (W.S.ss q x).length ≤ 900 := fun q x hx => by
    have h1 := L.ln.len q x
    rw [L.ln.ws] at hx
    by_cases c : q = 3
    · subst c
      have := L.one.ls x hx
      omega
    · rw [L.one.oth q x c] at h1
      exact Nat.le_trans h1 (Nat.zero_le _)
  have okp := tt.ok (by decide) (by decide)
  have r3 := right_iff (qs := qs) L.one L.ln okp
  have r4 := right_none (qs := qs) L.one L.ln
  refine ⟨_, rfl, W.g, W.dx, _, rfl, L5.gi, rfl, _, rfl, W.g, W.wa, W.kd, W.hd, hl, 3, W.S, W.rk, qs, false, rfl, L5.gia, L5.gr, okwS, ldh, upq, okq, by omega, lss 3, fun b1 H6 s6 hb1 => ?_⟩
  have agree : ∀ {b c : Bool} {R : Prop}, (b = true ↔ R) → (c = true ↔ R) → b = c := fun {b c R} h1 h2 => Bool.eq_iff_iff.mpr (h1.trans h2.symm)
  have sdu6 := s5.trans s6
  have ldu6 := ldu.same sdu6
  have s06 := s05.trans s6
  have L6 := L.same s06
  have fq := form_ks (kfF W.hz qs W.S0.ws)
  have fp := form_ks (kfF W.hz W.ps W.S0.ws)
  have c3 : PyData.eqv (.list ((kfF W.hz qs W.S0.ws).map kD)) (.list ((kfF W.hz W.ps W.S0.ws).map kD)) = true ↔ RightP W.S 3 qs := kDs_iff.trans r3.symm
  refine ⟨_, rfl, _, rfl, _, _, ldu6.dp, L6.kl.dp, fq.shaped (by decide), fp.shaped (by decide), b1, _, rfl, fun t1 ht1 => ?_⟩
  obtain rfl : t1 = true := ht1.mpr (agree hb1 c3)
  refine ⟨true, rfl, if_f ?_⟩
  refine ⟨_, rfl, W.g, W.dx, _, rfl, L6.gi, rfl, _, rfl, W.g, W.wa, W.kd, W.hd, hl, 4, W.S, W.rk, qs, false, rfl, L6.gia, L6.gr, okwS, ldh.same s6, upq, okq, by omega, lss 4, fun b2 H7 s7 hb2 => ?_⟩
  refine ⟨_, rfl, Nat.zero_le _, fun n0 nn0 => ?_⟩
  have s8 := same_new (o := .lst []) nn0
  obtain ⟨H8, e8⟩ : ∃ H8, upd H7 n0 (.lst []) = H8 := ⟨_, rfl⟩
  have hn8 : H8 n0 = some (.lst []) := by
    rw [← e8]
    exact upd_same
  rw [e8] at s8 ⊢
  have s68 := s7.trans s8
  have c4 : PyData.eqv (.list ((kfF W.hz qs W.S0.ws).map kD)) (.list (([] : List KRow).map kD)) = true ↔ RightP W.S 4 qs := kDs_iff.trans r4.symm
  refine ⟨.list ((kfF W.hz qs W.S0.ws).map kD), .list (([] : List KRow).map kD), (ldu6.same s68).dp, .lst (SqL.of hn8) .nil, fq.shaped (by decide), (form_ks []).shaped (by decide), b2, _, rfl, fun t2 ht2 => ?_⟩
  obtain rfl : t2 = true := ht2.mpr (agree hb2 c4)
  refine ⟨true, rfl, if_f ?_⟩
  have s08 := s06.trans s68
  have L8 := L.same s08
  have fd := form_pds qs
  refine ⟨_, rfl, W.g, W.dx, _, rfl, L8.gi, rfl, _, rfl, rfl, W.g, W.wa, W.kd, W.hd, hl, 3, W.S, W.rk, qs, false, rfl, L8.gia, L8.gr, okwS, (ldh.same s6).same s68, upq, okq, by omega, lss 3, fun b3 H9 s9 hb3 => ?_⟩
  have s09 := s08.trans s9
  have L9 := L.same s09
  refine ⟨_, rfl, _, rfl, _, _, ((ldu6.same s68).same s9).dp, L9.kl.dp, fq.shaped (by decide), fp.shaped (by decide), b3, _, rfl, fun t3 ht3 => ?_⟩
  obtain rfl : t3 = true := ht3.mpr (agree hb3 c3)
  refine ⟨true, rfl, if_f ?_⟩
  have s59 := s6.trans (s68.trans s9)
  have ldh9 := ldh.same s59
  have ldq9 : LD K H9 sp (qs.map pd) := (show LD K H3 sp (qs.map pd) from ⟨xs, hsp, dxs⟩).same ((s4.trans s5).trans s59)
  refine ⟨_, rfl, _, rfl, _, _, ldh9.dp, ldq9.dp, fd.shaped (by decide), fd.shaped (by decide), _, rfl, ?_⟩
  rw [fd.own]
  exact if_f (q _ _ ⟨_, _, _, _, _, _, _, _, _, rfl, L9⟩)
end
end Tg

set_option maxHeartbeats 2000000
namespace Tg
open PySem PySem.Spec PyProof.Rows L2 LamX NdefX CloX
/-! ### law -/
theorem dp_k {K : PySem.W.Frag} {H : Hp} {v : V} {r : KRow} (h : Dp K H v (kD r)) : ∃ t vf, v = .ref t ∧ SqT K H t [.int r.1, .int r.2.1, vf] ∧ Dp K H vf (fd9 r.2.2) := by
  cases h with
  | tup a b =>
    cases b with
    | cons h1 b =>
      cases b with
      | cons h2 b =>
        cases b with
        | cons h3 b =>
          cases b
          cases h1
          cases h2
          exact ⟨_, _, rfl, a, h3⟩
theorem pss_ex {X : Cx} {body : List Stmt} {α : Type} {T : α → TS} (h : ∀ a, PSs X body (T a)) : PSs X body fun D σ H => ∃ a, T a D σ H := ⟨fun pins s σ H D I ⟨a, z⟩ => (h a).run pins s σ H D I z⟩
structure LawC (P : Program) (w : World) (K : PySem.W.Frag) (mg : Str → Option Value) (base : Heap) (C CF PT : Addr) (k : Nat) : Prop where
  L_purse : Cal P w K mg base k "_law_purse" ["_law_script", "_law_at"] (spPurse K)
  L_widths : Cal P w K mg base k "_law_widths" ["_law_purse_here"] spWidths
  K_Grains : CalC P w K mg base k "Grains" C ["self", "widths"] (spGI K C)
  L_base : Cal P w K mg base k "_law_base" ["_law_purse_here"] spBase
  L_made : Cal P w K mg base k "_law_made" PMa (spMa K C CF PT)
  L_gone : Cal P w K mg base k "_law_gone" PGo (spGo K C CF)
  L_kept_folds : Cal P w K mg base k "_law_kept_folds" ["_law_widths_here", "_law_ends", "_law_some_points"] (spKF K)
  L_pops : Cal P w K mg base k "_law_pops" ["_law_purse_here", "_law_table", "_law_base_here", "_law_widths_here"] (spPp K)
  L_truth : Cal P w K mg base k "_law_truth" ["_law_told", "_law_due"] spTh
  L_read : Cal P w K mg base k "_law_read" ["_law_fold_here"] (spLr K CF)
  M_right : CalM P w K mg base k C "right" ["self", "place", "points"] (spRi K C CF)
  M_right_k : CalMK P w K mg base k C "right" ["self", "place", "points"] ["points", "place"] [1, 0] (spRi K C CF)
  M_fold_at : CalM P w K mg base k C "fold_at" ["self", "place", "width", "time"] (spFA K C CF)
  T : TGr K C
  m_range : mg "range" = none
  m_len : mg "len" = none
  m_max : mg "max" = none
  m_list : mg "list" = none
  m_sorted : mg "sorted" = none
section
variable {P : Program} {w : World} {K : PySem.W.Frag} {mg : Str → Option Value} {base : Heap} {C CF PT f : Addr} {k : Nat}
def spLaw (K : PySem.W.Frag) (PT : Addr) : Sp := fun vs H Q _ => ∃ (a : Addr) (ns : List Int), vs = [.ref a] ∧ SqL K H a (ns.map V.int) ∧ ns.length ≤ 63 ∧ Tabs (TLm PT) H ∧ ∀ H', Q (.bl true) H'
def RTL (K : PySem.W.Frag) (C CF : Addr) : TS := fun D σ H => ∃ W : Wl, RT0 K C CF W D σ H
set_option maxHeartbeats 16000000 in
theorem ok_law {fd : FuncData} (F : Fun K "law" "law" sLaw f fd) (Z : LawC P w K mg base C CF PT k) : FnOk P w K mg base CX0 (k + 2) f fd ["_law_script"] (spLaw K PT) := by
  obtain ⟨L_purse, L_widths, K_Grains, L_base, L_made, L_gone, L_kept_folds, L_pops, L_truth, L_read, M_right, M_right_k, M_fold_at, T, m_range, m_len, m_max, m_list, m_sorted⟩ := Z
  refine F.ok scLaw (fun vs H Q E h => ?_) (fun cdv A outer s H vs Q E hr h => ?_)
  · obtain ⟨sa, ns, rfl, _⟩ := h
    rfl
  · obtain ⟨sa, ns, rfl, hS, hlen, tabs, q⟩ := h
    have hu := hu_of hr
    have hD : (A.deeper (envOfC "law" (defScope sLaw) s.heap.objs.size f cdv)).units + 64 < cLine := by have := hr.un; omega
    have body : PSs (cxOf CX0 P w K mg base NLaw "law" (defScope sLaw) f cdv A outer s H E).nox bLaw (RTL K C CF) := pss_ex (fun W : Wl => lb_0 (W := W) (P := P) (w := w) (K := K) (mg := mg) (base := base) (C := C) (CF := CF) (f := f) (cdv := cdv) (A := A) (outer := outer) (s := s) (HH := H) (E := E) hr T L_purse L_pops L_kept_folds L_truth M_right M_right_k m_list)
    refine ⟨_, pss_cons (ps_set (i := 1) scLaw.nd rfl (.inl rfl) (pe_cal L_purse (hr.mono (by omega)) (by rfl) (pa_cons (pv 0) (pa_cons pe_int pa_nil))))
      (pss_cons (ps_set (i := 2) scLaw.nd rfl (.inl rfl) (pe_calC K_Grains (hr.mono (by omega)) (by rfl) (pa_cons (pe_cal L_widths (hr.mono (by omega)) (by rfl) (pa_cons (pv 1) pa_nil)) pa_nil)))
      (pss_cons (ps_set (i := 3) scLaw.nd rfl (.inl rfl) (pe_cal L_base (hr.mono (by omega)) (by rfl) (pa_cons (pv 1) pa_nil)))
      (pss_cons (ps_set (i := 4) scLaw.nd rfl (.inr rfl) (pe_cal L_made (hr.mono (by omega)) (by rfl) (pa_cons (pv 0) (pa_cons (pv 2) (pa_cons (pv 3) pa_nil)))))
      (pss_cons (ps_set (i := 5) scLaw.nd rfl (.inl rfl) pe_dnewK)
      (pss_cons (ps_for PassesOwn.never rfl (pi_tup (pe_fld (pv 2) rfl)) (pg_name (i := 6) scLaw.nd rfl (.inl rfl))
        (pss_one (ps_dput hu (pv 5) (pv 6) pe_non rfl)))
      (pss_cons (ps_expr (pe_cal L_gone (hr.mono (by omega)) (by rfl) (pa_cons (pv 1) (pa_cons (pv 2) (pa_cons (pv 3) (pa_cons (pv 5) pa_nil))))))
      (pss_cons (ps_set (i := 7) scLaw.nd rfl (.inl rfl) (pe_cal L_kept_folds (hr.mono (by omega)) (by rfl) (pa_cons (pe_fld (pv 2) rfl) (pa_cons (pv 5) (pa_cons (pe_lc (own := [("_law_time_here", 8)]) (g := (gName 8)) (tt := tYes) rfl scLaw.nd (pi_list (pe_callB (cr_sortedDI rfl) (by rfl) m_sorted (by decide +kernel) (pa_cons (pv 4) pa_nil))) (blkOk_by (own := [("_law_time_here", 8)]) (N := NLaw) (sc := defScope sLaw) (by decide +kernel)) (fun _ _ _ _ _ => (pg_name (i := 8) scLaw.nd rfl (.inl rfl))) (fun _ _ _ _ _ => pts_nil) (fun _ _ _ _ _ => (pe_tup (pa_cons (pv 8) (pa_cons (pe_dget hu (pv 4) (pv 8) (fun _ _ => rfl)) pa_nil))))) pa_nil)))))
      (pss_cons (ps_for PassesOwn.never rfl (pi_range2 (by rfl) m_range (pa_cons pe_int (pa_cons (pe_callB (call_max2 rfl) (by rfl) m_max (by decide +kernel) (pa_cons pe_int (pa_cons (pe_callB call_len_seq (by rfl) m_len (by decide +kernel) (pa_cons (pe_slice sl_list (pv 0) po_none (po_some pe_int)) pa_nil)) pa_nil))) pa_nil))) (pg_name (i := 9) scLaw.nd rfl (.inl rfl)) body)
      (pss_cons (ps_for PassesOwn.never rfl (pi_list (pv 7)) (pg_tup rfl (pgs_cons (pg_name (i := 6) scLaw.nd rfl (.inl rfl)) (pgs_cons (pg_name (i := 13) scLaw.nd rfl (.inl rfl)) (pgs_cons (pg_name (i := 14) scLaw.nd rfl (.inl rfl)) pgs_nil))))
        (pss_one (ps_if (pt_cmpR (op_neD hD) (pe_cal L_read (hr.mono (by omega)) (by rfl) (pa_cons (pe_calM (pv 2) T.cl M_fold_at (hr.mono (by omega)) (pa_cons pe_int (pa_cons (pv 6) (pa_cons (pv 13) pa_nil)))) pa_nil)) (pv 14) (nomark _))
          (pss_one (ps_ret pe_bl))
          pss_nil)))
      (pss_one (ps_ret (pe_calM (pv 2) T.cl M_right (hr.mono (by omega)) (pa_cons pe_int (pa_cons (pe_lc (own := [("_law_time_here", 8)]) (g := (gName 8)) (tt := tYes) rfl scLaw.nd (pi_list (pe_callB (cr_sortedDI rfl) (by rfl) m_sorted (by decide +kernel) (pa_cons (pv 4) pa_nil))) (blkOk_by (own := [("_law_time_here", 8)]) (N := NLaw) (sc := defScope sLaw) (by decide +kernel)) (fun _ _ _ _ _ => (pg_name (i := 8) scLaw.nd rfl (.inl rfl))) (fun _ _ _ _ _ => pts_nil) (fun _ _ _ _ _ => (pe_tup (pa_cons (pv 8) (pa_cons (pe_dget hu (pv 4) (pv 8) (fun _ _ => rfl)) pa_nil))))) pa_nil)))))))))))))), ?_⟩
    refine ⟨_, rfl, sa, ns, 0, rfl, hS, hlen, by decide, by decide, fun p0 H1 s1 np0 p1 => ?_⟩
    refine ⟨_, rfl, p0, 1000000, rfl, p1, by decide, fun wa ws H2 k2 p2 ndw okw ndws => ?_⟩
    refine fun g dg ng ndg neg => ?_
    obtain ⟨HG, eG⟩ : ∃ HG, upd (upd H2 dg (.own g)) g (.ins C dg []) = HG := ⟨_, rfl⟩
    have hG : HG g = some (.ins C dg []) := by
      rw [← eG]
      exact upd_same
    have sG : Same H2 HG := by
      rw [← eG]
      exact same_put ng (same_new ndg)
    have hw2 : SqT K H2 wa (ws.map V.int) := ndw.sq
    rw [eG]
    refine ⟨g, dg, wa, ws, rfl, hG, sqT_same sG hw2, okw, fun kd hd r H3 keep n1 n2 ne3 gi3 kn hh => ?_⟩
    refine ⟨rfl, ?_⟩
    have pg : p0 ≠ g := p2.ne ng |>.symm
    have kg : ∀ b o, b ≠ g → H2 b = some o → H3 b = some o := fun b o n h => keep b o n (sG _ _ h)
    have kt23 : KT H2 H3 := fun a u fx e => kg a u (fun z => by
      rw [z, ng] at e
      cases e) e
    have p3 : Pu H3 p0 (1000000 + 2) := by
      obtain ⟨a1, c1, k1, z1, z2⟩ := p2
      exact ⟨a1, c1, k1, kg _ _ pg z1, z2⟩
    refine ⟨_, rfl, p0, _, rfl, p3, by omega, fun b H4 k4 p4 hb => ?_⟩
    obtain ⟨rk, gr3, rkn⟩ := grp_made (K := K) (CF := CF) (sqT_kt kt23 hw2) n1 n2 ne3 kn hh
    obtain ⟨_, _, _, pp3, _⟩ := id p3
    have rkp : rk p0 = none := gr3.soft pp3 fun _ z => nomatch z
    have gr4 : GrG K CF H4 wa kd hd (Gs.new ws) rk := gr3.hk (fun b o h hh2 => k4 b o (fun z => by
      rw [z, pp3] at h
      cases h
      exact soft_lst hh2) h) fun b o h e => k4 b o (fun z => h (z ▸ rkp)) e
    have first : ∀ b o, H b = some o → H4 b = some o := fun b o h => by
      have h1 := s1 _ _ h
      have n1' : b ≠ p0 := ne_of_none h np0
      have h2 := k2 b o n1' h1
      exact k4 b o n1' (kg b o (ne_of_none h2 ng) h2)
    obtain ⟨dx, hg3⟩ := gi3
    have hg4 := k4 _ _ pg.symm hg3
    have one0 : OneP (Gs.new ws) [] 0 := OneP.new okw
    refine ⟨_, rfl, _, rfl, _, rfl, sa, g, wa, kd, hd, ns, b, Gs.new ws, rk, rfl, sqL_same first hS, hlen, hb, ⟨dx, hg4⟩, gr4, one0, tabs.ext first, fun H5 d S rk5 ps ews M => ?_⟩
    have gr5 := M.gr
    have one := M.one
    have ewsS : S.ws = ws := ews
    have keep5 : ∀ {b o}, H4 b = some o → (∀ kvs, o ≠ .dK kvs) → (∀ q, o ≠ .tbl q) → H5 b = some o := fun {b o} h n1 n2 => M.keep b o (gr4.soft h n1) n2 h
    obtain ⟨pa, pc, pk, pp4, pk0, pkn⟩ := id p4
    have pp5 := keep5 pp4 (by intro _ z; cases z) (by intro _ z; cases z)
    have hg5 := keep5 hg4 (by intro _ z; cases z) (by intro _ z; cases z)
    intro e ne
    obtain ⟨H6, e6⟩ : ∃ H6, upd H5 e (.dK []) = H6 := ⟨_, rfl⟩
    have s6 : Same H5 H6 := by
      rw [← e6]
      exact same_new ne
    have he6 : H6 e = some (.dK []) := by
      rw [← e6]
      exact upd_same
    have rke : rk5 e = none := Classical.byContradiction fun r2 => by
      obtain ⟨kvs, z⟩ := gr5.own e r2
      rw [ne] at z
      cases z
    refine nx_atS e6 ?_
    have gw6 := sqT_same s6 gr5.gw
    have hg6 := s6 _ _ hg5
    have nds := wok_nd one.okw
    have four := one.okw.le
    refine ⟨_, rfl, g, C, dx, _, .ref wa, rfl, hg6, T.cl, T.no _ (by decide), rfl, wa, rfl, ⟨_, gw6⟩, for_tup (K := K) (a := wa) (xs := S.ws.map V.int) (fun j σ Hc => ∃ z6 : Option V, σ = [some (.ref sa), some (.ref p0), some (.ref g), some (.int b), some (.ref d), some (.ref e), z6, none, none, none, none, none, none, none, none] ∧ Xc e H6 Hc ∧ EnD Hc e (S.ws.take j) fun _ => none) ⟨none, rfl, (fun _ _ _ z => z), DcK.nil.at_ he6⟩ (fun j σ Hc _ ⟨_, _, x, _⟩ => sqT_kt (fun a u fx h => x a u (fun z => by
      rw [z, he6] at h
      cases h
      exact nfix_dK fx) h) gw6) ?_ ?_⟩
    · rintro j v σ Hc hv ⟨z6, rfl, xc, de⟩
      rw [List.getElem?_map] at hv
      obtain ⟨w0, ew, rfl⟩ := Option.map_eq_some_iff.mp hv
      obtain ⟨kvs, he, dk⟩ := de.k
      have ea : addS (S.ws.take j) w0 = S.ws.take (j + 1) := by
        unfold addS
        rw [if_neg (not_take nds ew), take_snoc ew]
      refine ⟨_, rfl, _, rfl, e, _, rfl, DPut.k (k := .inl w0) he (small1000 (by rw [dk.len, List.length_take]; omega)), _, rfl, xc.trans Xc.put, ?_⟩
      rw [← ea]
      exact (dk.put (v := .non) rfl fun _ _ _ _ h => h).at_ upd_same
    · rintro σ H8 ⟨z6, rfl, xc, de⟩
      rw [List.length_map, List.take_length] at de
      have to8 : ∀ {a o}, H5 a = some o → H8 a = some o := fun {a o} h => xc a o (ne_of_none h ne) (s6 _ _ h)
      have gr8 : GrG K CF H8 wa kd hd S rk5 := gr5.hk (fun a o h _ => to8 h) fun a o _ h => to8 h
      have p8 : Pu H8 p0 (1000000 + 2 + 4) := ⟨pa, pc, pk, to8 pp5, pk0, pkn⟩
      have hg8 := to8 hg5
      have hd8 := to8 M.tab
      have tt : Tt ps 64 (10 ^ 15) (10 ^ 14) := one.tt
      have okp := tt.ok (by decide) (by decide)
      refine ⟨_, rfl, _, rfl, _, rfl, _, rfl, p0, g, wa, kd, hd, e, _, b, S, rk5, ps, rfl, p8, by decide, hb, ⟨dx, hg8⟩, gr8, one.okw, de, rke, fun x _ => one.hz x, one.rt, fun q1 x hx => ?_, fun x => Nat.le_trans (one.pls x) (by decide), fun S' hz H9 kp9 gr9 ln de9 p9 => ?_⟩
      · by_cases c : q1 = 3
        · subst c
          have := one.ls x hx
          omega
        · rw [one.oth q1 x c]
          exact Nat.zero_le _
      have soft8 : ∀ {a o}, H4 a = some o → (∀ kvs, o ≠ .dK kvs) → (∀ q, o ≠ .tbl q) → a ≠ p0 → H9 a = some o := fun {a o} h n1 n2 n3 => by
        have h5 := keep5 h n1 n2
        exact kp9 a o n3 (ne_of_none h5 ne) (gr5.soft h5 n1) (to8 h5)
      have hg9 := soft8 hg4 (by intro _ z; cases z) (by intro _ z; cases z) pg.symm
      have hd9 : H9 d = some (.dK (tbG V.int ps)) := kp9 d _ (fun z => by
        have h := M.tab
        rw [z, pp5] at h
        cases h) (ne_of_none M.tab ne) M.rd hd8
      have sc9 : SqL K H9 sa (ns.map V.int) := sqL_mv hS fun o ho h => soft8 (first _ _ h) (fun kvs z => by rcases ho with rfl | ⟨ob, rfl⟩ <;> cases z) (fun kvs z => by rcases ho with rfl | ⟨ob, rfl⟩ <;> cases z) (ne_of_none h np0)
      have gw9 : SqT K H9 wa (S.ws.map V.int) := by
        have z := gr9.gw
        rw [ln.ws] at z
        exact z
      refine ⟨_, rfl, g, C, dx, _, .ref wa, rfl, hg9, T.cl, T.no _ (by decide), rfl, _, rfl, _, rfl, d, _, _, rfl, .inl hd9, g_keys V.int ps, fun n1 l pm up nl => ?_⟩
      have lps := tt.len
      have lns : n1.length ≤ 900 := by
        rw [pm.length_eq, List.length_map]
        omega
      obtain ⟨H10, e10⟩ : ∃ H10, upd H9 l (.lst (n1.map V.int)) = H10 := ⟨_, rfl⟩
      have s10 : Same H9 H10 := by
        rw [← e10]
        exact same_new nl
      have hl10 : H10 l = some (.lst (n1.map V.int)) := by
        rw [← e10]
        exact upd_same
      rw [e10]
      have hd10 := s10 _ _ hd9
      refine ⟨l, rfl, ⟨_, SqL.of hl10⟩, fun D nD => lc_list (K := K) (a := l) (xs := n1.map V.int) (fun i Hc => SrI K H10 Hc D ps n1 i) SrI.nil (fun i Hc _ h => let ⟨_, _, _, _, kc⟩ := h.st; SqL.of (kc _ _ (ne_of_none hl10 nD) hl10)) ?_ ?_⟩
      · intro i v Hc hv h
        rw [List.getElem?_map] at hv
        obtain ⟨t, et, ev⟩ := Option.map_eq_some_iff.mp hv
        subst ev
        obtain ⟨q0, hx2, ex⟩ := List.mem_map.mp (pm.mem_iff.mp (List.mem_of_getElem? et))
        subst ex
        obtain ⟨_, _, _, _, kc⟩ := h.st
        have gd : DGet Hc d (kV (.inl q0.1)) (valV (tbG V.int ps) (.inl q0.1)) := DGet.k (kc _ _ (ne_of_none hd10 nD) hd10)
        rw [g_val hx2 tt.nd] at gd
        obtain ⟨xs, hx, sx, go⟩ := h.step hx2 et lns
        exact ⟨rfl, yes_b (if_t ⟨_, rfl, _, rfl, _, rfl, d, _, rfl, gd, (by show 2 ≤ sizeLine; decide), fun u nu => ⟨xs, same_new nu _ _ hx, sx, go u nu⟩⟩)⟩
      · intro H11 h
        rw [List.length_map] at h
        obtain ⟨qs, ld, srt, s11⟩ := h.done tt.nd pm up nD
        have tq := srt.tt tt
        have s9b := s10.trans s11
        obtain ⟨evs, he9, ek9⟩ := de9.k
        have pos : ∀ x, x ∈ S.ws → 0 < x := fun x hx => by
          obtain ⟨jx, hj⟩ := List.getElem?_of_mem hx
          have := (one.okw.pos jx x hj).1
          omega
        have lqs := tq.len
        refine ⟨wa, e, D, S.ws, hz, qs, rfl, sqT_same s9b gw9, one.okw, ek9.at_ (s9b _ _ he9), ld, srt.up, tq.ok (by decide) (by decide), by omega, fun p hp => by have := tq.tz p hp; omega, fun kl H12 s12 nkl ldk => ?_⟩
        rw [kfF_srt srt tt.nd nds pos] at ldk
        have s9c := s9b.trans s12
        obtain ⟨W, eW⟩ : ∃ W : Wl, W = ⟨sa, g, wa, kd, hd, d, e, kl, dx, ns, b, S, S', rk5, ps, hz⟩ := ⟨_, rfl⟩
        have L : Lw K C CF W H12 := by
          rw [eW]
          exact ⟨sqL_same s9c sc9, hlen, hb, s9c _ _ hg9, gr9.same s9c, one, ln, ek9.at_ (s9c _ _ he9), s9c _ _ hd9, ldk⟩
        obtain ⟨ms, em, lm⟩ : ∃ ms : List Int, cutV (ns.map V.int) none (some 19) = ms.map V.int ∧ ms.length ≤ 19 := by
          unfold cutV
          rw [show (19 : Int) = ((19 : Nat) : Int) from rfl, HT.sIx_none, HT.sIx_nat, ← List.map_drop, ← List.map_take]
          refine ⟨_, rfl, ?_⟩
          rw [List.length_take, List.length_map]
          omega
        refine ⟨_, rfl, 19, rfl, sa, _, rfl, sqL_same s9c sc9, fun l0 n0 => ?_⟩
        rw [em]
        have lms : (ms.map V.int).length = ms.length := List.length_map ..
        refine ⟨l0, _, rfl, .inl (SqL.of upd_same), _, _, rfl, 9, _, rfl, ⟨by decide, by decide, ?_, ?_⟩, ?_⟩
        · rw [lms]
          split <;> omega
        · rw [lms]
          split <;> omega
        obtain ⟨tn, et⟩ : ∃ tn : Nat, ((if ((ms.map V.int).length : Int) > 13 then ((ms.map V.int).length : Int) else 13) - 9).toNat = tn := ⟨_, rfl⟩
        have tn20 : tn ≤ 20 := by
          rw [lms] at et
          split at et <;> omega
        rw [et]
        have sl := same_new (o := .lst (ms.map V.int)) n0
        refine for_range (n := tn) (fun i σ Hc => LI K C CF W σ Hc) ⟨some (.ref p0), z6, none, none, none, none, none, none, none, by rw [eW] <;> rfl, L.same sl⟩ ?_ ?_
        · rintro i σ Hc hi ⟨z1, z6, z8, z9, z10, z11, z12, z13, z14, rfl, L⟩
          exact ⟨W, i, z1, z6, z8, z10, z11, z12, z13, z14, rfl, by omega, L, fun σ' H' h => h⟩
        · rintro σ Hc ⟨z1, z6, z8, z9, z10, z11, z12, z13, z14, rfl, L⟩
          have nd := wok_nd L.one.okw
          have ttW : Tt W.ps 64 (10 ^ 15) (10 ^ 14) := L.one.tt
          have okpW := ttW.ok (by decide) (by decide)
          have posW : ∀ x, x ∈ W.S0.ws → 0 < x := fun x hx => by
            obtain ⟨jx, hj⟩ := List.getElem?_of_mem hx
            have := (L.one.okw.pos jx x hj).1
            omega
          obtain ⟨ks, hkl, dkl⟩ := id L.kl
          have lks := dl_len dkl
          refine ⟨_, rfl, W.kl, rfl, ⟨_, SqL.of hkl⟩, for_list (K := K) (a := W.kl) (xs := ks) (fun j σ Hd => ∃ (z6 z13 z14 : Option V), σ = W.st z1 z6 z8 z9 z10 z11 z12 z13 z14 ∧ Same Hc Hd) ⟨z6, z13, z14, rfl, Same.refl _⟩ (fun j σ Hd _ ⟨_, _, _, _, sd⟩ => SqL.of (sd _ _ hkl)) ?_ ?_⟩
          · rintro j v σ Hd hv ⟨z6, z13, z14, rfl, sd⟩
            obtain ⟨⟨x, s0, F0⟩, er, dr⟩ := dl_at dkl hv
            obtain ⟨t, vf, rfl, ht, dvf⟩ := dp_k dr
            dsimp only at ht dvf
            have Ld := L.same sd
            obtain ⟨x2, hx2, hr2⟩ := List.mem_flatMap.mp (List.mem_of_getElem? er)
            obtain ⟨s2, hs2, e2⟩ := List.mem_map.mp hr2
            cases e2
            have x0 := posW x hx2
            obtain ⟨⟨p1, hp1, ep1⟩, hk2⟩ := ksF_mem.mp hs2
            have sm : s0 % x = 0 := by
              rw [← ep1]
              exact cell_mod p1.1 x
            have hxS : x ∈ W.S.ws := by
              rw [L.ln.ws]
              exact hx2
            rw [kept_gone x0 sm (L.ln.hzk x hx2)] at hk2
            have ng : W.S.gone x s0 = false := by
              cases g : W.S.gone x s0
              · rfl
              · rw [g] at hk2
                cases hk2
            have e3 : (W.S.cf 3 x s0).1 = cellF W.ps x s0 := rth_any L.ln.rt okpW (L.gr.out 3) x0 hxS sm ng
            refine ⟨t, _, rfl, sqT_same sd ht, rfl, _, _, rfl, _, _, rfl, _, _, rfl, rfl, ?_⟩
            refine ⟨_, rfl, W.g, W.dx, _, rfl, Ld.gi, rfl, _, rfl, _, rfl, W.g, W.wa, W.kd, W.hd, 3, x, s0, W.S, W.rk, false, rfl, Ld.gia, Ld.gr, hxS, x0, fun a H1 s1 fa => ?_⟩
            rw [show s0 - s0 % x = s0 from by rw [sm, Int.sub_zero], e3] at fa
            refine ⟨a, _, rfl, fa, fun u H2 s2 du => ?_⟩
            have fm := form_fd9 (cellF W.ps x s0)
            refine ⟨_, rfl, _, _, du, dp_same (sd.trans (s1.trans s2)) dvf, fm.shaped (by decide), fm.shaped (by decide), _, rfl, ?_⟩
            rw [fm.own]
            exact if_f ⟨_, _, _, rfl, sd.trans (s1.trans s2)⟩
          · rintro σ Hd ⟨z6, z13, z14, rfl, sd⟩
            have Ld := L.same sd
            refine ⟨_, rfl, W.g, W.dx, _, rfl, Ld.gi, rfl, _, rfl, W.d, _, _, rfl, .inl Ld.tab, g_keys V.int W.ps, fun n1 l pm up nl => ?_⟩
            have lps := ttW.len
            have lns : n1.length ≤ 900 := by
              rw [pm.length_eq, List.length_map]
              omega
            obtain ⟨H10, e10⟩ : ∃ H10, upd Hd l (.lst (n1.map V.int)) = H10 := ⟨_, rfl⟩
            have s10 : Same Hd H10 := by
              rw [← e10]
              exact same_new nl
            have hl10 : H10 l = some (.lst (n1.map V.int)) := by
              rw [← e10]
              exact upd_same
            rw [e10]
            have hd10 := s10 _ _ Ld.tab
            refine ⟨l, rfl, ⟨_, SqL.of hl10⟩, fun D nD => lc_list (K := K) (a := l) (xs := n1.map V.int) (fun i Hc => SrI K H10 Hc D W.ps n1 i) SrI.nil (fun i Hc _ h => let ⟨_, _, _, _, kc⟩ := h.st; SqL.of (kc _ _ (ne_of_none hl10 nD) hl10)) ?_ ?_⟩
            · intro i v Hc hv h
              rw [List.getElem?_map] at hv
              obtain ⟨t, et, ev⟩ := Option.map_eq_some_iff.mp hv
              subst ev
              obtain ⟨q0, hx2, ex⟩ := List.mem_map.mp (pm.mem_iff.mp (List.mem_of_getElem? et))
              subst ex
              obtain ⟨_, _, _, _, kc⟩ := h.st
              have gd : DGet Hc W.d (kV (.inl q0.1)) (valV (tbG V.int W.ps) (.inl q0.1)) := DGet.k (kc _ _ (ne_of_none hd10 nD) hd10)
              rw [g_val hx2 ttW.nd] at gd
              obtain ⟨xs, hx, sx, go⟩ := h.step hx2 et lns
              exact ⟨rfl, yes_b (if_t ⟨_, rfl, _, rfl, _, rfl, W.d, _, rfl, gd, (by show 2 ≤ sizeLine; decide), fun u nu => ⟨xs, same_new nu _ _ hx, sx, go u nu⟩⟩)⟩
            · intro H11 h
              rw [List.length_map] at h
              obtain ⟨qs, ld, srt, s11⟩ := h.done ttW.nd pm up nD
              have tq := srt.tt ttW
              have L11 := Ld.same (s10.trans s11)
              have lq := tq.len
              refine ⟨W.g, W.wa, W.kd, W.hd, D, 3, W.S, W.rk, qs, false, rfl, L11.gia, L11.gr, by rw [L.ln.ws]; exact L.one.okw, ld, srt.up, tq.ok (by decide) (by decide), by omega, fun x hx => ?_, fun bb H12 s12 hbb => ?_⟩
              · rw [L.ln.ws] at hx
                have h1 := L.ln.len 3 x
                have h2 := L.one.ls x hx
                omega
              · obtain rfl : bb = true := hbb.mpr ((right_iff (qs := qs) L.one L.ln okpW).mpr (kfF_srt srt ttW.nd nd posW))
                exact q H12
end
end Tg

namespace Tg
open PySem PySem.Spec PyProof.Rows L2 LamX
theorem gd_at {vs : Array Value} {i : Nat} {v : Value} (h : vs[i]? = some v) : vs.getD i .none = v := by
  rw [Array.getD_eq_getD_getElem?, h]
  rfl
section
variable {K : PySem.W.Frag} {f : Addr} {fd : FuncData}
theorem kn_rn (F : Fun K "renew" "Grains.renew" sRn f fd) : KBn K fd ["self", "place", "times", "points_in", "number"] 4 ["number"] (fun us ws => us ++ ws) (fun vs zs => vs ++ zs) := by
  obtain ⟨_, _, kV, doc, pm, an, cdv, ct, _, rfl, _, _⟩ := F.ex
  exact ⟨fun s us ws _ h0 h2 => match us, ws, h0, h2 with | [_, _, _, _], [_], _, _ => .of_eq rfl, fun r1 r2 => r1.append r2⟩
theorem kn_ri (F : Fun K "right" "Grains.right" sRi f fd) : KBn K fd ["self", "place", "points"] 1 ["points", "place"] (fun us ws => us ++ prm [1, 0] ws) (fun vs zs => vs ++ prm [1, 0] zs) := by
  obtain ⟨_, _, kV, doc, pm, an, cdv, ct, _, rfl, _, _⟩ := F.ex
  exact ⟨fun s us ws _ h0 h2 => match us, ws, h0, h2 with | [_], [_, _], _, _ => .of_eq rfl, fun r1 r => r1.append (prm_rel r _)⟩
end
/-! ### what the top has written; the law's own head -/
set_option maxHeartbeats 0 in
theorem all_mk {l : PySem.W.OpenLaw} {w : World} {K : PySem.W.Frag} {h : Heap} {mg : Str → Option Value} {fa C1 C2 f1 f2 f3 f4 f5 f6 f7 f8 f9 f10 f11 f12 f13 f14 f15 f16 f17 f18 f19 f20 f21 f22 f23 f24 f25 f26 f27 f28 f29 f30 f31 f32 f33 f34 f35 f36 f37 f38 f39 f40 f41 f42 f43 f44 f45 f46 f47 f48 f49 : Addr} {KD NF : Addr} {nmF qF : Str} {bsF subF : List Value} {hdF abF : Bool} {snF : List Str} {colF : Option Bool} {ddF : Option Addr} {v0F v1F v2F v3F v5F : Option Value} {idF : String} {cN : Value} {dN : Option Addr} {esN : Array DictEntry} {epN : Nat} {slN : Array (Option Value)} {tk_count : Tok} {tk_total : Tok} {tk_squares : Tok} {tk_rise : Tok} {tk_held : Tok} {zMW : Tok} {cc45 PT45 : Addr} {vv45 : Array Value} {dd45 : Option Addr} {sl_45 : Array (Option Value)} {fi45 : Str} {tf45 tg45 tx45 : Tok} {fl45 te45 : Int} {inF45 : Bool} (X : K.In h) (G : h.Ns mainGlobals mg) (hfa : mg "law" = some (.ref fa))
    {od1 an1 od2 an2 od3 an3 od4 an4 od5 an5 od6 an6 od7 an7 od8 an8 od9 an9 od10 an10 od11 an11 od12 an12 od13 an13 od14 an14 od15 an15 od16 an16 od17 an17 od18 an18 od19 an19 od20 an20 od21 an21 od22 an22 od23 an23 od24 an24 od25 an25 od26 an26 od27 an27 od28 an28 od29 an29 od30 an30 od31 an31 od32 an32 od33 an33 od34 an34 od35 an35 od36 an36 od37 an37 od38 an38 od39 an39 od40 an40 od41 an41 od42 an42 od43 an43 od44 an44 od45 an45 od46 an46 od47 an47 od48 an48 od49 an49 : Option Addr} {sl1 sl2 sl3 sl4 sl5 sl6 sl7 sl8 sl9 sl10 sl11 sl12 sl13 sl14 sl15 sl16 sl17 sl18 sl19 sl20 sl21 sl22 sl23 sl24 sl25 sl26 sl27 sl28 sl29 sl30 sl31 sl32 sl33 sl34 sl35 sl36 sl37 sl38 sl39 sl40 sl41 sl42 sl43 sl44 sl45 sl46 sl47 sl48 sl49 : Array (Option Value)} {oc1 dc1 pm1 cd1 ct1 oc2 kV2 dc2 pm2 cd2 ct2 oc3 kV3 dc3 pm3 cd3 ct3 oc4 kV4 dc4 pm4 cd4 ct4 oc5 kV5 dc5 pm5 cd5 ct5 oc6 kV6 dc6 pm6 cd6 ct6 oc7 kV7 dc7 pm7 cd7 ct7 oc8 kV8 dc8 pm8 cd8 ct8 oc9 kV9 dc9 pm9 cd9 ct9 oc10 kV10 dc10 pm10 cd10 ct10 oc11 kV11 dc11 pm11 cd11 ct11 oc12 kV12 dc12 pm12 cd12 ct12 oc13 kV13 dc13 pm13 cd13 ct13 oc14 kV14 dc14 pm14 cd14 ct14 oc15 kV15 dc15 pm15 cd15 ct15 oc16 kV16 dc16 pm16 cd16 ct16 oc17 kV17 dc17 pm17 cd17 ct17 oc18 kV18 dc18 pm18 cd18 ct18 oc19 kV19 dc19 pm19 cd19 ct19 oc20 kV20 dc20 pm20 cd20 ct20 oc21 kV21 dc21 pm21 cd21 ct21 oc22 kV22 dc22 pm22 cd22 ct22 oc23 kV23 dc23 pm23 cd23 ct23 oc24 kV24 dc24 pm24 cd24 ct24 oc25 kV25 dc25 pm25 cd25 ct25 oc26 kV26 dc26 pm26 cd26 ct26 oc27 kV27 dc27 pm27 cd27 ct27 oc28 kV28 dc28 pm28 cd28 ct28 oc29 kV29 dc29 pm29 cd29 ct29 oc30 kV30 dc30 pm30 cd30 ct30 oc31 kV31 dc31 pm31 cd31 ct31 oc32 kV32 dc32 pm32 cd32 ct32 oc33 kV33 dc33 pm33 cd33 ct33 oc34 kV34 dc34 pm34 cd34 ct34 oc35 kV35 dc35 pm35 cd35 ct35 oc36 kV36 dc36 pm36 cd36 ct36 oc37 kV37 dc37 pm37 cd37 ct37 oc38 kV38 dc38 pm38 cd38 ct38 oc39 kV39 dc39 pm39 cd39 ct39 oc40 kV40 dc40 pm40 cd40 ct40 oc41 kV41 dc41 pm41 cd41 ct41 oc42 kV42 dc42 pm42 cd42 ct42 oc43 kV43 dc43 pm43 cd43 ct43 oc44 kV44 dc44 pm44 cd44 ct44 oc45 kV45 dc45 pm45 ct45 oc46 kV46 dc46 pm46 cd46 ct46 oc47 kV47 dc47 pm47 cd47 ct47 oc48 kV48 dc48 pm48 cd48 ct48 oc49 kV49 dc49 pm49 cd49 ct49 : Value}
    (aC1 : PySem.W.nsIn K mainGlobals "Fold" = some (some (.ref C1)))
    (pgC1 : PySem.W.plainGet K C1 Str.empty = true)
    (hdC1 : PySem.W.hasDictIn K C1 = true)
    (poC1 : PySem.W.plainOver K C1 = true)
    (saC1 : PySem.W.findIn K (.ref C1) "__setattr__" = some (some (.builtin "object.__setattr__")))
    (mkC1 : PySem.W.makesIn K C1 = true)
    (kcC1 : PySem.W.keepIn K (.ref C1) = true)
    (noC1_count : PySem.W.findIn K (.ref C1) "count" = some none)
    (noC1_total : PySem.W.findIn K (.ref C1) "total" = some none)
    (noC1_squares : PySem.W.findIn K (.ref C1) "squares" = some none)
    (noC1_least : PySem.W.findIn K (.ref C1) "least" = some none)
    (noC1_greatest : PySem.W.findIn K (.ref C1) "greatest" = some none)
    (noC1_first : PySem.W.findIn K (.ref C1) "first" = some none)
    (noC1_last : PySem.W.findIn K (.ref C1) "last" = some none)
    (noC1_rise : PySem.W.findIn K (.ref C1) "rise" = some none)
    (noC1_held : PySem.W.findIn K (.ref C1) "held" = some none)
    (aC2 : PySem.W.nsIn K mainGlobals "Grains" = some (some (.ref C2)))
    (pgC2 : PySem.W.plainGet K C2 Str.empty = true)
    (hdC2 : PySem.W.hasDictIn K C2 = true)
    (poC2 : PySem.W.plainOver K C2 = true)
    (saC2 : PySem.W.findIn K (.ref C2) "__setattr__" = some (some (.builtin "object.__setattr__")))
    (mkC2 : PySem.W.makesIn K C2 = true)
    (kcC2 : PySem.W.keepIn K (.ref C2) = true)
    (noC2_widths : PySem.W.findIn K (.ref C2) "widths" = some none)
    (noC2_busy : PySem.W.findIn K (.ref C2) "busy" = some none)
    (noC2_kept : PySem.W.findIn K (.ref C2) "kept" = some none)
    (noC2_horizons : PySem.W.findIn K (.ref C2) "horizons" = some none)
    (a1 : PySem.W.findIn K (.ref C1) "__init__" = some (some (.ref f1)))
    (i1 : PySem.W.isFn K (.ref f1) = true)
    (l1 : K.lookup f1 = some ⟨oc1, od1, .func (PySem.W.fnOf "__init__" "Fold.__init__" (defArgs sFI) (defBody sFI) (defScope sFI) .none (.ref KD) dc1 pm1 an1 cd1 ct1), sl1⟩)
    (d_count : PySem.W.nsIn K KD "count" = some (some (.int 0 tk_count)))
    (d_total : PySem.W.nsIn K KD "total" = some (some (.int 0 tk_total)))
    (d_squares : PySem.W.nsIn K KD "squares" = some (some (.int 0 tk_squares)))
    (d_least : PySem.W.nsIn K KD "least" = some (some (.none)))
    (d_greatest : PySem.W.nsIn K KD "greatest" = some (some (.none)))
    (d_first : PySem.W.nsIn K KD "first" = some (some (.none)))
    (d_last : PySem.W.nsIn K KD "last" = some (some (.none)))
    (d_rise : PySem.W.nsIn K KD "rise" = some (some (.int 0 tk_rise)))
    (d_held : PySem.W.nsIn K KD "held" = some (some (.int 0 tk_held)))
    (c1 : PySem.W.codeIn K cd1 "Fold.__init__" = true)
    (k1 : PySem.W.keepIn K (.ref f1) = true)
    (a2 : PySem.W.findIn K (.ref C1) "__eq__" = some (some (.ref f2)))
    (i2 : PySem.W.isFn K (.ref f2) = true)
    (l2 : K.lookup f2 = some ⟨oc2, od2, .func (PySem.W.fnOf "__eq__" "Fold.__eq__" (defArgs sEq) (defBody sEq) (defScope sEq) .none kV2 dc2 pm2 an2 cd2 ct2), sl2⟩)
    (c2 : PySem.W.codeIn K cd2 "Fold.__eq__" = true)
    (k2 : PySem.W.keepIn K (.ref f2) = true)
    (a3 : PySem.W.findIn K (.ref C2) "__init__" = some (some (.ref f3)))
    (i3 : PySem.W.isFn K (.ref f3) = true)
    (l3 : K.lookup f3 = some ⟨oc3, od3, .func (PySem.W.fnOf "__init__" "Grains.__init__" (defArgs sGI) (defBody sGI) (defScope sGI) .none kV3 dc3 pm3 an3 cd3 ct3), sl3⟩)
    (c3 : PySem.W.codeIn K cd3 "Grains.__init__" = true)
    (k3 : PySem.W.keepIn K (.ref f3) = true)
    (a4 : PySem.W.findIn K (.ref C2) "renew" = some (some (.ref f4)))
    (i4 : PySem.W.isFn K (.ref f4) = true)
    (l4 : K.lookup f4 = some ⟨oc4, od4, .func (PySem.W.fnOf "renew" "Grains.renew" (defArgs sRn) (defBody sRn) (defScope sRn) .none kV4 dc4 pm4 an4 cd4 ct4), sl4⟩)
    (c4 : PySem.W.codeIn K cd4 "Grains.renew" = true)
    (k4 : PySem.W.keepIn K (.ref f4) = true)
    (a5 : PySem.W.findIn K (.ref C2) "fold_at" = some (some (.ref f5)))
    (i5 : PySem.W.isFn K (.ref f5) = true)
    (l5 : K.lookup f5 = some ⟨oc5, od5, .func (PySem.W.fnOf "fold_at" "Grains.fold_at" (defArgs sFA) (defBody sFA) (defScope sFA) .none kV5 dc5 pm5 an5 cd5 ct5), sl5⟩)
    (c5 : PySem.W.codeIn K cd5 "Grains.fold_at" = true)
    (k5 : PySem.W.keepIn K (.ref f5) = true)
    (a6 : PySem.W.findIn K (.ref C2) "let_go" = some (some (.ref f6)))
    (i6 : PySem.W.isFn K (.ref f6) = true)
    (l6 : K.lookup f6 = some ⟨oc6, od6, .func (PySem.W.fnOf "let_go" "Grains.let_go" (defArgs sLG) (defBody sLG) (defScope sLG) .none kV6 dc6 pm6 an6 cd6 ct6), sl6⟩)
    (c6 : PySem.W.codeIn K cd6 "Grains.let_go" = true)
    (k6 : PySem.W.keepIn K (.ref f6) = true)
    (a7 : PySem.W.findIn K (.ref C2) "right" = some (some (.ref f7)))
    (i7 : PySem.W.isFn K (.ref f7) = true)
    (l7 : K.lookup f7 = some ⟨oc7, od7, .func (PySem.W.fnOf "right" "Grains.right" (defArgs sRi) (defBody sRi) (defScope sRi) .none kV7 dc7 pm7 an7 cd7 ct7), sl7⟩)
    (c7 : PySem.W.codeIn K cd7 "Grains.right" = true)
    (k7 : PySem.W.keepIn K (.ref f7) = true)
    (a8 : PySem.W.findIn K (.ref C2) "check_idle" = some (some (.ref f8)))
    (i8 : PySem.W.isFn K (.ref f8) = true)
    (l8 : K.lookup f8 = some ⟨oc8, od8, .func (PySem.W.fnOf "check_idle" "Grains.check_idle" (defArgs sCIx) (defBody sCIx) (defScope sCIx) .none kV8 dc8 pm8 an8 cd8 ct8), sl8⟩)
    (c8 : PySem.W.codeIn K cd8 "Grains.check_idle" = true)
    (k8 : PySem.W.keepIn K (.ref f8) = true)
    (a9 : PySem.W.findIn K (.ref C2) "is_gone" = some (some (.ref f9)))
    (i9 : PySem.W.isFn K (.ref f9) = true)
    (l9 : K.lookup f9 = some ⟨oc9, od9, .func (PySem.W.fnOf "is_gone" "Grains.is_gone" (defArgs sIG) (defBody sIG) (defScope sIG) .none kV9 dc9 pm9 an9 cd9 ct9), sl9⟩)
    (c9 : PySem.W.codeIn K cd9 "Grains.is_gone" = true)
    (k9 : PySem.W.keepIn K (.ref f9) = true)
    (a10 : PySem.W.findIn K (.ref C2) "cell_at" = some (some (.ref f10)))
    (i10 : PySem.W.isFn K (.ref f10) = true)
    (l10 : K.lookup f10 = some ⟨oc10, od10, .func (PySem.W.fnOf "cell_at" "Grains.cell_at" (defArgs sCA) (defBody sCA) (defScope sCA) .none kV10 dc10 pm10 an10 cd10 ct10), sl10⟩)
    (c10 : PySem.W.codeIn K cd10 "Grains.cell_at" = true)
    (k10 : PySem.W.keepIn K (.ref f10) = true)
    (a11 : PySem.W.findIn K (.ref C2) "kept_cells" = some (some (.ref f11)))
    (i11 : PySem.W.isFn K (.ref f11) = true)
    (l11 : K.lookup f11 = some ⟨oc11, od11, .func (PySem.W.fnOf "kept_cells" "Grains.kept_cells" (defArgs sKC) (defBody sKC) (defScope sKC) .none kV11 dc11 pm11 an11 cd11 ct11), sl11⟩)
    (c11 : PySem.W.codeIn K cd11 "Grains.kept_cells" = true)
    (k11 : PySem.W.keepIn K (.ref f11) = true)
    (a12 : PySem.W.findIn K (.ref C2) "full_folds" = some (some (.ref f12)))
    (i12 : PySem.W.isFn K (.ref f12) = true)
    (l12 : K.lookup f12 = some ⟨oc12, od12, .func (PySem.W.fnOf "full_folds" "Grains.full_folds" (defArgs sFF) (defBody sFF) (defScope sFF) .none kV12 dc12 pm12 an12 cd12 ct12), sl12⟩)
    (c12 : PySem.W.codeIn K cd12 "Grains.full_folds" = true)
    (k12 : PySem.W.keepIn K (.ref f12) = true)
    (a13 : PySem.W.findIn K (.ref C2) "cells_with" = some (some (.ref f13)))
    (i13 : PySem.W.isFn K (.ref f13) = true)
    (l13 : K.lookup f13 = some ⟨oc13, od13, .func (PySem.W.fnOf "cells_with" "Grains.cells_with" (defArgs sCW) (defBody sCW) (defScope sCW) .none kV13 dc13 pm13 an13 cd13 ct13), sl13⟩)
    (c13 : PySem.W.codeIn K cd13 "Grains.cells_with" = true)
    (k13 : PySem.W.keepIn K (.ref f13) = true)
    (a14 : PySem.W.findIn K (.ref C2) "asked_anew" = some (some (.ref f14)))
    (i14 : PySem.W.isFn K (.ref f14) = true)
    (l14 : K.lookup f14 = some ⟨oc14, od14, .func (PySem.W.fnOf "asked_anew" "Grains.asked_anew" (defArgs sAA) (defBody sAA) (defScope sAA) .none kV14 dc14 pm14 an14 cd14 ct14), sl14⟩)
    (c14 : PySem.W.codeIn K cd14 "Grains.asked_anew" = true)
    (k14 : PySem.W.keepIn K (.ref f14) = true)
    (a15 : PySem.W.findIn K (.ref C2) "joined_anew" = some (some (.ref f15)))
    (i15 : PySem.W.isFn K (.ref f15) = true)
    (l15 : K.lookup f15 = some ⟨oc15, od15, .func (PySem.W.fnOf "joined_anew" "Grains.joined_anew" (defArgs sJA) (defBody sJA) (defScope sJA) .none kV15 dc15 pm15 an15 cd15 ct15), sl15⟩)
    (c15 : PySem.W.codeIn K cd15 "Grains.joined_anew" = true)
    (k15 : PySem.W.keepIn K (.ref f15) = true)
    (a16 : PySem.W.findIn K (.ref C2) "settled" = some (some (.ref f16)))
    (i16 : PySem.W.isFn K (.ref f16) = true)
    (l16 : K.lookup f16 = some ⟨oc16, od16, .func (PySem.W.fnOf "settled" "Grains.settled" (defArgs sSt) (defBody sSt) (defScope sSt) .none kV16 dc16 pm16 an16 cd16 ct16), sl16⟩)
    (c16 : PySem.W.codeIn K cd16 "Grains.settled" = true)
    (k16 : PySem.W.keepIn K (.ref f16) = true)
    (a17 : PySem.W.nsIn K mainGlobals "is_whole" = some (some (.ref f17)))
    (l17 : K.lookup f17 = some ⟨oc17, od17, .func (PySem.W.fnOf "is_whole" "is_whole" (defArgs sWhole) (defBody sWhole) (defScope sWhole) .none kV17 dc17 pm17 an17 cd17 ct17), sl17⟩)
    (c17 : PySem.W.codeIn K cd17 "is_whole" = true)
    (k17 : PySem.W.keepIn K (.ref f17) = true)
    (a18 : PySem.W.nsIn K mainGlobals "risen" = some (some (.ref f18)))
    (l18 : K.lookup f18 = some ⟨oc18, od18, .func (PySem.W.fnOf "risen" "risen" (defArgs sRisen) (defBody sRisen) (defScope sRisen) .none kV18 dc18 pm18 an18 cd18 ct18), sl18⟩)
    (c18 : PySem.W.codeIn K cd18 "risen" = true)
    (k18 : PySem.W.keepIn K (.ref f18) = true)
    (a19 : PySem.W.nsIn K mainGlobals "held_between" = some (some (.ref f19)))
    (l19 : K.lookup f19 = some ⟨oc19, od19, .func (PySem.W.fnOf "held_between" "held_between" (defArgs sHB) (defBody sHB) (defScope sHB) .none kV19 dc19 pm19 an19 cd19 ct19), sl19⟩)
    (c19 : PySem.W.codeIn K cd19 "held_between" = true)
    (k19 : PySem.W.keepIn K (.ref f19) = true)
    (a20 : PySem.W.nsIn K mainGlobals "check_rising" = some (some (.ref f20)))
    (l20 : K.lookup f20 = some ⟨oc20, od20, .func (PySem.W.fnOf "check_rising" "check_rising" (defArgs sCkR) (defBody sCkR) (defScope sCkR) .none kV20 dc20 pm20 an20 cd20 ct20), sl20⟩)
    (c20 : PySem.W.codeIn K cd20 "check_rising" = true)
    (k20 : PySem.W.keepIn K (.ref f20) = true)
    (a21 : PySem.W.nsIn K mainGlobals "fold_of" = some (some (.ref f21)))
    (l21 : K.lookup f21 = some ⟨oc21, od21, .func (PySem.W.fnOf "fold_of" "fold_of" (defArgs sFO) (defBody sFO) (defScope sFO) .none kV21 dc21 pm21 an21 cd21 ct21), sl21⟩)
    (c21 : PySem.W.codeIn K cd21 "fold_of" = true)
    (k21 : PySem.W.keepIn K (.ref f21) = true)
    (a22 : PySem.W.nsIn K mainGlobals "together" = some (some (.ref f22)))
    (l22 : K.lookup f22 = some ⟨oc22, od22, .func (PySem.W.fnOf "together" "together" (defArgs sTg) (defBody sTg) (defScope sTg) .none kV22 dc22 pm22 an22 cd22 ct22), sl22⟩)
    (c22 : PySem.W.codeIn K cd22 "together" = true)
    (k22 : PySem.W.keepIn K (.ref f22) = true)
    (a23 : PySem.W.nsIn K mainGlobals "cell_of" = some (some (.ref f23)))
    (l23 : K.lookup f23 = some ⟨oc23, od23, .func (PySem.W.fnOf "cell_of" "cell_of" (defArgs sCellOf) (defBody sCellOf) (defScope sCellOf) .none kV23 dc23 pm23 an23 cd23 ct23), sl23⟩)
    (c23 : PySem.W.codeIn K cd23 "cell_of" = true)
    (k23 : PySem.W.keepIn K (.ref f23) = true)
    (a24 : PySem.W.nsIn K mainGlobals "check_widths" = some (some (.ref f24)))
    (l24 : K.lookup f24 = some ⟨oc24, od24, .func (PySem.W.fnOf "check_widths" "check_widths" (defArgs sCkW) (defBody sCkW) (defScope sCkW) .none kV24 dc24 pm24 an24 cd24 ct24), sl24⟩)
    (c24 : PySem.W.codeIn K cd24 "check_widths" = true)
    (k24 : PySem.W.keepIn K (.ref f24) = true)
    (a25 : PySem.W.nsIn K mainGlobals "check_width" = some (some (.ref f25)))
    (l25 : K.lookup f25 = some ⟨oc25, od25, .func (PySem.W.fnOf "check_width" "check_width" (defArgs sCkw) (defBody sCkw) (defScope sCkw) .none kV25 dc25 pm25 an25 cd25 ct25), sl25⟩)
    (c25 : PySem.W.codeIn K cd25 "check_width" = true)
    (k25 : PySem.W.keepIn K (.ref f25) = true)
    (a26 : PySem.W.nsIn K mainGlobals "folds_by_cell" = some (some (.ref f26)))
    (l26 : K.lookup f26 = some ⟨oc26, od26, .func (PySem.W.fnOf "folds_by_cell" "folds_by_cell" (defArgs sBC) (defBody sBC) (defScope sBC) .none kV26 dc26 pm26 an26 cd26 ct26), sl26⟩)
    (c26 : PySem.W.codeIn K cd26 "folds_by_cell" = true)
    (k26 : PySem.W.keepIn K (.ref f26) = true)
    (a27 : PySem.W.nsIn K mainGlobals "joined_folds" = some (some (.ref f27)))
    (l27 : K.lookup f27 = some ⟨oc27, od27, .func (PySem.W.fnOf "joined_folds" "joined_folds" (defArgs sJF) (defBody sJF) (defScope sJF) .none kV27 dc27 pm27 an27 cd27 ct27), sl27⟩)
    (c27 : PySem.W.codeIn K cd27 "joined_folds" = true)
    (k27 : PySem.W.keepIn K (.ref f27) = true)
    (a28 : PySem.W.nsIn K mainGlobals "drop_cells" = some (some (.ref f28)))
    (l28 : K.lookup f28 = some ⟨oc28, od28, .func (PySem.W.fnOf "drop_cells" "drop_cells" (defArgs sDr) (defBody sDr) (defScope sDr) .none kV28 dc28 pm28 an28 cd28 ct28), sl28⟩)
    (c28 : PySem.W.codeIn K cd28 "drop_cells" = true)
    (k28 : PySem.W.keepIn K (.ref f28) = true)
    (a29 : PySem.W.nsIn K mainGlobals "_law_mixed" = some (some (.ref f29)))
    (l29 : K.lookup f29 = some ⟨oc29, od29, .func (PySem.W.fnOf "_law_mixed" "_law_mixed" (defArgs sMixed) (defBody sMixed) (defScope sMixed) .none kV29 dc29 pm29 an29 cd29 ct29), sl29⟩)
    (c29 : PySem.W.codeIn K cd29 "_law_mixed" = true)
    (k29 : PySem.W.keepIn K (.ref f29) = true)
    (a30 : PySem.W.nsIn K mainGlobals "_law_purse" = some (some (.ref f30)))
    (l30 : K.lookup f30 = some ⟨oc30, od30, .func (PySem.W.fnOf "_law_purse" "_law_purse" (defArgs sPurse) (defBody sPurse) (defScope sPurse) .none kV30 dc30 pm30 an30 cd30 ct30), sl30⟩)
    (c30 : PySem.W.codeIn K cd30 "_law_purse" = true)
    (k30 : PySem.W.keepIn K (.ref f30) = true)
    (a31 : PySem.W.nsIn K mainGlobals "_law_draw" = some (some (.ref f31)))
    (l31 : K.lookup f31 = some ⟨oc31, od31, .func (PySem.W.fnOf "_law_draw" "_law_draw" (defArgs sDraw) (defBody sDraw) (defScope sDraw) .none kV31 dc31 pm31 an31 cd31 ct31), sl31⟩)
    (c31 : PySem.W.codeIn K cd31 "_law_draw" = true)
    (k31 : PySem.W.keepIn K (.ref f31) = true)
    (a32 : PySem.W.nsIn K mainGlobals "_law_fold" = some (some (.ref f32)))
    (l32 : K.lookup f32 = some ⟨oc32, od32, .func (PySem.W.fnOf "_law_fold" "_law_fold" (defArgs sLf) (defBody sLf) (defScope sLf) .none kV32 dc32 pm32 an32 cd32 ct32), sl32⟩)
    (c32 : PySem.W.codeIn K cd32 "_law_fold" = true)
    (k32 : PySem.W.keepIn K (.ref f32) = true)
    (a33 : PySem.W.nsIn K mainGlobals "_law_read" = some (some (.ref f33)))
    (l33 : K.lookup f33 = some ⟨oc33, od33, .func (PySem.W.fnOf "_law_read" "_law_read" (defArgs sLr) (defBody sLr) (defScope sLr) .none kV33 dc33 pm33 an33 cd33 ct33), sl33⟩)
    (c33 : PySem.W.codeIn K cd33 "_law_read" = true)
    (k33 : PySem.W.keepIn K (.ref f33) = true)
    (a34 : PySem.W.nsIn K mainGlobals "_law_points" = some (some (.ref f34)))
    (l34 : K.lookup f34 = some ⟨oc34, od34, .func (PySem.W.fnOf "_law_points" "_law_points" (defArgs sPs) (defBody sPs) (defScope sPs) .none kV34 dc34 pm34 an34 cd34 ct34), sl34⟩)
    (c34 : PySem.W.codeIn K cd34 "_law_points" = true)
    (k34 : PySem.W.keepIn K (.ref f34) = true)
    (a35 : PySem.W.nsIn K mainGlobals "_law_widths" = some (some (.ref f35)))
    (l35 : K.lookup f35 = some ⟨oc35, od35, .func (PySem.W.fnOf "_law_widths" "_law_widths" (defArgs sWidths) (defBody sWidths) (defScope sWidths) .none kV35 dc35 pm35 an35 cd35 ct35), sl35⟩)
    (c35 : PySem.W.codeIn K cd35 "_law_widths" = true)
    (k35 : PySem.W.keepIn K (.ref f35) = true)
    (a36 : PySem.W.nsIn K mainGlobals "_law_base" = some (some (.ref f36)))
    (l36 : K.lookup f36 = some ⟨oc36, od36, .func (PySem.W.fnOf "_law_base" "_law_base" (defArgs sBase) (defBody sBase) (defScope sBase) .none kV36 dc36 pm36 an36 cd36 ct36), sl36⟩)
    (c36 : PySem.W.codeIn K cd36 "_law_base" = true)
    (k36 : PySem.W.keepIn K (.ref f36) = true)
    (a37 : PySem.W.nsIn K mainGlobals "_law_time" = some (some (.ref f37)))
    (l37 : K.lookup f37 = some ⟨oc37, od37, .func (PySem.W.fnOf "_law_time" "_law_time" (defArgs sTi) (defBody sTi) (defScope sTi) .none kV37 dc37 pm37 an37 cd37 ct37), sl37⟩)
    (c37 : PySem.W.codeIn K cd37 "_law_time" = true)
    (k37 : PySem.W.keepIn K (.ref f37) = true)
    (a38 : PySem.W.nsIn K mainGlobals "_law_worth" = some (some (.ref f38)))
    (l38 : K.lookup f38 = some ⟨oc38, od38, .func (PySem.W.fnOf "_law_worth" "_law_worth" (defArgs sWo) (defBody sWo) (defScope sWo) .none kV38 dc38 pm38 an38 cd38 ct38), sl38⟩)
    (c38 : PySem.W.codeIn K cd38 "_law_worth" = true)
    (k38 : PySem.W.keepIn K (.ref f38) = true)
    (a39 : PySem.W.nsIn K mainGlobals "_law_news" = some (some (.ref f39)))
    (l39 : K.lookup f39 = some ⟨oc39, od39, .func (PySem.W.fnOf "_law_news" "_law_news" (defArgs sNe) (defBody sNe) (defScope sNe) .none kV39 dc39 pm39 an39 cd39 ct39), sl39⟩)
    (c39 : PySem.W.codeIn K cd39 "_law_news" = true)
    (k39 : PySem.W.keepIn K (.ref f39) = true)
    (a40 : PySem.W.nsIn K mainGlobals "_law_changed" = some (some (.ref f40)))
    (l40 : K.lookup f40 = some ⟨oc40, od40, .func (PySem.W.fnOf "_law_changed" "_law_changed" (defArgs sCh) (defBody sCh) (defScope sCh) .none kV40 dc40 pm40 an40 cd40 ct40), sl40⟩)
    (c40 : PySem.W.codeIn K cd40 "_law_changed" = true)
    (k40 : PySem.W.keepIn K (.ref f40) = true)
    (a41 : PySem.W.nsIn K mainGlobals "_law_kept_folds" = some (some (.ref f41)))
    (l41 : K.lookup f41 = some ⟨oc41, od41, .func (PySem.W.fnOf "_law_kept_folds" "_law_kept_folds" (defArgs sKF) (defBody sKF) (defScope sKF) .none kV41 dc41 pm41 an41 cd41 ct41), sl41⟩)
    (c41 : PySem.W.codeIn K cd41 "_law_kept_folds" = true)
    (k41 : PySem.W.keepIn K (.ref f41) = true)
    (a42 : PySem.W.nsIn K mainGlobals "_law_without" = some (some (.ref f42)))
    (l42 : K.lookup f42 = some ⟨oc42, od42, .func (PySem.W.fnOf "_law_without" "_law_without" (defArgs sWt) (defBody sWt) (defScope sWt) .none kV42 dc42 pm42 an42 cd42 ct42), sl42⟩)
    (c42 : PySem.W.codeIn K cd42 "_law_without" = true)
    (k42 : PySem.W.keepIn K (.ref f42) = true)
    (a43 : PySem.W.nsIn K mainGlobals "_law_with" = some (some (.ref f43)))
    (l43 : K.lookup f43 = some ⟨oc43, od43, .func (PySem.W.fnOf "_law_with" "_law_with" (defArgs sWi) (defBody sWi) (defScope sWi) .none kV43 dc43 pm43 an43 cd43 ct43), sl43⟩)
    (c43 : PySem.W.codeIn K cd43 "_law_with" = true)
    (k43 : PySem.W.keepIn K (.ref f43) = true)
    (a44 : PySem.W.nsIn K mainGlobals "_law_bent" = some (some (.ref f44)))
    (l44 : K.lookup f44 = some ⟨oc44, od44, .func (PySem.W.fnOf "_law_bent" "_law_bent" (defArgs sBe) (defBody sBe) (defScope sBe) .none kV44 dc44 pm44 an44 cd44 ct44), sl44⟩)
    (c44 : PySem.W.codeIn K cd44 "_law_bent" = true)
    (k44 : PySem.W.keepIn K (.ref f44) = true)
    (a45 : PySem.W.nsIn K mainGlobals "_law_made" = some (some (.ref f45)))
    (l45 : K.lookup f45 = some ⟨oc45, od45, .func (PySem.W.fnOf "_law_made" "_law_made" (defArgs sMa) (defBody sMa) (defScope sMa) .none kV45 dc45 pm45 an45 (.ref cc45) ct45), sl45⟩)
    (lc45 : K.lookup cc45 = some ⟨.type "code", dd45, .fields vv45, sl_45⟩)
    (v11_45 : vv45[11]? = some (.ref PT45))
    (v18_45 : vv45.getD 18 .none = .str fi45 tf45)
    (v7_45 : vv45.getD 7 .none = .int fl45 tg45)
    (v9_45 : vv45.getD 9 .none = .bool inF45)
    (v10_45 : vv45.getD 10 .none = .int te45 tx45)
    (ne45 : cc45 ≠ PT45)
    (nP45 : K.lookup PT45 = none)
    (tb45 : h.get? PT45 = some { cls := .none, data := .fields #[] })
    (c45 : PySem.W.codeIn K (.ref cc45) "_law_made" = true)
    (k45 : PySem.W.keepIn K (.ref f45) = true)
    (a46 : PySem.W.nsIn K mainGlobals "_law_gone" = some (some (.ref f46)))
    (l46 : K.lookup f46 = some ⟨oc46, od46, .func (PySem.W.fnOf "_law_gone" "_law_gone" (defArgs sGo) (defBody sGo) (defScope sGo) .none kV46 dc46 pm46 an46 cd46 ct46), sl46⟩)
    (c46 : PySem.W.codeIn K cd46 "_law_gone" = true)
    (k46 : PySem.W.keepIn K (.ref f46) = true)
    (a47 : PySem.W.nsIn K mainGlobals "_law_truth" = some (some (.ref f47)))
    (l47 : K.lookup f47 = some ⟨oc47, od47, .func (PySem.W.fnOf "_law_truth" "_law_truth" (defArgs sTh) (defBody sTh) (defScope sTh) .none kV47 dc47 pm47 an47 cd47 ct47), sl47⟩)
    (c47 : PySem.W.codeIn K cd47 "_law_truth" = true)
    (k47 : PySem.W.keepIn K (.ref f47) = true)
    (a48 : PySem.W.nsIn K mainGlobals "_law_pops" = some (some (.ref f48)))
    (l48 : K.lookup f48 = some ⟨oc48, od48, .func (PySem.W.fnOf "_law_pops" "_law_pops" (defArgs sPp) (defBody sPp) (defScope sPp) .none kV48 dc48 pm48 an48 cd48 ct48), sl48⟩)
    (c48 : PySem.W.codeIn K cd48 "_law_pops" = true)
    (k48 : PySem.W.keepIn K (.ref f48) = true)
    (a49 : PySem.W.nsIn K mainGlobals "law" = some (some (.ref f49)))
    (l49 : K.lookup f49 = some ⟨oc49, od49, .func (PySem.W.fnOf "law" "law" (defArgs sLaw) (defBody sLaw) (defScope sLaw) .none kV49 dc49 pm49 an49 cd49 ct49), sl49⟩)
    (c49 : PySem.W.codeIn K cd49 "law" = true)
    (k49 : PySem.W.keepIn K (.ref f49) = true)
    (z_range : PySem.W.nsIn K mainGlobals "range" = some none)
    (z_len : PySem.W.nsIn K mainGlobals "len" = some none)
    (z_max : PySem.W.nsIn K mainGlobals "max" = some none)
    (z_min : PySem.W.nsIn K mainGlobals "min" = some none)
    (z_sum : PySem.W.nsIn K mainGlobals "sum" = some none)
    (z_isinstance : PySem.W.nsIn K mainGlobals "isinstance" = some none)
    (z_tuple : PySem.W.nsIn K mainGlobals "tuple" = some none)
    (z_enumerate : PySem.W.nsIn K mainGlobals "enumerate" = some none)
    (z_zip : PySem.W.nsIn K mainGlobals "zip" = some none)
    (z_int : PySem.W.nsIn K mainGlobals "int" = some none)
    (z_bool : PySem.W.nsIn K mainGlobals "bool" = some none)
    (z_list : PySem.W.nsIn K mainGlobals "list" = some none)
    (z_sorted : PySem.W.nsIn K mainGlobals "sorted" = some none)
    (z_set : PySem.W.nsIn K mainGlobals "set" = some none)
    (z_all : PySem.W.nsIn K mainGlobals "all" = some none)
    (z_dict : PySem.W.nsIn K mainGlobals "dict" = some none)
    (v_MOST_WIDTHS : PySem.W.nsIn K mainGlobals "MOST_WIDTHS" = some (some (.int 4 zMW)))
    (xF : K.lookup C1 = some (excClassObj nmF qF C1 NF bsF [.type "object"] hdF snF subF abF colF ddF v0F v1F v2F v3F v5F idF))
    (lNF : K.lookup NF = some ⟨cN, dN, .dict esN epN, slN⟩)
    (okE : (esN.toList.all fun e => match e.key with | .str _ _ => true | _ => false) = true)
    (eqF : PySem.W.nsIn K NF "__eq__" = some (some (.ref f2)))
    (neF : PySem.W.nsIn K NF "__ne__" = some none)
    (ocE : oc2 = .type "function")
    (ccF : PySem.W.findIn K (.ref C1) "__class__" = some (some (.builtin "object.__class__")))
    (hnF : PySem.W.specialIn K (.builtin "object.__class__") "__get__" = some (some (.builtin "getset_descriptor.__get__")))
    (htF : PySem.W.takesIn K (.builtin "object.__class__") = some true)
    (hmF : PySem.W.mroIn K C1 (.type "object") = some true)
    (kitF : PySem.W.kitOne K (.ref C1) (.ref C1) = some true)
    : LamX.LawAtS l w K L2.CX0 11 63 "_law_script" mg fa h := by
  have e := hfa.symm.trans (PySem.W.mg_of X G a49)
  cases e
  have F1 : FFold K f1 _ := ⟨⟨oc1, od1, .none, .ref KD, dc1, pm1, an1, cd1, ct1, sl1, rfl, l1, c1, .inl ⟨rfl, rfl⟩, .inr ⟨KD, rfl, fun q lack => by
    rcases List.mem_cons.mp lack with rfl | lack
    · exact ⟨_, d_count, ⟨_, rfl⟩⟩
    rcases List.mem_cons.mp lack with rfl | lack
    · exact ⟨_, d_total, ⟨_, rfl⟩⟩
    rcases List.mem_cons.mp lack with rfl | lack
    · exact ⟨_, d_squares, ⟨_, rfl⟩⟩
    rcases List.mem_cons.mp lack with rfl | lack
    · exact ⟨_, d_least, rfl⟩
    rcases List.mem_cons.mp lack with rfl | lack
    · exact ⟨_, d_greatest, rfl⟩
    rcases List.mem_cons.mp lack with rfl | lack
    · exact ⟨_, d_first, rfl⟩
    rcases List.mem_cons.mp lack with rfl | lack
    · exact ⟨_, d_last, rfl⟩
    rcases List.mem_cons.mp lack with rfl | lack
    · exact ⟨_, d_rise, ⟨_, rfl⟩⟩
    rcases List.mem_cons.mp lack with rfl | lack
    · exact ⟨_, d_held, ⟨_, rfl⟩⟩
    cases lack⟩⟩, k1⟩
  have F2 := fun_mk (st := sEq) l2 c2 k2
  have F3 := fun_mk (st := sGI) l3 c3 k3
  have F4 := fun_mk (st := sRn) l4 c4 k4
  have F5 := fun_mk (st := sFA) l5 c5 k5
  have F6 := fun_mk (st := sLG) l6 c6 k6
  have F7 := fun_mk (st := sRi) l7 c7 k7
  have F8 := fun_mk (st := sCIx) l8 c8 k8
  have F9 := fun_mk (st := sIG) l9 c9 k9
  have F10 := fun_mk (st := sCA) l10 c10 k10
  have F11 := fun_mk (st := sKC) l11 c11 k11
  have F12 := fun_mk (st := sFF) l12 c12 k12
  have F13 := fun_mk (st := sCW) l13 c13 k13
  have F14 := fun_mk (st := sAA) l14 c14 k14
  have F15 := fun_mk (st := sJA) l15 c15 k15
  have F16 := fun_mk (st := sSt) l16 c16 k16
  have F17 := fun_mk (st := sWhole) l17 c17 k17
  have F18 := fun_mk (st := sRisen) l18 c18 k18
  have F19 := fun_mk (st := sHB) l19 c19 k19
  have F20 := fun_mk (st := sCkR) l20 c20 k20
  have F21 := fun_mk (st := sFO) l21 c21 k21
  have F22 := fun_mk (st := sTg) l22 c22 k22
  have F23 := fun_mk (st := sCellOf) l23 c23 k23
  have F24 := fun_mk (st := sCkW) l24 c24 k24
  have F25 := fun_mk (st := sCkw) l25 c25 k25
  have F26 := fun_mk (st := sBC) l26 c26 k26
  have F27 := fun_mk (st := sJF) l27 c27 k27
  have F28 := fun_mk (st := sDr) l28 c28 k28
  have F29 := fun_mk (st := sMixed) l29 c29 k29
  have F30 := fun_mk (st := sPurse) l30 c30 k30
  have F31 := fun_mk (st := sDraw) l31 c31 k31
  have F32 := fun_mk (st := sLf) l32 c32 k32
  have F33 := fun_mk (st := sLr) l33 c33 k33
  have F34 := fun_mk (st := sPs) l34 c34 k34
  have F35 := fun_mk (st := sWidths) l35 c35 k35
  have F36 := fun_mk (st := sBase) l36 c36 k36
  have F37 := fun_mk (st := sTi) l37 c37 k37
  have F38 := fun_mk (st := sWo) l38 c38 k38
  have F39 := fun_mk (st := sNe) l39 c39 k39
  have F40 := fun_mk (st := sCh) l40 c40 k40
  have F41 := fun_mk (st := sKF) l41 c41 k41
  have F42 := fun_mk (st := sWt) l42 c42 k42
  have F43 := fun_mk (st := sWi) l43 c43 k43
  have F44 := fun_mk (st := sBe) l44 c44 k44
  have FC45 := func_mk (st := sMa) l45 c45 k45
  have F45 := FC45.fn
  have F46 := fun_mk (st := sGo) l46 c46 k46
  have F47 := fun_mk (st := sTh) l47 c47 k47
  have F48 := fun_mk (st := sPp) l48 c48 k48
  have F49 := fun_mk (st := sLaw) l49 c49 k49
  have b2 := F2.binds (ps := ["self", "other"]) fun _ _ _ _ _ _ us hl => match us, hl with | [_, _], _ => rfl
  have b3 := F3.binds (ps := ["self", "widths"]) fun _ _ _ _ _ _ us hl => match us, hl with | [_, _], _ => rfl
  have b5 := F5.binds (ps := ["self", "place", "width", "time"]) fun _ _ _ _ _ _ us hl => match us, hl with | [_, _, _, _], _ => rfl
  have b6 := F6.binds (ps := ["self", "width", "time"]) fun _ _ _ _ _ _ us hl => match us, hl with | [_, _, _], _ => rfl
  have b7 := F7.binds (ps := ["self", "place", "points"]) fun _ _ _ _ _ _ us hl => match us, hl with | [_, _, _], _ => rfl
  have b8 := F8.binds (ps := ["self"]) fun _ _ _ _ _ _ us hl => match us, hl with | [_], _ => rfl
  have b9 := F9.binds (ps := ["self", "width", "start"]) fun _ _ _ _ _ _ us hl => match us, hl with | [_, _, _], _ => rfl
  have b10 := F10.binds (ps := ["self", "place", "width", "time"]) fun _ _ _ _ _ _ us hl => match us, hl with | [_, _, _, _], _ => rfl
  have b11 := F11.binds (ps := ["self", "place", "width"]) fun _ _ _ _ _ _ us hl => match us, hl with | [_, _, _], _ => rfl
  have b12 := F12.binds (ps := ["self", "place", "width"]) fun _ _ _ _ _ _ us hl => match us, hl with | [_, _, _], _ => rfl
  have b13 := F13.binds (ps := ["self", "times", "width"]) fun _ _ _ _ _ _ us hl => match us, hl with | [_, _, _], _ => rfl
  have b14 := F14.binds (ps := ["self", "times", "points_in"]) fun _ _ _ _ _ _ us hl => match us, hl with | [_, _, _], _ => rfl
  have b15 := F15.binds (ps := ["self", "place", "finer", "anew", "width", "starts"]) fun _ _ _ _ _ _ us hl => match us, hl with | [_, _, _, _, _, _], _ => rfl
  have b16 := F16.binds (ps := ["self", "place", "folds_by_width", "number"]) fun _ _ _ _ _ _ us hl => match us, hl with | [_, _, _, _], _ => rfl
  have b17 := F17.binds (ps := ["thing"]) fun _ _ _ _ _ _ us hl => match us, hl with | [_], _ => rfl
  have b18 := F18.binds (ps := ["ahead", "behind"]) fun _ _ _ _ _ _ us hl => match us, hl with | [_, _], _ => rfl
  have b19 := F19.binds (ps := ["ahead", "behind"]) fun _ _ _ _ _ _ us hl => match us, hl with | [_, _], _ => rfl
  have b20 := F20.binds (ps := ["points"]) fun _ _ _ _ _ _ us hl => match us, hl with | [_], _ => rfl
  have b21 := F21.binds (ps := ["points"]) fun _ _ _ _ _ _ us hl => match us, hl with | [_], _ => rfl
  have b22 := F22.binds (ps := ["one", "two"]) fun _ _ _ _ _ _ us hl => match us, hl with | [_, _], _ => rfl
  have b23 := F23.binds (ps := ["time", "width"]) fun _ _ _ _ _ _ us hl => match us, hl with | [_, _], _ => rfl
  have b24 := F24.binds (ps := ["widths"]) fun _ _ _ _ _ _ us hl => match us, hl with | [_], _ => rfl
  have b25 := F25.binds (ps := ["widths", "width"]) fun _ _ _ _ _ _ us hl => match us, hl with | [_, _], _ => rfl
  have b26 := F26.binds (ps := ["points", "width"]) fun _ _ _ _ _ _ us hl => match us, hl with | [_, _], _ => rfl
  have b27 := F27.binds (ps := ["folds", "width"]) fun _ _ _ _ _ _ us hl => match us, hl with | [_, _], _ => rfl
  have b28 := F28.binds (ps := ["kept", "horizon"]) fun _ _ _ _ _ _ us hl => match us, hl with | [_, _], _ => rfl
  have b29 := F29.binds (ps := ["_law_cell_here", "_law_k"]) fun _ _ _ _ _ _ us hl => match us, hl with | [_, _], _ => rfl
  have b30 := F30.binds (ps := ["_law_script", "_law_at"]) fun _ _ _ _ _ _ us hl => match us, hl with | [_, _], _ => rfl
  have b31 := F31.binds (ps := ["_law_purse_here", "_law_out_of"]) fun _ _ _ _ _ _ us hl => match us, hl with | [_, _], _ => rfl
  have b32 := F32.binds (ps := ["_law_some_points"]) fun _ _ _ _ _ _ us hl => match us, hl with | [_], _ => rfl
  have b33 := F33.binds (ps := ["_law_fold_here"]) fun _ _ _ _ _ _ us hl => match us, hl with | [_], _ => rfl
  have b34 := F34.binds (ps := ["_law_table", "_law_start", "_law_end"]) fun _ _ _ _ _ _ us hl => match us, hl with | [_, _, _], _ => rfl
  have b35 := F35.binds (ps := ["_law_purse_here"]) fun _ _ _ _ _ _ us hl => match us, hl with | [_], _ => rfl
  have b36 := F36.binds (ps := ["_law_purse_here"]) fun _ _ _ _ _ _ us hl => match us, hl with | [_], _ => rfl
  have b37 := F37.binds (ps := ["_law_purse_here", "_law_base_here", "_law_widths_here"]) fun _ _ _ _ _ _ us hl => match us, hl with | [_, _, _], _ => rfl
  have b38 := F38.binds (ps := ["_law_purse_here"]) fun _ _ _ _ _ _ us hl => match us, hl with | [_], _ => rfl
  have b39 := F39.binds (ps := ["_law_purse_here", "_law_table", "_law_base_here", "_law_widths_here"]) fun _ _ _ _ _ _ us hl => match us, hl with | [_, _, _, _], _ => rfl
  have b40 := F40.binds (ps := ["_law_table", "_law_news_here"]) fun _ _ _ _ _ _ us hl => match us, hl with | [_, _], _ => rfl
  have b41 := F41.binds (ps := ["_law_widths_here", "_law_ends", "_law_some_points"]) fun _ _ _ _ _ _ us hl => match us, hl with | [_, _, _], _ => rfl
  have b42 := F42.binds (ps := ["_law_table", "_law_times"]) fun _ _ _ _ _ _ us hl => match us, hl with | [_, _], _ => rfl
  have b43 := F43.binds (ps := ["_law_table", "_law_time_here", "_law_worth_here"]) fun _ _ _ _ _ _ us hl => match us, hl with | [_, _, _], _ => rfl
  have b44 := F44.binds (ps := ["_law_purse_here", "_law_table", "_law_base_here", "_law_widths_here"]) fun _ _ _ _ _ _ us hl => match us, hl with | [_, _, _, _], _ => rfl
  have b45 := F45.binds (ps := ["_law_script", "_law_grains", "_law_base_here"]) fun _ _ _ _ _ _ us hl => match us, hl with | [_, _, _], _ => rfl
  have b46 := F46.binds (ps := ["_law_purse_here", "_law_grains", "_law_base_here", "_law_ends"]) fun _ _ _ _ _ _ us hl => match us, hl with | [_, _, _, _], _ => rfl
  have b47 := F47.binds (ps := ["_law_told", "_law_due"]) fun _ _ _ _ _ _ us hl => match us, hl with | [_, _], _ => rfl
  have b48 := F48.binds (ps := ["_law_purse_here", "_law_table", "_law_base_here", "_law_widths_here"]) fun _ _ _ _ _ _ us hl => match us, hl with | [_, _, _, _], _ => rfl
  have g17 := PySem.W.mg_of X G a17
  have g18 := PySem.W.mg_of X G a18
  have g19 := PySem.W.mg_of X G a19
  have g20 := PySem.W.mg_of X G a20
  have g21 := PySem.W.mg_of X G a21
  have g22 := PySem.W.mg_of X G a22
  have g23 := PySem.W.mg_of X G a23
  have g24 := PySem.W.mg_of X G a24
  have g25 := PySem.W.mg_of X G a25
  have g26 := PySem.W.mg_of X G a26
  have g27 := PySem.W.mg_of X G a27
  have g28 := PySem.W.mg_of X G a28
  have g29 := PySem.W.mg_of X G a29
  have g30 := PySem.W.mg_of X G a30
  have g31 := PySem.W.mg_of X G a31
  have g32 := PySem.W.mg_of X G a32
  have g33 := PySem.W.mg_of X G a33
  have g34 := PySem.W.mg_of X G a34
  have g35 := PySem.W.mg_of X G a35
  have g36 := PySem.W.mg_of X G a36
  have g37 := PySem.W.mg_of X G a37
  have g38 := PySem.W.mg_of X G a38
  have g39 := PySem.W.mg_of X G a39
  have g40 := PySem.W.mg_of X G a40
  have g41 := PySem.W.mg_of X G a41
  have g42 := PySem.W.mg_of X G a42
  have g43 := PySem.W.mg_of X G a43
  have g44 := PySem.W.mg_of X G a44
  have g45 := PySem.W.mg_of X G a45
  have g46 := PySem.W.mg_of X G a46
  have g47 := PySem.W.mg_of X G a47
  have g48 := PySem.W.mg_of X G a48
  have gC1 := PySem.W.mg_of X G aC1
  have gC2 := PySem.W.mg_of X G aC2
  have m_range := PySem.W.mg_none_of X G z_range
  have m_len := PySem.W.mg_none_of X G z_len
  have m_max := PySem.W.mg_none_of X G z_max
  have m_min := PySem.W.mg_none_of X G z_min
  have m_sum := PySem.W.mg_none_of X G z_sum
  have m_isinstance := PySem.W.mg_none_of X G z_isinstance
  have m_tuple := PySem.W.mg_none_of X G z_tuple
  have m_enumerate := PySem.W.mg_none_of X G z_enumerate
  have m_zip := PySem.W.mg_none_of X G z_zip
  have m_int := PySem.W.mg_none_of X G z_int
  have m_bool := PySem.W.mg_none_of X G z_bool
  have m_list := PySem.W.mg_none_of X G z_list
  have m_sorted := PySem.W.mg_none_of X G z_sorted
  have m_set := PySem.W.mg_none_of X G z_set
  have m_all := PySem.W.mg_none_of X G z_all
  have m_dict := PySem.W.mg_none_of X G z_dict
  have g_MOST_WIDTHS := PySem.W.mg_of X G v_MOST_WIDTHS
  refine ⟨PySem.W.fnOf "law" "law" (defArgs sLaw) (defBody sLaw) (defScope sLaw) .none kV49 dc49 pm49 an49 cd49 ct49, [(cc45, PT45)], (spLaw K PT45), ?_, ?_, ?_, fun s v => .of_eq rfl, ?_, fun base _ _ TBs => ?_⟩
  · exact (fun p mem => by
      obtain rfl := List.mem_singleton.mp mem
      exact tb45)
  · exact (fun p mem => by
      obtain rfl := List.mem_singleton.mp mem
      exact nP45)
  · exact (fun p mem => by
      obtain rfl := List.mem_singleton.mp mem
      exact ⟨_, vv45, fi45, tf45, fl45, tg45, inF45, te45, tx45, X _ _ lc45, rfl, rfl, v11_45, gd_at v11_45, v18_45, v7_45, v9_45, v10_45, ne45⟩)
  · intro H a ns hl _ hP hS
    exact ⟨a, ns, rfl, hS, hl, (fun r hr => by rw [List.mem_singleton.mp hr]; exact TabS.nil (hP (cc45, PT45) (.head _))), fun _ => rfl⟩
  have TB45 := TBs (cc45, PT45) (.head _)
  have T : TFold K C1 := ⟨⟨pgC1, hdC1, poC1, saC1⟩, fun n hn => by
    rcases List.mem_cons.mp hn with rfl | hn
    · exact noC1_count
    rcases List.mem_cons.mp hn with rfl | hn
    · exact noC1_total
    rcases List.mem_cons.mp hn with rfl | hn
    · exact noC1_squares
    rcases List.mem_cons.mp hn with rfl | hn
    · exact noC1_least
    rcases List.mem_cons.mp hn with rfl | hn
    · exact noC1_greatest
    rcases List.mem_cons.mp hn with rfl | hn
    · exact noC1_first
    rcases List.mem_cons.mp hn with rfl | hn
    · exact noC1_last
    rcases List.mem_cons.mp hn with rfl | hn
    · exact noC1_rise
    obtain rfl := List.mem_singleton.mp hn
    exact noC1_held⟩
  have okF : PySem.W.nsOkIn K NF = true := by
    unfold PySem.W.nsOkIn
    rw [lNF]
    dsimp only
    rw [← Array.all_toList]
    exact okE
  have TI : TIns K C1 := ⟨ccF, hnF, htF, hmF, kitF⟩
  have OB : ∀ j, FnOk l.prog w K mg base CX0 (j + 1) f2 _ ["self", "other"] (spEqB (EqF K C1)) := fun j => ok_eqB F2 T TI gC1 m_isinstance
  have NE_ : NeC K C1 f2 := ⟨⟨nmF, qF, NF, bsF, hdF, snF, subF, abF, colF, ddF, v0F, v1F, v2F, v3F, v5F, idF, xF, okF, eqF, neF⟩, _, l2, ocE⟩
  have OI : ∀ j, FnOk l.prog w K mg base CX0 (j + 1) f1 _ NFI (spFI C1) := fun j => ok_fi F1 T
  have MK : Mk K C1 f1 := ⟨mkC1, a1, i1, kcC1⟩
  obtain ⟨q0, z0⟩ := kb_0 F1
  obtain ⟨q9, z9⟩ := kb_9 F1
  have K0 : ∀ j, KF0 l.prog w K mg base C1 (j + 1) := fun j => ⟨f1, _, q0, OI j, gC1, MK, z0⟩
  have K9 : ∀ j, KF9 l.prog w K mg base C1 (j + 1) := fun j => ⟨f1, _, q9, OI j, gC1, MK, z9⟩
  have TG : TGr K C2 := ⟨⟨pgC2, hdC2, poC2, saC2⟩, fun n hn => by
    rcases List.mem_cons.mp hn with rfl | hn
    · exact noC2_widths
    rcases List.mem_cons.mp hn with rfl | hn
    · exact noC2_busy
    rcases List.mem_cons.mp hn with rfl | hn
    · exact noC2_kept
    obtain rfl := List.mem_singleton.mp hn
    exact noC2_horizons⟩
  have WH : ∀ j, Cal l.prog w K mg base (j + 1) "is_whole" ["thing"] spWhole := fun j => ⟨f17, _, ok_whole F17 m_isinstance m_int m_bool, g17, k17, b17⟩
  have CE : ∀ j, Cal l.prog w K mg base (j + 1) "cell_of" ["time", "width"] spCell := fun j => ⟨f23, _, ok_cell F23, g23, k23, b23⟩
  have RIS : ∀ j, Cal l.prog w K mg base (j + 1) "risen" ["ahead", "behind"] spRisen := fun j => ⟨f18, _, ok_risen F18 m_max, g18, k18, b18⟩
  have HB : ∀ j, Cal l.prog w K mg base (j + 1) "held_between" ["ahead", "behind"] (spHB K) := fun j => ⟨f19, _, ok_hb F19, g19, k19, b19⟩
  have CKR : ∀ j, Cal l.prog w K mg base (j + 1) "check_rising" ["points"] (spCkR K) := fun j => ⟨f20, _, ok_ckR F20 m_range m_len, g20, k20, b20⟩
  have FO : ∀ j, Cal l.prog w K mg base (j + 3) "fold_of" ["points"] (spFO K C1) := fun j => ⟨f21, _, ok_fo (k := j + 1) F21 (CKR j) (K0 j) (K9 j) (RIS j) (HB j) m_list m_len m_sum m_min m_max m_zip, g21, k21, b21⟩
  have TG_ : ∀ j, Cal l.prog w K mg base (j + 3) "together" ["one", "two"] (spTg K C1) := fun j => ⟨f22, _, ok_tg (k := j + 1) F22 T (K9 j) (RIS j) (HB j) m_min m_max, g22, k22, b22⟩
  have CKWS : ∀ j, Cal l.prog w K mg base (j + 2) "check_widths" ["widths"] (spCkW K) := fun j => ⟨f24, _, ok_ckW (k := j + 1) F24 (WH j) g_MOST_WIDTHS m_len m_enumerate, g24, k24, b24⟩
  have CKW : ∀ j, Cal l.prog w K mg base (j + 1) "check_width" ["widths", "width"] (spCkw K) := fun j => ⟨f25, _, ok_ckw F25, g25, k25, b25⟩
  have CI : ∀ j, CalM l.prog w K mg base (j + 1) C2 "check_idle" ["self"] (spCIx C2) := fun j => ⟨f8, _, ok_ci F8 TG, ⟨a8, i8, k8⟩, b8⟩
  have IG : ∀ j, CalM l.prog w K mg base (j + 1) C2 "is_gone" ["self", "width", "start"] (spIG K C2 C1) := fun j => ⟨f9, _, ok_ig F9 TG, ⟨a9, i9, k9⟩, b9⟩
  have KC : ∀ j, CalM l.prog w K mg base (j + 1) C2 "kept_cells" ["self", "place", "width"] (spKC K C2 C1) := fun j => ⟨f11, _, ok_kc F11 TG, ⟨a11, i11, k11⟩, b11⟩
  have CA : ∀ j, CalM l.prog w K mg base (j + 2) C2 "cell_at" ["self", "place", "width", "time"] (spCA K C2 C1) := fun j => ⟨f10, _, ok_ca (k := j + 1) F10 TG (CKW j) (KC j) (CE j), ⟨a10, i10, k10⟩, b10⟩
  have FA : ∀ j, CalM l.prog w K mg base (j + 4) C2 "fold_at" ["self", "place", "width", "time"] (spFA K C2 C1) := fun j => ⟨f5, _, ok_fa (k := j + 2) F5 TG (CA j) (K0 (j + 1)), ⟨a5, i5, k5⟩, b5⟩
  have JF : ∀ j, Cal l.prog w K mg base (j + 5) "joined_folds" ["folds", "width"] (spJF K C1) := fun j => ⟨f27, _, ok_jf (k := j + 3) F27 m_sorted (CE (j + 2)) (K0 (j + 2)) (TG_ j), g27, k27, b27⟩
  have FF : ∀ j, CalM l.prog w K mg base (j + 2) C2 "full_folds" ["self", "place", "width"] (spFF K C2 C1) := fun j => ⟨f12, _, ok_ff (k := j + 1) F12 TG T (KC j), ⟨a12, i12, k12⟩, b12⟩
  have CW : ∀ j, CalM l.prog w K mg base (j + 2) C2 "cells_with" ["self", "times", "width"] (spCW K C2 C1) := fun j => ⟨f13, _, ok_cw (k := j + 1) F13 TG m_sorted (CE j) (IG j), ⟨a13, i13, k13⟩, b13⟩
  have PS_ : ∀ j, Cal l.prog w K mg base (j + 1) "_law_points" ["_law_table", "_law_start", "_law_end"] (spPs K) := fun j => ⟨f34, _, ok_ps F34 m_sorted, g34, k34, b34⟩
  have AA : ∀ j, CalM l.prog w K mg base (j + 4) C2 "asked_anew" ["self", "times", "points_in"] (spAA K C2 C1 (TlH K)) := fun j => ⟨f14, _, ok_aa (k := j + 3) F14 TG teller_h (CW (j + 1)) (FO j) (fun f => ok_hd (f := f) (k := j + 2)), ⟨a14, i14, k14⟩, b14⟩
  have JA : ∀ j, CalM l.prog w K mg base (j + 7) C2 "joined_anew" ["self", "place", "finer", "anew", "width", "starts"] (spJA K C2 C1) := fun j => ⟨f15, _, ok_ja (k := j + 5) F15 TG (KC (j + 4)) (CE (j + 4)) (JF j) (K0 (j + 4)), ⟨a15, i15, k15⟩, b15⟩
  have ST : ∀ j, CalM l.prog w K mg base (j + 6) C2 "settled" ["self", "place", "folds_by_width", "number"] (spSt K C2 C1) := fun j => ⟨f16, _, ok_st (k := j + 4) F16 TG T TI (FA j) (OB (j + 3)) NE_ b2, ⟨a16, i16, k16⟩, b16⟩
  have RN : ∀ j, FnOk l.prog w K mg base CX0 (j + 8) f4 _ ["self", "place", "times", "points_in", "number"] (spRn K C2 C1 (TlH K)) := fun j => ok_rn (k := j + 7) teller_h F4 TG (CI (j + 6)) (AA (j + 3)) (CW (j + 5)) (JA j) (ST (j + 1)) m_list m_zip
  have GI : ∀ j, FnOk l.prog w K mg base CX0 (j + 3) f3 _ ["self", "widths"] (spGI K C2) := fun j => ok_gi (k := j + 2) F3 TG (CKWS j) m_tuple
  have DR : ∀ j, Cal l.prog w K mg base (j + 1) "drop_cells" ["kept", "horizon"] (spDr K C1) := fun j => ⟨f28, _, ok_dr F28 T m_len, g28, k28, b28⟩
  have LG : ∀ j, CalM l.prog w K mg base (j + 2) C2 "let_go" ["self", "width", "time"] (spLG K C2 C1) := fun j => ⟨f6, _, ok_lg (k := j + 1) F6 TG (CKW j) (CI j) (CE j) (DR j) m_max m_list, ⟨a6, i6, k6⟩, b6⟩
  have BC : ∀ j, Cal l.prog w K mg base (j + 4) "folds_by_cell" ["points", "width"] (spBC K C1) := fun j => ⟨f26, _, ok_bc (k := j + 3) F26 (CE (j + 2)) (FO j), g26, k26, b26⟩
  have RI : ∀ j, CalM l.prog w K mg base (j + 6) C2 "right" ["self", "place", "points"] (spRi K C2 C1) := fun j => ⟨f7, _, ok_ri (k := j + 4) F7 TG (BC j) (IG (j + 3)) (FF (j + 2)) (OB (j + 3)) a2 i2 b2, ⟨a7, i7, k7⟩, b7⟩
  have ORI : ∀ j, FnOk l.prog w K mg base CX0 (j + 6) f7 _ ["self", "place", "points"] (spRi K C2 C1) := fun j => ok_ri (k := j + 4) F7 TG (BC j) (IG (j + 3)) (FF (j + 2)) (OB (j + 3)) a2 i2 b2
  have MX : ∀ j, Cal l.prog w K mg base (j + 1) "_law_mixed" ["_law_cell_here", "_law_k"] spMixed := fun j => ⟨f29, _, ok_mixed F29, g29, k29, b29⟩
  have DW : ∀ j, Cal l.prog w K mg base (j + 2) "_law_draw" ["_law_purse_here", "_law_out_of"] spDraw := fun j => ⟨f31, _, ok_draw (k := j + 1) F31 (MX j) m_range, g31, k31, b31⟩
  have PU : ∀ j, Cal l.prog w K mg base (j + 1) "_law_purse" ["_law_script", "_law_at"] (spPurse K) := fun j => ⟨f30, _, ok_purse F30 m_range m_max, g30, k30, b30⟩
  have WI : ∀ j, Cal l.prog w K mg base (j + 3) "_law_widths" ["_law_purse_here"] spWidths := fun j => ⟨f35, _, ok_widths (k := j + 2) F35 (DW j) m_len, g35, k35, b35⟩
  have BA : ∀ j, Cal l.prog w K mg base (j + 3) "_law_base" ["_law_purse_here"] spBase := fun j => ⟨f36, _, ok_base (k := j + 2) F36 (DW j), g36, k36, b36⟩
  have WO : ∀ j, Cal l.prog w K mg base (j + 3) "_law_worth" ["_law_purse_here"] spWo := fun j => ⟨f38, _, ok_wo (k := j + 2) F38 (DW j), g38, k38, b38⟩
  have TM : ∀ j, Cal l.prog w K mg base (j + 3) "_law_time" ["_law_purse_here", "_law_base_here", "_law_widths_here"] (spTi K) := fun j => ⟨f37, _, ok_ti (k := j + 2) F37 (DW j), g37, k37, b37⟩
  have NW : ∀ j, Cal l.prog w K mg base (j + 4) "_law_news" ["_law_purse_here", "_law_table", "_law_base_here", "_law_widths_here"] (spNe K) := fun j => ⟨f39, _, ok_ne (k := j + 3) F39 (DW (j + 1)) (TM j) (WO j) m_sorted m_len m_range, g39, k39, b39⟩
  have CH : ∀ j, Cal l.prog w K mg base (j + 1) "_law_changed" ["_law_table", "_law_news_here"] spCh := fun j => ⟨f40, _, ok_ch F40 m_sorted m_dict, g40, k40, b40⟩
  have LF : ∀ j, Cal l.prog w K mg base (j + 1) "_law_fold" ["_law_some_points"] (spLf K) := fun j => ⟨f32, _, ok_lf F32 m_len m_sum m_min m_max m_zip, g32, k32, b32⟩
  have LR : ∀ j, Cal l.prog w K mg base (j + 1) "_law_read" ["_law_fold_here"] (spLr K C1) := fun j => ⟨f33, _, ok_lr F33 T TI gC1 m_isinstance, g33, k33, b33⟩
  have KF : ∀ j, Cal l.prog w K mg base (j + 2) "_law_kept_folds" ["_law_widths_here", "_law_ends", "_law_some_points"] (spKF K) := fun j => ⟨f41, _, ok_kf (k := j + 1) F41 (LF j) m_sorted, g41, k41, b41⟩
  have WT : ∀ j, Cal l.prog w K mg base (j + 1) "_law_without" ["_law_table", "_law_times"] spWt := fun j => ⟨f42, _, ok_wt F42 m_dict, g42, k42, b42⟩
  have WH_ : ∀ j, Cal l.prog w K mg base (j + 1) "_law_with" ["_law_table", "_law_time_here", "_law_worth_here"] spWi := fun j => ⟨f43, _, ok_wi F43 m_dict, g43, k43, b43⟩
  have BE : ∀ j, Cal l.prog w K mg base (j + 4) "_law_bent" ["_law_purse_here", "_law_table", "_law_base_here", "_law_widths_here"] (spBe K) := fun j => ⟨f44, _, ok_be (k := j + 3) F44 (DW (j + 1)) (TM j) (WO j) (WH_ (j + 2)) (WT (j + 2)) m_sorted m_len m_dict, g44, k44, b44⟩
  have PP : ∀ j, Cal l.prog w K mg base (j + 5) "_law_pops" ["_law_purse_here", "_law_table", "_law_base_here", "_law_widths_here"] (spPp K) := fun j => ⟨f48, _, ok_pp (k := j + 4) F48 (DW (j + 2)) (BE j) m_sorted, g48, k48, b48⟩
  have TH : ∀ j, Cal l.prog w K mg base (j + 1) "_law_truth" ["_law_told", "_law_due"] spTh := fun j => ⟨f47, _, ok_th F47 m_isinstance m_bool, g47, k47, b47⟩
  have GO : ∀ j, Cal l.prog w K mg base (j + 3) "_law_gone" ["_law_purse_here", "_law_grains", "_law_base_here", "_law_ends"] (spGo K C2 C1) := fun j => ⟨f46, _, ok_go (k := j + 2) F46 TG (DW j) (LG j) m_len m_list, g46, k46, b46⟩
  have MA : ∀ j, Cal l.prog w K mg base (j + 9) "_law_made" ["_law_script", "_law_grains", "_law_base_here"] (spMa K C2 C1 PT45) := fun j => ⟨f45, _, ok_ma (k := j + 8) FC45 TB45 TG (PU (j + 7)) (NW (j + 4)) (CH (j + 7)) (PS_ (j + 7)) ⟨f4, _, RN j, ⟨a4, i4, k4⟩, kn_rn F4⟩ m_range m_len m_max m_sorted, g45, k45, b45⟩
  exact ok_law (k := 9) (CF := C1) F49 ⟨PU 8, WI 6, ⟨f3, _, GI 6, gC2, ⟨mkC2, a3, i3, kcC2⟩, b3⟩, BA 6, MA 0, GO 6, KF 7, PP 4, TH 8, LR 8, RI 3, ⟨f7, _, ORI 3, ⟨a7, i7, k7⟩, kn_ri F7⟩, FA 5, TG, m_range, m_len, m_max, m_list, m_sorted⟩
end Tg
open PySem PySem.W PyProof.Rows
set_option maxRecDepth 100000 in
set_option maxHeartbeats 0 in
theorem PySem.Challenge.cw_timegranary_k53_right_points_holds : PySem.Challenge.rw_timegranary_k53_right_points.Holds := by
  w_on; o_law; k_head; (case hw => w_witness2)
  k_fill
  refine LamX.walk_ofTs (l := PySem.Challenge.rw_timegranary_k53_right_points) (n := 63) (k := 11) (x := "_law_script") (CX := fun _ => L2.CX0) rfl (by decide) rfl ⟨rfl, by decide, by decide⟩ (fun w h Y => PySem.W.km_in_of Y) ?F (fun _ _ _ _ _ h => h)
  case F =>
    intro w mg fa h Y KX G hmg
    refine' Tg.all_mk KX G hmg ?aC1 ?pgC1 ?hdC1 ?poC1 ?saC1 ?mkC1 ?kcC1 ?noC1_count ?noC1_total ?noC1_squares ?noC1_least ?noC1_greatest ?noC1_first ?noC1_last ?noC1_rise ?noC1_held ?aC2 ?pgC2 ?hdC2 ?poC2 ?saC2 ?mkC2 ?kcC2 ?noC2_widths ?noC2_busy ?noC2_kept ?noC2_horizons ?a1 ?i1 ?l1 ?d_count ?d_total ?d_squares ?d_least ?d_greatest ?d_first ?d_last ?d_rise ?d_held ?c1 ?k1 ?a2 ?i2 ?l2 ?c2 ?k2 ?a3 ?i3 ?l3 ?c3 ?k3 ?a4 ?i4 ?l4 ?c4 ?k4 ?a5 ?i5 ?l5 ?c5 ?k5 ?a6 ?i6 ?l6 ?c6 ?k6 ?a7 ?i7 ?l7 ?c7 ?k7 ?a8 ?i8 ?l8 ?c8 ?k8 ?a9 ?i9 ?l9 ?c9 ?k9 ?a10 ?i10 ?l10 ?c10 ?k10 ?a11 ?i11 ?l11 ?c11 ?k11 ?a12 ?i12 ?l12 ?c12 ?k12 ?a13 ?i13 ?l13 ?c13 ?k13 ?a14 ?i14 ?l14 ?c14 ?k14 ?a15 ?i15 ?l15 ?c15 ?k15 ?a16 ?i16 ?l16 ?c16 ?k16 ?a17 ?l17 ?c17 ?k17 ?a18 ?l18 ?c18 ?k18 ?a19 ?l19 ?c19 ?k19 ?a20 ?l20 ?c20 ?k20 ?a21 ?l21 ?c21 ?k21 ?a22 ?l22 ?c22 ?k22 ?a23 ?l23 ?c23 ?k23 ?a24 ?l24 ?c24 ?k24 ?a25 ?l25 ?c25 ?k25 ?a26 ?l26 ?c26 ?k26 ?a27 ?l27 ?c27 ?k27 ?a28 ?l28 ?c28 ?k28 ?a29 ?l29 ?c29 ?k29 ?a30 ?l30 ?c30 ?k30 ?a31 ?l31 ?c31 ?k31 ?a32 ?l32 ?c32 ?k32 ?a33 ?l33 ?c33 ?k33 ?a34 ?l34 ?c34 ?k34 ?a35 ?l35 ?c35 ?k35 ?a36 ?l36 ?c36 ?k36 ?a37 ?l37 ?c37 ?k37 ?a38 ?l38 ?c38 ?k38 ?a39 ?l39 ?c39 ?k39 ?a40 ?l40 ?c40 ?k40 ?a41 ?l41 ?c41 ?k41 ?a42 ?l42 ?c42 ?k42 ?a43 ?l43 ?c43 ?k43 ?a44 ?l44 ?c44 ?k44 ?a45 ?l45 ?lc45 ?v11_45 ?v18_45 ?v7_45 ?v9_45 ?v10_45 ?ne45 ?nP45 ?tb45 ?c45 ?k45 ?a46 ?l46 ?c46 ?k46 ?a47 ?l47 ?c47 ?k47 ?a48 ?l48 ?c48 ?k48 ?a49 ?l49 ?c49 ?k49 ?z_range ?z_len ?z_max ?z_min ?z_sum ?z_isinstance ?z_tuple ?z_enumerate ?z_zip ?z_int ?z_bool ?z_list ?z_sorted ?z_set ?z_all ?z_dict ?v_MOST_WIDTHS ?xF ?lNF ?okE ?eqF ?neF ?ocE ?ccF ?hnF ?htF ?hmF ?kitF
    (case aC1 => k_is); (case pgC1 => k_is); (case hdC1 => k_is); (case poC1 => k_is); (case saC1 => k_is); (case mkC1 => k_is)
    (case kcC1 => k_is); (case noC1_count => k_is); (case noC1_total => k_is); (case noC1_squares => k_is); (case noC1_least => k_is); (case noC1_greatest => k_is)
    (case noC1_first => k_is); (case noC1_last => k_is); (case noC1_rise => k_is); (case noC1_held => k_is); (case aC2 => k_is); (case pgC2 => k_is)
    (case hdC2 => k_is); (case poC2 => k_is); (case saC2 => k_is); (case mkC2 => k_is); (case kcC2 => k_is); (case noC2_widths => k_is)
    (case noC2_busy => k_is); (case noC2_kept => k_is); (case noC2_horizons => k_is); (case a1 => k_is); (case i1 => k_is); (case l1 => k_is); (case d_count => k_is); (case d_total => k_is); (case d_squares => k_is); (case d_least => k_is); (case d_greatest => k_is); (case d_first => k_is); (case d_last => k_is); (case d_rise => k_is); (case d_held => k_is)
    (case c1 => k_is); (case k1 => k_is); (case a2 => k_is); (case i2 => k_is); (case l2 => k_is); (case c2 => k_is)
    (case k2 => k_is); (case a3 => k_is); (case i3 => k_is); (case l3 => k_is); (case c3 => k_is); (case k3 => k_is)
    (case a4 => k_is); (case i4 => k_is); (case l4 => k_is); (case c4 => k_is); (case k4 => k_is); (case a5 => k_is)
    (case i5 => k_is); (case l5 => k_is); (case c5 => k_is); (case k5 => k_is); (case a6 => k_is); (case i6 => k_is)
    (case l6 => k_is); (case c6 => k_is); (case k6 => k_is); (case a7 => k_is); (case i7 => k_is); (case l7 => k_is)
    (case c7 => k_is); (case k7 => k_is); (case a8 => k_is); (case i8 => k_is); (case l8 => k_is); (case c8 => k_is)
    (case k8 => k_is); (case a9 => k_is); (case i9 => k_is); (case l9 => k_is); (case c9 => k_is); (case k9 => k_is)
    (case a10 => k_is); (case i10 => k_is); (case l10 => k_is); (case c10 => k_is); (case k10 => k_is); (case a11 => k_is)
    (case i11 => k_is); (case l11 => k_is); (case c11 => k_is); (case k11 => k_is); (case a12 => k_is); (case i12 => k_is)
    (case l12 => k_is); (case c12 => k_is); (case k12 => k_is); (case a13 => k_is); (case i13 => k_is); (case l13 => k_is)
    (case c13 => k_is); (case k13 => k_is); (case a14 => k_is); (case i14 => k_is); (case l14 => k_is); (case c14 => k_is)
    (case k14 => k_is); (case a15 => k_is); (case i15 => k_is); (case l15 => k_is); (case c15 => k_is); (case k15 => k_is)
    (case a16 => k_is); (case i16 => k_is); (case l16 => k_is); (case c16 => k_is); (case k16 => k_is); (case a17 => k_is)
    (case l17 => k_is); (case c17 => k_is); (case k17 => k_is); (case a18 => k_is); (case l18 => k_is); (case c18 => k_is)
    (case k18 => k_is); (case a19 => k_is); (case l19 => k_is); (case c19 => k_is); (case k19 => k_is); (case a20 => k_is)
    (case l20 => k_is); (case c20 => k_is); (case k20 => k_is); (case a21 => k_is); (case l21 => k_is); (case c21 => k_is)
    (case k21 => k_is); (case a22 => k_is); (case l22 => k_is); (case c22 => k_is); (case k22 => k_is); (case a23 => k_is)
    (case l23 => k_is); (case c23 => k_is); (case k23 => k_is); (case a24 => k_is); (case l24 => k_is); (case c24 => k_is)
    (case k24 => k_is); (case a25 => k_is); (case l25 => k_is); (case c25 => k_is); (case k25 => k_is); (case a26 => k_is)
    (case l26 => k_is); (case c26 => k_is); (case k26 => k_is); (case a27 => k_is); (case l27 => k_is); (case c27 => k_is)
    (case k27 => k_is); (case a28 => k_is); (case l28 => k_is); (case c28 => k_is); (case k28 => k_is); (case a29 => k_is)
    (case l29 => k_is); (case c29 => k_is); (case k29 => k_is); (case a30 => k_is); (case l30 => k_is); (case c30 => k_is)
    (case k30 => k_is); (case a31 => k_is); (case l31 => k_is); (case c31 => k_is); (case k31 => k_is); (case a32 => k_is)
    (case l32 => k_is); (case c32 => k_is); (case k32 => k_is); (case a33 => k_is); (case l33 => k_is); (case c33 => k_is)
    (case k33 => k_is); (case a34 => k_is); (case l34 => k_is); (case c34 => k_is); (case k34 => k_is); (case a35 => k_is)
    (case l35 => k_is); (case c35 => k_is); (case k35 => k_is); (case a36 => k_is); (case l36 => k_is); (case c36 => k_is)
    (case k36 => k_is); (case a37 => k_is); (case l37 => k_is); (case c37 => k_is); (case k37 => k_is); (case a38 => k_is)
    (case l38 => k_is); (case c38 => k_is); (case k38 => k_is); (case a39 => k_is); (case l39 => k_is); (case c39 => k_is)
    (case k39 => k_is); (case a40 => k_is); (case l40 => k_is); (case c40 => k_is); (case k40 => k_is); (case a41 => k_is)
    (case l41 => k_is); (case c41 => k_is); (case k41 => k_is); (case a42 => k_is); (case l42 => k_is); (case c42 => k_is)
    (case k42 => k_is); (case a43 => k_is); (case l43 => k_is); (case c43 => k_is); (case k43 => k_is); (case a44 => k_is)
    (case l44 => k_is); (case c44 => k_is); (case k44 => k_is); (case a45 => k_is); (case l45 => k_is); (case lc45 => k_is); (case v11_45 => rfl); (case v18_45 => rfl); (case v7_45 => rfl); (case v9_45 => rfl); (case v10_45 => rfl); (case ne45 => decide); (case nP45 => first | k_is | rfl); (case tb45 => exact PySem.W.km_tabs_of Y _ (by decide)); (case c45 => k_is)
    (case k45 => k_is); (case a46 => k_is); (case l46 => k_is); (case c46 => k_is); (case k46 => k_is); (case a47 => k_is)
    (case l47 => k_is); (case c47 => k_is); (case k47 => k_is); (case a48 => k_is); (case l48 => k_is); (case c48 => k_is)
    (case k48 => k_is); (case a49 => k_is); (case l49 => k_is); (case c49 => k_is); (case k49 => k_is); (case z_range => k_is)
    (case z_len => k_is); (case z_max => k_is); (case z_min => k_is); (case z_sum => k_is); (case z_isinstance => k_is); (case z_tuple => k_is)
    (case z_enumerate => k_is); (case z_zip => k_is); (case z_int => k_is); (case z_bool => k_is); (case z_list => k_is); (case z_sorted => k_is)
    (case z_set => k_is); (case z_all => k_is); (case z_dict => k_is); (case v_MOST_WIDTHS => k_is); (case xF => k_is); (case lNF => k_is)
    (case okE => rfl); (case eqF => k_is); (case neF => k_is); (case ocE => rfl); (case ccF => k_is); (case hnF => k_is)
    (case htF => k_is); (case hmF => k_is); (case kitF => first | k_is | rfl)

