import PyProof.Rows.All
import Wide.All
import OpenK.AllK
import Wide.FinOn
import HandS.ForMost
import HandS.Conv
import HandS.Wide
import HandS.IsInst
import HandS.Defaults
import HandS.Dict
import HandS.Iter
import HandS.Walk
import HandS.Exc
import HandS.ExcInit
import HandS.ExcIs
import HandS.ExcField
import HandS.ExcValue
import KE.KExcIs
import KE.KTryMore
import HandS.WordsExc
import HandS.ExcOwn
import PyProof.ReprRoads
import HandS.FStr
import HandS.OwnEq
import HandS.Zip
import KE.GoesNew
import KE.GoesMore
import KE.GoesEnum
import KE.KIndexOf
import KE.GoesEnumKw
import PyProof.Rows.CallKwBuiltin
import HandS.Text
import PyProof.MeetsStr3
import PyProof.StrLawsLast
import PyProof.StrLawsIn
import HandS.DictComp
import KE.KDictPairs
import PyProof.InstNe
import OpenK.KOwn
import PyProof.DictUpdate
import HandS.Finally
import HandS.Sort
import KE.KDictList
import HandS.Strs
import HandS.SetBool
import HandS.SortInts
import HandS.More
import HandS.SortOrd
import KE.KDictSum
import PyProof.TupleOfSeq
import HandS.Comp
import HandS.Lambda
import KE.KLam
import KE.SortKeyHeap
import HandS.New
import HandS.EndOwn
import HandS.WideBits
import KE.IntBitsLaws
import PySem.Challenge.RW_timegranary_k54_widths
import HandS.TupAny
import HandS.TupMul
import HandS.MakeKwOnly
import HandS.CallLocal
import HandS.SetKeys
import HandS.MakeKw
set_option Elab.async false
set_option linter.all false
set_option maxRecDepth 100000
namespace Tg
open PySem PySem.Spec PyProof.Rows L2

/-! ### rules of my own: a call by keywords alone; list(range(a, b, c)) -/
section
variable {X : Cx} {CX : CXT} {k : Nat} {f : Addr} {fd : FuncData} {ps ks : List Str} {sp : Sp} {E : XK} {x : Str} {p pos : Pos} {kws : List Keyword} {tk : TA}
  {g : List Value → List Value → List Value} {gV : List V → List V → List V}
def tKw0 (n : Nat) (sp : Sp) (gV : List V → List V → List V) (E : XK) (tk : TA) : TE :=
  fun σ H Q => tk σ H fun zs H2 => zs.length = n ∧ sp (gV [] zs) H2 Q E
theorem pe_kw0 (F : FnOk X.prog X.w X.K X.mg X.base CX k f fd ps sp) (room : Room k X.A) (gl : Gl X x) (at_x : X.mg x = some (.ref f)) (kept : PySem.W.keepIn X.K (.ref f) = true) (binds : KBn X.K fd ps 0 ks g gV) (lets : Passes CX X E) (vals : PK X kws tk)
    (named : (backToKw pos (keywordEach kws X.env)).all (·.1.isSome) = true := by rfl) (names : (backToKw pos (keywordEach kws X.env)).filterMap (·.1) = ks := by rfl) (nodebug : (x == ("__debug__" : Str)) = false := by decide)
    (nostar : ((backTo pos (starEach [] X.env)).any (·.1) || (backToKw pos (keywordEach kws X.env)).any (·.1.isNone)) = false := by rfl) : PE X (.Call (.Name x p) [] kws pos) (tKw0 ks.length sp gV E tk) := by
  constructor
  intro pins s σ H Q I read
  refine wpAny_Call_Name_kw (ld_glob I gl at_x (PySem.W.callWith_KW0 (h₀ := X.base) I.ok.mod.kin kept named (thn (vals.run pos pins s σ H _ I read) fun ws s2 y => ?_) nostar) nodebug)
  obtain ⟨zs, H2, J, rel, many, h⟩ := y
  rw [names]
  exact ⟨J.kIn, run_fnN (us := []) (vs := []) F room binds lets J .nil rel rfl many h⟩
end

/-- two keywords, the second parameter's first -/
def sw2 {α : Type} : List α → List α
  | [y, x] => [x, y]
  | _ => []
/-- three keywords, the parameters' from the last on -/
def sw3 {α : Type} : List α → List α
  | [z, y, x] => [x, y, z]
  | _ => []
theorem sw2_rel : ∀ {zs : List V} {ws : List Value}, Vals zs ws → Vals (sw2 zs) (sw2 ws)
  | _, _, .nil => .nil
  | _, _, .cons _ .nil => .nil
  | _, _, .cons a (.cons b .nil) => .cons b (.cons a .nil)
  | _, _, .cons _ (.cons _ (.cons _ _)) => .nil
theorem sw3_rel : ∀ {zs : List V} {ws : List Value}, Vals zs ws → Vals (sw3 zs) (sw3 ws)
  | _, _, .nil => .nil
  | _, _, .cons _ .nil => .nil
  | _, _, .cons _ (.cons _ .nil) => .nil
  | _, _, .cons a (.cons b (.cons c .nil)) => .cons c (.cons b (.cons a .nil))
  | _, _, .cons _ (.cons _ (.cons _ (.cons _ _))) => .nil

section
variable {X : Cx} {a b c : Expr} {ta : TA}
def rg3 (a c : Int) (n : Nat) : List V := (List.range n).map fun i => V.int (a + (i : Nat) * c)
theorem rg3_length (a c : Int) (n : Nat) : (rg3 a c n).length = n := by
  simp [rg3]
def R3 (a b c : Int) (n : Nat) : Prop :=
  c ≠ 0 ∧ c.natAbs.log2 < 9000 ∧ Builtin.Range.small a b c = true ∧ Builtin.Range.rangeSize a b c = n ∧ n ≤ 2 ^ 24
def tLst3 (ta : TA) : TE := fun σ H Q => ta σ H fun vs H1 => ∃ (a b c : Int) (n : Nat), vs = [.int a, .int b, .int c] ∧ R3 a b c n ∧
  ∀ q, H1 q = none → Q (.ref q) (upd H1 q (.lst (rg3 a c n)))
theorem pe_lst3 {p p2 pos pos2 : Pos} (calm : X.calm = true) (gl : Gl X "list") (nl : X.mg "list" = none) (gr : Gl X "range") (nr : X.mg "range" = none) (args : PA X [a, b, c] ta)
    (one : starEach [a, b, c] X.env = (false, eval a X.env) :: starEach [b, c] X.env := by rfl) (nostar : (backTo pos2 (starEach [b, c] X.env)).any (·.1) = false := by rfl)
    (whole : starEach [.Call (.Name "range" p2) [a, b, c] [] pos2] X.env = (false, eval (.Call (.Name "range" p2) [a, b, c] [] pos2) X.env) :: starEach [] X.env := by rfl) :
    PE X (.Call (.Name "list" p) [.Call (.Name "range" p2) [a, b, c] [] pos2] [] pos) (tLst3 ta) := by
  constructor
  intro pins s σ H Q I read
  refine Call_ (ld_blt I gl nl boot_list (PyProof.Rows.callWith_type1 (args_cons (Call_ (ld_blt I gr nr boot_range (PyProof.Rows.callWith_type1 (thn (args.run pos2 pins s σ H _ I read) fun us s1 y => ?_) one nostar))) whole) whole))
  obtain ⟨zs, H1, J, rel, i, j, k, n, e, ⟨c0, c1, c2, c3, c4⟩, h⟩ := y
  subst e
  match us, rel with
  | [_, _, _], .cons ⟨t, ei⟩ (.cons ⟨u, ej⟩ (.cons ⟨v, ek⟩ .nil)) =>
    subst ei
    subst ej
    subst ek
    refine call_range_3 c0 (args_nil ?_) (.inl (PyProof.noPylong_of_log2 c1))
    obtain ⟨hx, ehx⟩ : ∃ hx, hx = s1.heap.push { cls := .type "range", data := .fields #[.int i t, .int j u, .int k v] } := ⟨_, rfl⟩
    have J2 : Inv X pins σ H1 { s1 with heap := hx } := by
      rw [ehx]
      exact J.kept (t' := s1.toks) fun _ _ z => Heap.get?_push_of_some _ z
    rw [← ehx]
    refine call_list_range (s := { s1 with heap := hx }) (n := n) (J2.ok.hd calm) (by rw [ehx]; exact IsRange.new ..) c2 c3 c4 fun h' tk acc cc kp made items => ?_
    have len : acc.toList.length = n := Array.length_toList.trans items.1
    have vals : Vals (rg3 i k n) acc.toList := by
      have z := vals_of_get acc.toList (fun m : Nat => V.int (i + m * k)) fun m w hw => by
        obtain ⟨tw, ew⟩ := items.2 m w (by rw [← hw, Array.getElem?_toList])
        exact ⟨tw, ew⟩
      rw [len] at z
      exact z
    refine ⟨.ref hx.objs.size, upd H1 hx.objs.size (.lst (rg3 i k n)), J2.laid kp (Nat.le_refl _) (show ObjOk X.prog X.w _ _ _ (.lst (rg3 i k n)) from ⟨?_, acc.toList, cc, vals, ?_⟩), rfl, h _ (J2.hok.fresh (Nat.le_refl _))⟩
    · rw [rg3_length, sizeLine_eq]
      omega
    · rw [Array.toArray_toList]
      exact made
end

/-! ### lists of ints, compared -/
theorem dp_ints {K : PySem.W.Frag} {H : Hp} : ∀ ns : List Int, DpAll K H (ns.map V.int) (ns.map PyData.int)
  | [] => .nil
  | n :: r => .cons (.int n) (dp_ints r)
theorem lay_ints : ∀ ns : List Int, PyData.canLayAll0 (ns.map PyData.int) = true
  | [] => rfl
  | n :: r => by
    show (true && PyData.canLayAll0 (r.map PyData.int)) = true
    rw [lay_ints r]
    rfl
theorem depth_ints : ∀ ns : List Int, PyData.depthAll (ns.map PyData.int) = 0
  | [] => rfl
  | n :: r => by
    show max 0 (PyData.depthAll (r.map PyData.int)) = 0
    rw [depth_ints r]
    rfl
theorem shaped_ints (ns : List Int) : SeqAt.shaped (.list (ns.map PyData.int)) = true := by
  unfold SeqAt.shaped
  have h1 : PyData.canLay0 (.list (ns.map PyData.int)) = true := lay_ints ns
  have h2 : PyData.depth (.list (ns.map PyData.int)) = 1 := by
    show PyData.depthAll (ns.map PyData.int) + 1 = 1
    rw [depth_ints]
  rw [h1, h2]
  rfl
theorem eqv_ints : ∀ ns : List Int, PyData.eqvAll (ns.map PyData.int) (ns.map PyData.int) = true
  | [] => rfl
  | n :: r => by
    show ((n == n) && PyData.eqvAll (r.map PyData.int) (r.map PyData.int)) = true
    rw [eqv_ints r, beq_self_eq_true]
    rfl
theorem dp_lst {K : PySem.W.Frag} {H : Hp} {a : Addr} {ns : List Int} (h : SqL K H a (ns.map V.int)) : Dp K H (.ref a) (.list (ns.map PyData.int)) := .lst h (dp_ints ns)
end Tg

namespace Tg
open PySem PySem.Spec PyProof.Rows L2
/-! ### defs, methods and classes as a caller needs them -/
section
variable (P : Program) (w : World) (K : PySem.W.Frag) (mg : Str → Option Value) (base : Heap)
/-- the def x is there, and keeps sp by level k -/
def Cal (k : Nat) (x : Str) (ps : List Str) (sp : Sp) : Prop := ∃ f fd, FnOk P w K mg base CX0 k f fd ps sp ∧ mg x = some (.ref f) ∧ PySem.W.keepIn K (.ref f) = true ∧ Binds K fd ps []
/-- the places that is tells, out of a list -/
def prm {α : Type} (is : List Nat) (zs : List α) : List α := is.filterMap fun i => zs[i]?
/-- the same with keywords alone, ks in this order; is: the places of the parameters among them -/
def CalK (k : Nat) (x : Str) (ps ks : List Str) (is : List Nat) (sp : Sp) : Prop := ∃ f fd, FnOk P w K mg base CX0 k f fd ps sp ∧ mg x = some (.ref f) ∧ PySem.W.keepIn K (.ref f) = true ∧ KBn K fd ps 0 ks (fun _ ws => prm is ws) (fun _ zs => prm is zs)
/-- a method of the class C -/
def CalM (k : Nat) (C : Addr) (m : Str) (ps : List Str) (sp : Sp) : Prop := ∃ f fd, FnOk P w K mg base CX0 k f fd ps sp ∧ Meth K C m f ∧ Binds K fd ps []
def CalMK (k : Nat) (C : Addr) (m : Str) (ps ks : List Str) (is : List Nat) (sp : Sp) : Prop := ∃ f fd, FnOk P w K mg base CX0 k f fd ps sp ∧ Meth K C m f ∧ KBn K fd ps 1 ks (fun us ws => us ++ prm is ws) (fun vs zs => vs ++ prm is zs)
/-- a class, by its __init__ -/
def CalC (k : Nat) (x : Str) (C : Addr) (ps : List Str) (sp : Sp) : Prop := ∃ f fd, FnOk P w K mg base CX0 k f fd ps sp ∧ mg x = some (.ref C) ∧ Mk K C f ∧ Binds K fd ps []
end
theorem vals_at : ∀ {zs : List V} {ws : List Value}, Vals zs ws → ∀ i : Nat, (zs[i]? = none ∧ ws[i]? = none) ∨ ∃ z w, zs[i]? = some z ∧ ws[i]? = some w ∧ RelV z w
  | _, _, .nil, i => .inl ⟨by simp, by simp⟩
  | _, _, .cons a b, i => by
    cases i with
    | zero => exact .inr ⟨_, _, rfl, rfl, a⟩
    | succ i => exact vals_at b i
theorem prm_rel {zs : List V} {ws : List Value} (h : Vals zs ws) : ∀ is : List Nat, Vals (prm is zs) (prm is ws)
  | [] => .nil
  | i :: r => by
    have ih := prm_rel h r
    unfold prm at ih ⊢
    rcases vals_at h i with ⟨h1, h2⟩ | ⟨z, w, h1, h2, h3⟩
    · rw [List.filterMap_cons_none h1, List.filterMap_cons_none h2]
      exact ih
    · rw [List.filterMap_cons_some h1, List.filterMap_cons_some h2]
      exact .cons h3 ih
section
variable {X : Cx} {k : Nat} {ps ks : List Str} {is : List Nat} {sp : Sp} {x m : Str} {C : Addr} {o e : Expr} {es : List Expr} {p pos apos : Pos} {kws : List Keyword} {ta t tk : TA} {to : TE}
theorem pe_cal (c : Cal X.prog X.w X.K X.mg X.base k x ps sp) (hr : Room k X.A) (gl : Gl X x) (ha : PA X (e :: es) t) (hdb : (x == ("__debug__" : Str)) = false := by decide)
    (he : starEach (e :: es) X.env = (false, eval e X.env) :: starEach es X.env := by rfl) (hpl : (backTo pos (starEach es X.env)).any (·.1) = false := by rfl) : PE X (.Call (.Name x p) (e :: es) [] pos) (tCall sp [] E0 t) := by
  obtain ⟨f, fd, F, hm, hk, hb⟩ := c
  exact pe_call F hr gl hm hk hb .nil pass0 ha hdb he hpl
theorem pe_calK (c : CalK X.prog X.w X.K X.mg X.base k x ps ks is sp) (hr : Room k X.A) (gl : Gl X x) (vals : PK X kws tk)
    (named : (backToKw pos (keywordEach kws X.env)).all (·.1.isSome) = true := by rfl) (names : (backToKw pos (keywordEach kws X.env)).filterMap (·.1) = ks := by rfl) (nodebug : (x == ("__debug__" : Str)) = false := by decide)
    (nostar : ((backTo pos (starEach [] X.env)).any (·.1) || (backToKw pos (keywordEach kws X.env)).any (·.1.isNone)) = false := by rfl) :
    PE X (.Call (.Name x p) [] kws pos) (tKw0 ks.length sp (fun _ zs => prm is zs) E0 tk) := by
  obtain ⟨f, fd, F, hm, hk, hb⟩ := c
  exact pe_kw0 F hr gl hm hk hb pass0 vals named names nodebug nostar
theorem pe_calM {pl : Sem Bool} (he : PE X o to) (cl : Cls X.K C) (c : CalM X.prog X.w X.K X.mg X.base k C m ps sp) (hr : Room k X.A) (ha : PA X (e :: es) t)
    (hst : starEach (e :: es) X.env = (false, eval e X.env) :: starEach es X.env := by rfl) (hpl : (backTo pos (starEach es X.env)).any (·.1) = false := by rfl) (ht : eval (.Call (.Attribute o m apos) (e :: es) [] pos) X.env = (do let ov ← eval o X.env; standAt apos.atName; let (f, first) ← holding [ov] (getMethod ov m pl); callWith pos f first (backTo pos (starEach (e :: es) X.env)) (backToKw pos (keywordEach [] X.env))) := by rfl) :
    PE X (.Call (.Attribute o m apos) (e :: es) [] pos) (tMeth C m sp [] E0 to t) := by
  obtain ⟨f, fd, F, hm, hb⟩ := c
  exact pe_meth (pl := pl) he cl hm F hr hb .nil pass0 ha hst hpl ht
theorem pe_calM0 {pl : Sem Bool} (he : PE X o to) (cl : Cls X.K C) (c : CalM X.prog X.w X.K X.mg X.base k C m ps sp) (hr : Room k X.A)
    (ht : eval (.Call (.Attribute o m apos) [] [] pos) X.env = (do let ov ← eval o X.env; standAt apos.atName; let (f, first) ← holding [ov] (getMethod ov m pl); callWith pos f first (backTo pos (starEach [] X.env)) (backToKw pos (keywordEach [] X.env))) := by rfl) :
    PE X (.Call (.Attribute o m apos) [] [] pos) (tMeth C m sp [] E0 to tNil) := by
  obtain ⟨f, fd, F, hm, hb⟩ := c
  exact pe_meth0 (pl := pl) he cl hm F hr hb .nil pass0 ht
/-- o.m(k = v, ..) -/
def tMethK (C : Addr) (m : Str) (n : Nat) (sp : Sp) (is : List Nat) (E : XK) (to : TE) (tk : TA) : TE := fun σ H Q => to σ H fun x H1 => ∃ a dx fs, x = .ref a ∧ H1 a = some (.ins C dx fs) ∧ fs.lookup m = none ∧ tk σ H1 fun zs H2 => zs.length = n ∧ sp (x :: prm is zs) H2 Q E
theorem pe_calMK {pl : Sem Bool} (he : PE X o to) (cl : Cls X.K C) (c : CalMK X.prog X.w X.K X.mg X.base k C m ps ks is sp) (hr : Room k X.A) (vals : PK X kws tk)
    (named : (backToKw pos (keywordEach kws X.env)).all (·.1.isSome) = true := by rfl) (names : (backToKw pos (keywordEach kws X.env)).filterMap (·.1) = ks := by rfl)
    (nostar : ((backTo pos (starEach [] X.env)).any (·.1) || (backToKw pos (keywordEach kws X.env)).any (·.1.isNone)) = false := by rfl)
    (ht : eval (.Call (.Attribute o m apos) [] kws pos) X.env = (do let ov ← eval o X.env; standAt apos.atName; let (f, first) ← holding [ov] (getMethod ov m pl); callWith pos f first (backTo pos (starEach [] X.env)) (backToKw pos (keywordEach kws X.env))) := by rfl) :
    PE X (.Call (.Attribute o m apos) [] kws pos) (tMethK C m ks.length sp is E0 to tk) := by
  obtain ⟨f, fd, F, hm, hb⟩ := c
  constructor
  intro pins s σ H Q I read
  refine PySem.W.methodCall_KW (pl := pl) (thn (he.run pins s σ H _ I read) fun u s1 ⟨x, H1, I1, rx, a, dx, fs, ex, ea, l, q⟩ => ?_) ht
  subst ex
  obtain rfl : u = .ref a := rx
  refine getmeth_ok I1 ea cl hm l ?_
  refine PySem.W.callWith_KW0 (first := [.ref a]) (h₀ := X.base) I.ok.mod.kin hm.kp named (thn (vals.run pos pins s1 σ H1 _ I1 q) fun ws s2 y => ?_) nostar
  obtain ⟨zs, H2, J, rel, many, h⟩ := y
  rw [names]
  exact ⟨J.kIn, run_fnN (E := E0) (us := [.ref a]) (vs := [.ref a]) F hr hb pass0 J (.cons rfl .nil) rel rfl many h⟩
theorem pe_calC0 (c : CalC X.prog X.w X.K X.mg X.base k x C ps sp) (hr : Room (k + 1) X.A) (gl : Gl X x) (hdb : (x == ("__debug__" : Str)) = false := by decide) : PE X (.Call (.Name x p) [] [] pos) (tMake C sp [] E0 tNil) := by
  obtain ⟨f, fd, F, hm, M, hb⟩ := c
  exact pe_make0 M F hr gl hm hb .nil pass0 hdb
theorem pe_calC (c : CalC X.prog X.w X.K X.mg X.base k x C ps sp) (hr : Room (k + 1) X.A) (gl : Gl X x) (ha : PA X (e :: es) t) (hdb : (x == ("__debug__" : Str)) = false := by decide)
    (he : starEach (e :: es) X.env = (false, eval e X.env) :: starEach es X.env := by rfl) (hpl : (backTo pos (starEach es X.env)).any (·.1) = false := by rfl) : PE X (.Call (.Name x p) (e :: es) [] pos) (tMake C sp [] E0 t) := by
  obtain ⟨f, fd, F, hm, M, hb⟩ := c
  exact pe_make M F hr gl hm hb .nil pass0 ha hdb he hpl
end
end Tg

namespace Tg
open PySem PySem.Spec PyProof.Rows L2
/-! ### the heap: what stands -/
/-- all but p stands as it stood -/
def Kp (p : Addr) (H H' : Hp) : Prop := ∀ b o, b ≠ p → H b = some o → H' b = some o
theorem Kp.refl (p : Addr) (H : Hp) : Kp p H H := fun _ _ _ h => h
theorem Kp.trans {p : Addr} {H H1 H2 : Hp} (a : Kp p H H1) (b : Kp p H1 H2) : Kp p H H2 := fun c o hc h => b c o hc (a c o hc h)
theorem Kp.of {p : Addr} {H H' : Hp} (s : Same H H') : Kp p H H' := fun c o _ h => s c o h
theorem Kp.put {p : Addr} {H : Hp} {o : HO} : Kp p H (upd H p o) := fun c u hc h => by
  rw [upd_ne hc]
  exact h
/-- what is new stays apart -/
theorem Kp.same {p : Addr} {H H1 H2 : Hp} (s : Same H H1) (n : H p = none) (k : Kp p H1 H2) : Same H H2 := fun b o h => k b o (ne_of_none h n) (s b o h)
theorem same_new {H : Hp} {p : Addr} {o : HO} (h : H p = none) : Same H (upd H p o) := fun b x e => by
  rw [upd_ne (ne_of_none e h)]
  exact e
theorem same_put {H H' : Hp} {D : Addr} {o : HO} (n : H D = none) (s : Same H H') : Same H (upd H' D o) := fun b x e => by
  rw [upd_ne (ne_of_none e n)]
  exact s _ _ e
/-- what can't be changed: tuples, and what is locked -/
def Fix : HO → Prop
  | .tup _ => True
  | .frz _ _ => True
  | _ => False
/-- all that can't be changed stands -/
def KT (H H' : Hp) : Prop := ∀ a o, Fix o → H a = some o → H' a = some o
theorem KT.refl (H : Hp) : KT H H := fun _ _ _ h => h
theorem KT.trans {H H1 H2 : Hp} (a : KT H H1) (b : KT H1 H2) : KT H H2 := fun c o f h => b c o f (a c o f h)
theorem KT.of {H H' : Hp} (s : Same H H') : KT H H' := fun c o _ h => s c o h
theorem KT.kp {p : Addr} {H H' : Hp} {o : HO} (k : Kp p H H') (h : H p = some o) (n : ¬ Fix o) : KT H H' := fun a u f e => k a u (fun z => n (by
  rw [z, h] at e
  cases e
  exact f)) e
theorem KT.put {p : Addr} {H : Hp} {o u : HO} (h : H p = some o) (n : ¬ Fix o) : KT H (upd H p u) := KT.kp Kp.put h n
theorem KT.new {p : Addr} {H : Hp} {u : HO} (h : H p = none) : KT H (upd H p u) := KT.of (same_new h)
theorem nfix_lst {xs : List V} : ¬ Fix (.lst xs) := fun z => z
theorem nfix_dK {xs : List (Key × V)} : ¬ Fix (.dK xs) := fun z => z
theorem nfix_ins {C dx : Addr} {fs : List (Str × V)} : ¬ Fix (.ins C dx fs) := fun z => z
/-! ### data -/
theorem rd_same {H H' : Hp} {a : Addr} {o : HO} (s : Same H H') (h : Rd H a o) : Rd H' a o := by
  rcases h with h | ⟨ob, h⟩
  · exact .inl (s _ _ h)
  · exact .inr ⟨ob, s _ _ h⟩
theorem sqL_same {K : PySem.W.Frag} {H H' : Hp} {a : Addr} {xs : List V} (s : Same H H') (h : SqL K H a xs) : SqL K H' a xs := h.imp (rd_same s) id
theorem sqT_same {K : PySem.W.Frag} {H H' : Hp} {a : Addr} {xs : List V} (s : Same H H') (h : SqT K H a xs) : SqT K H' a xs := h.imp (rd_same s) id
theorem sqT_kt {K : PySem.W.Frag} {H H' : Hp} {a : Addr} {xs : List V} (s : KT H H') (h : SqT K H a xs) : SqT K H' a xs := by
  refine h.imp (fun h => ?_) id
  rcases h with h | ⟨ob, h⟩
  · exact .inl (s _ _ trivial h)
  · exact .inr ⟨ob, s _ _ trivial h⟩
mutual
theorem dp_same {K : PySem.W.Frag} {H H' : Hp} (s : Same H H') : ∀ {x : V} {d : PyData}, Dp K H x d → Dp K H' x d
  | _, _, .non => .non
  | _, _, .bl b => .bl b
  | _, _, .int i => .int i
  | _, _, .str z => .str z
  | _, _, .lst a b => .lst (sqL_same s a) (dpAll_same s b)
  | _, _, .tup a b => .tup (sqT_same s a) (dpAll_same s b)
theorem dpAll_same {K : PySem.W.Frag} {H H' : Hp} (s : Same H H') : ∀ {xs : List V} {ds : List PyData}, DpAll K H xs ds → DpAll K H' xs ds
  | _, _, .nil => .nil
  | _, _, .cons a b => .cons (dp_same s a) (dpAll_same s b)
end
/-- no list and no dict in it -/
inductive TD : PyData → Prop
  | non : TD .none
  | bl (b : Bool) : TD (.bool b)
  | int (i : Int) : TD (.int i)
  | str (z : Str) : TD (.str z)
  | tup {ds : List PyData} : (∀ d, d ∈ ds → TD d) → TD (.tuple ds)
mutual
theorem dp_kt {K : PySem.W.Frag} {H H' : Hp} (s : KT H H') : ∀ {x : V} {d : PyData}, Dp K H x d → TD d → Dp K H' x d
  | _, _, .non, _ => .non
  | _, _, .bl b, _ => .bl b
  | _, _, .int i, _ => .int i
  | _, _, .str z, _ => .str z
  | _, _, .lst _ _, t => nomatch t
  | _, _, .tup a b, .tup t => .tup (sqT_kt s a) (dpAll_kt s b t)
theorem dpAll_kt {K : PySem.W.Frag} {H H' : Hp} (s : KT H H') : ∀ {xs : List V} {ds : List PyData}, DpAll K H xs ds → (∀ d, d ∈ ds → TD d) → DpAll K H' xs ds
  | _, _, .nil, _ => .nil
  | _, _, .cons a b, t => .cons (dp_kt s a (t _ List.mem_cons_self)) (dpAll_kt s b fun d hd => t d (List.mem_cons_of_mem _ hd))
end
theorem dpAll_len {K : PySem.W.Frag} {H : Hp} : ∀ {xs : List V} {ds : List PyData}, DpAll K H xs ds → xs.length = ds.length
  | _, _, .nil => rfl
  | _, _, .cons _ b => congrArg Nat.succ (dpAll_len b)
theorem dpAll_at {K : PySem.W.Frag} {H : Hp} : ∀ {xs : List V} {ds : List PyData}, DpAll K H xs ds → ∀ (i : Nat) (x : V), xs[i]? = some x → ∃ d, ds[i]? = some d ∧ Dp K H x d
  | _, _, .nil => fun i x h => by simp at h
  | _, _, .cons a b => fun i x h => by
    cases i with
    | zero =>
      simp only [Option.some.injEq, List.getElem?_cons_zero] at h
      subst h
      exact ⟨_, rfl, a⟩
    | succ i =>
      rw [List.getElem?_cons_succ] at h ⊢
      exact dpAll_at b i x h
theorem dpAll_tk {K : PySem.W.Frag} {H : Hp} : ∀ {xs : List V} {ds : List PyData}, DpAll K H xs ds → ∀ (i : Nat) (d : PyData), ds[i]? = some d → ∃ x, xs[i]? = some x ∧ Dp K H x d
  | _, _, .nil => fun i x h => by simp at h
  | _, _, .cons a b => fun i x h => by
    cases i with
    | zero =>
      simp only [Option.some.injEq, List.getElem?_cons_zero] at h
      subst h
      exact ⟨_, rfl, a⟩
    | succ i =>
      rw [List.getElem?_cons_succ] at h ⊢
      exact dpAll_tk b i x h
theorem dpAll_app {K : PySem.W.Frag} {H : Hp} : ∀ {xs ys : List V} {ds es : List PyData}, DpAll K H xs ds → DpAll K H ys es → DpAll K H (xs ++ ys) (ds ++ es)
  | _, _, _, _, .nil, h => h
  | _, _, _, _, .cons a b, h => .cons a (dpAll_app b h)
theorem dpAll_snoc {K : PySem.W.Frag} {H : Hp} {xs : List V} {ds : List PyData} {y : V} {e : PyData} (h : DpAll K H xs ds) (a : Dp K H y e) : DpAll K H (xs ++ [y]) (ds ++ [e]) := dpAll_app h (.cons a .nil)
/-- a list of data that can't be changed itself -/
def LD (K : PySem.W.Frag) (H : Hp) (a : Addr) (ds : List PyData) : Prop := ∃ xs, H a = some (.lst xs) ∧ DpAll K H xs ds
theorem LD.dp {K : PySem.W.Frag} {H : Hp} {a : Addr} {ds : List PyData} (h : LD K H a ds) : Dp K H (.ref a) (.list ds) := by
  obtain ⟨xs, h1, h2⟩ := h
  exact .lst (SqL.of h1) h2
theorem LD.same {K : PySem.W.Frag} {H H' : Hp} {a : Addr} {ds : List PyData} (s : Same H H') (h : LD K H a ds) : LD K H' a ds := by
  obtain ⟨xs, h1, h2⟩ := h
  exact ⟨xs, s _ _ h1, dpAll_same s h2⟩
/-- where the list itself stands and all tuples do -/
theorem LD.kt {K : PySem.W.Frag} {H H' : Hp} {a : Addr} {ds : List PyData} (s : KT H H') (e : ∀ o, H a = some o → H' a = some o) (t : ∀ d, d ∈ ds → TD d) (h : LD K H a ds) : LD K H' a ds := by
  obtain ⟨xs, h1, h2⟩ := h
  exact ⟨xs, e _ h1, dpAll_kt s h2 t⟩
theorem LD.kp {K : PySem.W.Frag} {H H' : Hp} {a p : Addr} {o : HO} {ds : List PyData} (k : Kp p H H') (hp : H p = some o) (n : ¬ Fix o) (ne : a ≠ p) (t : ∀ d, d ∈ ds → TD d) (h : LD K H a ds) : LD K H' a ds :=
  h.kt (KT.kp k hp n) (fun u e => k _ _ ne e) t
/-- one more at the end -/
theorem LD.snoc {K : PySem.W.Frag} {H H1 : Hp} {a : Addr} {xs : List V} {ds : List PyData} {y : V} {e : PyData} (k : KT H H1) (h1 : H1 a = some (.lst xs)) (hd : DpAll K H xs ds) (t : ∀ d, d ∈ ds → TD d) (hy : Dp K H1 y e) (te : TD e) :
    LD K (upd H1 a (.lst (xs ++ [y]))) a (ds ++ [e]) :=
  ⟨_, upd_same, dpAll_snoc (dpAll_kt (k.trans (KT.put h1 nfix_lst)) hd t) (dp_kt (KT.put h1 nfix_lst) hy te)⟩
theorem shaped_of {d : PyData} (h1 : d.canLay0 = true) (h2 : d.depth ≤ 64) : SeqAt.shaped d = true := by
  unfold SeqAt.shaped
  rw [h1, decide_eq_true h2]
  rfl
theorem if_f {A B : Prop} (h : B) : if false = true then A else B := by
  rw [if_neg (by decide)]
  exact h
theorem if_t {A B : Prop} (h : A) : if true = true then A else B := by
  rw [if_pos rfl]
  exact h
theorem atI_mem {xs : List Int} {i : Int} (h0 : 0 ≤ i) (h1 : i < xs.length) : ∃ v, v ∈ xs ∧ atI (xs.map V.int) i = some (.int v) := by
  have hn : i.toNat < xs.length := by omega
  obtain ⟨j, rfl⟩ : ∃ j : Nat, i = (j : Int) := ⟨i.toNat, by omega⟩
  have hj : j < xs.length := by omega
  refine ⟨xs[j], List.getElem_mem hj, atI_nat ?_⟩
  rw [List.getElem?_map, List.getElem?_eq_getElem hj]
  rfl
end Tg

namespace Tg
open PySem L2
/-! ### rows: time, number, worth or none -/
abbrev Rw := Int × Int × Option Int
def Lt (x y : Rw) : Prop := x.1 < y.1 ∨ (x.1 = y.1 ∧ x.2.1 < y.2.1)
def Srt (rs : List Rw) : Prop := rs.Pairwise Lt
theorem Lt.irr (x : Rw) : ¬ Lt x x := fun h => by
  rcases h with h | h
  · omega
  · omega
theorem Srt.sub {rs : List Rw} (h : Srt rs) (p : Rw → Bool) : Srt (rs.filter p) := List.Pairwise.filter p h
/-- r is the last row of its time with a number up to n -/
def IsLast (rs : List Rw) (n : Int) (r : Rw) : Prop := r ∈ rs ∧ r.2.1 ≤ n ∧ ∀ q, q ∈ rs → q.1 = r.1 → q.2.1 ≤ n → q.2.1 ≤ r.2.1
theorem srt_tri {rs : List Rw} (h : Srt rs) {a b : Rw} (ha : a ∈ rs) (hb : b ∈ rs) : a = b ∨ Lt a b ∨ Lt b a := by
  induction rs with
  | nil => cases ha
  | cons x r ih =>
    have ⟨h1, h2⟩ := List.pairwise_cons.mp (show (x :: r).Pairwise Lt from h)
    rcases List.mem_cons.mp ha with e1 | a1
    · rcases List.mem_cons.mp hb with e2 | b1
      · exact .inl (e1.trans e2.symm)
      · rw [e1]
        exact .inr (.inl (h1 b b1))
    · rcases List.mem_cons.mp hb with e2 | b1
      · rw [e2]
        exact .inr (.inr (h1 a a1))
      · exact ih h2 a1 b1
theorem srt_same {rs : List Rw} (h : Srt rs) {a b : Rw} (ha : a ∈ rs) (hb : b ∈ rs) (e1 : a.1 = b.1) (e2 : a.2.1 = b.2.1) : a = b := by
  rcases srt_tri h ha hb with e | (e | e) | (e | e)
  · exact e
  · omega
  · omega
  · omega
  · omega
theorem last_uniq {rs : List Rw} (h : Srt rs) {n : Int} {a b : Rw} (ha : IsLast rs n a) (hb : IsLast rs n b) (e : a.1 = b.1) : a = b := by
  have h1 := ha.2.2 b hb.1 e.symm hb.2.1
  have h2 := hb.2.2 a ha.1 e ha.2.1
  exact srt_same h ha.1 hb.1 e (by omega)
theorem Srt.nodup {rs : List Rw} (h : Srt rs) : rs.Nodup := by
  unfold List.Nodup
  refine List.Pairwise.imp (fun {a b} (l : Lt a b) => ?_) h
  intro e
  rw [← e] at l
  exact Lt.irr a l
/-! ### tables by times -/
def putL {α : Type} (m : List (Int × α)) (t : Int) (a : α) : List (Int × α) := if (m.any fun p => decide (p.1 = t)) = true then m.map (fun p => if p.1 = t then (p.1, a) else p) else m ++ [(t, a)]
theorem mem_putL {α : Type} {m : List (Int × α)} {t : Int} {a : α} {p : Int × α} : p ∈ putL m t a ↔ p = (t, a) ∨ (p ∈ m ∧ ¬ p.1 = t) := by
  unfold putL
  by_cases c : (m.any fun p => decide (p.1 = t)) = true
  · rw [if_pos c]
    obtain ⟨q, hq, eq⟩ := List.any_eq_true.mp c
    have eq := of_decide_eq_true eq
    constructor
    · intro h
      obtain ⟨x, hx, e⟩ := List.mem_map.mp h
      by_cases d : x.1 = t
      · rw [if_pos d, d] at e
        exact .inl e.symm
      · rw [if_neg d] at e
        subst e
        exact .inr ⟨hx, d⟩
    · rintro (rfl | ⟨h1, h2⟩)
      · exact List.mem_map.mpr ⟨q, hq, by rw [if_pos eq, eq]⟩
      · exact List.mem_map.mpr ⟨p, h1, by rw [if_neg h2]⟩
  · rw [if_neg c]
    constructor
    · intro there
      rcases List.mem_append.mp there with old | new
      · exact .inr ⟨old, fun z => c (List.any_eq_true.mpr ⟨p, old, decide_eq_true z⟩)⟩
      · exact .inl (List.mem_singleton.mp new)
    · rintro (rfl | ⟨h1, h2⟩)
      · exact List.mem_append_right _ (List.mem_singleton.mpr rfl)
      · exact List.mem_append_left _ h1
theorem putL_keys {α : Type} {m : List (Int × α)} {t : Int} {a : α} (h : m.Pairwise fun x y => x.1 < y.1) (le : ∀ p, p ∈ m → p.1 ≤ t) : (putL m t a).Pairwise fun x y => x.1 < y.1 := by
  unfold putL
  by_cases c : (m.any fun p => decide (p.1 = t)) = true
  · rw [if_pos c, List.pairwise_map]
    refine h.imp fun {x y} l => ?_
    by_cases d : x.1 = t
    · by_cases e : y.1 = t
      · rw [if_pos d, if_pos e]
        exact l
      · rw [if_pos d, if_neg e]
        exact l
    · by_cases e : y.1 = t
      · rw [if_neg d, if_pos e]
        exact l
      · rw [if_neg d, if_neg e]
        exact l
  · rw [if_neg c, List.pairwise_append]
    refine ⟨h, List.pairwise_singleton _ _, fun x hx y hy => ?_⟩
    rw [List.mem_singleton.mp hy]
    have h1 := le x hx
    have h2 : ¬ x.1 = t := fun z => c (List.any_eq_true.mpr ⟨x, hx, decide_eq_true z⟩)
    show x.1 < t
    omega
theorem putL_len {α : Type} {m : List (Int × α)} {t : Int} {a : α} : (putL m t a).length ≤ m.length + 1 := by
  unfold putL
  split
  · rw [List.length_map]
    omega
  · rw [List.length_append]
    exact Nat.le_refl _
/-- of each time the last row up to a number -/
def lwR (rs : List Rw) (n : Int) : List (Int × Rw) := rs.foldl (fun m r => if r.2.1 ≤ n then putL m r.1 r else m) []
theorem lwR_snoc (rs : List Rw) (n : Int) (r : Rw) : lwR (rs ++ [r]) n = if r.2.1 ≤ n then putL (lwR rs n) r.1 r else lwR rs n := by
  unfold lwR
  rw [List.foldl_append]
  rfl
theorem lwR_len (rs : List Rw) (n : Int) : (lwR rs n).length ≤ rs.length := by
  obtain ⟨k, hk⟩ : ∃ k, rs.length = k := ⟨_, rfl⟩
  induction k generalizing rs with
  | zero =>
    rw [List.length_eq_zero_iff.mp hk]
    exact Nat.le_refl _
  | succ k ih =>
    rcases List.eq_nil_or_concat rs with rfl | ⟨q, x, e⟩
    · exact Nat.zero_le _
    · rw [List.concat_eq_append] at e
      subst e
      rw [List.length_append] at hk ⊢
      have i1 := ih q (by simp at hk; exact hk)
      rw [lwR_snoc]
      have := putL_len (m := lwR q n) (t := x.1) (a := x)
      show _ ≤ q.length + 1
      split <;> omega
theorem lwR_is {n : Int} (rs : List Rw) (h : Srt rs) : ((lwR rs n).Pairwise fun x y => x.1 < y.1) ∧ ∀ p : Int × Rw, p ∈ lwR rs n ↔ p.1 = p.2.1 ∧ IsLast rs n p.2 := by
  obtain ⟨k, hk⟩ : ∃ k, rs.length = k := ⟨_, rfl⟩
  induction k generalizing rs with
  | zero =>
    rw [List.length_eq_zero_iff.mp hk]
    exact ⟨.nil, fun p => ⟨(fun z => absurd z List.not_mem_nil), (fun z => absurd z.2.1 List.not_mem_nil)⟩⟩
  | succ k ih =>
    rcases List.eq_nil_or_concat rs with rfl | ⟨q, x, e⟩
    · exact ⟨.nil, fun p => ⟨(fun z => absurd z List.not_mem_nil), (fun z => absurd z.2.1 List.not_mem_nil)⟩⟩
    · rw [List.concat_eq_append] at e
      subst e
      rw [List.length_append] at hk
      obtain ⟨h1, _, h3⟩ := List.pairwise_append.mp h
      have hx : ∀ y, y ∈ q → Lt y x := fun y hy => h3 y hy x (List.mem_singleton.mpr rfl)
      obtain ⟨i1, i2⟩ := ih q h1 (by simp at hk; exact hk)
      rw [lwR_snoc]
      by_cases c : x.2.1 ≤ n
      · rw [if_pos c]
        constructor
        · refine putL_keys i1 fun p hp => ?_
          obtain ⟨e1, e2⟩ := (i2 p).mp hp
          rcases hx p.2 e2.1 with l | l <;> omega
        · intro p
          rw [mem_putL]
          constructor
          · rintro (rfl | ⟨h4, h5⟩)
            · refine ⟨rfl, List.mem_append_right _ (List.mem_singleton.mpr rfl), c, fun y hy e4 _ => ?_⟩
              rcases List.mem_append.mp hy with h | h
              · rcases hx y h with l | l
                · have e4' : y.1 = x.1 := e4
                  omega
                · show y.2.1 ≤ x.2.1
                  omega
              · rw [List.mem_singleton.mp h]
                exact Int.le_refl _
            · obtain ⟨e1, e2, e3, e4⟩ := (i2 p).mp h4
              refine ⟨e1, List.mem_append_left _ e2, e3, fun y hy e5 e6 => ?_⟩
              rcases List.mem_append.mp hy with h | h
              · exact e4 y h e5 e6
              · rw [List.mem_singleton.mp h] at e5
                omega
          · rintro ⟨e1, e2, e3, e4⟩
            rcases List.mem_append.mp e2 with h | h
            · by_cases d : p.1 = x.1
              · exfalso
                have := e4 x (List.mem_append_right _ (List.mem_singleton.mpr rfl)) (by omega) c
                rcases hx p.2 h with l | l <;> omega
              · exact .inr ⟨(i2 p).mpr ⟨e1, h, e3, fun y hy => e4 y (List.mem_append_left _ hy)⟩, d⟩
            · left
              have e := List.mem_singleton.mp h
              obtain ⟨p1, p2⟩ := p
              have e' : p2 = x := e
              rw [e'] at e1 ⊢
              exact congrArg (fun z => (z, x)) e1
      · rw [if_neg c]
        refine ⟨i1, fun p => ?_⟩
        rw [i2 p]
        constructor
        · rintro ⟨e1, e2, e3, e4⟩
          refine ⟨e1, List.mem_append_left _ e2, e3, fun y hy e5 e6 => ?_⟩
          rcases List.mem_append.mp hy with h | h
          · exact e4 y h e5 e6
          · rw [List.mem_singleton.mp h] at e6
            exact absurd e6 c
        · rintro ⟨e1, e2, e3, e4⟩
          rcases List.mem_append.mp e2 with h | h
          · exact ⟨e1, h, e3, fun y hy => e4 y (List.mem_append_left _ hy)⟩
          · rw [List.mem_singleton.mp h] at e3
            exact absurd e3 c
/-- there is a last one -/
theorem last_of {rs : List Rw} (h : Srt rs) {n t : Int} {l : Rw} (e : (rs.filter fun q => decide (q.1 = t ∧ q.2.1 ≤ n)).getLast? = some l) : IsLast rs n l ∧ l.1 = t := by
  have ml := List.mem_of_getLast? e
  obtain ⟨m1, m2⟩ := List.mem_filter.mp ml
  obtain ⟨m3, m4⟩ := of_decide_eq_true m2
  refine ⟨⟨m1, m4, fun q hq e1 e2 => ?_⟩, m3⟩
  have mq : q ∈ rs.filter fun q => decide (q.1 = t ∧ q.2.1 ≤ n) := List.mem_filter.mpr ⟨hq, decide_eq_true ⟨by omega, e2⟩⟩
  have hs := h.sub fun q => decide (q.1 = t ∧ q.2.1 ≤ n)
  revert e mq hs
  generalize rs.filter (fun q => decide (q.1 = t ∧ q.2.1 ≤ n)) = fs
  intro e mq hs
  rcases List.eq_nil_or_concat fs with rfl | ⟨g, x, eg⟩
  · cases mq
  · rw [List.concat_eq_append] at eg
    subst eg
    rw [List.getLast?_concat] at e
    cases e
    rcases List.mem_append.mp mq with hg | hg
    · rcases (List.pairwise_append.mp hs).2.2 q hg l (List.mem_singleton.mpr rfl) with z | z <;> omega
    · rw [List.mem_singleton.mp hg]
      exact Int.le_refl _
theorem last_there {rs : List Rw} (h : Srt rs) {n : Int} {r : Rw} (hr : r ∈ rs) (hn : r.2.1 ≤ n) : ∃ l, IsLast rs n l ∧ l.1 = r.1 := by
  cases e : (rs.filter fun q => decide (q.1 = r.1 ∧ q.2.1 ≤ n)).getLast? with
  | some l => exact ⟨l, last_of h e⟩
  | none =>
    rw [List.getLast?_eq_none_iff] at e
    have : r ∈ rs.filter fun q => decide (q.1 = r.1 ∧ q.2.1 ≤ n) := List.mem_filter.mpr ⟨hr, decide_eq_true ⟨rfl, hn⟩⟩
    rw [e] at this
    cases this
/-! ### rising lists are told by their members -/
theorem ext_sorted {α : Type} {lt : α → α → Prop} (irr : ∀ a, ¬ lt a a) (tr : ∀ a b c, lt a b → lt b c → lt a c) : ∀ {xs ys : List α}, xs.Pairwise lt → ys.Pairwise lt → (∀ a, a ∈ xs ↔ a ∈ ys) → xs = ys
  | [], [], _, _, _ => rfl
  | [], y :: ys, _, _, h => nomatch (h y).mpr List.mem_cons_self
  | x :: xs, [], _, _, h => nomatch (h x).mp List.mem_cons_self
  | x :: xs, y :: ys, h1, h2, h => by
    obtain ⟨a1, a2⟩ := List.pairwise_cons.mp h1
    obtain ⟨b1, b2⟩ := List.pairwise_cons.mp h2
    have e : x = y := by
      rcases List.mem_cons.mp ((h x).mp List.mem_cons_self) with z | z
      · exact z
      · rcases List.mem_cons.mp ((h y).mpr List.mem_cons_self) with u | u
        · exact u.symm
        · exact absurd (tr _ _ _ (a1 y u) (b1 x z)) (irr x)
    subst e
    refine congrArg (x :: ·) (ext_sorted irr tr a2 b2 fun a => ?_)
    constructor
    · intro ha
      rcases List.mem_cons.mp ((h a).mp (List.mem_cons_of_mem _ ha)) with z | z
      · rw [z] at ha
        exact absurd (a1 x ha) (irr x)
      · exact z
    · intro ha
      rcases List.mem_cons.mp ((h a).mpr (List.mem_cons_of_mem _ ha)) with z | z
      · rw [z] at ha
        exact absurd (b1 x ha) (irr x)
      · exact z
/-! ### what is known -/
def kn (rs : List Rw) (n : Int) : List (Int × Int) := (lwR rs n).filterMap fun p => p.2.2.2.map fun w => (p.1, w)
theorem mem_kn {rs : List Rw} (h : Srt rs) {n : Int} {x : Int × Int} : x ∈ kn rs n ↔ ∃ r, IsLast rs n r ∧ r.1 = x.1 ∧ r.2.2 = some x.2 := by
  unfold kn
  rw [List.mem_filterMap]
  constructor
  · rintro ⟨p, hp, e⟩
    obtain ⟨e1, e2⟩ := ((lwR_is rs h).2 p).mp hp
    obtain ⟨w, e3, rfl⟩ := Option.map_eq_some_iff.mp e
    exact ⟨p.2, e2, e1.symm, e3⟩
  · rintro ⟨r, h1, h2, h3⟩
    refine ⟨(r.1, r), ((lwR_is rs h).2 _).mpr ⟨rfl, h1⟩, ?_⟩
    rw [h3, h2]
    rfl
theorem kn_srt {rs : List Rw} (h : Srt rs) (n : Int) : (kn rs n).Pairwise fun x y => x.1 < y.1 := by
  unfold kn
  rw [List.pairwise_filterMap]
  refine (lwR_is rs h).1.imp fun {a b} l x hx y hy => ?_
  obtain ⟨w, _, rfl⟩ := Option.map_eq_some_iff.mp hx
  obtain ⟨u, _, rfl⟩ := Option.map_eq_some_iff.mp hy
  exact l
theorem kn_len (rs : List Rw) (n : Int) : (kn rs n).length ≤ rs.length := Nat.le_trans (List.length_filterMap_le _ _) (lwR_len rs n)
theorem kn_ext {rs qs : List Rw} (h1 : Srt rs) (h2 : Srt qs) {n m : Int} (h : ∀ r, r.2.2 ≠ none → (IsLast rs n r ↔ IsLast qs m r)) : kn rs n = kn qs m := by
  refine ext_sorted (lt := fun x y => x.1 < y.1) (fun a => Int.lt_irrefl _) (fun a b c => Int.lt_trans) (kn_srt h1 n) (kn_srt h2 m) fun x => ?_
  rw [mem_kn h1, mem_kn h2]
  constructor
  · rintro ⟨r, a, b, c⟩
    exact ⟨r, (h r (by rw [c]; simp)).mp a, b, c⟩
  · rintro ⟨r, a, b, c⟩
    exact ⟨r, (h r (by rw [c]; simp)).mpr a, b, c⟩
/-! ### what is needed -/
instance (rs : List Rw) (n : Int) (r : Rw) : Decidable (IsLast rs n r) := by
  unfold IsLast
  exact inferInstance
def Need (rs : List Rw) (n : Int) (r : Rw) : Prop := n < r.2.1 ∨ (IsLast rs n r ∧ ¬ r.2.2 = none)
instance (rs : List Rw) (n : Int) (r : Rw) : Decidable (Need rs n r) := by
  unfold Need
  exact inferInstance
def fl (rs : List Rw) (n : Int) (r : Rw) : Bool := decide (Need rs n r)
def thin (rs : List Rw) (n : Int) : List Rw := rs.filter (fl rs n)
def ndl (rs : List Rw) (n : Int) : List Rw := rs.filter fun r => !fl rs n r
theorem thin_known {rs : List Rw} (h : Srt rs) {n m : Int} (le : n ≤ m) : kn (thin rs n) m = kn rs m := by
  refine kn_ext (h.sub _) h fun r hr => ?_
  constructor
  · rintro ⟨a1, a2, a3⟩
    obtain ⟨b1, b2⟩ := List.mem_filter.mp a1
    have b3 : Need rs n r := of_decide_eq_true b2
    refine ⟨b1, a2, fun q hq e1 e2 => ?_⟩
    by_cases c : n < q.2.1
    · exact a3 q (List.mem_filter.mpr ⟨hq, decide_eq_true (.inl c)⟩) e1 e2
    · rcases b3 with z | z
      · omega
      · exact z.1.2.2 q hq e1 (by omega)
  · rintro ⟨a1, a2, a3⟩
    refine ⟨List.mem_filter.mpr ⟨a1, decide_eq_true ?_⟩, a2, fun q hq e1 e2 => a3 q (List.mem_filter.mp hq).1 e1 e2⟩
    by_cases c : n < r.2.1
    · exact .inl c
    · exact .inr ⟨⟨a1, by omega, fun q hq e1 e2 => a3 q hq e1 (by omega)⟩, hr⟩
/-- a row left out is missed -/
theorem missed {rs : List Rw} (h : Srt rs) {n : Int} {row : Rw} (hm : row ∈ thin rs n) (hw : ¬ row.2.2 = none) {b : Int} (eb : b = max n row.2.1)
    (he : (((thin rs n).filter fun q => !decide (q = row)).filter fun q => decide (q.1 = row.1 ∧ q.2.1 ≤ b)).getLast?.map (·.2.2) ≠ some row.2.2) :
    kn ((thin rs n).filter fun q => !decide (q = row)) b ≠ kn (thin rs n) b := fun z => by
  have hl : Srt (thin rs n) := h.sub _
  have hf : Srt ((thin rs n).filter fun q => !decide (q = row)) := hl.sub _
  obtain ⟨w, ew⟩ : ∃ w, row.2.2 = some w := by
    cases e : row.2.2 with
    | none => exact absurd e hw
    | some w => exact ⟨w, rfl⟩
  have last : IsLast (thin rs n) b row := by
    refine ⟨hm, by omega, fun q hq e1 e2 => ?_⟩
    obtain ⟨m1, m2⟩ := List.mem_filter.mp hm
    have nd : Need rs n row := of_decide_eq_true m2
    rcases nd with c | c
    · omega
    · have := c.1.2.1
      exact c.1.2.2 q (List.mem_filter.mp hq).1 e1 (by omega)
  have m1 : (row.1, w) ∈ kn (thin rs n) b := (mem_kn hl).mpr ⟨row, last, rfl, ew⟩
  rw [← z, mem_kn hf] at m1
  obtain ⟨r, r1, r2, r3⟩ := m1
  cases e : (((thin rs n).filter fun q => !decide (q = row)).filter fun q => decide (q.1 = row.1 ∧ q.2.1 ≤ b)).getLast? with
  | none =>
    rw [List.getLast?_eq_none_iff] at e
    have : r ∈ ((thin rs n).filter fun q => !decide (q = row)).filter fun q => decide (q.1 = row.1 ∧ q.2.1 ≤ b) := List.mem_filter.mpr ⟨r1.1, decide_eq_true ⟨r2, r1.2.1⟩⟩
    rw [e] at this
    cases this
  | some l =>
    obtain ⟨l1, l2⟩ := last_of hf e
    have el := last_uniq hf r1 l1 (by rw [l2]; exact r2)
    refine he ?_
    rw [e, ← el, ew]
    exact congrArg some r3
/-! ### the tables as dicts -/
def lwV (f : Rw → V) (rs : List Rw) (n : Int) : List (Key × V) := rs.foldl (fun m r => if r.2.1 ≤ n then putK m (Sum.inl r.1) (f r) else m) []
theorem lwV_snoc (f : Rw → V) (rs : List Rw) (n : Int) (r : Rw) : lwV f (rs ++ [r]) n = if r.2.1 ≤ n then putK (lwV f rs n) (Sum.inl r.1) (f r) else lwV f rs n := by
  unfold lwV
  rw [List.foldl_append]
  rfl
theorem putK_map (f : Rw → V) (m : List (Int × Rw)) (t : Int) (r : Rw) : putK (m.map fun p => ((Sum.inl p.1 : Key), f p.2)) (Sum.inl t) (f r) = (putL m t r).map fun p => ((Sum.inl p.1 : Key), f p.2) := by
  unfold putK putL
  have e : ((m.map fun p => ((Sum.inl p.1 : Key), f p.2)).any fun kv => decide (kv.1 = Sum.inl t)) = m.any fun p => decide (p.1 = t) := by
    rw [List.any_map]
    refine List.any_congr rfl fun p => ?_
    simp only [Function.comp_apply, Sum.inl.injEq]
  rw [e]
  by_cases c : (m.any fun p => decide (p.1 = t)) = true
  · rw [if_pos c, if_pos c, List.map_map, List.map_map]
    refine List.map_congr_left fun p _ => ?_
    simp only [Function.comp_apply]
    by_cases d : p.1 = t
    · rw [if_pos (congrArg Sum.inl d), if_pos d]
    · rw [if_neg (fun z => d (Sum.inl.inj z)), if_neg d]
  · rw [if_neg c, if_neg c, List.map_append]
    rfl
theorem lwV_eq (f : Rw → V) (rs : List Rw) (n : Int) : lwV f rs n = (lwR rs n).map fun p => ((Sum.inl p.1 : Key), f p.2) := by
  obtain ⟨k, hk⟩ : ∃ k, rs.length = k := ⟨_, rfl⟩
  induction k generalizing rs with
  | zero =>
    rw [List.length_eq_zero_iff.mp hk]
    rfl
  | succ k ih =>
    rcases List.eq_nil_or_concat rs with rfl | ⟨q, x, e⟩
    · rfl
    · rw [List.concat_eq_append] at e
      subst e
      rw [List.length_append] at hk
      have i1 := ih q (by simp at hk; exact hk)
      rw [lwV_snoc, lwR_snoc, i1]
      by_cases c : x.2.1 ≤ n
      · rw [if_pos c, if_pos c, putK_map]
      · rw [if_neg c, if_neg c]
theorem lwV_len (f : Rw → V) (rs : List Rw) (n : Int) : (lwV f rs n).length ≤ rs.length := by
  rw [lwV_eq, List.length_map]
  exact lwR_len rs n
theorem valV_of {f : Rw → V} : ∀ {m : List (Int × Rw)} {p : Int × Rw}, (m.Pairwise fun x y => x.1 < y.1) → p ∈ m → valV (m.map fun p => ((Sum.inl p.1 : Key), f p.2)) (Sum.inl p.1) = some (f p.2)
  | [], p, _, h => nomatch h
  | q :: m, p, .cons h1 h2, there => by
    rcases List.mem_cons.mp there with rfl | h
    · exact valV_pos rfl
    · rw [List.map_cons, valV_neg (fun z => by
        have := h1 p h
        have : q.1 = p.1 := Sum.inl.inj z
        omega)]
      exact valV_of h2 h
theorem lwV_last {f : Rw → V} {rs : List Rw} (h : Srt rs) {n : Int} {r : Rw} (hl : IsLast rs n r) : valV (lwV f rs n) (Sum.inl r.1 : Key) = some (f r) := by
  rw [lwV_eq]
  exact valV_of (p := (r.1, r)) (lwR_is rs h).1 (((lwR_is rs h).2 _).mpr ⟨rfl, hl⟩)
/-- the values of a list of unlike rows, as a function -/
theorem val_fun : ∀ (rs : List Rw) (xs : List V), rs.Nodup → ∃ f : Rw → V, ∀ (i : Nat) (r : Rw) (v : V), rs[i]? = some r → xs[i]? = some v → f r = v
  | [], xs, _ => ⟨fun _ => .non, fun i r v h => by simp at h⟩
  | r0 :: rs, [], _ => ⟨fun _ => .non, fun i r v _ h => by simp at h⟩
  | r0 :: rs, x :: xs, nd => by
    have n1 := (List.nodup_cons.mp nd).1
    obtain ⟨f, hf⟩ := val_fun rs xs (List.nodup_cons.mp nd).2
    refine ⟨fun r => if r = r0 then x else f r, fun i r v h1 h2 => ?_⟩
    cases i with
    | zero =>
      simp only [List.getElem?_cons_zero, Option.some.injEq] at h1 h2
      show (if r = r0 then x else f r) = v
      rw [if_pos h1.symm, h2]
    | succ i =>
      rw [List.getElem?_cons_succ] at h1 h2
      have ne : ¬ r = r0 := fun z => n1 (z ▸ List.mem_of_getElem? h1)
      show (if r = r0 then x else f r) = v
      rw [if_neg ne]
      exact hf i r v h1 h2
end Tg

namespace Tg
open PySem PySem.Spec PyProof.Rows L2
/-! ### rows and points as data -/
def dw : Option Int → PyData
  | none => .none
  | some i => .int i
def vw : Option Int → V
  | none => .non
  | some i => .int i
theorem dp_vw {K : PySem.W.Frag} {H : Hp} : ∀ o : Option Int, Dp K H (vw o) (dw o)
  | none => .non
  | some i => .int i
theorem dp_dw {K : PySem.W.Frag} {H : Hp} {v : V} : ∀ {o : Option Int}, Dp K H v (dw o) → v = vw o
  | none, h => by
    cases h
    rfl
  | some i, h => by
    cases h
    rfl
theorem vw_non (o : Option Int) : decide (vw o = .non) = o.isNone := by
  cases o with
  | none => rfl
  | some i => rfl
theorem td_dw : ∀ o : Option Int, TD (dw o)
  | none => .non
  | some i => .int i
theorem eq_dw (a b : Option Int) : PyData.eqv (dw a) (dw b) = decide (a = b) := by
  cases a with
  | none =>
    cases b with
    | none => rfl
    | some j => rfl
  | some i =>
    cases b with
    | none => rfl
    | some j =>
      show (i == j) = _
      by_cases c : i = j
      · rw [c, beq_self_eq_true, decide_eq_true rfl]
      · rw [beq_eq_false_iff_ne.mpr c, decide_eq_false fun z => c (Option.some.inj z)]
def rd (r : Rw) : PyData := .tuple [.int r.1, .int r.2.1, dw r.2.2]
def pd (x : Int × Int) : PyData := .tuple [.int x.1, .int x.2]
theorem td_rd (r : Rw) : TD (rd r) := .tup fun d hd => by
  simp only [List.mem_cons, List.not_mem_nil, or_false] at hd
  rcases hd with rfl | rfl | rfl
  · exact .int _
  · exact .int _
  · exact td_dw _
theorem td_rds (rs : List Rw) : ∀ d, d ∈ rs.map rd → TD d := fun d hd => by
  obtain ⟨x, _, rfl⟩ := List.mem_map.mp hd
  exact td_rd x
theorem td_pd (x : Int × Int) : TD (pd x) := .tup fun d hd => by
  simp only [List.mem_cons, List.not_mem_nil, or_false] at hd
  rcases hd with rfl | rfl
  · exact .int _
  · exact .int _
theorem td_pds (ps : List (Int × Int)) : ∀ d, d ∈ ps.map pd → TD d := fun d hd => by
  obtain ⟨x, _, rfl⟩ := List.mem_map.mp hd
  exact td_pd x
theorem dp_rd {K : PySem.W.Frag} {H : Hp} {v : V} {r : Rw} (h : Dp K H v (rd r)) : ∃ a, v = .ref a ∧ SqT K H a [.int r.1, .int r.2.1, vw r.2.2] := by
  cases h with
  | tup a b =>
    cases b with
    | cons h1 b =>
      cases b with
      | cons h2 b =>
        cases b with
        | cons h3 b =>
          cases b
          cases h1
          cases h2
          rw [dp_dw h3] at a
          exact ⟨_, rfl, a⟩
theorem rd_new {K : PySem.W.Frag} {H : Hp} {a : Addr} {r : Rw} (h : SqT K H a [.int r.1, .int r.2.1, vw r.2.2]) : Dp K H (.ref a) (rd r) := .tup h (.cons (.int _) (.cons (.int _) (.cons (dp_vw _) .nil)))
theorem pd_new {K : PySem.W.Frag} {H : Hp} {a : Addr} {x : Int × Int} (h : H a = some (.tup [.int x.1, .int x.2])) : Dp K H (.ref a) (pd x) := .tup (SqT.of h) (.cons (.int _) (.cons (.int _) .nil))
theorem lay_dw : ∀ o : Option Int, (dw o).canLay0 = true
  | none => rfl
  | some i => rfl
theorem dep_dw : ∀ o : Option Int, (dw o).depth = 0
  | none => rfl
  | some i => rfl
theorem lay_rd (r : Rw) : (rd r).canLay0 = true := by
  show (true && (true && ((dw r.2.2).canLay0 && true))) = true
  rw [lay_dw]
  rfl
theorem dep_rd (r : Rw) : (rd r).depth = 1 := by
  show max 0 (max 0 (max (dw r.2.2).depth 0)) + 1 = 1
  rw [dep_dw]
  rfl
theorem eq_rd (a b : Rw) : PyData.eqv (rd a) (rd b) = decide (a = b) := by
  show ((a.1 == b.1) && ((a.2.1 == b.2.1) && (PyData.eqv (dw a.2.2) (dw b.2.2) && true))) = _
  rw [eq_dw]
  by_cases c : a = b
  · subst c
    rw [beq_self_eq_true, beq_self_eq_true, decide_eq_true rfl, decide_eq_true rfl]
    rfl
  · rw [decide_eq_false c]
    by_cases c1 : a.1 = b.1
    · by_cases c2 : a.2.1 = b.2.1
      · by_cases c3 : a.2.2 = b.2.2
        · exact absurd (Prod.ext c1 (Prod.ext c2 c3)) c
        · rw [decide_eq_false c3]
          simp
      · rw [beq_eq_false_iff_ne.mpr c2]
        simp
    · rw [beq_eq_false_iff_ne.mpr c1]
      rfl
/-- lists of things of such a form -/
theorem form_all {α : Type} {f : α → PyData} (h1 : ∀ x, (f x).canLay0 = true) (h2 : ∀ x, (f x).depth ≤ 1) (h3 : ∀ x, PyData.eqv (f x) (f x) = true) (xs : List α) :
    PyData.canLayAll0 (xs.map f) = true ∧ PyData.depthAll (xs.map f) ≤ 1 ∧ PyData.eqvAll (xs.map f) (xs.map f) = true := by
  induction xs with
  | nil => exact ⟨rfl, Nat.zero_le _, rfl⟩
  | cons x r ih =>
    obtain ⟨i1, i2, i3⟩ := ih
    refine ⟨?_, ?_, ?_⟩
    · show ((f x).canLay0 && PyData.canLayAll0 (r.map f)) = true
      rw [h1, i1]
      rfl
    · show max (f x).depth (PyData.depthAll (r.map f)) ≤ 1
      have := h2 x
      omega
    · show (PyData.eqv (f x) (f x) && PyData.eqvAll (r.map f) (r.map f)) = true
      rw [h3, i3]
      rfl
theorem form_list {α : Type} {f : α → PyData} (h1 : ∀ x, (f x).canLay0 = true) (h2 : ∀ x, (f x).depth ≤ 1) (h3 : ∀ x, PyData.eqv (f x) (f x) = true) (xs : List α) : SeqAt.shaped (.list (xs.map f)) = true ∧ PyData.eqv (.list (xs.map f)) (.list (xs.map f)) = true := by
  obtain ⟨a, b, c⟩ := form_all h1 h2 h3 xs
  refine ⟨shaped_of a ?_, c⟩
  show PyData.depthAll (xs.map f) + 1 ≤ 64
  omega
theorem ref_rd (r : Rw) : PyData.eqv (rd r) (rd r) = true := by
  rw [eq_rd]
  exact decide_eq_true rfl
theorem rds_form (rs : List Rw) : SeqAt.shaped (.list (rs.map rd)) = true ∧ PyData.eqv (.list (rs.map rd)) (.list (rs.map rd)) = true := form_list lay_rd (fun r => Nat.le_of_eq (dep_rd r)) ref_rd rs
theorem ref_pd (x : Int × Int) : PyData.eqv (pd x) (pd x) = true := by
  show ((x.1 == x.1) && ((x.2 == x.2) && true)) = true
  rw [beq_self_eq_true, beq_self_eq_true]
  rfl
theorem pds_form (ps : List (Int × Int)) : SeqAt.shaped (.list (ps.map pd)) = true ∧ PyData.eqv (.list (ps.map pd)) (.list (ps.map pd)) = true := form_list (f := pd) (fun _ => rfl) (fun _ => Nat.le_refl 1) ref_pd ps
theorem sh_rd (r : Rw) : SeqAt.shaped (rd r) = true := shaped_of (lay_rd r) (by rw [dep_rd]; decide)
theorem dl_at {α : Type} {f : α → PyData} {K : PySem.W.Frag} {H : Hp} {xs : List V} {ps : List α} (h : DpAll K H xs (ps.map f)) {i : Nat} {v : V} (e : xs[i]? = some v) : ∃ x, ps[i]? = some x ∧ Dp K H v (f x) := by
  obtain ⟨d, h1, h2⟩ := dpAll_at h i v e
  rw [List.getElem?_map] at h1
  obtain ⟨x, h3, rfl⟩ := Option.map_eq_some_iff.mp h1
  exact ⟨x, h3, h2⟩
theorem dl_get {α : Type} {f : α → PyData} {K : PySem.W.Frag} {H : Hp} {xs : List V} {ps : List α} (h : DpAll K H xs (ps.map f)) {i : Nat} {x : α} (e : ps[i]? = some x) : ∃ v, xs[i]? = some v ∧ Dp K H v (f x) := dpAll_tk h i (f x) (by rw [List.getElem?_map, e]; rfl)
theorem dl_len {α : Type} {f : α → PyData} {K : PySem.W.Frag} {H : Hp} {xs : List V} {ps : List α} (h : DpAll K H xs (ps.map f)) : xs.length = ps.length := by
  have := dpAll_len h
  rw [List.length_map] at this
  exact this
theorem nodup_len {α : Type} [DecidableEq α] : ∀ {rs L : List α}, rs.Nodup → (∀ r, r ∈ rs → r ∈ L) → rs.length ≤ L.length
  | [], L, _, _ => Nat.zero_le _
  | r :: rs, L, nd, h => by
    have n1 := (List.nodup_cons.mp nd).1
    have n2 := (List.nodup_cons.mp nd).2
    have hr : r ∈ L := h r List.mem_cons_self
    have i := nodup_len (rs := rs) (L := L.erase r) n2 fun q hq => (List.mem_erase_of_ne (fun z : q = r => n1 (by rw [← z]; exact hq))).mpr (h q (List.mem_cons_of_mem _ hq))
    rw [List.length_erase_of_mem hr] at i
    have := List.length_pos_of_mem hr
    show rs.length + 1 ≤ L.length
    omega
theorem take_snoc {α : Type} {L : List α} {i : Nat} {x : α} (h : L[i]? = some x) : L.take (i + 1) = L.take i ++ [x] := by
  rw [List.take_add_one, h]
  rfl
end Tg

namespace Tg
open PySem PySem.Spec PyProof.Rows L2
/-! ### a new thing that is only read from now on -/
section
variable {X : Cx} {e : Expr} {t : TE}
def tFrz (t : TE) : TE := fun σ H Q => t σ H fun x H1 => ∃ d u, x = .ref d ∧ H1 d = some u ∧ Mut (some u) ∧ ∀ od, Q x (upd H1 d (.frz od u))
theorem pe_frz (h : PE X e t) : PE X e (tFrz t) := by
  constructor
  intro pins s σ H Q I read
  refine thn (h.run pins s σ H _ I read) fun v s1 y => ?_
  obtain ⟨x, H1, J, r, d, u, ex, hd, mu, q⟩ := y
  obtain ⟨od, J2⟩ := J.lock hd mu
  exact ⟨x, _, J2, r, q od⟩
/-- a statement that is never reached -/
theorem ps_dead {st : Stmt} : PS X st (fun _ _ _ => False) := ⟨fun _ _ _ _ _ _ h => h.elim⟩
end
end Tg

set_option maxHeartbeats 2000000
namespace Tg
open PySem PySem.Spec PyProof.Rows L2
/-! ### a caught exception that is kept in a name: try: .. except T as e: kept = e -/
/-- the exception of the class cls, its dict at d, at a -/
def ExV (cls : Value) (d : Option Addr) (a : Addr) : HO := .ext fun h => ∃ (oe : Obj) (vs : Array Value), h.get? a = some oe ∧ Zc cls d oe ∧ oe.data = .fields vs
theorem exV_ok {P : Program} {w : World} {H : Hp} {h : Heap} {a : Addr} {cls : Value} {d : Option Addr} {oe : Obj} {vs : Array Value} (e : h.get? a = some oe) (z : Zc cls d oe) (q : oe.data = .fields vs) : ObjOk P w H h a (ExV cls d a) := by
  refine ⟨⟨oe, vs, e, z, q⟩, ⟨oe, e⟩, fun h1 h2 y st => ?_⟩
  obtain ⟨o1, v1, e1, z1, q1⟩ := y
  exact ⟨o1, v1, st _ e1, z1, q1⟩
section
variable {X : Cx} {s : Shared} {H : Hp} {σ : L2.St} {pins : List (Addr × Obj)}
theorem track {a : Addr} {oe : Obj} {vs : Array Value} {o : HO} (I : Inv X pins σ H s) (h0 : X.s_0.heap.get? a = none) (he : s.heap.get? a = some oe) (hd : oe.data = .fields vs) (na : H a = none)
    (nL : a ≠ X.env.locals) (np : ∀ p, p ∈ X.pn ++ pins → p.1 ≠ a) (new : ObjOk X.prog X.w (upd H a o) s.heap a o) : Inv X pins σ (upd H a o) s where
  ok := I.ok
  os := I.os
  bare := I.bare
  base := {
    keep := I.base.keep
    slot := I.base.slot
    free := fun b u q n x => by
      rw [upd_ne (fun z => by rw [z, h0] at q; cases q)]
      exact I.base.free b u q n x
    there := I.base.there
    tups := fun b xs q => by
      have y := I.base.tups b xs q
      rw [upd_ne (ne_of_none y na)]
      exact y
    frzs := fun b u xs q => by
      have y := I.base.frzs b u xs q
      rw [upd_ne (ne_of_none y na)]
      exact y
    tbls := fun b ps q => by
      obtain ⟨m, y⟩ := I.base.tbls b ps q
      refine ⟨m, ?_⟩
      rw [upd_ne (ne_of_none y na)]
      exact y }
  loc := I.loc
  cell := I.cell
  free := by
    rw [upd_ne nL.symm]
    exact I.free
  freeC := fun x c e => by
    have nc : c ≠ a := fun z => by
      obtain ⟨v, y⟩ := I.cell x c e
      obtain ⟨oc, y1, y2⟩ := y
      rw [z, he] at y1
      cases y1
      rw [hd] at y2
      cases y2
    rw [upd_ne nc]
    exact I.freeC x c e
  pin := fun p hp => by
    obtain ⟨y1, y2, y3⟩ := I.pin p hp
    refine ⟨y1, ?_, y3⟩
    rw [upd_ne (np p hp)]
    exact y2
  hok := I.hok.laidN (fun _ _ z => z) na new
  len := I.len
/-- what is wanted of an exception of the body: its class is one that the clause takes; it is kept in slot j -/
def wKeep (Mt : Value → Prop) (i j : Nat) (D : Ends) : WX := fun cls d σ H => Mt cls ∧ ∀ a, H a = none → D.nx (((σ.set i (some (.ref a))).set j (some (.ref a))).set i none) (upd H a (ExV cls d a))
/-- the clause's test: its value takes each exception of such a class -/
def Tests (X : Cx) (test : Expr) (Mt : Value → Prop) : Prop := ∀ (a : Addr) (oe : Obj) (pn : List (Addr × Obj)) (s : Shared) (σ : L2.St) (H : Hp) (Q : Value → Shared → Prop) (E : Value → Shared → Prop),
  Inv (X.suite a ((a, oe) :: pn)) [] σ H s → s.heap.get? a = some oe → Mt oe.cls →
  (∀ (c : Value) (s' : Shared), (∀ b o, s.heap.get? b = some o → s'.heap.get? b = some o) → s'.os = s.os → s'.gens = s.gens → PySem.W.Looks (model X.prog X.w) s'.heap (excMatches (.ref a) c) true → Q c s') →
    wpAny (model X.prog X.w) (X.A.mark (some (.ref a))) (eval test X.env) Q E s
theorem flying_keeps {B : Heap} {l : List Env} {a : Addr} {Z : Obj → Prop} {h h' : Heap} (k : ∀ b o, h.get? b = some o → h'.get? b = some o) (f : HandSPX.FlyingZ B l a Z h) : HandSPX.FlyingZ B l a Z h' := by
  obtain ⟨f1, f2, f3, oe, vs, T, oT, ts, y1, y2, y3, y4, y5, y6, y7, y8, y9⟩ := f
  exact ⟨fun b o e => k _ _ (f1 b o e), f2, Heap.FunFrames.of_keeps (fun b o e _ => ⟨o, k _ _ e, rfl⟩) f3, oe, vs, T, oT, ts, k _ _ y1, y2, y3, y4, y5, y6, k _ _ y7, y8, y9⟩
variable {n y : Str} {i j : Nat} {body : List Stmt} {test : Expr} {py pn' ps' pos pos' : Pos} {tb : WX → TS} {Mt : Value → Prop}
/-- a try's body, whatever is wished of the exceptions that leave it -/
def Bodies (X : Cx) (body : List Stmt) (tb : WX → TS) : Prop := ∀ W pn xe, Takes (X.tr pn xe) W → PassesOwn (model X.prog X.w) X.A X.env xe → PSs (X.tr pn xe) body (tb W)
/-- the same state, one thing more (or less) pinned -/
theorem repin {Y Z : Cx} {p q : List (Addr × Obj)} (I : Inv Y p σ H s) (ok : Z.Ok) (e : Z = { Y with A := Z.A, calm := Z.calm, pn := Z.pn, xe := Z.xe }) (sub : ∀ r, r ∈ Z.pn ++ q → r ∈ Y.pn ++ p) : Inv Z q σ H s := by
  obtain ⟨_, f2, f3, f4, f5, f6, f7, f8, f9, f10, f11⟩ := I
  rw [e] at ok sub ⊢
  exact ⟨ok, f2, f3, f4, f5, f6, f7, f8, fun r hr => f9 r (sub r hr), f10, f11⟩
theorem ps_try_keep (top : X.stack = X.env :: X.outer) (own : X.env.frame = some X.env.locals) (noex : X.ex = []) (nd : X.N.Nodup) (at_i : X.N[i]? = some n) (at_j : X.N[j]? = some y) (loc_n : X.env.scope.names.lookup n = some .local)
    (loc_y : X.env.scope.names.lookup y = some .local) (takes : Tests X test Mt) (bodies : Bodies X body tb) (nodebug : (n == ("__debug__" : Str)) = false := by decide) (noclass : (n == ("__classdict__" : Str)) = false := by decide) :
    PS X (.Try body [.ExceptHandler (some test) (some n) [.Assign [.Name y py] (.Name n pn') ps'] pos'] [] [] pos) (fun D σ H => tb (wKeep Mt i j D) D σ H) := by
  constructor
  intro pins s σ H D I read
  have frames := I.ok.frames.trans (congrArg some top)
  refine wpAny_Try_except (wpAny_mono ((bodies (wKeep Mt i j D) (X.pn ++ pins) _ (fun u s' air => ?_) PassesOwn.looking).run [] s σ H D (I.toTry _) read) (fun f s1 z => ?_) (fun _ _ z => z))
  · obtain ⟨a, B, s0, _, σ0, H0, cls, d, rfl, J0, ground, up, sky, na, os, gens, takes_it, wish⟩ := air
    have J : Inv X pins σ0 H0 s0 := J0.ofTry I.ok
    rw [show (X.tr (X.pn ++ pins) _).stack = X.env :: X.outer from top] at sky ground
    refine Sky.land Zc.steady frames own sky fun h3 fly3 up3 => ?_
    have J3 := J.landed (s' := { s' with heap := h3 }) (B := B) (by rw [top]; exact ground) fly3.1 (up.trans up3) os gens
    obtain ⟨o3, v3, get3, kind3, data3⟩ := fly3.there
    -- it is none of the frames, and it wasn't there ahead of the try
    have noframe : a ∉ frs (X.env :: X.outer) := fun m => by
      obtain ⟨_, _, e, nofields⟩ := fly3.2.2.1.mem m
      cases get3.symm.trans e
      exact nofields _ data3
    have noloc : a ≠ X.env.locals := fun z => noframe (by
      rw [z]
      exact List.mem_filterMap.mpr ⟨X.env, List.mem_cons_self, own⟩)
    have noouter : a ∉ X.fs := fun m => noframe (by
      obtain ⟨env, h1, h2⟩ := List.mem_filterMap.mp m
      exact List.mem_filterMap.mpr ⟨env, .tail _ h1, h2⟩)
    have new0 : s0.heap.get? a = none := by
      rcases q : s0.heap.get? a with _ | o
      · rfl
      · exact nomatch (ground a o q noframe).symm.trans fly3.2.1
    have new : X.s_0.heap.get? a = none := by
      rcases q : X.s_0.heap.get? a with _ | o
      · rfl
      · exact (J.base.there a o q (by rw [noex]; exact List.not_mem_nil)).elim fun _ z => nomatch z.symm.trans new0
    have nopin : ∀ p, p ∈ X.pn ++ pins → p.1 ≠ a := fun p m z => by
      have there := (J.pin p m).1
      rw [z, new0] at there
      cases there
    refine wpAny_handleBy_cons (codeAny_handlers_test (takes a o3 _ _ σ0 H0 _ _ (J3.suite get3 data3 na noloc noouter) get3 (by rw [kind3.1]; exact takes_it) fun c s4 kp4 os4 gens4 match4 => match4.here ?_)) (fun z => nomatch z)
    refine codeAny_handlers_suite_as (HandSPX.lands_againZ (flying_keeps kp4 fly3) fun h5 fly5 up5 => ?_)
    have up4 : h3.UpToSlots s4.heap := fun b o z _ => ⟨o.slots, kp4 _ _ z⟩
    have J5 := J.landed (s' := { s4 with heap := h5 }) (B := B) (by rw [top]; exact ground) fly5.1 (((up.trans up3).trans up4).trans up5) (os4.trans os) (by rw [show ({ s4 with heap := h5 } : Shared).gens = s4.gens from rfl, gens4]; exact gens)
    obtain ⟨o5, v5, get5, kind5, data5⟩ := fly5.there
    refine store_ok (X := X.suite a ((a, o5) :: (X.pn ++ pins))) (v := .ref a) (J5.suite get5 data5 na noloc noouter) nd at_i (.inl loc_n) rfl (fun s6 J6 => ?_) (.inr loc_n)
    -- kept = e
    have keep : PSs (X.suite a ((a, o5) :: (X.pn ++ pins))) [.Assign [.Name y py] (.Name n pn') ps'] (tAsg (tVar i) (gName j)) := pss_one (ps_set nd at_j (.inl loc_y) (pe_var at_i (.inl loc_n) nodebug noclass) (by rfl) (.inr loc_y))
    have short : i < σ0.length := by
      rw [J.len]
      exact (List.getElem?_eq_some_iff.mp at_i).1
    refine wpAny_mono (keep.run [] s6 _ H0 { nx := fun σ7 H7 => σ7 = (σ0.set i (some (.ref a))).set j (some (.ref a)) ∧ H0 = H7, rt := fun _ _ => False, bk := fun _ _ => False, ct := fun _ _ => False } J6 ⟨.ref a, by rw [List.getElem?_set_self short], rfl, rfl⟩) (fun f s7 z => ?_) (fun _ _ z => z.elim)
    match f, z with
    | .next, ⟨_, _, J7, e7, eH⟩ =>
      subst e7
      subst eH
      refine gone_ok (repin (q := (a, o5) :: pins) J7 I.ok rfl fun r m => ?_) nd at_i loc_n fun s8 J8 => ?_
      · refine List.mem_append_left _ ?_
        rcases List.mem_append.mp m with m | m
        · exact .tail _ (List.mem_append_left _ m)
        · cases m with
          | head => exact .head _
          | tail _ m => exact .tail _ (List.mem_append_right _ m)
      · have get8 := (J8.pin (a, o5) (List.mem_append_right _ (.head _))).1
        have J9 : Inv X pins (((σ0.set i (some (.ref a))).set j (some (.ref a))).set i none) H0 s8 := repin J8 I.ok rfl fun r m => by
          rcases List.mem_append.mp m with m | m
          · exact List.mem_append_left _ m
          · exact List.mem_append_right _ (.tail _ m)
        exact ⟨_, _, track J9 new get8 data5 na noloc nopin (exV_ok get8 kind5 data5), wish a na⟩
    | .brk, ⟨_, _, _, z⟩ => exact z.elim
    | .cont, ⟨_, _, _, z⟩ => exact z.elim
    | .ret _, ⟨_, _, _, _, _, z⟩ => exact z.elim
  · match f, z with
    | .next, ⟨σ1, H1, J1, z⟩ => exact wpAny_execs_nil ⟨σ1, H1, J1.ofTry I.ok, z⟩
    | .brk, ⟨σ1, H1, J1, z⟩ => exact ⟨σ1, H1, J1.ofTry I.ok, z⟩
    | .cont, ⟨σ1, H1, J1, z⟩ => exact ⟨σ1, H1, J1.ofTry I.ok, z⟩
    | .ret _, ⟨v, σ1, H1, J1, rel, z⟩ => exact ⟨v, σ1, H1, J1.ofTry I.ok, rel, z⟩
end
end Tg

set_option maxHeartbeats 2000000
namespace Tg
open PySem PySem.Spec PyProof.Rows L2
section
variable {X : Cx} {x1 x2 x3 x4 : Str} {c1 c2 c3 c4 : Value} {p1 p2 p3 p4 pos : Pos}
theorem tests_one (hc : Names X x1 c1) : Tests X (.Name x1 p1) (fun cls => PySem.W.exmOne X.K cls c1 = some true) := by
  intro a oe pn s σ H Q E I he mt h
  have LT : PySem.W.Looks (model X.prog X.w) s.heap (typeOf (.ref a)) oe.cls := fun A Q E s k q => wpAny_typeOf_ref (k _ _ he) q
  have LM := PySem.W.exm_one (M := model X.prog X.w) I.kIn LT mt
  have told := h c1 s (fun _ _ z => z) rfl rfl LM
  rcases hc with ⟨gl, nodebug, own | ⟨none_, boot, noname⟩⟩
  · exact ld_glob (X := X.suite a ((a, oe) :: pn)) I gl own told nodebug
  · exact ld_blt (X := X.suite a ((a, oe) :: pn)) I gl none_ boot told noname nodebug
/-- own classes named one after the other -/
structure Glb (X : Cx) (x : Str) (c : Value) : Prop where
  gl : Gl X x
  mg : X.mg x = some c
  db : (x == ("__debug__" : Str)) = false := by decide
theorem glb_args {a : Addr} {oe : Obj} {pn : List (Addr × Obj)} {s : Shared} {σ : L2.St} {H : Hp} {E : Value → Shared → Prop} {pos : Pos} (I : Inv (X.suite a ((a, oe) :: pn)) [] σ H s) :
    ∀ {xs : List (Str × Pos)} {cs : List Value} {Q : List Value → Shared → Prop}, Paired (fun x c => Glb X x.1 c) xs cs → Q cs s →
      wpAny (model X.prog X.w) (X.A.mark (some (.ref a))) (spliced (backTo pos (starEach (xs.map fun x => .Name x.1 x.2) X.env))) Q E s
  | _, _, Q, .nil, q => args_nil q
  | (x, p) :: xs, c :: cs, Q, .cons g r, q => by
    refine args_cons (ld_glob (X := X.suite a ((a, oe) :: pn)) I g.gl g.mg (glb_args I r q) g.db) rfl
theorem tests_tup {xs : List (Str × Pos)} {cs : List Value} {kt : Nat} (hp : Paired (fun x c => Glb X x.1 c) xs cs) (hl : cs.length ≤ sizeLine)
    (hm : ∀ {h : Heap} {a tp : Addr} {cls : Value}, X.K.In h → PySem.W.Looks (model X.prog X.w) h (typeOf (.ref a)) cls → h.get? tp = some { cls := .type "tuple", data := .seq cs.toArray } → PySem.W.exmAny X.K cls cs = some true → PySem.W.Looks (model X.prog X.w) h (excMatches (.ref a) (.ref tp)) true) :
    Tests X (.Tuple (xs.map fun x => .Name x.1 x.2) kt pos) (fun cls => PySem.W.exmAny X.K cls cs = some true) := by
  intro a oe pn s σ H Q E I he mt h
  refine wpAny_Tuple_spliced (glb_args I hp ⟨hl, ?_⟩)
  have kk : ∀ b o, s.heap.get? b = some o → (s.heap.push { cls := .type "tuple", data := .seq cs.toArray }).get? b = some o := fun b o e => Heap.get?_push_of_some _ e
  have LT : PySem.W.Looks (model X.prog X.w) (s.heap.push { cls := .type "tuple", data := .seq cs.toArray }) (typeOf (.ref a)) oe.cls := fun A Q E s k q => wpAny_typeOf_ref (k _ _ (kk _ _ he)) q
  exact h _ _ kk rfl rfl (hm (I.kIn.keeps kk) LT (Heap.get?_push_size _ rfl) mt)
theorem tests_2 {kt : Nat} (h1 : Glb X x1 c1) (h2 : Glb X x2 c2) : Tests X (.Tuple [.Name x1 p1, .Name x2 p2] kt pos) (fun cls => PySem.W.exmAny X.K cls [c1, c2] = some true) :=
  tests_tup (xs := [(x1, p1), (x2, p2)]) (.cons h1 (.cons h2 .nil)) (by show 2 ≤ sizeLine; decide) fun X LT hp mt => PySem.W.exm_tup2 X LT hp mt
theorem tests_3 {kt : Nat} (h1 : Glb X x1 c1) (h2 : Glb X x2 c2) (h3 : Glb X x3 c3) : Tests X (.Tuple [.Name x1 p1, .Name x2 p2, .Name x3 p3] kt pos) (fun cls => PySem.W.exmAny X.K cls [c1, c2, c3] = some true) :=
  tests_tup (xs := [(x1, p1), (x2, p2), (x3, p3)]) (.cons h1 (.cons h2 (.cons h3 .nil))) (by show 3 ≤ sizeLine; decide) fun X LT hp mt => PySem.W.exm_tup3 X LT hp mt
theorem tests_4 {kt : Nat} (h1 : Glb X x1 c1) (h2 : Glb X x2 c2) (h3 : Glb X x3 c3) (h4 : Glb X x4 c4) : Tests X (.Tuple [.Name x1 p1, .Name x2 p2, .Name x3 p3, .Name x4 p4] kt pos) (fun cls => PySem.W.exmAny X.K cls [c1, c2, c3, c4] = some true) :=
  tests_tup (xs := [(x1, p1), (x2, p2), (x3, p3), (x4, p4)]) (.cons h1 (.cons h2 (.cons h3 (.cons h4 .nil)))) (by show 4 ≤ sizeLine; decide) fun X LT hp mt => PySem.W.exm_tup4 X LT hp mt
end
/-! ### what is asked of it later: a field, isinstance -/
section
variable {X : Cx} {e : Expr} {te : TE} {pos : Pos} {n : Str}
/-- kept.f -/
def tExf (K : PySem.W.Frag) (f : Str) (te : TE) : TE := fun σ H Q => te σ H fun x H1 => ∃ (a C dd : Addr) (fs : List (Str × V)) (v : V), x = .ref a ∧ H1 a = some (ExV (.ref C) (some dd) a) ∧ XfC K C ∧ PySem.W.findIn K (.ref C) f = some none ∧ H1 dd = some (.xd fs) ∧ fs.lookup f = some v ∧ Q v H1
theorem exV_inst {a C dd : Addr} {fs : List (Str × V)} {pins : List (Addr × Obj)} {σ : L2.St} {H : Hp} {s : Shared} (I : Inv X pins σ H s) (ea : H a = some (ExV (.ref C) (some dd) a)) (ed : H dd = some (.xd fs)) :
    ∃ (oe od : Obj) (m : Str → Option Value), PySem.W.InstAt s.heap a oe C (some od) ∧ (∀ f, RelO (fs.lookup f) (m f)) ∧ ∀ x, PySem.W.lookIn x od = some (m x) := by
  obtain ⟨⟨oe, vs, he, hz, hd⟩, _, _⟩ := (show ObjOk X.prog X.w H s.heap a (ExV (.ref C) (some dd) a) from I.hok a _ ea)
  obtain ⟨m, ns, rel⟩ := (show ObjOk X.prog X.w H s.heap dd (.xd fs) from I.hok dd _ ed)
  obtain ⟨od, get, look⟩ := lookIn_ns ns
  exact ⟨oe, od, m, ⟨he, hz.1, by unfold PySem.W.notCls; rw [hd] <;> rfl, by rw [hz.2]; exact get⟩, rel, look⟩
theorem pe_exf (he : PE X e te) (base : attributeBase e n X.env (eval e X.env) = eval e X.env := by rfl) : PE X (.Attribute e n pos) (tExf X.K n te) := by
  constructor
  intro pins s σ H Q I read
  refine attr_of base (thn (he.run pins s σ H _ I read) fun u s1 z => ?_)
  obtain ⟨_, H1, J, ru, a, C, dd, fs, v, rfl, ea, T, none_, ed, is_v, told⟩ := z
  obtain rfl : u = .ref a := ru
  obtain ⟨oe, od, m, inst, rel, look⟩ := exV_inst J ea ed
  have there := rel n
  rw [is_v] at there
  obtain ⟨w, mw, rw_⟩ := RelO.some_of there
  exact HandSPX.exc_get J.kIn inst T.ga T.gg T.exC (PySem.W.findObj_own T.hdC none_ rfl ((look n).trans (congrArg some mw))) (handed_of rw_) ⟨v, H1, J.tok _, rw_, told⟩
theorem cls_some {K : PySem.W.Frag} {D : Addr} (h : PySem.W.hasDictIn K D = true) : (PySem.W.clsIn K D).isSome = true := by
  obtain ⟨cd, hc, _⟩ := PySem.W.any_some h
  rw [hc]
  rfl
/-- isinstance(kept, c) -/
def rIsV (K : PySem.W.Frag) : List V → Hp → VK → Prop := fun xs H Q => ∃ (a D dd : Addr) (fs : List (Str × V)) (c : V) (cv : Value) (b : Bool), xs = [.ref a, c] ∧ H a = some (ExV (.ref D) (some dd) a) ∧ H dd = some (.xd fs) ∧ ExcC K D ∧ ClsV c cv ∧ PySem.W.kitOne K (.ref D) cv = some b ∧ Q (.bl b) H
theorem call_isV : CallR X (.builtin "isinstance") (rIsV X.K) := by
  rintro pins s σ H _ us Q I rel ⟨a, D, dd, fs, c, cv, b, rfl, ea, ed, C, cls, kit, told⟩
  match us, rel with
  | [_, _], .cons ra (.cons rc .nil) =>
    cases ra
    cases cls.eq rc
    obtain ⟨_, _, _, inst, _⟩ := exV_inst I ea ed
    exact PySem.W.kia_one (PySem.W.kitx_exc (cls_some C.hd) C.hg C.hk C.hs C.ha C.hn C.ht C.hm) I.kIn inst kit (fun z => nomatch z) fun tk => ⟨.bl b, H, I.tok tk, rfl, told⟩
/-- isinstance(kept, (c1, c2, ..)) -/
def rIsVT (K : PySem.W.Frag) : List V → Hp → VK → Prop := fun xs H Q => ∃ (a D dd tp : Addr) (fs : List (Str × V)) (cs : List V) (us : List Value) (b : Bool), xs = [.ref a, .ref tp] ∧ H a = some (ExV (.ref D) (some dd) a) ∧ H dd = some (.xd fs) ∧ ExcC K D ∧
  H tp = some (.tup cs) ∧ Paired ClsV cs us ∧ PySem.W.kitAny K (.ref D) us = some b ∧ Q (.bl b) H
theorem call_isVT : CallR X (.builtin "isinstance") (rIsVT X.K) := by
  rintro pins s σ H _ us Q I rel ⟨a, D, dd, tp, fs, cs, ws, b, rfl, ea, ed, C, tup, cls, kit, told⟩
  match us, rel with
  | [_, _], .cons ra (.cons rt .nil) =>
    cases ra
    cases rt
    obtain ⟨_, _, _, inst, _⟩ := exV_inst I ea ed
    obtain ⟨_, items, ri, ⟨oc, od, dt, sl⟩, get, is_tup, m, is_seq⟩ := (show ObjOk X.prog X.w H s.heap tp (.tup cs) from I.hok tp _ tup)
    cases ClsV.all cls ri
    cases is_tup
    cases is_seq
    exact PySem.W.kia_tup (PySem.W.kitx_exc (cls_some C.hd) C.hg C.hk C.hs C.ha C.hn C.ht C.hm) I.kIn inst get kit (fun z => nomatch z) fun tk => ⟨.bl b, H, I.tok tk, rfl, told⟩
end
end Tg

set_option maxHeartbeats 2000000
namespace Tg
open PySem PySem.Spec PyProof.Rows L2
/-! ### class X(ValueError): def __init__(self, at): ValueError.__init__(self, "..") ; self.at = at -/
def inCls (s : Stmt) (i : Nat) : Stmt := match s with
  | .ClassDef _ _ _ body _ _ _ _ _ _ _ => body.getD i (.Pass ⟨0, 0, 0, 0⟩)
  | _ => .Pass ⟨0, 0, 0, 0⟩
/-- what __init__ leaves: the field in a new dict -/
def spErr (C : Addr) (f : Str) : Sp := fun vs H Q _ => ∃ (a : Addr) (v : V), vs = [.ref a, v] ∧ H a = some (exo a C none) ∧ ∀ dx, H dx = none → dx ≠ a → Q .non (upd (upd H dx (exd dx [(f, v)])) a (exo a C (some dx)))
/-- what raise X(v) then leads to -/
theorem err_read {C : Addr} {f : Str} {ta : TE} {σ : L2.St} {H : Hp} {Q : XK} (h : ta σ H fun v H1 => ∀ (d : Addr) (H' : Hp), Same H1 H' → H1 d = none → H' d = some (.xd [(f, v)]) → Q (.ref C) (some d) H')
    (mono : ∀ {Q Q' : VK}, (∀ v H1, Q v H1 → Q' v H1) → ta σ H Q → ta σ H Q') : tMkO C (spErr C f) [] (tCons ta tNil) σ H Q := by
  refine mono (fun v H1 q => ⟨by show 1 ≤ 1000; decide, fun a na => ?_⟩) h
  refine ⟨a, v, rfl, upd_same, fun dx nd da => ⟨rfl, dx, [(f, v)], upd_same, ?_, ?_, ?_⟩⟩
  · rw [upd_ne da, upd_same]
  · rw [upd_ne da] at nd
    exact nd
  · have nd' : H1 dx = none := by
      rw [upd_ne da] at nd
      exact nd
    refine q dx _ (fun b o e => ?_) nd' upd_same
    have nb : b ≠ dx := ne_of_none e nd'
    have nba : b ≠ a := ne_of_none e na
    rw [upd_ne nb, del_ne nba, upd_ne nba, upd_ne nb, upd_ne nba]
    exact e
end Tg

set_option maxHeartbeats 2000000
namespace Tg
open PySem PySem.Spec PyProof.Rows L2
/-! ### a call by keywords that may raise, in a try -/
section
variable {X : Cx} {CX : CXT} {k : Nat} {f : Addr} {fd : FuncData} {ps ks : List Str} {sp : Sp} {E : L2.St → XK} {x : Str} {p pos : Pos} {kws : List Keyword} {tk : TA} {g : List Value → List Value → List Value} {gV : List V → List V → List V}
theorem pe_kwS (F : FnOk X.prog X.w X.K X.mg X.base CX k f fd ps sp) (room : Room k X.A) (gl : Gl X x) (at_x : X.mg x = some (.ref f)) (kept : PySem.W.keepIn X.K (.ref f) = true) (binds : KBn X.K fd ps 0 ks g gV) (lets : ∀ σ, PassesAt CX X σ (E σ)) (vals : PK X kws tk)
    (named : (backToKw pos (keywordEach kws X.env)).all (·.1.isSome) = true := by rfl) (names : (backToKw pos (keywordEach kws X.env)).filterMap (·.1) = ks := by rfl) (nodebug : (x == ("__debug__" : Str)) = false := by decide)
    (nostar : ((backTo pos (starEach [] X.env)).any (·.1) || (backToKw pos (keywordEach kws X.env)).any (·.1.isNone)) = false := by rfl) : PE X (.Call (.Name x p) [] kws pos) (fun σ H Q => tk σ H fun zs H2 => zs.length = ks.length ∧ sp (gV [] zs) H2 Q (E σ)) := by
  constructor
  intro pins s σ H Q I read
  refine wpAny_Call_Name_kw (ld_glob I gl at_x (PySem.W.callWith_KW0 (h₀ := X.base) I.ok.mod.kin kept named (thn (vals.run pos pins s σ H _ I read) fun ws s2 y => ?_) nostar) nodebug)
  obtain ⟨zs, H2, J, rel, many, told⟩ := y
  rw [names]
  refine ⟨J.kIn, wpAny_call (codeAny_mono (F.run X.A X.stack s2 H2 ⟨[], ks.zip ws⟩ (g [] ws) (gV [] zs) Q (E σ) room J.env0 (binds.to s2 [] ws J.kIn rfl (rel.length.symm.trans many)) (binds.rel (vs := []) (us := []) .nil rel) told) fun a s' z => ?_)⟩
  match a, z with
  | .error e, z => exact lets σ pins H2 s2 e s' J z
  | .ok (.ret u), z => exact J.after z
end
end Tg

set_option maxHeartbeats 2000000
namespace Tg
open PySem PySem.Spec PyProof.Rows L2
/-! ### own errors, and classes whose __init__ may raise, as a caller needs them -/
section
variable (P : Program) (w : World) (K : PySem.W.Frag) (mg : Str → Option Value) (base : Heap)
/-- the error x, of the class C over ValueError, made of one thing that is its field fld -/
def CalE (k : Nat) (x : Str) (C : Addr) (fld : Str) : Prop := ∃ fI fdI, OexC K C ∧ PySem.W.findIn K (.ref C) "__init__" = some (some (.ref fI)) ∧ PySem.W.typeIn K (.ref fI) = some (.type "function") ∧
  FnOk P w K mg base CX0 k fI fdI ["self", fld] (spErr C fld) ∧ Binds K fdI ["self", fld] [] ∧ mg x = some (.ref C)
/-- a def that may raise -/
def CalR (k : Nat) (x : Str) (ps : List Str) (sp : Sp) : Prop := ∃ f fd, FnOk P w K mg base (L2.CX P w) k f fd ps sp ∧ mg x = some (.ref f) ∧ PySem.W.keepIn K (.ref f) = true ∧ Binds K fd ps []
def CalRK (k : Nat) (x : Str) (ps ks : List Str) (is : List Nat) (sp : Sp) : Prop := ∃ f fd, FnOk P w K mg base (L2.CX P w) k f fd ps sp ∧ mg x = some (.ref f) ∧ PySem.W.keepIn K (.ref f) = true ∧ KBn K fd ps 0 ks (fun _ ws => prm is ws) (fun _ zs => prm is zs)
/-- a class whose __init__ may raise -/
def CalRC (k : Nat) (x : Str) (C : Addr) (ps : List Str) (sp : Sp) : Prop := ∃ f fd, FnOk P w K mg base (L2.CX P w) k f fd ps sp ∧ mg x = some (.ref C) ∧ Mk K C f ∧ Binds K fd ps []
def CalRCK (k : Nat) (x : Str) (C : Addr) (ps ks : List Str) (is : List Nat) (sp : Sp) : Prop := ∃ f fd, FnOk P w K mg base (L2.CX P w) k f fd ps sp ∧ mg x = some (.ref C) ∧ Mk K C f ∧ KBn K fd ps 1 ks (fun us ws => us ++ prm is ws) (fun vs zs => vs ++ prm is zs)
end
section
variable {X : Cx} {k : Nat} {ps ks : List Str} {is : List Nat} {sp : Sp} {x fld : Str} {C : Addr} {e : Expr} {es : List Expr} {p pos : Pos} {kws : List Keyword} {ta : TE} {t tk : TA} {W : WX}
theorem pm_err (c : CalE X.prog X.w X.K X.mg X.base k x C fld) (room : Room (k + 1) X.A) (gl : Gl X x) (he : PE X e ta) (nodebug : (x == ("__debug__" : Str)) = false := by decide)
    (star : starEach [e] X.env = (false, eval e X.env) :: starEach [] X.env := by rfl) : PMk X (.Call (.Name x p) [e] [] pos) (tMkO C (spErr C fld) [] (tCons ta tNil)) := by
  obtain ⟨fI, fdI, T, iC, tI, F, b, m⟩ := c
  exact pmk_oex T iC tI F room b .nil (fun _ _ _ _ _ _ _ z => z.elim) gl m (pa_cons he pa_nil star) nodebug star
/-- raise x(e), out of the def -/
def tErr (C : Addr) (fld : Str) (ta : TE) (E : XK) : TS := fun _ σ H => ta σ H fun v H1 => ∀ (d : Addr) (H' : Hp), Same H1 H' → H1 d = none → H' d = some (.xd [(fld, v)]) → E (.ref C) (some d) H'
/-- a call that may raise, in a def that lets it out -/
def tCalR (sp : Sp) (E : XK) (t : TA) : TE := fun σ H Q => t σ H fun vs H1 => sp vs H1 Q E
theorem pe_calR {E : XK} (c : CalR X.prog X.w X.K X.mg X.base k x ps sp) (hr : Room k X.A) (gl : Gl X x) (lets : Passes (L2.CX X.prog X.w) X E) (ha : PA X (e :: es) t) (nodebug : (x == ("__debug__" : Str)) = false := by decide)
    (star : starEach (e :: es) X.env = (false, eval e X.env) :: starEach es X.env := by rfl) (plain : (backTo pos (starEach es X.env)).any (·.1) = false := by rfl) : PE X (.Call (.Name x p) (e :: es) [] pos) (tCall sp [] E t) := by
  obtain ⟨f, fd, F, m, kp, b⟩ := c
  exact pe_call F hr gl m kp b .nil lets ha nodebug star plain
/-- the same in a try -/
theorem pe_calT (c : CalR X.prog X.w X.K X.mg X.base k x ps sp) (hr : Room k X.A) (gl : Gl X x) (tks : Takes X W) (ha : PA X (e :: es) t) (nodebug : (x == ("__debug__" : Str)) = false := by decide)
    (star : starEach (e :: es) X.env = (false, eval e X.env) :: starEach es X.env := by rfl) (plain : (backTo pos (starEach es X.env)).any (·.1) = false := by rfl) : PE X (.Call (.Name x p) (e :: es) [] pos) (tCallS sp (WE W) t) := by
  obtain ⟨f, fd, F, m, kp, b⟩ := c
  exact pe_callS F hr gl m kp b (fun σ => passAt tks σ) ha nodebug star plain
def tKwT (n : Nat) (sp : Sp) (is : List Nat) (W : WX) (tk : TA) : TE := fun σ H Q => tk σ H fun zs H2 => zs.length = n ∧ sp (prm is zs) H2 Q (WE W σ)
theorem pe_calKT (c : CalRK X.prog X.w X.K X.mg X.base k x ps ks is sp) (hr : Room k X.A) (gl : Gl X x) (tks : Takes X W) (vals : PK X kws tk)
    (named : (backToKw pos (keywordEach kws X.env)).all (·.1.isSome) = true := by rfl) (names : (backToKw pos (keywordEach kws X.env)).filterMap (·.1) = ks := by rfl) (nodebug : (x == ("__debug__" : Str)) = false := by decide)
    (nostar : ((backTo pos (starEach [] X.env)).any (·.1) || (backToKw pos (keywordEach kws X.env)).any (·.1.isNone)) = false := by rfl) : PE X (.Call (.Name x p) [] kws pos) (tKwT ks.length sp is W tk) := by
  obtain ⟨f, fd, F, m, kp, b⟩ := c
  exact pe_kwS (E := WE W) F hr gl m kp b (fun σ => passAt tks σ) vals named names nodebug nostar
/-! ### C(..), whose __init__ may raise, in a try -/
theorem made_or_raised {CX : CXT} {f : Addr} {fd : FuncData} {pins : List (Addr × Obj)} {σ : L2.St} {H : Hp} {s : Shared} {Q : VK} {E : L2.St → XK} {us zs : List Value} {kwv : List (Str × Value)} {vs : List V} (M : Mk X.K C f) (F : FnOk X.prog X.w X.K X.mg X.base CX k f fd ps sp)
    (room : Room (k + 1) X.A) (lets : PassesAt CX X σ (E σ)) (I : Inv X pins σ H s) (bound : ∀ s2 : Shared, X.K.In s2.heap → BindsTo s2 fd ⟨.ref (s.heap.objs.size + 1) :: us, kwv⟩ (ps.zip zs)) (rel : Vals (.ref (s.heap.objs.size + 1) :: vs) zs)
    (told : ∀ a d, H a = none → H d = none → d ≠ a → sp (.ref a :: vs) (upd (upd H d (.own a)) a (.ins C d [])) (fun v H2 => v = .non ∧ Q (.ref a) H2) (E σ)) : wpAny (model X.prog X.w) X.A (call (.ref C) us kwv) (EP X pins σ Q) X.xe s := by
  have new := I.made (C := C)
  have now := told _ _ (I.hok.fresh (Nat.le_succ s.heap.objs.size)) (I.hok.fresh (Nat.le_refl s.heap.objs.size)) (Nat.ne_of_lt (Nat.lt_succ_self _))
  have ran := F.run _ X.stack _ _ _ zs _ _ (E σ) (room.make C us kwv) (new.env0.make C us kwv) (bound _ new.kIn) rel now
  refine wpAny_call (make_map (f := f) I.kIn M.makes M.init (beq_iff_eq.mp M.fn) (codeAny_mono ran fun out s' z => ?_))
  match out, z with
  | .error err, z => exact lets pins _ _ err s' new z
  | .ok (.ret u), z =>
    obtain ⟨_, H3, J, r, rfl, q⟩ := new.after z
    exact ⟨r, .ref (s.heap.objs.size + 1), H3, J, rfl, q⟩
def tMkT (C : Addr) (sp : Sp) (W : WX) (t : TA) : TE := fun σ H Q => t σ H fun vs H1 => ∀ a d, H1 a = none → H1 d = none → d ≠ a → sp (.ref a :: vs) (upd (upd H1 d (.own a)) a (.ins C d [])) (fun v H2 => v = .non ∧ Q (.ref a) H2) (WE W σ)
theorem pe_mkT (c : CalRC X.prog X.w X.K X.mg X.base k x C ps sp) (room : Room (k + 1) X.A) (gl : Gl X x) (tks : Takes X W) (ha : PA X (e :: es) t) (nodebug : (x == ("__debug__" : Str)) = false := by decide)
    (star : starEach (e :: es) X.env = (false, eval e X.env) :: starEach es X.env := by rfl) (plain : (backTo pos (starEach es X.env)).any (·.1) = false := by rfl) : PE X (.Call (.Name x p) (e :: es) [] pos) (tMkT C sp W t) := by
  obtain ⟨f, fd, F, m, M, b⟩ := c
  constructor
  intro pins s σ H Q I read
  refine wpAny_Call_Name_kw (ld_glob I gl m (PySem.W.callWith_K (h₀ := X.base) I.ok.mod.kin M.kp (thn (ha.run pos pins s σ H _ I read) fun us s1 y => ?_) star plain) nodebug)
  obtain ⟨vs, H1, J, rel, told⟩ := y
  refine ⟨J.kIn, made_or_raised (E := WE W) (zs := .ref (s1.heap.objs.size + 1) :: us) M F room (passAt tks σ) J (fun s2 kin => ?_) (.cons rfl rel) told⟩
  have many : (V.ref (s1.heap.objs.size + 1) :: vs).length = ps.length := F.len _ _ _ _ (told _ _ (J.hok.fresh (Nat.le_succ s1.heap.objs.size)) (J.hok.fresh (Nat.le_refl s1.heap.objs.size)) (Nat.ne_of_lt (Nat.lt_succ_self _)))
  have z := b s2 (.ref (s1.heap.objs.size + 1) :: us) kin (by rw [List.append_nil, List.length_cons, ← rel.length]; exact many)
  rw [List.append_nil] at z
  exact z
def tMkKT (C : Addr) (n : Nat) (sp : Sp) (is : List Nat) (W : WX) (tk : TA) : TE := fun σ H Q => tk σ H fun zs H1 => zs.length = n ∧ ∀ a d, H1 a = none → H1 d = none → d ≠ a → sp (.ref a :: prm is zs) (upd (upd H1 d (.own a)) a (.ins C d [])) (fun v H2 => v = .non ∧ Q (.ref a) H2) (WE W σ)
theorem pe_mkKT (c : CalRCK X.prog X.w X.K X.mg X.base k x C ps ks is sp) (room : Room (k + 1) X.A) (gl : Gl X x) (tks : Takes X W) (vals : PK X kws tk)
    (named : (backToKw pos (keywordEach kws X.env)).all (·.1.isSome) = true := by rfl) (names : (backToKw pos (keywordEach kws X.env)).filterMap (·.1) = ks := by rfl) (nodebug : (x == ("__debug__" : Str)) = false := by decide)
    (nostar : ((backTo pos (starEach [] X.env)).any (·.1) || (backToKw pos (keywordEach kws X.env)).any (·.1.isNone)) = false := by rfl) : PE X (.Call (.Name x p) [] kws pos) (tMkKT C ks.length sp is W tk) := by
  obtain ⟨f, fd, F, m, M, b⟩ := c
  constructor
  intro pins s σ H Q I read
  refine wpAny_Call_Name_kw (ld_glob I gl m (PySem.W.callWith_KW0 (h₀ := X.base) I.ok.mod.kin M.kp named (thn (vals.run pos pins s σ H _ I read) fun ws s1 y => ?_) nostar) nodebug)
  obtain ⟨zs, H1, J, rel, many, told⟩ := y
  rw [names]
  exact ⟨J.kIn, made_or_raised (E := WE W) (us := []) (zs := .ref (s1.heap.objs.size + 1) :: prm is ws) M F room (passAt tks σ) J (fun s2 kin => b.to s2 [.ref (s1.heap.objs.size + 1)] ws kin rfl (rel.length.symm.trans many)) (.cons rfl (prm_rel rel is)) told⟩
end
end Tg

/-! a derivation with a told precondition in the place of the one that is read off -/
namespace Tg
open PySem PySem.Spec PyProof.Rows L2
theorem pss_by {X : Cx} {rest : List Stmt} {u R : TS} (h : PSs X rest u) (hr : ∀ D σ H, R D σ H → u D σ H) : PSs X rest R := ⟨fun pins s σ H D I hw => h.run pins s σ H D I (hr D σ H hw)⟩
theorem pe_by {X : Cx} {e : Expr} {u R : TE} (h : PE X e u) (hr : ∀ σ H Q, R σ H Q → u σ H Q) : PE X e R := ⟨fun pins s σ H Q I hw => h.run pins s σ H Q I (hr σ H Q hw)⟩
theorem pt_by {X : Cx} {e : Expr} {u R : TT} (h : PT X e u) (hr : ∀ σ H Q, R σ H Q → u σ H Q) : PT X e R := ⟨fun pins s σ H Q I hw => h.run pins s σ H Q I (hr σ H Q hw)⟩
end Tg

namespace Tg
open PySem PySem.Spec PyProof.Rows L2
/-! ### promises of defs that are called where no repr is under way (str and repr of lists ask for it) -/
section
variable {P : Program} {w : World} {K : PySem.W.Frag} {mg : Str → Option Value} {base : Heap} {CX : CXT} {k : Nat} {f : Addr} {fd : FuncData} {ps : List Str} {sp : Sp}
/-- FnOk's promise, asked only where no repr is under way -/
structure FnG (P : Program) (w : World) (K : PySem.W.Frag) (mg : Str → Option Value) (base : Heap) (CX : CXT) (k : Nat) (f : Addr) (fd : FuncData) (ps : List Str) (sp : Sp) : Prop where
  arity : ∀ {zs : List V} {H : Hp} {Q : VK} {E : XK}, sp zs H Q E → zs.length = ps.length
  runs : ∀ {A : Around} {outer : List Env} {s : Shared} {H : Hp} {given : Args} {us : List Value} {zs : List V} {Q : VK} {E : XK}, A.guards = some [] → Room k A →
    Env0 P w K mg base A outer s H → BindsTo s fd given (ps.zip us) → Vals zs us → sp zs H Q E → codeAny (model P w) A (.call (.ref f) given) (CR CX outer P w H s Q E) s
theorem FnG.of (F : FnOk P w K mg base CX k f fd ps sp) : FnG P w K mg base CX k f fd ps sp := ⟨fun h => F.len _ _ _ _ h, fun _ r e b v h => F.run _ _ _ _ _ _ _ _ _ r e b v h⟩
end
section
variable {P : Program} {w : World} {K : PySem.W.Frag} {mg : Str → Option Value} {base : Heap}
/-- where a body ends: what its call hands back -/
theorem body_end {CX : CXT} {N : List Str} {qual : Str} {scope : Scope} {f : Addr} {cdv : Value} {A : Around} {outer : List Env} {s s' : Shared} {H : Hp} {Q : VK} {E : XK} {fl : Flow}
    (h : SP (cxOf CX P w K mg base N qual scope f cdv A outer s H E) [] { nx := fun _ H' => Q .non H', rt := Q } fl s') :
    CR CX outer P w H s Q E (match fl with | .ret u => .ok (.ret u) | .next => .ok (.ret .none) | x => .ok x) s' := by
  cases fl with
  | ret u =>
    obtain ⟨v, _, Hx, J, rv, z⟩ := h
    exact ⟨v, Hx, J.os, J.bare, J.base, J.hok, rv, z⟩
  | next =>
    obtain ⟨_, Hx, J, z⟩ := h
    exact ⟨V.non, Hx, J.os, J.bare, J.base, J.hok, rfl, z⟩
  | brk => exact h.elim fun _ z => z.elim fun _ y => y.2.elim
  | cont => exact h.elim fun _ z => z.elim fun _ y => y.2.elim
/-- a def by its body, where no repr is under way -/
theorem okG {x qual : Str} {st : Stmt} {f : Addr} {fd : FuncData} {N ps : List Str} {k : Nat} {sp : Sp} (F : Fun K x qual st f fd) (S : FnScope N ps (defScope st))
    (many : ∀ zs H Q E, sp zs H Q E → zs.length = ps.length)
    (bodies : ∀ (cdv : Value) (A : Around) (outer : List Env) (s : Shared) (H : Hp) (zs : List V) (Q : VK) (E : XK), A.guards = some [] → Room k (A.deeper (envOfC qual (defScope st) s.heap.objs.size f cdv)) → sp zs H Q E →
      ∃ t, PSs (cxOf CX0 P w K mg base N qual (defScope st) f cdv A outer s H E).nox (defBody st) t ∧ t { nx := fun _ H' => Q .non H', rt := Q } (start N zs) H) : FnG P w K mg base CX0 (k + 1) f fd ps sp := by
  obtain ⟨_, _, _, _, _, _, cdv, _, _, rfl, at_f, code⟩ := F.ex
  refine ⟨fun h => many _ _ _ _ h, fun {A outer s H given us zs Q E} hg room e0 binds rel h => ?_⟩
  have stays : ∀ b o, base.get? b = some o → s.heap.get? b = some o := fun b o z => (e0.bs b o z).1
  have written := e0.mod.kin.keeps stays
  have endless := e0.mod.nolimit.keeps stays
  have slots : ∀ y ∈ ps.zip us, (defScope st).names.lookup y.1 = some .local ∨ ((defScope st).names.lookup y.1 = some .cell ∧ ((cellsFrom (s.heap.objs.size + 1) (defScope st).names []).lookup y.1).isSome = true) := fun y hy =>
    (S.par y.1 (List.of_mem_zip hy).1).imp id fun z => ⟨z, PySem.W.cellsFrom_some _ _ _ (.inl z)⟩
  refine codeAny_call_function room.depth (written _ _ at_f) rfl S.co S.gen rfl (PySem.W.codeRec_of written code) (binds _ _ _ _ (wpAny_newFunctionEnv_cells S.kind slots fun env he s1 fresh => ?_))
  subst he
  obtain ⟨t, ht, read⟩ := bodies cdv A outer s H zs Q E hg (room.deeper _) h
  have I := inv_start (CX := CX0) (P := P) (w := w) (E := E) S room.hd e0 (many _ _ _ _ h) rel fresh
  refine ⟨endless.keeps fresh.toInCall.keep, codeAny_func (wpAny_mono (ht.nox.run [] s1 (start N zs) H _ I read) (fun fl s' z => ?_) fun _ _ z => z)⟩
  have told := body_end z
  cases fl with
  | ret u => exact told
  | next => exact told
  | brk => exact False.elim told
  | cont => exact False.elim told
end
section
variable {X : Cx} {CX : CXT} {k : Nat} {f : Addr} {fd : FuncData} {ps : List Str} {sp : Sp} {E : XK} {x : Str} {p pos : Pos} {e : Expr} {es : List Expr} {t : TA}
/-- the reading of f(e, ..) for such a def -/
abbrev tCallG (sp : Sp) (E : XK) (t : TA) : TE := fun σ H Q => t σ H fun zs H1 => sp zs H1 Q E
theorem pe_callG (F : FnG X.prog X.w X.K X.mg X.base CX k f fd ps sp) (quiet : X.A.guards = some []) (room : Room k X.A) (gl : Gl X x) (at_x : X.mg x = some (.ref f)) (kept : PySem.W.keepIn X.K (.ref f) = true)
    (binds : Binds X.K fd ps []) (lets : Passes CX X E) (args : PA X (e :: es) t) (nodebug : (x == ("__debug__" : Str)) = false := by decide)
    (one : starEach (e :: es) X.env = (false, eval e X.env) :: starEach es X.env := by rfl) (nostar : (backTo pos (starEach es X.env)).any (·.1) = false := by rfl) : PE X (.Call (.Name x p) (e :: es) [] pos) (tCallG sp E t) := by
  constructor
  intro pins s σ H Q I read
  refine wpAny_Call_Name_kw (ld_glob I gl at_x (PySem.W.callWith_K (h₀ := X.base) I.ok.mod.kin kept (thn (args.run pos pins s σ H _ I read) fun us s1 y => ?_) one nostar) nodebug)
  obtain ⟨zs, H1, J, rel, h⟩ := y
  have len : (us ++ []).length = ps.length := by
    rw [List.append_nil, ← rel.length]
    exact F.arity h
  have bound := binds s1 us J.kIn len
  rw [List.append_nil] at bound
  refine ⟨J.kIn, wpAny_call (codeAny_mono (F.runs (given := ⟨us, []⟩) quiet room J.env0 bound rel h) fun a s' z => ?_)⟩
  match a, z with
  | .error er, z => exact lets pins σ H1 s1 er s' J z
  | .ok (.ret u), z => exact J.after z
/-! ### str(x) of data -/
def rShow (K : PySem.W.Frag) : List V → Hp → VK → Prop := fun xs H Q => ∃ (a : Addr) (d : PyData), xs = [.ref a] ∧ Dp K H (.ref a) d ∧ d.showable = true ∧ d.hasDict = false ∧ d.depth ≤ 60 ∧ d.shown.length ≤ sizeLine ∧ Q (.str d.shown) H
theorem call_strD (deep : X.A.units + 64 < cLine) (quiet : X.A.guards = some []) : CallR X (.type "str") (rShow X.K) := by
  rintro pins s σ H _ _ Q I (_ | ⟨ra, rb⟩) ⟨a, d, e, dp, h1, h2, h3, h4, h⟩
  · exact nomatch e
  · obtain ⟨rfl, rfl⟩ := List.cons.inj e
    cases rb
    obtain ⟨as, rd⟩ := Dp.reads I d _ _ dp ra
    cases (show _ = Value.ref a from ra)
    exact str_of_reads rd h1 (fun z => absurd (h2.symm.trans z) (by decide)) quiet (by omega) (fun _ _ z => z) (fun hx u tk kp => ⟨.str d.shown, H, I.kept kp, ⟨u, rfl⟩, h⟩) h4
end
/-! ### the law's own head, for such a def -/
/-- a law's promise: of a list of at most 63 ints it gives True -/
def spScript (K : PySem.W.Frag) : Sp := fun zs H Q _ => ∃ (a : Addr) (ns : List Int), zs = [.ref a] ∧ SqL K H a (ns.map V.int) ∧ ns.length ≤ 63 ∧ ∀ Hx, Q (.bl true) Hx
section
variable {P : Program} {w : World} {K : PySem.W.Frag} {mg mb : Str → Option Value} {k : Nat} {fa a : Addr} {fd : FuncData} {x : Str} {s1 : Shared} {vs : List Value} {ns : List Int}
theorem law_from (KX : K.In s1.heap) (globals : s1.heap.Ns mainGlobals mg) (builtins : s1.heap.Ns builtinsNs mb) (boot : ∀ y : Str, y ≠ "__name__" → mb y = bootBuiltins y) (lim : s1.heap.NoLimit) (nogens : s1.gens = #[])
    (script : s1.heap.get? a = some { cls := .type "list", data := .seq vs.toArray }) (room : Room k callerA) (F : ∀ B : Heap, K.In B → B.Ns mainGlobals mg → FnG P w K mg B CX0 k fa fd [x] (spScript K))
    (bind : ∀ (s : Shared) (u : Value), BindsTo s fd ⟨[u], []⟩ [(x, u)]) (H : Hp) (only : Only H) (here : SqL K H a (ns.map V.int)) (few : ns.length ≤ 63) (fine : HOk P w H s1.heap) (alone : ∀ b, H b ≠ none → b = a ∧ K.lookup a = none) :
    codeAny (model P w) callerA (.call (.ref fa) ⟨[.ref a], []⟩) (fun r s' => r = .ok (.ret (.bool true)) ∧ OldK s1.heap s'.heap ∧ s'.os = s1.os ∧ AllBare s'.gens) s1 := by
  have free : ∀ {b : Addr}, (b = a → K.lookup a = none → False) → H b = none := fun {b} z => by
    cases hb : H b with
    | none => rfl
    | some u => exact ((fun y => z y.1 y.2) (alone b (by rw [hb]; exact fun e => nomatch e))).elim
  have dicts : ∀ {b : Addr} {m : Str → Option Value}, s1.heap.Ns b m → (hidT s1.heap H).Ns b m := fun {b m} y => by
    obtain ⟨o, es, ep, e, dd, r⟩ := y
    refine ⟨o, es, ep, hidT_get e (free fun z _ => ?_), dd, r⟩
    rw [z, script] at e
    cases e
    exact nomatch dd
  have kin : K.In (hidT s1.heap H) := fun b o e => hidT_get (KX b o e) (free fun z y => by
    rw [z, y] at e
    exact nomatch e)
  obtain ⟨mc, c1, c2⟩ := lim
  have e0 : Env0 P w K mg (hidT s1.heap H) callerA [] s1 H := {
    frames := rfl
    mod := ⟨kin, dicts globals, ⟨mb, dicts builtins, boot⟩, ⟨mc, dicts c1, c2⟩⟩
    bs := fun _ _ z => of_hidT z
    bsz := Nat.le_of_eq (hidT_size _ _)
    funs := trivial
    frf := fun b z => nomatch (show b ∈ ([] : List Addr) from z)
    hok := fine
    bare := .of_eq nogens }
  have run := (F _ kin (dicts globals)).runs (given := ⟨[.ref a], []⟩) (us := [.ref a]) (zs := [.ref a]) (Q := fun v _ => v = .bl true) (E := fun _ _ _ => False) rfl room e0 (bind s1 (.ref a)) (.cons rfl .nil) ⟨a, ns, rfl, here, few, fun _ => rfl⟩
  refine codeAny_mono run fun r s' told => ?_
  match r, told with
  | .error er, told => exact told.elim
  | .ok (.ret u), told =>
    obtain ⟨v, Hx, os, bare, un, fine2, rel, is_true⟩ := told
    cases (show v = .bl true from is_true)
    cases (show u = Value.bool true from rel)
    refine ⟨rfl, .of_keep fun b o e => ?_, os, bare⟩
    rcases only b with z | ⟨og, _, z⟩
    · exact un.keep b o e z (fun y => nomatch (show b ∈ ([] : List Addr) from y)) (by simp)
    · have still := (fine2 b _ (un.frzs b og _ z)).1
      cases e.symm.trans (fine b _ z).1
      exact still
end
theorem walk_g {l : PySem.W.OpenLaw} {k : Nat} {q : Program} {loose : List Str} {XP : (Str → Option Value) → Heap → Prop} {YP : World → Heap → Prop} {d : DefRec} {K : Params → PySem.W.Frag} {x : Str} (most : l.most = some 63) (plain : d.params.defaults = [])
    (room : Room k callerA) (inK : ∀ w h, YP w h → (K w.params).In h)
    (law : ∀ w mg fa h, (K w.params).In h → h.Ns mainGlobals mg → mg d.name = some (.ref fa) → ∃ fd : FuncData, (∀ (s : Shared) (v : Value), BindsTo s fd ⟨[v], []⟩ [(x, v)]) ∧ ∀ B : Heap, (K w.params).In B → B.Ns mainGlobals mg → FnG l.prog w (K w.params) mg B CX0 k fa fd [x] (spScript (K w.params))) :
    PySem.W.WalkO q loose XP YP l.row.toRowW d [] (fun f zs => PySem.call f zs) := by
  refine Att.attach_call most plain fun w _ s1 mg mb fa _ _ _ _ a vs ns G Y _ _ _ at_law script these few nogens => ?_
  have KX := inK w _ Y
  obtain ⟨fd, bind, F⟩ := law w mg fa _ KX G.T.g at_law
  have rel := vals_ints these
  have line : ns.length ≤ sizeLine := Nat.le_trans few (by decide)
  have go := law_from (ns := ns) KX G.T.g G.T.b G.T.builtins G.T.nolimit nogens script room F bind
  cases look : (K w.params).lookup a with
  | some o =>
    cases script.symm.trans (KX a o look)
    refine go (fun _ => none) (fun _ => .inl rfl) (.inr ⟨_, vs.toArray, _, look, rfl, rfl, rfl, ?_, ?_⟩) few (fun b u z => ((nomatch z : (none : Option HO) = some u → False) z).elim) (fun b z => absurd rfl z)
    · rw [List.size_toArray, these.length]
      exact line
    · rw [List.toList_toArray]
      exact rel
  | none =>
    obtain ⟨o, eo⟩ : ∃ o : HO, o = .frz { cls := .type "list", data := .seq vs.toArray } (.lst (ns.map V.int)) := ⟨_, rfl⟩
    have at_a : ∀ b, (if b = a then some o else none) = none ∨ (b = a ∧ (if b = a then some o else none) = some o) := fun b => by
      by_cases z : b = a
      · exact .inr ⟨z, if_pos z⟩
      · exact .inl (if_neg z)
    refine go (fun b => if b = a then some o else none) (fun b => ?_) (.inl (.inr ⟨_, (if_pos rfl).trans (congrArg some eo)⟩)) few (fun b u z => ?_) (fun b z => ?_)
    · rcases at_a b with z | ⟨_, z⟩
      · exact .inl z
      · exact .inr ⟨_, _, z.trans (congrArg some eo)⟩
    · rcases at_a b with y | ⟨e, y⟩
      · exact nomatch y.symm.trans z
      · cases y.symm.trans z
        subst e
        rw [eo]
        exact ⟨script, by rw [List.length_map]; exact line, vs, _, rel, script⟩
    · rcases at_a b with y | ⟨e, _⟩
      · exact absurd y z
      · exact ⟨e, look⟩
end Tg

/-! repr of own objects by their own __repr__, and {x!r} of data, where no repr is under way -/
namespace Tg
open PySem PySem.Spec PyProof.Rows L2
section
variable {prog : Program} {w : World} {A : Around} {E : Value → Shared → Prop} {s : Shared} {K : PySem.W.Frag} {x C f : Addr} {ox : Obj} {dx : Option Obj}
theorem repr_in {Q : Value → Shared → Prop} (room : A.in1.units < cLine) (inK : K.In s.heap) (I : PySem.W.InstAt s.heap x ox C dx) (at_ : PySem.W.findIn K (.ref C) "__repr__" = some (some (.ref f))) (fn : PySem.W.isFn K (.ref f) = true)
    (h : wpAny (model prog w) A.in1 (call (.ref f) [.ref x]) (fun r s' => ∃ y t, r = .str y t ∧ Q r s') E s) : wpAny (model prog w) A (call (.builtin "repr") [.ref x]) Q E s := by
  refine Calls.call_function_entry (id := "repr") PySem.F.kind_repr PySem.F.plain_repr PySem.F.entry_repr (PySem.F.args_repr1 (.ref x)) ?_
  unfold Builtin.«repr»
  refine wpAny_bind (m := oneArg "repr" _) (wpAny_pure (wpAny_bind (wpAny_cRoomFor room (wpAny_bind (wpAny_bind (I.type.here ((PySem.W.looks_findIn inK at_).here ?_)))))))
  show wpAny _ A.in1 (if (some (Value.ref f)).isNone = true then _ else _) _ E s
  rw [if_neg (fun z => nomatch z)]
  refine wpAny_bind (m := callSpecialIfBound? (.ref x) (Str.ofString "__repr__") _) (PySem.W.ifBound_K inK I at_ fn (wpAny_mono h (fun r s' told => ?_) fun _ _ y => y))
  obtain ⟨y, t, rfl, q⟩ := told
  refine wpAny_bind (m := isInstance (.str y t) (.type "str")) (wpAny_isInstance (T := "str") (typeIs_str _ y t) isSubtype_str_str ?_)
  first
    | exact wpAny_pure ⟨_, rfl, q⟩
    | (rw [if_pos rfl]; exact wpAny_pure ⟨_, rfl, q⟩)
    | (simp only [if_true]; exact wpAny_pure ⟨_, rfl, q⟩)
end
section
variable {X : Cx} {n : Nat}
def rReprO (C : Addr) (sp : Sp) (E : XK) : List V → Hp → VK → Prop := fun vs H Q => ∃ a dx fs, vs = [.ref a] ∧ H a = some (.ins C dx fs) ∧ sp [.ref a] H (fun v H' => ∃ y : Str, v = .str y ∧ Q v H') E
theorem cr_reprO {CX : CXT} {C f : Addr} {fd : FuncData} {sp : Sp} {E : XK} (F : FnG X.prog X.w X.K X.mg X.base CX n f fd ["self"] sp) (at_ : PySem.W.findIn X.K (.ref C) "__repr__" = some (some (.ref f))) (fn : PySem.W.isFn X.K (.ref f) = true) (hb : Binds X.K fd ["self"] []) (hx : Passes CX X E) (hr : Room (n + 1) X.A) (quiet : X.A.guards = some []) :
    CallR X (.builtin "repr") (rReprO C sp E) := by
  rintro pins s σ H vs us Q I r ⟨a, dx, fs, rfl, ha, told⟩
  obtain rfl : us = [.ref a] := by
    cases r with
    | cons p t => cases t; cases p; rfl
  obtain ⟨atA, J, _⟩ := ins_get I.hok ha
  obtain ⟨od, J, _⟩ := J.look
  have sb : Sub X n X.A.in1 := Sub.in1 ⟨hr, rfl⟩
  refine repr_in (by have := hr.units; show X.A.units + 1 < cLine; omega) I.kIn J at_ fn ?_
  have e0 : Env0 X.prog X.w X.K X.mg X.base X.A.in1 X.stack s H := by
    have env := I.env0
    exact ⟨sb.fr.symm ▸ env.frames, env.mod, env.bs, env.bsz, env.funs, env.frf, env.hok, env.bare⟩
  refine wpAny_call (codeAny_mono (F.runs (A := X.A.in1) (outer := X.stack) (s := s) (given := ⟨[.ref a], []⟩) (us := [.ref a]) (zs := [.ref a]) quiet sb.room e0 (by
    have z := hb s [.ref a] I.kIn rfl
    simpa using z) (.cons rfl .nil) told) fun r s' done => ?_)
  cases r with
  | error e => exact hx pins σ H s e s' I done
  | ok fl =>
    cases fl with
    | ret w =>
      obtain ⟨z, H', I', rz, y, ez, q⟩ := I.after done
      subst ez
      obtain ⟨t, rfl⟩ := rz
      exact ⟨y, t, rfl, .str y, H', I', ⟨t, rfl⟩, q⟩
    | next => exact False.elim done
    | brk => exact False.elim done
    | cont => exact False.elim done
/-- f'..' of two parts or more, by a name -/
def tJn (ts : List TE) : TE := fun σ H Q => tJs ts Str.empty σ H fun out H1 => Q (.str out) H1
theorem pe_jn {v1 v2 : Expr} {rest : List Expr} {ts : List TE} {pos : Pos} (h : PJ X (v1 :: v2 :: rest) ts) : PE X (.JoinedStr (v1 :: v2 :: rest) pos) (tJn ts) := pe_joined h
/-! ### {x!r} of data -/
def tFmtRD (K : PySem.W.Frag) (te : TE) : TE := fun σ H Q => te σ H fun x H1 => ∃ d : PyData, Dp K H1 x d ∧ d.showable = true ∧ d.hasDict = false ∧ d.depth ≤ 60 ∧ d.shown.length ≤ sizeLine ∧ Q (.str d.shown) H1
theorem pe_fmtRD {e : Expr} {te : TE} {pos : Pos} (deep : X.A.units + 64 < cLine) (quiet : X.A.guards = some []) (he : PE X e te) : PE X (.FormattedValue e 114 none pos) (tFmtRD X.K te) := by
  refine ⟨fun pins s σ H Q I h => ?_⟩
  refine wpAny_FormattedValue_repr (thn (he.run pins s σ H _ I h) fun v s1 ⟨x, H1, I1, r1, d, dp, h1, h2, h3, h4, q⟩ => ?_)
  obtain ⟨as, rd⟩ := Dp.reads I1 d x v dp r1
  cases dp with
  | non =>
    cases r1
    exact pyReprObj_none (wpAny_formatField_str ⟨.str "None", H1, I1.tok _, ⟨_, rfl⟩, q⟩ ⟨.str "None", H1, I1.tok _, ⟨_, rfl⟩, q⟩ h4)
  | bl b =>
    cases r1
    exact pyReprObj_bool (wpAny_formatField_str ⟨.str _, H1, I1.tok _, ⟨_, rfl⟩, q⟩ ⟨.str _, H1, I1.tok _, ⟨_, rfl⟩, q⟩ h4)
  | int i =>
    obtain ⟨t, rfl⟩ := r1
    exact pyReprObj_int (of_decide_eq_true h1) (wpAny_formatField_str ⟨.str _, H1, I1.tok _, ⟨_, rfl⟩, q⟩ ⟨.str _, H1, I1.tok _, ⟨_, rfl⟩, q⟩ h4)
  | str y =>
    obtain ⟨t, rfl⟩ := r1
    exact pyReprObj_str (wpAny_formatField_str ⟨.str _, H1, I1.tok _, ⟨_, rfl⟩, q⟩ ⟨.str _, H1, I1.tok _, ⟨_, rfl⟩, q⟩ h4) h4
  | lst _ _ =>
    cases r1
    exact pyReprObj_of_reads rd h1 (fun z => absurd (h2.symm.trans z) (by decide)) quiet (by omega) (fun _ _ z => z) (fun hx u tk kp => wpAny_formatField_str ⟨.str _, H1, I1.kept kp, ⟨_, rfl⟩, q⟩ ⟨.str _, H1, (I1.kept (t' := tk) kp).tok _, ⟨_, rfl⟩, q⟩ h4) h4
  | tup _ _ =>
    cases r1
    exact pyReprObj_of_reads rd h1 (fun z => absurd (h2.symm.trans z) (by decide)) quiet (by omega) (fun _ _ z => z) (fun hx u tk kp => wpAny_formatField_str ⟨.str _, H1, I1.kept kp, ⟨_, rfl⟩, q⟩ ⟨.str _, H1, (I1.kept (t' := tk) kp).tok _, ⟨_, rfl⟩, q⟩ h4) h4
end
theorem pe_fmtRDK {X : Cx} {e : Expr} {te : TE} {pos : Pos} (K : PySem.W.Frag) (deep : X.A.units + 64 < cLine) (quiet : X.A.guards = some []) (he : PE X e te) (hK : X.K = K := by rfl) : PE X (.FormattedValue e 114 none pos) (tFmtRD K te) := by
  subst hK
  exact pe_fmtRD deep quiet he
section
variable {P : Program} {w : World} {K : PySem.W.Frag} {mg : Str → Option Value} {base : Heap}
/-- a def that is called where no repr is under way -/
def CalG (P : Program) (w : World) (K : PySem.W.Frag) (mg : Str → Option Value) (base : Heap) (k : Nat) (x : Str) (ps : List Str) (sp : Sp) : Prop := ∃ f fd, FnG P w K mg base CX0 k f fd ps sp ∧ mg x = some (.ref f) ∧ PySem.W.keepIn K (.ref f) = true ∧ Binds K fd ps []
theorem pe_calG {X : Cx} {k : Nat} {x : Str} {ps : List Str} {sp : Sp} {e : Expr} {es : List Expr} {t : TA} {p pos : Pos} (c : CalG X.prog X.w X.K X.mg X.base k x ps sp) (quiet : X.A.guards = some []) (hr : Room k X.A) (gl : Gl X x) (ha : PA X (e :: es) t) (nodebug : (x == ("__debug__" : Str)) = false := by decide)
    (one : starEach (e :: es) X.env = (false, eval e X.env) :: starEach es X.env := by rfl) (nostar : (backTo pos (starEach es X.env)).any (·.1) = false := by rfl) : PE X (.Call (.Name x p) (e :: es) [] pos) (tCallG sp E0 t) := by
  obtain ⟨f, fd, F, hm, hk, hb⟩ := c
  exact pe_callG F quiet hr gl hm hk hb pass0 ha nodebug one nostar
end
end Tg

namespace Tg
open PySem PySem.Spec PyProof.Rows L2
/-! ### enumerate(t), t a tuple -/
set_option maxHeartbeats 1000000 in
theorem enum1_new {v : Value} {o : Obj} {Ok : Heap → Prop} (B : Begins v o Ok) :
    Meets (Builtin.«enumerate.__new__» ⟨[.type "enumerate", v], []⟩) (fun _ R s => Ok s.heap ∧ R (.ok (.ret (.ref (s.heap.push o).objs.size))) { s with heap := (s.heap.push o).push { cls := .type "enumerate", data := .fields #[.none, .bool false, .ref s.heap.objs.size, rawInt 0, .none, .none] } }) :=
  .of_wp fun prog w A R s want => by
    obtain ⟨hp, g, d, tk, os⟩ := s; obtain ⟨ok, want⟩ := want
    have isub := sub_enumerate
    have it0 : ∀ {A' : Around} {E : Value → Shared → Prop} {Q : Value → Shared → Prop}, Q (.ref hp.objs.size) ⟨hp.push o, g, d, tk, os⟩ → wpAny (model prog w) A' (pyIter v) Q E ⟨hp, g, d, tk, os⟩ := fun q => B.iter prog w _ _ ⟨hp, g, d, tk, os⟩ _ ok q
    wp_walk using it0
    apply wpAny_stack_any; intro fr; apply wpAny_pure
    split
    · rename_i c _ _ _ _ _
      cases (c == Value.type "enumerate") <;> (wp_walk using it0; exact ⟨_, rfl, want⟩)
    · wp_walk using it0; exact ⟨_, rfl, want⟩
theorem enum1_made {prog : Program} {w : World} {A : Around} {E : Value → Shared → Prop} {s : Shared} {v : Value} {o : Obj} {Ok : Heap → Prop} {Q : Value → Shared → Prop} (B : Begins v o Ok) (ok : Ok s.heap)
    (h : ∀ h', IsEnum h' (s.heap.objs.size + 1) s.heap.objs.size 0 .none → h'.get? s.heap.objs.size = some o → (∀ b o, s.heap.get? b = some o → h'.get? b = some o) → Q (.ref (s.heap.objs.size + 1)) { s with heap := h' }) :
    wpAny (model prog w) A (call (.type "enumerate") [v]) Q E s := by
  refine callType_new F.called_enumerate (by decide) (F.typeCall_enumerate_1 _) (F.newCall_enumerate_1 _) (fun obj => F.args_object_init_2 obj _) F.entry_enumerate_new (enum1_new B) ⟨ok, ?_⟩
  have more : (s.heap.push o).objs.size = s.heap.objs.size + 1 := by rw [Heap.size_push]
  show _ ∧ _
  rw [more]
  have he : IsEnum ((s.heap.push o).push { cls := .type "enumerate", data := .fields #[.none, .bool false, .ref s.heap.objs.size, rawInt 0, .none, .none] }) (s.heap.objs.size + 1) s.heap.objs.size 0 .none := by
    have z := Heap.get?_push_size (s.heap.push o) (o := { cls := .type "enumerate", data := .fields #[.none, .bool false, .ref s.heap.objs.size, rawInt 0, .none, .none] }) rfl
    rw [more] at z
    exact z
  exact ⟨⟨_, he, rfl⟩, h _ he (Heap.get?_push_of_some _ (Heap.get?_push_size _ B.free)) fun b o x => Heap.get?_push_of_some _ (Heap.get?_push_of_some _ x)⟩
/-- the tuple at a, each item with its place in a new pair -/
def IteT (K : PySem.W.Frag) (a : Addr) : It :=
  ⟨fun i H => ∃ (xs : List V) (x : V), SqT K H a xs ∧ xs[i]? = some x,
    fun i H v H' => ∃ T x, v = .ref T ∧ H T = none ∧ H' = upd H T (.tup [.int (i : Nat), x]) ∧ ∀ xs, SqT K H a xs → xs[i]? = some x,
    fun i H => ∃ xs : List V, SqT K H a xs ∧ xs.length = i⟩
theorem apart_ti {h : Heap} {a it : Addr} {items : Array Value} {i : Nat} (h1 : h.IsTuple a items) (h2 : h.IsTupleIter it a i) : a ≠ it := fun z => by
  obtain ⟨o, e, c, _⟩ := h1
  obtain ⟨o2, e2, c2, _⟩ := h2
  rw [z, e2] at e
  cases e
  rw [c2] at c
  exact absurd c (by decide)
theorem apart_te {h : Heap} {a e it : Addr} {items : Array Value} {k : Int} {old : Value} (h1 : h.IsTuple a items) (h2 : IsEnum h e it k old) : e ≠ a := fun z => by
  obtain ⟨o, e1, c, _⟩ := h1
  have h3 : h.get? a = _ := z ▸ h2
  rw [h3] at e1
  cases e1
  have c' : Value.type "enumerate" = Value.type "tuple" := c
  exact absurd c' (by decide)
theorem turn_enumT {P : Program} {w : World} {K : PySem.W.Frag} {elts : List Expr} {kk : Nat} {tpos : Pos} (a e it : Addr) :
    Turn P w K (.Tuple elts kk tpos) (IteT K a) [e, it] e (fun i h => (∃ old, IsEnum h e it (0 + (i : Int)) old) ∧ h.IsTupleIter it a i ∧ e ≠ it) where
  mem := List.mem_cons_self
  obj := fun i h st b hb => by
    obtain ⟨⟨old, he⟩, ⟨o, ho, _, hd⟩, _⟩ := st
    rw [List.mem_cons, List.mem_singleton] at hb
    rcases hb with rfl | rfl
    · exact ⟨_, he, fun v q => nomatch q⟩
    · exact ⟨o, ho, fun v q => by rw [hd] at q; cases q⟩
  keep := fun i h h' st k => ⟨st.1.imp fun old he => k e List.mem_cons_self _ he, st.2.1.at fun o q => k it (List.mem_cons_of_mem _ List.mem_cons_self) o q, st.2.2⟩
  item := by
    rintro X rfl rfl rfl hc i pins s σ H E I hf ⟨⟨old, he⟩, hit, hne⟩ ⟨xs, x, hq, hx⟩
    obtain ⟨its, rv, ist, _⟩ := I.tuple hq
    obtain ⟨u, hu, ru⟩ := Vals.get rv hx
    have isT : s.heap.IsTuple a its.toArray := ist
    have n1 := apart_ti isT hit
    have n2 := apart_te isT he
    have hil : i < its.toArray.size := by
      have := (List.getElem?_eq_some_iff.mp hu).1
      simpa using this
    have calm : X.A.in1.handled = none := by
      have := I.ok.hd hc
      simp [this]
    have G := GoesN.enumFrom (prog := X.prog) (w := X.w) (A := X.A) (elts := elts) (x1 := kk) (pos := tpos) 0 (Draws.tuple (prog := X.prog) (w := X.w) calm it a n1 its.toArray) e hne (by simp [hne, n2]) List.mem_cons_self
    refine G.goes i s _ E hil ⟨⟨old, he⟩, hit, isT⟩ fun v h' tk hy st' hk _ => ?_
    obtain ⟨T, t, u', ev, hT, hp, isp⟩ := hy
    obtain rfl : u' = u := by
      have z : its.toArray[i]? = some u' := hp
      rw [List.getElem?_toArray, hu] at z
      exact (Option.some.inj z).symm
    have new : ObjOk X.prog X.w (upd H T (.tup [.int (i : Nat), x])) h' T (.tup [.int (i : Nat), x]) := by
      refine ⟨by show 2 ≤ sizeLine; decide, [.int (0 + (i : Int)) t, u'], .cons ⟨_, by rw [Int.zero_add]⟩ (.cons ru .nil), isp⟩
    have J : Inv X pins σ (upd H T (.tup [.int (i : Nat), x])) { s with heap := h', toks := tk } := I.turnedNew (ch := [e, it]) (fun b ob hb q => hk b ob hb q) hf hT new
    refine ⟨.ref T, _, J, by rw [ev]; rfl, ⟨T, x, rfl, I.hok.fresh hT, rfl, fun ys hy => by rw [I.tuple_inj hy hq]; exact hx⟩, ⟨?_, st'.2.1, hne⟩, fun b hb => ?_⟩
    · obtain ⟨old2, he2⟩ := st'.1
      exact ⟨old2, he2⟩
    · have lt : b < s.heap.objs.size := by
        rw [List.mem_cons, List.mem_singleton] at hb
        rcases hb with rfl | rfl
        · exact Heap.lt_size he
        · obtain ⟨_, q, _⟩ := hit
          exact Heap.lt_size q
      rw [upd_ne (Nat.ne_of_lt (Nat.lt_of_lt_of_le lt hT))]
      exact (hf b hb).1
  done := by
    rintro X rfl rfl rfl hc i pins s σ H E I hf ⟨⟨old, he⟩, hit, hne⟩ ⟨xs, hq, hx⟩
    obtain ⟨its, rv, ist, _⟩ := I.tuple hq
    have isT : s.heap.IsTuple a its.toArray := ist
    have n1 := apart_ti isT hit
    have n2 := apart_te isT he
    have calm : X.A.in1.handled = none := by
      have := I.ok.hd hc
      simp [this]
    have ei : its.toArray.size = i := by
      rw [← hx, rv.length]
      simp
    have G := GoesN.enumFrom (prog := X.prog) (w := X.w) (A := X.A) (elts := elts) (x1 := kk) (pos := tpos) 0 (Draws.tuple (prog := X.prog) (w := X.w) calm it a n1 its.toArray) e hne (by simp [hne, n2]) List.mem_cons_self
    refine G.stops s _ E (by rw [ei]; exact ⟨⟨old, he⟩, hit, isT⟩) fun h' tk hk _ => ?_
    exact I.turnedL (t' := tk) (ch := [e, it]) (fun b ob hb q => hk b ob hb q) hf
  self := fun A i s Q E st q => by
    obtain ⟨⟨old, he⟩, _⟩ := st
    exact wpAny_pyIter_enum he q
end Tg

namespace Tg
open PySem PySem.Spec PyProof.Rows L2
def iEnumT (K : PySem.W.Frag) (ta : TA) : TI := fun σ H R => ta σ H fun vs H1 => ∃ (a : Addr) (xs : List V), vs = [.ref a] ∧ SqT K H1 a xs ∧ R (IteT K a) H1
theorem pi_enumT {X : Cx} {e : Expr} {ta : TA} {p pos tpos : Pos} {elts : List Expr} {kk : Nat} (hg : Gl X "enumerate") (hm : X.mg "enumerate" = none) (ha : PA X [e] ta) (hs : starEach [e] X.env = [(false, eval e X.env)] := by rfl) :
    PI X (.Tuple elts kk tpos) (.Call (.Name "enumerate" p) [e] [] pos) (iEnumT X.K ta) := by
  constructor
  intro pins s σ H R I told
  refine Call_ (ld_blt I hg hm boot_enumerate (callWith_type1 (thn (ha.run pos pins s σ H _ I told) fun us s1 come => ?_) hs rfl))
  obtain ⟨_, H1, I1, r1, a, xs, rfl, hq, q⟩ := come
  cases r1 with
  | cons r rr =>
    cases rr
    cases r
    obtain ⟨its, rv, ist, _⟩ := I1.tuple hq
    have isT : s1.heap.IsTuple a its.toArray := ist
    refine enum1_made (begins_tuple a its.toArray) isT fun h' he hit hk => wpAny_pyIter_enum he ?_
    have I2 := I1.kept (t' := s1.toks) hk
    refine ⟨s1.heap.objs.size + 1, [s1.heap.objs.size + 1, s1.heap.objs.size], _, _, H1, rfl, I2, turn_enumT a (s1.heap.objs.size + 1) s1.heap.objs.size, ⟨⟨.none, he⟩, ⟨_, hit, rfl, rfl⟩, Nat.succ_ne_self _⟩, fun b hb => ?_, q⟩
    have late : s1.heap.objs.size ≤ b := by
      rw [List.mem_cons, List.mem_singleton] at hb
      rcases hb with rfl | rfl
      · exact Nat.le_succ _
      · exact Nat.le_refl _
    exact I1.fpOk late (I1.hok.fresh late)
theorem walk_enumT {K : PySem.W.Frag} {a : Addr} {xs : List V} : Walk (IteT K a) xs.length (fun H => SqT K H a xs) (YPair (fun i => some (.int (i : Nat))) (fun i => xs[i]?)) := by
  refine ⟨fun i _ hi q => ⟨xs, xs[i], q, by simp [hi]⟩, fun _ q => ⟨xs, q, rfl⟩, fun i _ _ _ _ q ⟨T, x, e, n, l, at_i⟩ => ?_⟩
  exact ⟨T, .int (i : Nat), x, e, n, l, rfl, at_i xs q⟩
theorem walk_zipTT {K : PySem.W.Frag} {a b : Addr} {xs ys : List V} (hl : xs.length = ys.length) : Walk (RZ.ItzT K a b) xs.length (fun H => SqT K H a xs ∧ SqT K H b ys) (YPair (fun i => xs[i]?) (fun i => ys[i]?)) := by
  refine ⟨fun i _ hi q => ⟨xs, ys, xs[i], ys[i]'(hl ▸ hi), q.1, q.2, by simp [hi], by simp [hl ▸ hi]⟩, fun _ q => ⟨xs, ys, q.1, q.2, .inl (Nat.le_refl _)⟩, fun i _ _ _ _ q ⟨T, x, z, e, n, l, one, two⟩ => ?_⟩
  exact ⟨T, x, z, e, n, l, one xs q.1, two ys q.2⟩
/-! ### zip of three tuples -/
def Itz3 (K : PySem.W.Frag) (a b c : Addr) : It :=
  ⟨fun i H => ∃ (xs ys zs : List V) (x y z : V), SqT K H a xs ∧ SqT K H b ys ∧ SqT K H c zs ∧ xs[i]? = some x ∧ ys[i]? = some y ∧ zs[i]? = some z,
    fun i H v H' => ∃ T x y z, v = .ref T ∧ H T = none ∧ H' = upd H T (.tup [x, y, z]) ∧ (∀ xs, SqT K H a xs → xs[i]? = some x) ∧ (∀ ys, SqT K H b ys → ys[i]? = some y) ∧ ∀ zs, SqT K H c zs → zs[i]? = some z,
    fun i H => ∃ xs ys zs : List V, SqT K H a xs ∧ SqT K H b ys ∧ SqT K H c zs ∧ min (min xs.length ys.length) zs.length = i⟩
theorem mem56 {z TI TO i1 i2 i3 e : Addr} (h : e ∈ [z, TO, i1, i2, i3]) : e ∈ [z, TI, TO, i1, i2, i3] := by
  rw [List.mem_cons] at h ⊢
  exact h.imp id fun q => List.mem_cons_of_mem _ q
theorem turn_zip3T {P : Program} {w : World} {K : PySem.W.Frag} {elts : List Expr} {kk : Nat} {tpos : Pos} {z TI TO i1 i2 i3 a b c : Addr} (S : ZipSep3 z TI TO i1 i2 i3 [i1, a] [i2, b] [i3, c]) (n1 : a ≠ i1) (n2 : b ≠ i2) (n3 : c ≠ i3) :
    Turn P w K (.Tuple elts kk tpos) (Itz3 K a b c) [z, TI, TO, i1, i2, i3] z (fun i h => IsZip h z TI TO .none ∧ IsTupOf3 h TI (.ref i1) (.ref i2) (.ref i3) ∧ (∃ a1 a2 a3, IsTupOf3 h TO a1 a2 a3) ∧ h.IsTupleIter i1 a i ∧ h.IsTupleIter i2 b i ∧ h.IsTupleIter i3 c i) where
  mem := List.mem_cons_self
  obj := fun i h st e he => by
    obtain ⟨hz, hTI, ⟨_, _, _, hTO⟩, ⟨o1, e1, _, d1⟩, ⟨o2, e2, _, d2⟩, ⟨o3, e3, _, d3⟩⟩ := st
    simp only [List.mem_cons, List.not_mem_nil, or_false] at he
    rcases he with rfl | rfl | rfl | rfl | rfl | rfl
    · exact ⟨_, hz, fun v q => nomatch q⟩
    · exact ⟨_, hTI, fun v q => nomatch q⟩
    · exact ⟨_, hTO, fun v q => nomatch q⟩
    · exact ⟨o1, e1, fun v q => by rw [d1] at q; cases q⟩
    · exact ⟨o2, e2, fun v q => by rw [d2] at q; cases q⟩
    · exact ⟨o3, e3, fun v q => by rw [d3] at q; cases q⟩
  keep := fun i h h' st k => by
    obtain ⟨hz, hTI, ⟨a1, a2, a3, hTO⟩, h1, h2, h3⟩ := st
    exact ⟨k z (by simp) _ hz, k TI (by simp) _ hTI, ⟨a1, a2, a3, k TO (by simp) _ hTO⟩, h1.at fun o q => k i1 (by simp) o q, h2.at fun o q => k i2 (by simp) o q, h3.at fun o q => k i3 (by simp) o q⟩
  item := by
    rintro X rfl rfl rfl hc i pins s σ H E I hf ⟨hz, hTI, hTO, h1, h2, h3⟩ ⟨xs, ys, zs, x, y, u, hqx, hqy, hqz, hx, hy, hu⟩
    obtain ⟨l1, rv1, p1, _⟩ := I.tuple hqx
    obtain ⟨l2, rv2, p2, _⟩ := I.tuple hqy
    obtain ⟨l3, rv3, p3, _⟩ := I.tuple hqz
    obtain ⟨u1, hu1, ru1⟩ := rv1.get hx
    obtain ⟨u2, hu2, ru2⟩ := Vals.get rv2 hy
    obtain ⟨u3, hu3, ru3⟩ := rv3.get hu
    have q1 : s.heap.IsTuple a l1.toArray := p1
    have q2 : s.heap.IsTuple b l2.toArray := p2
    have q3 : s.heap.IsTuple c l3.toArray := p3
    have g1 := (List.getElem?_eq_some_iff.mp hu1).1
    have g2 := (List.getElem?_eq_some_iff.mp hu2).1
    have g3 := (List.getElem?_eq_some_iff.mp hu3).1
    have calm : X.A.in1.handled = none := by
      have := I.ok.hd hc
      simp [this]
    have G := GoesN.zip3 (prog := X.prog) (w := X.w) (A := X.A) (elts := elts) (x1 := kk) (pos := tpos) S (Draws.tuple (prog := X.prog) (w := X.w) calm i1 a n1 l1.toArray) (Draws.tuple (prog := X.prog) (w := X.w) calm i2 b n2 l2.toArray) (Draws.tuple (prog := X.prog) (w := X.w) calm i3 c n3 l3.toArray)
    refine G.goes i s _ E (by simp only [List.size_toArray]; omega) ⟨hz, hTI, hTO, ⟨h1, q1⟩, ⟨h2, q2⟩, ⟨h3, q3⟩⟩ fun v h' tk hyl st' hk _ => ?_
    obtain ⟨T, v1, v2, v3, ev, hT, w1, w2, w3, isp⟩ := hyl
    obtain rfl : v1 = u1 := by
      have w1' : l1.toArray[i]? = some v1 := w1
      rw [List.getElem?_toArray, hu1] at w1'
      exact (Option.some.inj w1').symm
    obtain rfl : v2 = u2 := by
      have w2' : l2.toArray[i]? = some v2 := w2
      rw [List.getElem?_toArray, hu2] at w2'
      exact (Option.some.inj w2').symm
    obtain rfl : v3 = u3 := by
      have w3' : l3.toArray[i]? = some v3 := w3
      rw [List.getElem?_toArray, hu3] at w3'
      exact (Option.some.inj w3').symm
    have new : ObjOk X.prog X.w (upd H T (.tup [x, y, u])) h' T (.tup [x, y, u]) :=
      ⟨by show 3 ≤ sizeLine; decide, [v1, v2, v3], .cons ru1 (.cons ru2 (.cons ru3 .nil)), isp⟩
    have J : Inv X pins σ (upd H T (.tup [x, y, u])) { s with heap := h', toks := tk } := I.turnedNew (ch := [z, TI, TO, i1, i2, i3]) (fun e ob hb q => hk e ob (fun hm => hb (mem56 hm)) q) hf hT new
    obtain ⟨sz, sTI, sTO, s1, s2, s3⟩ := st'
    refine ⟨.ref T, _, J, by rw [ev]; rfl, ⟨T, x, y, u, rfl, I.hok.fresh hT, rfl, fun l hl => by rw [I.tuple_inj hl hqx]; exact hx, fun l hl => by rw [I.tuple_inj hl hqy]; exact hy, fun l hl => by rw [I.tuple_inj hl hqz]; exact hu⟩, ⟨sz, sTI, sTO, s1.1, s2.1, s3.1⟩, fun e he => ?_⟩
    have lt : e < s.heap.objs.size := by
      obtain ⟨_, _, _, hTO⟩ := hTO
      obtain ⟨_, e1, _⟩ := h1
      obtain ⟨_, e2, _⟩ := h2
      obtain ⟨_, e3, _⟩ := h3
      simp only [List.mem_cons, List.not_mem_nil, or_false] at he
      rcases he with rfl | rfl | rfl | rfl | rfl | rfl
      · exact Heap.lt_size hz
      · exact Heap.lt_size hTI
      · exact Heap.lt_size hTO
      · exact Heap.lt_size e1
      · exact Heap.lt_size e2
      · exact Heap.lt_size e3
    rw [upd_ne (Nat.ne_of_lt (Nat.lt_of_lt_of_le lt hT))]
    exact (hf e he).1
  done := by
    rintro X rfl rfl rfl hc i pins s σ H E I hf ⟨hz, hTI, hTO, h1, h2, h3⟩ ⟨xs, ys, zs, hqx, hqy, hqz, hn⟩
    obtain ⟨l1, rv1, p1, _⟩ := I.tuple hqx
    obtain ⟨l2, rv2, p2, _⟩ := I.tuple hqy
    obtain ⟨l3, rv3, p3, _⟩ := I.tuple hqz
    have q1 : s.heap.IsTuple a l1.toArray := p1
    have q2 : s.heap.IsTuple b l2.toArray := p2
    have q3 : s.heap.IsTuple c l3.toArray := p3
    have calm : X.A.in1.handled = none := by
      have := I.ok.hd hc
      simp [this]
    have G := GoesN.zip3 (prog := X.prog) (w := X.w) (A := X.A) (elts := elts) (x1 := kk) (pos := tpos) S (Draws.tuple (prog := X.prog) (w := X.w) calm i1 a n1 l1.toArray) (Draws.tuple (prog := X.prog) (w := X.w) calm i2 b n2 l2.toArray) (Draws.tuple (prog := X.prog) (w := X.w) calm i3 c n3 l3.toArray)
    have ei : min (min l1.toArray.size l2.toArray.size) l3.toArray.size = i := by
      rw [← hn, rv1.length, rv2.length, rv3.length]
      simp
    refine G.stops s _ E (by rw [ei]; exact ⟨hz, hTI, hTO, ⟨h1, q1⟩, ⟨h2, q2⟩, ⟨h3, q3⟩⟩) fun h' tk hk _ => ?_
    exact I.turnedL (t' := tk) (ch := [z, TI, TO, i1, i2, i3]) (fun e ob hb q => hk e ob (fun hm => hb (mem56 hm)) q) hf
  self := fun _ _ _ _ _ st => wpAny_pyIter_zip st.1
def iZip3 (K : PySem.W.Frag) (ta : TA) : TI := fun σ H R => ta σ H fun vs H1 => ∃ a b c xs ys zs, vs = [.ref a, .ref b, .ref c] ∧ SqT K H1 a xs ∧ SqT K H1 b ys ∧ SqT K H1 c zs ∧ R (Itz3 K a b c) H1
theorem pi_zip3T {X : Cx} {e e2 e3 : Expr} {ta : TA} {p pos tpos : Pos} {elts : List Expr} {kk : Nat} (hg : Gl X "zip") (hm : X.mg "zip" = none) (ha : PA X [e, e2, e3] ta)
    (hs : starEach [e, e2, e3] X.env = (false, eval e X.env) :: starEach [e2, e3] X.env := by rfl) (hpl : (backTo pos (starEach [e2, e3] X.env)).any (·.1) = false := by rfl) :
    PI X (.Tuple elts kk tpos) (.Call (.Name "zip" p) [e, e2, e3] [] pos) (iZip3 X.K ta) := by
  constructor
  intro pins s σ H R I told
  refine Call_ (ld_blt I hg hm boot_zip (callWith_type1 (thn (ha.run pos pins s σ H _ I told) fun us s1 come => ?_) hs hpl))
  obtain ⟨_, H1, I1, r1, a, b, c, xs, ys, zs, rfl, hqx, hqy, hqz, q⟩ := come
  cases r1 with
  | cons r rr =>
  cases rr with
  | cons r' rr =>
  cases rr with
  | cons r'' rr =>
    cases rr
    cases r
    cases r'
    cases r''
    obtain ⟨l1, rv1, p1, _⟩ := I1.tuple hqx
    obtain ⟨l2, rv2, p2, _⟩ := I1.tuple hqy
    obtain ⟨l3, rv3, p3, _⟩ := I1.tuple hqz
    have q1 : s1.heap.IsTuple a l1.toArray := p1
    have q2 : s1.heap.IsTuple b l2.toArray := p2
    have q3 : s1.heap.IsTuple c l3.toArray := p3
    obtain ⟨o1, e1, _⟩ := id q1
    obtain ⟨o2, e2, _⟩ := id q2
    obtain ⟨o3, e3, _⟩ := id q3
    have la : a < s1.heap.objs.size := Heap.lt_size e1
    have lb : b < s1.heap.objs.size := Heap.lt_size e2
    have lc : c < s1.heap.objs.size := Heap.lt_size e3
    refine zip_begins3 (begins_tuple a l1.toArray) (begins_tuple b l2.toArray) (begins_tuple c l3.toArray) q1 q2 q3 fun h' hz hTI hTO t1 t2 t3 _ hk => wpAny_pyIter_zip hz ?_
    have I2 := I1.kept (t' := s1.toks) hk
    refine ⟨s1.heap.objs.size + 5, [s1.heap.objs.size + 5, s1.heap.objs.size + 3, s1.heap.objs.size + 4, s1.heap.objs.size, s1.heap.objs.size + 1, s1.heap.objs.size + 2], _, _, H1, rfl, I2,
      turn_zip3T (zip_sep3 (N := s1.heap.objs.size) (fp1 := [a]) (fp2 := [b]) (fp3 := [c]) (fun d hd => by simp at hd; rw [hd]; exact la) (fun d hd => by simp at hd; rw [hd]; exact lb) (fun d hd => by simp at hd; rw [hd]; exact lc)) (Nat.ne_of_lt la) (Nat.ne_of_lt (Nat.lt_succ_of_lt lb)) (Nat.ne_of_lt (Nat.lt_succ_of_lt (Nat.lt_succ_of_lt lc))),
      ⟨hz, hTI, ⟨_, _, _, hTO⟩, ⟨_, t1, rfl, rfl⟩, ⟨_, t2, rfl, rfl⟩, ⟨_, t3, rfl, rfl⟩⟩, fun d hd => ?_, q⟩
    have late : s1.heap.objs.size ≤ d := by
      simp only [List.mem_cons, List.not_mem_nil, or_false] at hd
      rcases hd with rfl | rfl | rfl | rfl | rfl | rfl
      · exact Nat.le_add_right _ _
      · exact Nat.le_add_right _ _
      · exact Nat.le_add_right _ _
      · exact Nat.le_refl _
      · exact Nat.le_add_right _ _
      · exact Nat.le_add_right _ _
    exact I1.fpOk late (I1.hok.fresh late)
def YTri (xs ys zs : List V) : Nat → Hp → V → Hp → Prop := fun i H v H' => ∃ T x y z, v = .ref T ∧ H T = none ∧ H' = upd H T (.tup [x, y, z]) ∧ xs[i]? = some x ∧ ys[i]? = some y ∧ zs[i]? = some z
theorem walk_zip3T {K : PySem.W.Frag} {a b c : Addr} {xs ys zs : List V} (h1 : ys.length = xs.length) (h2 : zs.length = xs.length) : Walk (Itz3 K a b c) xs.length (fun H => SqT K H a xs ∧ SqT K H b ys ∧ SqT K H c zs) (YTri xs ys zs) := by
  refine ⟨fun i _ hi q => ⟨xs, ys, zs, xs[i], ys[i]'(h1.symm ▸ hi), zs[i]'(h2.symm ▸ hi), q.1, q.2.1, q.2.2, by simp [hi], by simp [h1.symm ▸ hi], by simp [h2.symm ▸ hi]⟩, fun _ q => ⟨xs, ys, zs, q.1, q.2.1, q.2.2, by omega⟩, fun i H v H' _ q y => ?_⟩
  obtain ⟨T, x, y, z, e1, e2, e3, f1, f2, f3⟩ := y
  exact ⟨T, x, y, z, e1, e2, e3, f1 xs q.1, f2 ys q.2.1, f3 zs q.2.2⟩
/-! ### t.index(x), t a tuple of ints -/
theorem mt_tup_indexI {X : Cx} : MtR X "tuple.index" (fun x xs H Q => ∃ p, ∃ ns : List Int, ∃ k, x = .ref p ∧ xs = [.int k] ∧ SqT X.K H p (ns.map V.int) ∧ k ∈ ns ∧ Q (.int (ns.idxOf k : Nat)) H) := by
  rintro pins s σ H _ _ v us Q I rx rs ⟨p, ns, k, rfl, rfl, hq, hk, q⟩
  cases rx
  obtain ⟨_, rfl, t, rfl⟩ := vals1 rs
  have ⟨its, r, pl, hz⟩ := I.tuple hq
  have isT : s.heap.IsTuple p its.toArray := pl
  have hi : IntsAre its ns := by
    clear hq isT pl hz hk q
    induction ns generalizing its with
    | nil => cases r; exact .nil
    | cons n ns ih =>
      cases r with
      | cons r1 rr =>
        obtain ⟨t', rfl⟩ := r1
        exact .cons _ _ (ih _ rr)
  exact PySem.SeqAt.tuple_index_ints isT hi hk ⟨.int (ns.idxOf k : Nat), H, I.tok _, ⟨_, rfl⟩, q⟩
end Tg

/-! enumerate(t) and enumerate(t, start=k), t a text -/
namespace Tg
open PySem PySem.Spec PyProof.Rows L2
/-- each sign of the text z in a new pair with its place, counted from c on -/
def ItS (z : Str) (c : Int) : It :=
  ⟨fun i _ => i < z.cps.size, fun i H v H' => ∃ T n, v = .ref T ∧ H T = none ∧ H' = upd H T (.tup [.int (c + (i : Int)), .str ⟨#[n]⟩]) ∧ z.cps[i]? = some n, fun i _ => z.cps.size = i⟩
theorem turn_enumS {P : Program} {w : World} {K : PySem.W.Frag} {elts : List Expr} {kk : Nat} {tpos : Pos} (z : Str) (tz : Tok) (c : Int) (e it : Addr) :
    Turn P w K (.Tuple elts kk tpos) (ItS z c) [e, it] e (fun i h => (∃ old, IsEnum h e it (c + (i : Int)) old) ∧ h.IsStrIter it (strIterType z) z tz i ∧ e ≠ it) where
  mem := List.mem_cons_self
  obj := fun i h st b hb => by
    obtain ⟨⟨old, he⟩, ⟨o, ho, _, hd⟩, _⟩ := st
    rw [List.mem_cons, List.mem_singleton] at hb
    rcases hb with rfl | rfl
    · exact ⟨_, he, fun _ q => nomatch q⟩
    · exact ⟨o, ho, fun _ q => by rw [hd] at q; cases q⟩
  keep := fun i h h' st k => by
    obtain ⟨⟨old, he⟩, ⟨o, ho, r⟩, ne⟩ := st
    exact ⟨⟨old, k e List.mem_cons_self _ he⟩, ⟨o, k it (List.mem_cons_of_mem _ List.mem_cons_self) _ ho, r⟩, ne⟩
  item := by
    rintro X rfl rfl rfl hc i pins s σ H E I hf ⟨⟨old, he⟩, hit, hne⟩ lt
    have calm : X.A.in1.handled = none := by
      have := I.ok.hd hc
      simp [this]
    have G := GoesN.enumFrom (prog := X.prog) (w := X.w) (A := X.A) (elts := elts) (x1 := kk) (pos := tpos) c (Draws.text (prog := X.prog) (w := X.w) calm it z tz) e hne (by simp [hne]) List.mem_cons_self
    refine G.goes i s _ E lt ⟨⟨old, he⟩, hit⟩ fun v h' tk hy st' hk _ => ?_
    obtain ⟨T, t, u, ev, hT, ⟨n, tn, hn, rfl⟩, isp⟩ := hy
    have new : ObjOk X.prog X.w (upd H T (.tup [.int (c + (i : Int)), .str ⟨#[n]⟩])) h' T (.tup [.int (c + (i : Int)), .str ⟨#[n]⟩]) :=
      ⟨Nat.le_trans (show 2 ≤ 1000 by decide) (by decide), [.int (c + (i : Int)) t, .str ⟨#[n]⟩ tn], .cons ⟨_, rfl⟩ (.cons ⟨_, rfl⟩ .nil), isp⟩
    have J : Inv X pins σ (upd H T (.tup [.int (c + (i : Int)), .str ⟨#[n]⟩])) { s with heap := h', toks := tk } := I.turnedNew (ch := [e, it]) (fun b ob hb q => hk b ob hb q) hf hT new
    refine ⟨.ref T, _, J, by rw [ev]; rfl, ⟨T, n, rfl, I.hok.fresh hT, rfl, hn⟩, ⟨st'.1, st'.2, hne⟩, fun b hb => ?_⟩
    have low : b < s.heap.objs.size := by
      rw [List.mem_cons, List.mem_singleton] at hb
      rcases hb with rfl | rfl
      · exact Heap.lt_size he
      · obtain ⟨_, q, _⟩ := hit
        exact Heap.lt_size q
    rw [upd_ne (Nat.ne_of_lt (Nat.lt_of_lt_of_le low hT))]
    exact (hf b hb).1
  done := by
    rintro X rfl rfl rfl hc i pins s σ H E I hf ⟨⟨old, he⟩, hit, hne⟩ ei
    have calm : X.A.in1.handled = none := by
      have := I.ok.hd hc
      simp [this]
    have G := GoesN.enumFrom (prog := X.prog) (w := X.w) (A := X.A) (elts := elts) (x1 := kk) (pos := tpos) c (Draws.text (prog := X.prog) (w := X.w) calm it z tz) e hne (by simp [hne]) List.mem_cons_self
    have ei' : z.cps.size = i := ei
    refine G.stops s _ E (by rw [ei']; exact ⟨⟨old, he⟩, hit⟩) fun h' tk hk _ => ?_
    exact I.turnedL (t' := tk) (ch := [e, it]) (fun b ob hb q => hk b ob hb q) hf
  self := fun A i s Q E st q => by
    obtain ⟨⟨old, he⟩, _⟩ := st
    exact wpAny_pyIter_enum he q
theorem walk_enumS {z : Str} {c : Int} : Walk (ItS z c) z.cps.size (fun _ => True) (fun i H v H' => ∃ T n, v = .ref T ∧ H T = none ∧ H' = upd H T (.tup [.int (c + (i : Int)), .str ⟨#[n]⟩]) ∧ z.cps[i]? = some n) :=
  ⟨fun _ _ hi _ => hi, fun _ _ => rfl, fun _ _ _ _ _ _ y => y⟩
def iEnumS (ta : TA) : TI := fun σ H R => ta σ H fun vs H1 => ∃ z, vs = [.str z] ∧ R (ItS z 0) H1
theorem pi_enumS {X : Cx} {e : Expr} {ta : TA} {p pos tpos : Pos} {elts : List Expr} {kk : Nat} (hg : Gl X "enumerate") (hm : X.mg "enumerate" = none) (ha : PA X [e] ta) (one : starEach [e] X.env = [(false, eval e X.env)] := by rfl) :
    PI X (.Tuple elts kk tpos) (.Call (.Name "enumerate" p) [e] [] pos) (iEnumS ta) := by
  constructor
  intro pins s σ H R I told
  refine Call_ (ld_blt I hg hm boot_enumerate (callWith_type1 (thn (ha.run pos pins s σ H _ I told) fun us s1 come => ?_) one rfl))
  obtain ⟨_, H1, I1, r1, z, rfl, q⟩ := come
  obtain ⟨u, rfl, tz, rfl⟩ := vals1 r1
  refine enum1_made (begins_text z tz) trivial fun h' he hit hk => wpAny_pyIter_enum he ?_
  have I2 := I1.kept (t' := s1.toks) hk
  refine ⟨s1.heap.objs.size + 1, [s1.heap.objs.size + 1, s1.heap.objs.size], _, _, H1, rfl, I2, turn_enumS z tz 0 (s1.heap.objs.size + 1) s1.heap.objs.size, ⟨⟨.none, he⟩, ⟨_, hit, rfl, rfl⟩, Nat.succ_ne_self _⟩, fun b hb => ?_, q⟩
  have late : s1.heap.objs.size ≤ b := by
    rw [List.mem_cons, List.mem_singleton] at hb
    rcases hb with rfl | rfl
    · exact Nat.le_succ _
    · exact Nat.le_refl _
  exact I1.fpOk late (I1.hok.fresh late)
/-- a built-in class called with keywords -/
theorem type_kw {M : Model} {A : Around} {E : Value → Shared → Prop} {s : Shared} {env : Env} {pos : Pos} {T : String} {e : Expr} {kws : List Keyword} {Q : Value → Shared → Prop}
    (h : wpAny M A (spliced (backTo pos (starEach [e] env))) (fun vs s1 => wpAny M A (evalAll ((backToKw pos (keywordEach kws env)).map (·.2))) (fun ks s2 => wpAny M A (call (.type T) vs (((backToKw pos (keywordEach kws env)).filterMap (·.1)).zip ks)) Q E s2) E s1) E s)
    (one : backTo pos (starEach [e] env) = (false, eval e env) :: backTo pos (starEach [] env)) (plain : (backTo pos (starEach [e] env)).any (·.1) = false) (named : (backToKw pos (keywordEach kws env)).all (·.1.isSome) = true) (nostar : (backToKw pos (keywordEach kws env)).any (·.1.isNone) = false) :
    wpAny M A (callWith pos (.type T) [] (backTo pos (starEach [e] env)) (backToKw pos (keywordEach kws env))) Q E s := by
  have args : wpAny M A (evalArgs (.type T) true (backTo pos (starEach [e] env)) (backToKw pos (keywordEach kws env))) (fun a s1 => wpAny M A (call (.type T) ([] ++ a.pos) a.kw) Q E s1) E s := by
    rw [one] at h ⊢
    exact evalArgs_kwB named h
  unfold callWith
  refine wpAny_bind (wpAny_holding (wpAny_mono args (fun a s1 told => wpAny_bind (wpAny_standAt ?_)) fun _ _ z => z))
  simp only [plain, nostar, Bool.or_false]
  exact wpAny_bind (wpAny_pure (wpAny_bind (wpAny_mono told (fun r s2 hr => wpAny_bind (wpAny_holding (wpAny_point (wpAny_pure hr)))) fun _ _ z => z)))
def iEnumSK (te tk : TE) : TI := fun σ H R => te σ H fun x H1 => tk σ H1 fun c H2 => ∃ (z : Str) (k : Int), x = .str z ∧ c = .int k ∧ -(2 ^ 63) ≤ k ∧ k < 2 ^ 63 ∧ R (ItS z k) H2
theorem pi_enumSK {X : Cx} {e ke : Expr} {te tk : TE} {p pos tpos kpos : Pos} {elts : List Expr} {kk : Nat} (hg : Gl X "enumerate") (hm : X.mg "enumerate" = none) (he : PE X e te) (hk : PE X ke tk) (one : starEach [e] X.env = (false, eval e X.env) :: starEach [] X.env := by rfl) :
    PI X (.Tuple elts kk tpos) (.Call (.Name "enumerate" p) [e] [⟨some "start", ke, kpos⟩] pos) (iEnumSK te tk) := by
  constructor
  intro pins s σ H R I told
  have first := (pa_cons he pa_nil one).run pos pins s σ H (fun vs H1 => ∃ x, vs = [x] ∧ tk σ H1 fun c H2 => ∃ (z : Str) (k : Int), x = .str z ∧ c = .int k ∧ -(2 ^ 63) ≤ k ∧ k < 2 ^ 63 ∧ R (ItS z k) H2) I (by
    show te σ H (fun x H1 => tNil σ H1 _)
    have ext : (fun x H1 => tk σ H1 fun c H2 => ∃ (z : Str) (k : Int), x = V.str z ∧ c = .int k ∧ -(2 ^ 63) ≤ k ∧ k < 2 ^ 63 ∧ R (ItS z k) H2) = fun x H1 => tNil σ H1 (fun xs H2 => ∃ y, x :: xs = [y] ∧ tk σ H2 fun c H3 => ∃ (z : Str) (k : Int), y = .str z ∧ c = .int k ∧ -(2 ^ 63) ≤ k ∧ k < 2 ^ 63 ∧ R (ItS z k) H3) := by
      funext x H1
      refine propext ⟨fun h => ⟨x, rfl, h⟩, fun h => ?_⟩
      obtain ⟨y, ey, h⟩ := h
      cases ey
      exact h
    rw [← ext]
    exact told)
  refine wpAny_Call_Name_kw (ld_blt I hg hm boot_enumerate (type_kw (thn first fun us s1 come => ?_) (by rw [one]; rfl) (by rw [one]; rfl) rfl rfl))
  obtain ⟨_, H1, I1, r1, x, rfl, q⟩ := come
  refine kws_cons (thn (hk.run pins s1 σ H1 _ I1 q) fun v s2 more => kws_nil ?_)
  obtain ⟨c, H2, I2, rc, z, k, rfl, rfl, k0, k1, q⟩ := more
  obtain ⟨u, rfl, tz, rfl⟩ := vals1 r1
  obtain ⟨tc, rfl⟩ := (show ∃ t, v = Value.int k t from rc)
  refine enum_begins_start (begins_text z tz) trivial k0 k1 fun h' he hit _ hk => wpAny_pyIter_enum he ?_
  have I3 := I2.kept (t' := s2.toks) hk
  refine ⟨s2.heap.objs.size + 1, [s2.heap.objs.size + 1, s2.heap.objs.size], _, _, H2, rfl, I3, turn_enumS z tz k (s2.heap.objs.size + 1) s2.heap.objs.size, ⟨⟨.none, by show IsEnum h' _ _ (k + ((0 : Nat) : Int)) _; rw [show k + ((0 : Nat) : Int) = k by omega]; exact he⟩, ⟨_, hit, rfl, rfl⟩, Nat.succ_ne_self _⟩, fun b hb => ?_, q⟩
  have late : s2.heap.objs.size ≤ b := by
    rw [List.mem_cons, List.mem_singleton] at hb
    rcases hb with rfl | rfl
    · exact Nat.le_succ _
    · exact Nat.le_refl _
  exact I2.fpOk late (I2.hok.fresh late)
end Tg

/-! x.rpartition(sign), where the sign is in x -/
namespace Tg
open PySem PySem.Spec PyProof.Rows L2
open Builtin.Str (lastOccurrence strSub)
section
variable {X : Cx}
theorem mt_rpart : MtR X "str.rpartition" (fun x xs H Q => ∃ (a b : Str) (i : Nat), x = .str a ∧ xs = [.str b] ∧ (b.length == 0) = false ∧ a.length ≤ sizeLine ∧ lastOccurrence a b 0 a.length = some i ∧
    ∀ p, H p = none → Q (.ref p) (upd H p (.tup [.str (strSub a 0 i), .str b, .str (strSub a (i + b.length) a.length)]))) := by
  rintro pins s σ H x xs v us Q I rx rs ⟨a, b, i, rfl, rfl, ne, small, last, q⟩
  obtain ⟨t, rfl⟩ := rx
  obtain ⟨u, rfl, tu, rfl⟩ := vals1 rs
  refine call_meets PySem.F.slot_str_rpartition (typeIs_str _ _ _) PySem.F.entry_str_rpartition (PySem.F.args_str_rpartition_2 _ _) (meets_str_rpartition a b t tu ne small) ?_
  rw [last]
  exact laid_parts I q
end
/-- the last c is where no c comes behind -/
theorem last_at {p q : List Nat} {c : Nat} (no : c ∉ q) : lastOccurrence ⟨(p ++ c :: q).toArray⟩ ⟨#[c]⟩ 0 (⟨(p ++ c :: q).toArray⟩ : Str).length = some p.length := by
  have at_p : StrLaws.At ⟨(p ++ c :: q).toArray⟩ ⟨#[c]⟩ (⟨(p ++ c :: q).toArray⟩ : Str).length p.length := (StrLaws.subAt_one _ c p.length).mpr (by
    show (p ++ c :: q).toArray.toList[p.length]? = some c
    rw [List.getElem?_append_right (Nat.le_refl _), Nat.sub_self]
    rfl)
  rcases StrLaws.last_spec ⟨(p ++ c :: q).toArray⟩ ⟨#[c]⟩ with ⟨_, none_at⟩ | ⟨i, e, at_i, later⟩
  · exact absurd at_p (none_at _)
  · rw [e]
    rcases Nat.lt_trichotomy i p.length with lt | eq | gt
    · exact absurd at_p (later _ lt)
    · rw [eq]
    · have got : (p ++ c :: q).toArray.toList[i]? = some c := (StrLaws.subAt_one _ c i).mp at_i
      have got' : (p ++ c :: q)[i]? = some c := got
      obtain ⟨d, rfl⟩ : ∃ d, i = p.length + 1 + d := ⟨i - (p.length + 1), by omega⟩
      rw [List.getElem?_append_right (by omega), show p.length + 1 + d - p.length = d + 1 by omega, List.getElem?_cons_succ] at got'
      exact absurd (List.mem_of_getElem? got') no
theorem sub_left (p q : List Nat) : strSub ⟨(p ++ q).toArray⟩ 0 p.length = ⟨p.toArray⟩ := by
  unfold strSub
  congr 1
  apply Array.toList_inj.mp
  simp
theorem sub_right (p q : List Nat) : strSub ⟨(p ++ q).toArray⟩ p.length (⟨(p ++ q).toArray⟩ : Str).length = ⟨q.toArray⟩ := by
  unfold strSub
  congr 1
  apply Array.toList_inj.mp
  simp [Str.length]
end Tg

namespace Tg
open PySem PySem.Spec PyProof.Rows L2
/-! ### tuples known to have no dict of their own -/
section
variable {X : Cx}
def tTupF (t : TA) : TE := fun σ H Q => t σ H fun xs H1 => xs.length ≤ sizeLine ∧ ∀ (p : Addr) (ob : Obj), ob.dict = none → H1 p = none → Q (.ref p) (upd H1 p (.frz ob (.tup xs)))
theorem pe_tupF {es : List Expr} {t : TA} {x1 : Nat} {pos : Pos} (h : PA X es t) : PE X (.Tuple es x1 pos) (tTupF t) := by
  constructor
  intro pins s σ H Q I read
  refine wpAny_Tuple_spliced (thn (h.run pos pins s σ H _ I read) fun us s1 y => ?_)
  obtain ⟨xs, H1, J, rel, small, q⟩ := y
  refine ⟨by rw [← rel.length]; exact small, ?_⟩
  have fine : ObjOk X.prog X.w (upd H1 s1.heap.objs.size (.frz { cls := .type "tuple", data := .seq us.toArray } (.tup xs))) (s1.heap.push { cls := .type "tuple", data := .seq us.toArray }) s1.heap.objs.size (.frz { cls := .type "tuple", data := .seq us.toArray } (.tup xs)) :=
    ⟨Heap.get?_push_size _ rfl, small, us, rel, IsTup.new _ _⟩
  exact ⟨.ref s1.heap.objs.size, _, J.laid (t' := s1.toks) (fun b o e => Heap.get?_push_of_some _ e) (Nat.le_refl _) fine, rfl, q _ _ rfl (J.hok.fresh (Nat.le_refl _))⟩
/-- x.m(..), x such a tuple -/
def tBMF (r : V → List V → Hp → VK → Prop) (to : TE) (t : TA) : TE := fun σ H Q => to σ H fun x H1 => (∃ (a : Addr) (ob : Obj) (xs : List V), x = .ref a ∧ ob.dict = none ∧ H1 a = some (.frz ob (.tup xs))) ∧ t σ H1 fun zs H2 => r x zs H2 Q
theorem pe_bmF {o e : Expr} {es : List Expr} {to : TE} {t : TA} {name : Str} {apos cpos : Pos} {id : String} {r : V → List V → Hp → VK → Prop} (slot : Slot "tuple" name id) (kind : typeOf (.builtin id) = pure (.type "method_descriptor")) (meth : MtR X id r) (ho : PE X o to) (ha : PA X (e :: es) t)
    (base : attributeBase o name X.env (eval o X.env) = eval o X.env := by rfl)
    (few : ((backTo cpos (starEach (e :: es) X.env)).all (fun x => !x.1) && (backToKw cpos (keywordEach [] X.env)).all (fun x => x.1.isSome) && decide ((e :: es).length + ([] : List Keyword).length + (if ([] : List Keyword).isEmpty then 0 else 1) < 30)) = true := by rfl)
    (line : (apos.endLine == cpos.line) = true := by rfl) (star : starEach (e :: es) X.env = (false, eval e X.env) :: starEach es X.env := by rfl) (plain : (backTo cpos (starEach es X.env)).any (·.1) = false := by rfl) :
    PE X (.Call (.Attribute o name apos) (e :: es) [] cpos) (tBMF r to t) := by
  constructor
  intro pins s σ H Q I read
  refine wpAny_Call_method_late base few line rfl (thn (ho.run pins s σ H _ I read) fun v s1 y => ?_)
  obtain ⟨x, H1, J, rx, ⟨a, ob, xs, rfl, nod, ea⟩, q⟩ := y
  cases rx
  obtain ⟨obj, small, its, rel, o2, eo, cls, n, data⟩ := J.hok a _ ea
  have eo2 : ob = o2 := by
    rw [obj] at eo
    exact Option.some.inj eo
  refine ⟨"tuple", id, PySem.F.plainAttrs_tuple, slot, kind, ⟨o2, eo, cls⟩, fun b eb => ?_, ?_⟩
  · cases eb
    exact ⟨ob, obj, nod⟩
  · have args := ha.run cpos pins s1 σ H1 _ J q
    rw [star] at args ⊢
    refine Calls.callWith_builtin (by show (false || (backTo cpos (starEach es X.env)).any (·.1)) = false; rw [plain] <;> rfl) (Calls.evalArgs_plain (thn args fun us s2 y => ?_))
    obtain ⟨zs, H2, J2, r2, q2⟩ := y
    exact meth pins s2 σ H2 (.ref a) zs (.ref a) us Q J2 rfl r2 q2
end
/-- such a tuple of numbers -/
def NdT (H : Hp) (a : Addr) (xs : List V) : Prop := ∃ ob : Obj, ob.dict = none ∧ H a = some (.frz ob (.tup xs))
theorem NdT.sq {K : PySem.W.Frag} {H : Hp} {a : Addr} {xs : List V} (h : NdT H a xs) : SqT K H a xs := by
  obtain ⟨ob, _, e⟩ := h
  exact .inl (.inr ⟨ob, e⟩)
theorem NdT.kt {H H' : Hp} {a : Addr} {xs : List V} (h : NdT H a xs) (k : KT H H') : NdT H' a xs := by
  obtain ⟨ob, n, e⟩ := h
  exact ⟨ob, n, k _ _ trivial e⟩
theorem NdT.same {H H' : Hp} {a : Addr} {xs : List V} (h : NdT H a xs) (k : Same H H') : NdT H' a xs := h.kt (KT.of k)
end Tg

namespace Tg
open PySem PySem.Spec PyProof.Rows L2
/-! ### a comprehension without a test whose items are known beforehand -/
/-- the new list at D takes y -/
abbrev Grows (D : Addr) (Nx : Hp → Prop) (y : V) (H : Hp) : Prop := ∃ acc, H D = some (.lst acc) ∧ acc.length < sizeLine ∧ Nx (upd H D (.lst (acc ++ [y])))
/-- the new dict at D takes y: z -/
abbrev Holds2 (D : Addr) (Nx : Hp → Prop) (y z : V) (H : Hp) : Prop := ∃ kvs k, y = kV k ∧ H D = some (.dK kvs) ∧ kvs.length < sizeLine ∧ Nx (upd H D (.dK (putK kvs k z)))
/-- a turn that takes x in, and goes on by fin -/
abbrev Turn1 (g : TG) (vs : List Nat) (σ : L2.St) (fin : L2.St → Hp → Prop) (Nx : Hp → Prop) (x : V) (H' : Hp) : Prop :=
  g x (wipe σ vs) H' fun σ2 H2 => wipe σ2 vs = wipe σ vs ∧ tYes σ2 H2 fun b H3 => if b = true then fin σ2 H3 else Nx H3
abbrev TurnL (g : TG) (te : TE) (vs : List Nat) (σ : L2.St) (D : Addr) (Nx : Hp → Prop) : V → Hp → Prop := Turn1 g vs σ (fun σ2 H3 => te σ2 H3 fun y H4 => Grows D Nx y H4) Nx
abbrev TurnD (g : TG) (tk tv : TE) (vs : List Nat) (σ : L2.St) (D : Addr) (Nx : Hp → Prop) : V → Hp → Prop := Turn1 g vs σ (fun σ2 H3 => tk σ2 H3 fun y H4 => tv σ2 H4 fun z H5 => Holds2 D Nx y z H5) Nx
/-- a walk of J from Z on, each turn by turn, what is wanted behind it Qd -/
abbrev Walked (J : It) (Z : Hp) (turn : (Hp → Prop) → V → Hp → Prop) (Qd : Hp → Prop) : Prop :=
  ∃ Wk : Nat → Nat → Hp → Prop, (∃ m, Wk 0 m Z) ∧ ∀ (i m : Nat) (Hc : Hp), Wk i m Hc →
    (J.stop i Hc ∧ Qd Hc) ∨ (J.go i Hc ∧ ∃ Nx : Hp → Prop, (∀ Hn, Nx Hn → ∃ m', m' < m ∧ Wk (i + 1) m' Hn) ∧ ∀ x Hn, J.yld i Hc x Hn → turn Nx x Hn)
section
variable {K : PySem.W.Frag} {g : TG} {te : TE} {vs : List Nat} {σ : L2.St} {H1 : Hp} {D : Addr} {Qd : Hp → Prop} {J : It}
/-- the walk J, of n turns; x: what it hands out at i (behind it the heap is told by R) -/
theorem lc_walk (n : Nat) (ys : List V) (ly : ys.length = n) (nD : H1 D = none) (small : n < sizeLine)
    (stop : ∀ Hc, Same H1 Hc → J.stop n Hc) (go : ∀ i Hc, i < n → Same H1 Hc → J.go i Hc)
    (hs : ∀ i x y Hc H' (Q : VK), i < n → ys[i]? = some y → Same H1 Hc → J.yld i Hc x H' → (∀ H4, Same H' H4 → Q y H4) → g x (wipe σ vs) H' fun σ2 H2 => wipe σ2 vs = wipe σ vs ∧ te σ2 H2 Q)
    (grow : ∀ i x Hc H', i < n → Same H1 Hc → J.yld i Hc x H' → Same Hc H')
    (hd : ∀ H', Same H1 H' → H' D = some (.lst ys) → Qd H') :
    Walked J (upd H1 D (.lst [])) (TurnL g te vs σ D) Qd := by
  refine ⟨fun i m H => m = n - i ∧ i ≤ n ∧ Same H1 H ∧ H D = some (.lst (ys.take i)), ⟨n, by omega, Nat.zero_le _, fun b o e => ?_, upd_same⟩, ?_⟩
  · rw [upd_ne (ne_of_none e nD)]
    exact e
  rintro i m H ⟨rfl, hi, sm, hD⟩
  by_cases lt : i < n
  · refine .inr ⟨go i H lt sm, fun H' => Same H1 H' ∧ H' D = some (.lst (ys.take (i + 1))), fun H' h => ⟨n - (i + 1), by omega, rfl, lt, h.1, h.2⟩, fun x H' yl => ?_⟩
    obtain ⟨y, ey⟩ : ∃ y, ys[i]? = some y := ⟨_, List.getElem?_eq_getElem (by omega)⟩
    have s2 := grow i x H H' lt sm yl
    have z := hs i x y H H' (fun y H4 => Grows D (fun H' => Same H1 H' ∧ H' D = some (.lst (ys.take (i + 1)))) y H4) lt ey sm yl fun H4 s4 => by
      refine ⟨ys.take i, s4 _ _ (s2 _ _ hD), ?_, fun b o e => ?_, ?_⟩
      · rw [List.length_take]
        omega
      · rw [upd_ne (ne_of_none e nD)]
        exact s4 _ _ (s2 _ _ (sm _ _ e))
      · rw [upd_same, List.take_add_one, ey]
        rfl
    refine cast (congrArg (g x (wipe σ vs) H') (funext fun σ2 => funext fun H2 => ?_)) z
    unfold tYes
    exact congrArg _ (if_pos rfl).symm
  · obtain rfl : i = n := by omega
    refine .inl ⟨stop H sm, hd H sm ?_⟩
    rw [hD, List.take_of_length_le (by omega)]
/-- [.. for x in xs] -/
theorem lc_mapL {a : Addr} {xs : List V} (ys : List V) (ly : ys.length = xs.length) (nD : H1 D = none) (hx : SqL K H1 a xs) (small : xs.length < sizeLine)
    (hs : ∀ (i : Nat) (x y : V) (Hc : Hp) (Q : VK), xs[i]? = some x → ys[i]? = some y → Same H1 Hc → (∀ H4, Same Hc H4 → Q y H4) → g x (wipe σ vs) Hc fun σ2 H2 => wipe σ2 vs = wipe σ vs ∧ te σ2 H2 Q)
    (hd : ∀ H', Same H1 H' → H' D = some (.lst ys) → Qd H') :
    Walked (Itl K a) (upd H1 D (.lst [])) (TurnL g te vs σ D) Qd :=
  lc_walk (J := Itl K a) xs.length ys ly nD small (fun Hc sm => ⟨xs, sm.seq hx, Nat.le_refl _⟩) (fun i Hc lt sm => ⟨xs, xs[i], sm.seq hx, List.getElem?_eq_getElem lt⟩)
    (fun i x y Hc H' Q lt ey sm yl q => by
      obtain ⟨rfl, h⟩ := yl
      exact hs i x y _ Q (h xs (sm.seq hx)) ey sm q) (fun i x Hc H' _ _ yl => by rw [yl.1]; exact Same.refl _) hd
/-- [.. for x, y in zip(xs, ys)] -/
theorem lc_mapZ {a b : Addr} {xs zs : List V} (ys : List V) (n : Nat) (en : n = min xs.length zs.length) (ly : ys.length = n) (nD : H1 D = none) (hx : SqL K H1 a xs) (hz : SqL K H1 b zs) (small : n < sizeLine)
    (hs : ∀ (i : Nat) (x z y : V) (T : Addr) (Hc : Hp) (Q : VK), xs[i]? = some x → zs[i]? = some z → ys[i]? = some y → Same H1 Hc → Hc T = some (.tup [x, z]) → (∀ H4, Same Hc H4 → Q y H4) → g (.ref T) (wipe σ vs) Hc fun σ2 H2 => wipe σ2 vs = wipe σ vs ∧ te σ2 H2 Q)
    (hd : ∀ H', Same H1 H' → H' D = some (.lst ys) → Qd H') :
    Walked (Itz K a b) (upd H1 D (.lst [])) (TurnL g te vs σ D) Qd :=
  lc_walk (J := Itz K a b) n ys ly nD small (fun Hc sm => ⟨xs, zs, sm.seq hx, sm.seq hz, by omega⟩) (fun i Hc lt sm => ⟨xs, zs, xs[i]'(by omega), zs[i]'(by omega), sm.seq hx, sm.seq hz, List.getElem?_eq_getElem (by omega), List.getElem?_eq_getElem (by omega)⟩)
    (fun i x y Hc H' Q lt ey sm yl q => by
      obtain ⟨T, u, v, rfl, nT, rfl, h1, h2⟩ := yl
      exact hs i u v y T _ Q (h1 xs (sm.seq hx)) (h2 zs (sm.seq hz)) ey (sm.trans (fun b o e => by rw [upd_ne (ne_of_none e nT)]; exact e)) upd_same q)
    (fun i x Hc H' _ _ yl => by
      obtain ⟨T, u, v, rfl, nT, rfl, _, _⟩ := yl
      exact fun b o e => by rw [upd_ne (ne_of_none e nT)]; exact e) hd
/-- [.. for i in range(lo, ..)] -/
theorem lc_mapR {lo : Int} {n : Nat} (ys : List V) (ly : ys.length = n) (nD : H1 D = none) (small : n < sizeLine)
    (hs : ∀ (i : Nat) (y : V) (Hc : Hp) (Q : VK), i < n → ys[i]? = some y → Same H1 Hc → (∀ H4, Same Hc H4 → Q y H4) → g (.int (lo + i)) (wipe σ vs) Hc fun σ2 H2 => wipe σ2 vs = wipe σ vs ∧ te σ2 H2 Q)
    (hd : ∀ H', Same H1 H' → H' D = some (.lst ys) → Qd H') :
    Walked (Itr lo n) (upd H1 D (.lst [])) (TurnL g te vs σ D) Qd :=
  lc_walk (J := Itr lo n) n ys ly nD small (fun Hc sm => Nat.le_refl _) (fun i Hc lt sm => lt)
    (fun i x y Hc H' Q lt ey sm yl q => by
      obtain ⟨rfl, rfl⟩ := yl
      exact hs i y _ Q lt ey sm q) (fun i x Hc H' _ _ yl => by rw [yl.1]; exact Same.refl _) hd
/-- [.. for i in range(lo, .., c)] -/
theorem lc_mapC {lo c : Int} {n : Nat} (ys : List V) (ly : ys.length = n) (nD : H1 D = none) (small : n < sizeLine)
    (hs : ∀ (i : Nat) (y : V) (Hc : Hp) (Q : VK), i < n → ys[i]? = some y → Same H1 Hc → (∀ H4, Same Hc H4 → Q y H4) → g (.int (lo + (i : Nat) * c)) (wipe σ vs) Hc fun σ2 H2 => wipe σ2 vs = wipe σ vs ∧ te σ2 H2 Q)
    (hd : ∀ H', Same H1 H' → H' D = some (.lst ys) → Qd H') :
    Walked (Itc lo c n) (upd H1 D (.lst [])) (TurnL g te vs σ D) Qd :=
  lc_walk (J := Itc lo c n) n ys ly nD small (fun Hc sm => Nat.le_refl _) (fun i Hc lt sm => lt)
    (fun i x y Hc H' Q lt ey sm yl q => by
      obtain ⟨rfl, rfl⟩ := yl
      exact hs i y _ Q lt ey sm q) (fun i x Hc H' _ _ yl => by rw [yl.1]; exact Same.refl _) hd
/-! ### a dict comprehension whose entries are known, each key once -/
theorem putK_new {kvs : List (Key × V)} {k : Key} {z : V} (h : k ∉ kvs.map (·.1)) : putK kvs k z = kvs ++ [(k, z)] := by
  have new : (kvs.any fun y => decide (y.1 = k)) = false := by
    rw [List.any_eq_false]
    intro y hy e
    exact h (List.mem_map.mpr ⟨y, hy, of_decide_eq_true e⟩)
  unfold putK
  rw [new, if_neg (by decide)]
theorem dc_walk {tk tv : TE} (n : Nat) (es : List (Key × V)) (le : es.length = n) (nd : (es.map (·.1)).Nodup) (nD : H1 D = none) (small : n < sizeLine)
    (stop : ∀ Hc, Same H1 Hc → J.stop n Hc) (go : ∀ i Hc, i < n → Same H1 Hc → J.go i Hc)
    (hs : ∀ i x k y Hc H' (Q : VK), i < n → es[i]? = some (k, y) → Same H1 Hc → J.yld i Hc x H' → (∀ H4, Same H' H4 → Q y H4) → g x (wipe σ vs) H' fun σ2 H2 => wipe σ2 vs = wipe σ vs ∧ tk σ2 H2 fun u H3 => tv σ2 H3 fun v H4 => u = kV k ∧ v = y ∧ Same H' H4)
    (mono : ∀ σ2 H2 (A B : V → V → Hp → Prop), (∀ u v H', A u v H' → B u v H') → (tk σ2 H2 fun u H3 => tv σ2 H3 fun v H4 => A u v H4) → tk σ2 H2 fun u H3 => tv σ2 H3 fun v H4 => B u v H4)
    (gm : ∀ x σ2 H2 (A B : L2.St → Hp → Prop), (∀ σ3 H3, A σ3 H3 → B σ3 H3) → g x σ2 H2 A → g x σ2 H2 B)
    (grow : ∀ i x Hc H', i < n → Same H1 Hc → J.yld i Hc x H' → Same Hc H')
    (hd : ∀ H', Same H1 H' → H' D = some (.dK es) → Qd H') :
    Walked J (upd H1 D (.dK [])) (TurnD g tk tv vs σ D) Qd := by
  refine ⟨fun i m H => m = n - i ∧ i ≤ n ∧ Same H1 H ∧ H D = some (.dK (es.take i)), ⟨n, by omega, Nat.zero_le _, fun b o e => ?_, upd_same⟩, ?_⟩
  · rw [upd_ne (ne_of_none e nD)]
    exact e
  rintro i m H ⟨rfl, hi, sm, hD⟩
  by_cases lt : i < n
  · refine .inr ⟨go i H lt sm, fun H' => Same H1 H' ∧ H' D = some (.dK (es.take (i + 1))), fun H' h => ⟨n - (i + 1), by omega, rfl, lt, h.1, h.2⟩, fun x H' yl => ?_⟩
    obtain ⟨⟨k, y⟩, ey⟩ : ∃ y, es[i]? = some y := ⟨_, List.getElem?_eq_getElem (by omega)⟩
    have s2 := grow i x H H' lt sm yl
    have z := hs i x k y H H' (fun _ _ => True) lt ey sm yl fun _ _ => trivial
    refine gm _ _ _ _ _ (fun σ2 H2 h => ⟨h.1, ?_⟩) z
    unfold tYes
    dsimp only
    rw [if_pos rfl]
    refine mono _ _ _ _ (fun u v H4 h => ?_) h.2
    obtain ⟨rfl, rfl, s4⟩ := h
    refine ⟨es.take i, k, rfl, s4 _ _ (s2 _ _ hD), ?_, fun b o e => ?_, ?_⟩
    · rw [List.length_take]
      omega
    · rw [upd_ne (ne_of_none e nD)]
      exact s4 _ _ (s2 _ _ (sm _ _ e))
    · rw [upd_same, putK_new, List.take_add_one, ey]
      · rfl
      · intro hk
        rw [List.map_take] at hk
        obtain ⟨j, hj, ej⟩ := List.mem_iff_getElem.mp hk
        rw [List.length_take] at hj
        rw [List.getElem_take] at ej
        have e1 : (es.map (·.1))[j]? = some k := by rw [List.getElem?_eq_getElem (by omega), ej]
        have e2 : (es.map (·.1))[i]? = some k := by rw [List.getElem?_map, ey]; rfl
        have := (List.getElem?_inj (by omega) nd).mp (e1.trans e2.symm)
        omega
  · obtain rfl : i = n := by omega
    refine .inl ⟨stop H sm, hd H sm ?_⟩
    rw [hD, List.take_of_length_le (by omega)]
end
end Tg

namespace Tg
open PySem PySem.Spec PyProof.Rows L2
/-- any walk, by what is known of it -/
theorem walked_w {J : It} {n : Nat} {G : Hp → Prop} {Y : Nat → Hp → V → Hp → Prop} (w : Walk J n G Y) {Z : Hp} {turn : (Hp → Prop) → V → Hp → Prop} {Qd : Hp → Prop} (Pv : Nat → Hp → Prop) (first : Pv 0 Z) (keep : ∀ i H2, i ≤ n → Pv i H2 → G H2)
    (round : ∀ i x H2 H3, i < n → Pv i H2 → Y i H2 x H3 → turn (Pv (i + 1)) x H3) (last : ∀ H2, Pv n H2 → Qd H2) : Walked J Z turn Qd := by
  refine ⟨fun i m H2 => m = n - i ∧ i ≤ n ∧ Pv i H2, ⟨n, by omega, Nat.zero_le _, first⟩, ?_⟩
  rintro i m H2 ⟨rfl, hi, p⟩
  have q := keep i H2 hi p
  by_cases lt : i < n
  · exact .inr ⟨w.goes i H2 lt q, Pv (i + 1), fun H3 p3 => ⟨n - (i + 1), by omega, rfl, lt, p3⟩, fun x H3 y => round i x H2 H3 lt p (w.yields i H2 x H3 lt q y)⟩
  · obtain rfl : i = n := by omega
    exact .inl ⟨w.stops H2 q, last H2 p⟩
theorem yes_b {σ : L2.St} {H : Hp} {Q : Bool → Hp → Prop} (h : Q true H) : tYes σ H Q := h
end Tg

namespace Tg
open PySem PySem.Spec PyProof.Rows L2
/-! ### methods that may raise, asked within a try; and what of a def that may raise never does -/
section
variable (P : Program) (w : World) (K : PySem.W.Frag) (mg : Str → Option Value) (base : Heap)
/-- a method that may raise -/
def CalMR (k : Nat) (C : Addr) (m : Str) (ps : List Str) (sp : Sp) : Prop := ∃ f fd, FnOk P w K mg base (L2.CX P w) k f fd ps sp ∧ Meth K C m f ∧ Binds K fd ps []
end
section
variable {X : Cx} {E : XK} {k : Nat} {C : Addr} {m : Str} {ps : List Str} {sp : Sp} {o e : Expr} {es : List Expr} {to : TE} {t : TA} {pos apos : Pos} {W : WX}
theorem pe_calMR {pl : Sem Bool} (he : PE X o to) (cl : Cls X.K C) (c : CalMR X.prog X.w X.K X.mg X.base k C m ps sp) (hr : Room k X.A) (lets : Passes (L2.CX X.prog X.w) X E) (ha : PA X (e :: es) t)
    (star : starEach (e :: es) X.env = (false, eval e X.env) :: starEach es X.env := by rfl) (plain : (backTo pos (starEach es X.env)).any (·.1) = false := by rfl) (ht : eval (.Call (.Attribute o m apos) (e :: es) [] pos) X.env = (do let ov ← eval o X.env; standAt apos.atName; let (f, first) ← holding [ov] (getMethod ov m pl); callWith pos f first (backTo pos (starEach (e :: es) X.env)) (backToKw pos (keywordEach [] X.env))) := by rfl) :
    PE X (.Call (.Attribute o m apos) (e :: es) [] pos) (tMeth C m sp [] E to t) := by
  obtain ⟨f, fd, F, hm, hb⟩ := c
  exact pe_meth (pl := pl) he cl hm F hr hb .nil lets ha star plain ht
/-- a method that may raise, asked within a try -/
def tMethT (C : Addr) (m : Str) (sp : Sp) (W : WX) (to : TE) (t : TA) : TE := fun σ H Q => to σ H fun x H1 => ∃ a dx fs, x = .ref a ∧ H1 a = some (.ins C dx fs) ∧ fs.lookup m = none ∧ t σ H1 fun vs H2 => sp (x :: vs) H2 Q (WE W σ)
theorem pe_calMT {pl : Sem Bool} (he : PE X o to) (cl : Cls X.K C) (c : CalMR X.prog X.w X.K X.mg X.base k C m ps sp) (hr : Room k X.A) (tks : Takes X W) (ha : PA X (e :: es) t)
    (star : starEach (e :: es) X.env = (false, eval e X.env) :: starEach es X.env := by rfl) (plain : (backTo pos (starEach es X.env)).any (·.1) = false := by rfl) (ht : eval (.Call (.Attribute o m apos) (e :: es) [] pos) X.env = (do let ov ← eval o X.env; standAt apos.atName; let (f, first) ← holding [ov] (getMethod ov m pl); callWith pos f first (backTo pos (starEach (e :: es) X.env)) (backToKw pos (keywordEach [] X.env))) := by rfl) :
    PE X (.Call (.Attribute o m apos) (e :: es) [] pos) (tMethT C m sp W to t) := by
  obtain ⟨f, fd, F, hm, hb⟩ := c
  constructor
  intro pins s σ H Q I read
  refine PySem.W.methodCall_KW (pl := pl) (thn (he.run pins s σ H _ I read) fun u s1 z => ?_) ht
  obtain ⟨_, H1, J, ru, a, dx, fs, rfl, ea, none_, told⟩ := z
  cases ru
  refine getmeth_ok J ea cl hm none_ (PySem.W.callWith_K (first := [.ref a]) (h₀ := X.base) J.ok.mod.kin hm.kp (thn (ha.run pos pins s1 σ H1 _ J told) fun us s2 z => ?_) star plain)
  obtain ⟨vs, H2, J2, rel, said⟩ := z
  exact ⟨J2.kIn, run_fnS (us := .ref a :: us) (vs := .ref a :: vs) F hr hb (passAt tks σ) J2 (.cons rfl rel) said⟩
end
section
variable {P : Program} {w : World} {K : PySem.W.Frag} {mg : Str → Option Value} {base : Heap} {k : Nat} {f : Addr} {fd : FuncData} {ps : List Str} {sp : Sp}
/-- a def that may raise, where it doesn't -/
theorem fn_quiet (F : FnOk P w K mg base (L2.CX P w) k f fd ps sp) : FnOk P w K mg base CX0 k f fd ps (fun vs H Q _ => sp vs H Q fun _ _ _ => False) :=
  ⟨fun vs H Q _ h => F.len vs H Q _ h, fun A outer s H args us vs Q E hr he hb hv hs => codeAny_mono (F.run A outer s H args us vs Q _ hr he hb hv hs) fun r s' told => match r, told with
    | .error e, told => by
      obtain ⟨_, _, _, _, _, _, _, _, _, _, _, _, no⟩ := told
      exact no.elim
    | .ok (.ret v), told => told⟩
end
end Tg

set_option maxHeartbeats 400000
namespace Tg
open PySem PySem.Spec PyProof.Rows L2
section
variable {pins : List (Addr × Obj)} {X : Cx} {s : Shared} {σ : L2.St} {H : Hp}
/-- tuple(xs) of a list: a new object without a dict of its own -/
theorem call_tupleF : CallR X (.type "tuple") (fun xs H Q => ∃ p ys, xs = [.ref p] ∧ SqL X.K H p ys ∧ ∀ (l : Addr) (o : Obj), o.dict = none → H l = none → Q (.ref l) (upd H l (.frz o (.tup ys)))) := by
  intro pins s σ H xs us Q I r hyp
  obtain ⟨p, ys, rfl, at_p, told⟩ := hyp
  obtain ⟨u, rfl, ru⟩ := r.one
  cases ru
  obtain ⟨its, rel, plain, small⟩ := I.list at_p
  have many := rel.length
  refine call_tuple_list plain.isList (fun h' keeps => ?_) (by simp only [List.size_toArray]; omega)
  have J : Inv X pins σ H { s with heap := h' } := I.kept (t' := s.toks) keeps
  have fine : ObjOk X.prog X.w (upd H h'.objs.size (.frz { cls := .type "tuple", data := .seq its.toArray } (.tup ys))) (h'.push { cls := .type "tuple", data := .seq its.toArray }) h'.objs.size (.frz { cls := .type "tuple", data := .seq its.toArray } (.tup ys)) :=
    ⟨Heap.get?_push_size _ rfl, small, its, rel, IsTup.new _ _⟩
  exact ⟨.ref h'.objs.size, _, J.laid (t' := s.toks) (fun b o e => Heap.get?_push_of_some _ e) (Nat.le_refl _) fine, rfl, told _ _ rfl (J.hok.fresh (Nat.le_refl _))⟩
/-- the pairs' keys and worths in the heap -/
theorem pairs_told (I : Inv X pins σ H s) : ∀ {ps : List Addr} {kvs : List (Key × V)}, Paired (fun p kv => SqT X.K H p [kV kv.1, kv.2]) ps kvs →
    ∃ (prs : List (Key × Value)) (us : List (Value × Value)), KV kvs prs ∧ prs.length = ps.length ∧ us.length = ps.length ∧
      ∀ (j : Nat) (k v : Value), us[j]? = some (k, v) → (∃ b, ps[j]? = some b ∧ IsTup s.heap b #[k, v]) ∧ ∃ key, prs[j]? = some (key, v) ∧ keyIs key k = true
  | _, _, .nil => ⟨[], [], .nil, rfl, rfl, fun j k v e => by simp at e⟩
  | _, _, .cons (a := p) (b := kv) first others => by
    obtain ⟨prs, us, h1, h2, h3, h4⟩ := pairs_told I others
    obtain ⟨its, rel, tup, _⟩ := I.tuple first
    obtain ⟨u, y, rfl, ru, ry⟩ := rel.two
    refine ⟨(kv.1, y) :: prs, (u, y) :: us, .cons ⟨rfl, ry⟩ h1, congrArg Nat.succ h2, congrArg Nat.succ h3, fun j k v e => ?_⟩
    cases j with
    | zero =>
      cases (Option.some.inj e : (u, y) = (k, v))
      exact ⟨⟨p, rfl, tup⟩, kv.1, rfl, kV_is (P := X.prog) (w := X.w) ru⟩
    | succ j => exact h4 j k v e
/-- dict(t) of such a tuple of pairs -/
theorem call_dictF (calm : X.calm = true) : CallR X (.type "dict") (fun xs H Q => ∃ (a : Addr) (o : Obj) (ps : List Addr) (kvs : List (Key × V)), xs = [.ref a] ∧ o.dict = none ∧ H a = some (.frz o (.tup (ps.map V.ref))) ∧ Paired (fun p kv => SqT X.K H p [kV kv.1, kv.2]) ps kvs ∧
    ∀ l, H l = none → Q (.ref l) (upd H l (.dK (mergeK [] kvs)))) := by
  intro pins s σ H xs us Q I r hyp
  obtain ⟨a, o, ps, kvs, rfl, nodict, at_a, pairs, told⟩ := hyp
  obtain ⟨u, rfl, ru⟩ := r.one
  cases ru
  obtain ⟨obj, small, its, rel, tup⟩ := I.hok a _ at_a
  have eits := refs_at rel
  subst eits
  have small' : ps.length ≤ sizeLine := by
    have z : (ps.map V.ref).length ≤ sizeLine := small
    rwa [List.length_map] at z
  obtain ⟨prs, us, kv, len1, len2, at_j⟩ := pairs_told I pairs
  obtain ⟨o', obj', cls, n, data⟩ := tup
  rw [obj] at obj'
  cases obj'
  have okA : PlainSeq "tuple" s.heap a (ps.map Value.ref).toArray ∧ PairItems s.heap (ps.map Value.ref).toArray (fun j => (ps[j]?).getD 0) us := by
    refine ⟨⟨o, n, obj, cls, nodict, data⟩, by simp [len2], fun j k v e => ?_⟩
    obtain ⟨⟨b, eb, tb⟩, _⟩ := at_j j k v e
    refine ⟨by simp [eb], .inl ?_⟩
    show s.heap.IsTuple ((ps[j]?).getD 0) #[k, v]
    rw [eb]
    exact tb
  refine PySem.call_dict_pairs (knd := mixKind X.prog X.w) (kvs := prs) (PairArg.tuple a (ps.map Value.ref).toArray (fun j => (ps[j]?).getD 0) us) (I.ok.hd calm) okA ⟨by rw [len1, len2], fun j k v e => ?_⟩ (by rw [len2]; exact small') fun h' tk dct keeps => ?_
  · obtain ⟨_, key, e1, e2⟩ := at_j j k v e
    exact ⟨key, e1, e2⟩
  · have apart : (s.heap.objs.size == sysModules) = false := beq_eq_false_iff_ne.mpr (Nat.ne_of_gt I.big)
    have few : (mergeK [] kvs).length ≤ sizeLine := by
      have z := kv.length
      refine Nat.le_trans (length_mergeK kvs ([] : List (Key × V))) ?_
      rw [List.length_nil, Nat.zero_add, z, len1]
      exact small'
    have fine : ObjOk X.prog X.w (upd H s.heap.objs.size (.dK (mergeK [] kvs))) h' s.heap.objs.size (.dK (mergeK [] kvs)) := ⟨few, apart, merged [] prs, KV.merge kv .nil, dct⟩
    exact ⟨.ref s.heap.objs.size, _, I.laid (t' := tk) (fun b o e => keeps b o (by simp) e) (Nat.le_refl _) fine, rfl, told _ (I.hok.fresh (Nat.le_refl _))⟩
end
end Tg

/-! a != b of an own class with an own __eq__ and no __ne__, where the own == says True -/
namespace Tg
open PySem PySem.Spec PyProof.Rows L2
/-- what stands of such a class -/
structure NeC (K : PySem.W.Frag) (C f : Addr) : Prop where
  cls : ∃ (nm q : Str) (N : Addr) (bs : List Value) (hd : Bool) (sn : List Str) (sub : List Value) (ab : Bool) (col : Option Bool) (dd : Option Addr) (k0 k1 k2 k3 k5 : Option Value) (id : String),
    K.lookup C = some (excClassObj nm q C N bs [.type "object"] hd sn sub ab col dd k0 k1 k2 k3 k5 id) ∧ PySem.W.nsOkIn K N = true ∧ PySem.W.nsIn K N "__eq__" = some (some (.ref f)) ∧ PySem.W.nsIn K N "__ne__" = some none
  fn : ∃ o, K.lookup f = some o ∧ o.cls = .type "function"
/-- a name that stands in a written namespace -/
theorem ns_has {K : PySem.W.Frag} {h : Heap} {N : Addr} {x : Str} {v : Value} (inK : K.In h) (okN : PySem.W.nsOkIn K N = true) (e : PySem.W.nsIn K N x = some (some v)) : h.nsMap N x = some v := by
  obtain ⟨ob, es, ep, stands, isD, _, tells⟩ : h.Ns N (h.nsMap N) := .of_isNs (PySem.W.isNs_of_in inK okN)
  rw [← tells]
  unfold PySem.W.nsIn at e
  cases lk : K.lookup N with
  | none =>
    rw [lk] at e
    cases e
  | some ob2 =>
    have same := (inK N ob2 lk).symm.trans stands
    cases same
    obtain ⟨c, d, dt, sl⟩ := ob
    obtain rfl : dt = .dict es ep := isD
    rw [lk] at e
    dsimp only at e
    unfold nsFind findBy
    rw [← Array.find?_toList]
    cases fnd : es.toList.find? (·.key.isStr x) with
    | none =>
      rw [fnd] at e
      dsimp only at e
      split at e <;> cases e
    | some en =>
      rw [fnd] at e
      cases e
      rfl
section
variable {X : Cx} {n : Nat}
def rNeG (C : Addr) (R : Addr → Addr → Hp → Prop) : R2 := fun x y H Q => DIns C R x y H ∧ ∀ H', Ext H H' → Q (.bl false) H'
theorem op_neG {CX : CXT} {C f : Addr} {fd : FuncData} {ps : List Str} {R : Addr → Addr → Hp → Prop} {E : XK} (F : FnOk X.prog X.w X.K X.mg X.base CX n f fd ps (spEq R)) (N : NeC X.K C f) (hb : Binds X.K fd ps []) (hx : Passes CX X E) (hr : Room (n + 1) X.A) :
    OpR X (compareOp .NotEq) (rNeG C R) := by
  rintro pins s σ H x y v u Q I rx ry ⟨⟨a, b, dx, dy, fs, gs, rfl, rfl, ha, hb', holds⟩, q⟩
  cases rx
  cases ry
  obtain ⟨atA, J, _⟩ := ins_get I.hok ha
  obtain ⟨atB, J', _⟩ := ins_get I.hok hb'
  obtain ⟨od, J, _⟩ := J.look
  obtain ⟨odB, J', _⟩ := J'.look
  have there : ∀ p o, X.K.lookup p = some o → s.heap.get? p = some o := fun p o h => I.kIn p o h
  obtain ⟨nm, qn, Ns, bs, hd, sn, sub, ab, col, dd, k0, k1, k2, k3, k5, id_, eC, okN, eE, eN⟩ := N.cls
  obtain ⟨of, eF, cF⟩ := N.fn
  have own : s.heap.OwnEqNoNe a C f "object" [.type "object"] := by
    refine ⟨_, of, nm, qn, Ns, bs, hd, sn, sub, ab, col, dd, k0, k1, k2, k3, k5, id_, s.heap.nsMap Ns, _, J.at_, J.cls, there _ _ eC, .of_isNs (PySem.W.isNs_of_in I.kIn okN), ?_, there _ _ eF, cF, PySem.F.cmp_object.mro, PySem.F.cmp_object.eq.lookup, PySem.W.nsMap_none_of_in I.kIn okN eN⟩
    exact ns_has I.kIn okN eE
  have sb : Sub X n X.A.in1 := Sub.in1 ⟨hr, rfl⟩
  refine compareOp_ne_ownEq PySem.F.cmp_object own J'.at_ J'.cls (by have := hr.units; omega) ?_
  have hsp : spEq R [.ref a, .ref b] H (fun v H' => v = .bl true ∧ Ext H H') E := ⟨a, b, rfl, holds, fun H' e => ⟨rfl, e⟩⟩
  have e0 : Env0 X.prog X.w X.K X.mg X.base X.A.in1 X.stack s H := by
    have env := I.env0
    exact ⟨sb.fr.symm ▸ env.frames, env.mod, env.bs, env.bsz, env.funs, env.frf, env.hok, env.bare⟩
  have len2 := F.len _ _ _ _ hsp
  refine wpAny_call (codeAny_mono (F.run X.A.in1 X.stack s H ⟨[.ref a, .ref b], []⟩ [.ref a, .ref b] [.ref a, .ref b] _ E sb.room e0 (by
    have z := hb s [.ref a, .ref b] I.kIn (by simpa using len2)
    simpa using z) (.cons rfl (.cons rfl .nil)) hsp) fun r s' told => ?_)
  cases r with
  | error e => exact hx pins σ H s e s' I told
  | ok fl =>
    cases fl with
    | ret w =>
      obtain ⟨z, H', I', rz, ez, ex⟩ := I.after told
      subst ez
      cases rz
      exact ⟨true, rfl, .bl false, H', I', rfl, q H' ex⟩
    | next => exact False.elim told
    | brk => exact False.elim told
    | cont => exact False.elim told
end
end Tg

namespace Tg
open PySem PySem.Spec PyProof.Rows L2
/-! ### a thing that is reached within an expression, and held (read, not written) from there to the expression's end -/
section
variable {X : Cx} {e : Expr} {t : TE}
def tHold (H0 : Hp) (t : TE) : TE := fun σ H Q => t σ H fun x H1 => ∃ d u, x = .ref d ∧ H1 d = some u ∧ Mut (some u) ∧ ∀ od, (∀ o' u', H0 d ≠ some (.frz o' u')) → Q x (upd H1 d (.frz od u))
theorem pe_hold (h : PE X e t) : PE X e (tHold X.H_0 t) := by
  constructor
  intro pins s σ H Q I read
  refine thn (h.run pins s σ H _ I read) fun v s1 y => ?_
  obtain ⟨x, H1, J, r, d, u, ex, hd, mu, q⟩ := y
  obtain ⟨od, J2⟩ := J.lock hd mu
  exact ⟨x, _, J2, r, q od (J.nofrz hd mu)⟩
def tThaw (H0 : Hp) (t : TE) : TE := fun σ H Q => t σ H fun v H1 => ∃ d od u, H1 d = some (.frz od u) ∧ (∀ o' u', H0 d ≠ some (.frz o' u')) ∧ Q v (upd H1 d u)
theorem pe_thaw (h : PE X e t) : PE X e (tThaw X.H_0 t) := by
  constructor
  intro pins s σ H Q I read
  refine thn (h.run pins s σ H _ I read) fun v s1 y => ?_
  obtain ⟨x, H1, J, r, d, od, u, hd, hn, q⟩ := y
  exact ⟨x, _, J.unlock hd hn, r, q⟩
end
end Tg

namespace Tg
open PySem PySem.Spec PyProof.Rows L2
/-! ### d.update(e), two dicts -/
def rUpd : V → List V → Hp → VK → Prop := fun x vs H Q => ∃ (a b : Addr) (k1 k2 : List (Key × V)), x = .ref a ∧ vs = [.ref b] ∧ a ≠ b ∧ H a = some (.dK k1) ∧ H b = some (.dK k2) ∧ k1.length + k2.length ≤ sizeLine ∧ Q .non (upd H a (.dK (mergeK k1 k2)))
theorem mt_upd {X : Cx} : MtR X "dict.update" rUpd := by
  rintro pins s σ H x vs v us Q I rx rv ⟨a, b, k1, k2, rfl, rfl, ne, ea, eb, room, q⟩
  cases rx
  obtain ⟨u, rfl, ru⟩ := vals1 rv
  cases ru
  obtain ⟨z1, h1, vs1, r1, d1⟩ := dk_of I.hok ea
  obtain ⟨z2, h2, vs2, r2, d2⟩ := dk_of I.hok eb
  have few : (mergeK k1 k2).length ≤ sizeLine := Nat.le_trans (length_mergeK k2 k1) room
  refine call_meetsIn PySem.F.slot_dict_update d1.typeIs PySem.F.entry_dict_update (PySem.F.args_dict_update_2 _ _) (meets_dict_update (mixKind X.prog X.w) a b ne h2) ⟨vs1, vs2, d1, d2, ?_, fun h' d' _ sb => ?_⟩
  · rw [← r1.length, ← r2.length]
    exact room
  · have there : ∃ q, h'.get? a = some q := let ⟨q, _, _, hq, _⟩ := d'; ⟨q, hq⟩
    exact ⟨.non, _, d_write (t' := s.toks) I (by rw [ea]; exact True.intro) sb there (dk_new few h1 (KV.merge r2 r1) d'), rfl, q⟩
end Tg

namespace Tg
open PySem PySem.Spec PyProof.Rows L2
/-! ### try: body finally: suite, where nothing is raised -/
def tFinQ (tb tf : TS) : TS := fun D σ H => tb { nx := fun σ1 H1 => tf D σ1 H1, rt := fun _ _ => False } σ H
section
variable {X : Cx} {body : List Stmt} {f₀ : Stmt} {fs : List Stmt} {pos : Pos} {tb tf : TS}
theorem ps_finQ (calmly : PSs X.nox body tb) (behind : PSs X.nox (f₀ :: fs) tf) : PS X (.Try body [] [] (f₀ :: fs) pos) (tFinQ tb tf) := by
  constructor
  intro pins s σ H D I told
  refine wpAny_Try_finally (wpAny_mono (calmly.run pins s σ H _ (I.wish _) told) (fun g s1 z => ?_) fun _ _ z => z.elim)
  match g, z with
  | .next, z =>
    obtain ⟨σ1, H1, J, more⟩ := z
    refine wpAny_execs_nil (wpAny_mono (behind.run pins s1 σ1 H1 D J more) (fun g2 s2 z2 => ?_) fun _ _ z2 => z2.elim)
    have z3 : SP X pins D g2 s2 := z2.unwish
    cases g2 <;> exact z3
  | .ret u, z =>
    obtain ⟨_, _, _, _, _, no⟩ := z
    exact no.elim
  | .brk, z =>
    obtain ⟨_, _, _, no⟩ := z
    exact no.elim
  | .cont, z =>
    obtain ⟨_, _, _, no⟩ := z
    exact no.elim
end
end Tg

namespace Tg
open PySem PySem.Spec PyProof.Rows L2
/-! ### d.values(), list(d.values()) -/
theorem vals_map {κ : Type} [DecidableEq κ] {kvs : List (κ × V)} {vs : List (κ × Value)} (r : KV kvs vs) {us : List Value} (size : us.length = vs.length) (each : ∀ (j : Nat) (u : Value), us[j]? = some u → ∃ k, vs[j]? = some (k, u)) : Vals (kvs.map (·.2)) us := by
  refine vals_of_at (by rw [List.length_map, size]; exact KV.length r) fun j x u hx hu => ?_
  obtain ⟨k, e1⟩ := each j u hu
  rw [List.getElem?_map] at hx
  obtain ⟨kv, e2, rfl⟩ := Option.map_eq_some_iff.mp hx
  obtain ⟨y, e3, ry⟩ := KV.at' r e1
  rw [e2] at e3
  cases e3
  exact ry
section
variable {X : Cx}
/-- the view of d's values, at p -/
def vvO (p d : Addr) : HO := .ext fun h => h.IsValuesView p d
def rValsV : V → List V → Hp → VK → Prop := fun x xs H Q => ∃ (d : Addr) (kvs : List (Key × V)), x = .ref d ∧ xs = [] ∧ H d = some (.dK kvs) ∧ ∀ p, H p = none → Q (.ref p) (upd H p (vvO p d))
theorem mt_valsV : MtR X "dict.values" rValsV := by
  rintro pins s σ H x xs v us Q I rx rxs ⟨d, kvs, rfl, rfl, hd, q⟩
  cases rx
  cases rxs
  obtain ⟨_, off, vs, _, isd⟩ := (show ObjOk X.prog X.w H s.heap d (.dK kvs) from I.hok d _ hd)
  have at1 : (s.heap.push { cls := .type "dict_values", data := .fields #[.ref d] }).get? s.heap.objs.size = some { cls := .type "dict_values", data := .fields #[.ref d] } := Heap.get?_push_size _ rfl
  have seen : ObjOk X.prog X.w (upd H s.heap.objs.size (vvO s.heap.objs.size d)) (s.heap.push { cls := .type "dict_values", data := .fields #[.ref d] }) s.heap.objs.size (vvO s.heap.objs.size d) :=
    ⟨⟨_, at1, rfl, rfl⟩, ⟨_, at1⟩, fun h1 h2 z k => let ⟨o, ho, r⟩ := z; ⟨o, k o ho, r⟩⟩
  exact call_meetsIn PySem.F.slot_dict_values isd.typeIs PySem.F.entry_dict_values (PySem.F.args_dict_values_1 _) (meets_dict_values (mixKind X.prog X.w) d off) ⟨⟨vs, isd⟩, .ref s.heap.objs.size, _, I.laid (t' := s.toks) (fun b u e => Heap.get?_push_of_some _ e) (Nat.le_refl _) seen, rfl, q _ (I.hok.fresh (Nat.le_refl _))⟩
def rListVV : List V → Hp → VK → Prop := fun xs H Q => ∃ (p d : Addr) (kvs : List (Key × V)), xs = [.ref p] ∧ H p = some (vvO p d) ∧ H d = some (.dK kvs) ∧ ∀ q, H q = none → Q (.ref q) (upd H q (.lst (kvs.map (·.2))))
theorem call_listVV (calm : X.calm = true) : CallR X (.type "list") rListVV := by
  rintro pins s σ H xs us Q I r ⟨p, d, kvs, rfl, hp, hd, q⟩
  rw [Vals.ref1 r]
  have isv : s.heap.IsValuesView p d := (show ObjOk X.prog X.w H s.heap p (vvO p d) from I.hok p _ hp).1
  obtain ⟨few, _, vs, rk, isd⟩ := (show ObjOk X.prog X.w H s.heap d (.dK kvs) from I.hok d _ hd)
  obtain ⟨ep, isat⟩ := isd.dictAt
  have many : kvs.length = vs.length := KV.length rk
  refine PySem.W.kdl_call (PySem.W.kdl_values (knd := mixKind X.prog X.w) (kvs := vs) (ep := ep)) (I.ok.hd calm) ⟨isv, isat⟩ (many ▸ few) fun h' tk acc c keep made items => ?_
  have rel : Vals (kvs.map (·.2)) acc.toList := vals_map rk (Array.length_toList.trans items.1) fun j u hu => items.2 j u (by rw [← hu, Array.getElem?_toList])
  refine ⟨.ref s.heap.objs.size, _, I.laid (t' := tk) keep (Nat.le_refl _) (show ObjOk X.prog X.w _ _ _ (.lst (kvs.map (·.2))) from ⟨?_, acc.toList, c, rel, ?_⟩), rfl, q _ (I.hok.fresh (Nat.le_refl _))⟩
  · rw [List.length_map]
    exact few
  · rw [Array.toArray_toList]
    exact made
end
end Tg

set_option maxHeartbeats 4000000
namespace Tg
open PySem PySem.Spec PyProof.Rows L2 PpSet
/-! ### {number for .. in ..} -/
section
variable {X : Cx}
theorem setO_add {pins : List (Addr × Obj)} {σ : L2.St} {H : Hp} {s : Shared} {E : Value → Shared → Prop} {D : Addr} {S : Int → Bool} {n : Nat} {z : Int} {tk : Tok} {Q : Value → Shared → Prop} (I : Inv X pins σ H s) (has : H D = some (SetO X.w D S n)) (room : n + 1 < scanBound)
    (told : ∀ s', Inv X pins σ (upd H D (SetO X.w D (fun j => S j || decide (j = z)) (if S z = true then n else n + 1))) s' → Q .none s') : wpAny (model X.prog X.w) X.A (call (.builtin "set.add") [.ref D, .int z tk]) Q E s := by
  refine setR_add (setO_get I has) room fun h' sb new => ?_
  have there : ∃ u, h'.get? D = some u := let ⟨o, _, _, _, ho, _⟩ := new; ⟨o, ho⟩
  exact told _ (I.write (e := D) (t' := s.toks + 1) (by rw [has]; trivial) (.inl rfl) (fun b u hb hu => (sb.2 b hb).trans hu) there (setO_new new))
end
def tScI (w : World) (wi : TI) (g : TG) (tt : TT) (te : TE) (vs : List Nat) : TE := fun σ H Q => wi σ H fun J H1 => ∀ D, H1 D = none → ∃ W : Nat → Nat → Hp → Prop, (∃ m, W 0 m (upd H1 D (SetO w D (fun _ => false) 0))) ∧
  ∀ i m H, W i m H → (J.stop i H ∧ Q (.ref D) H) ∨ (J.go i H ∧ ∃ Nx : Hp → Prop, (∀ H', Nx H' → ∃ m', m' < m ∧ W (i + 1) m' H') ∧ ∀ x H', J.yld i H x H' → g x (wipe σ vs) H' fun σ2 H2 => wipe σ2 vs = wipe σ vs ∧ tt σ2 H2 fun b H3 =>
    if b = true then te σ2 H3 fun y H4 => ∃ (z : Int) (S : Int → Bool) (n : Nat), y = .int z ∧ H4 D = some (SetO w D S n) ∧ n + 1 < scanBound ∧ Nx (upd H4 D (SetO w D (fun j => S j || decide (j = z)) (if S z = true then n else n + 1))) else Nx H3)
section
variable {X : Cx}
theorem pe_scI {elt tg iter : Expr} {ifs : List Expr} {scope : Scope} {own : List (Str × Nat)} {pos : Pos} {wi : TI} {g : TG} {tt : TT} {te : TE} (hc : X.calm = true) (hN : X.N.Nodup) (hi : PI X tg iter wi) (ok : BlkOk X.N X.env.scope scope own)
    (own0 : ∀ (s0 : Shared) (H0 : Hp) (C : Addr) (cl : List (Str × Addr)) (fp : List Addr), PG (X.blk s0 H0 scope (compEnvC scope cl C X.env) fp) tg g) (asks0 : ∀ (s0 : Shared) (H0 : Hp) (C : Addr) (cl : List (Str × Addr)) (fp : List Addr), PTs (X.blk s0 H0 scope (compEnvC scope cl C X.env) fp) ifs tt)
    (says0 : ∀ (s0 : Shared) (H0 : Hp) (C : Addr) (cl : List (Str × Addr)) (fp : List Addr), PE (X.blk s0 H0 scope (compEnvC scope cl C X.env) fp) elt te) (hs : ∀ x, foldedSetIterable iter X.env x = pure x := by intro _; rfl) :
    PE X (.SetComp elt [⟨tg, iter, ifs, 0⟩] scope pos) (tScI X.w wi g tt te (own.map (·.2))) := by
  refine ⟨fun pins s σ H Q I h => ?_⟩
  rw [eval_SetComp]
  have caught : ∀ y ∈ scope.names, y.2 = .free → ∃ c, X.env.cells.lookup y.1 = some c := fun y hy e => (ok.free y hy e).elim (fun k => I.ok.has _ (.inl k)) fun k => I.ok.has _ (.inr k)
  refine wpAny_comprehension_free rfl hs (closure_ok caught) ok.kind (fun y hy e => by rw [ok.uniq y hy, e]) (thn (hi.run pins s σ H _ I h) fun src s1 q1 => thn q1 fun itv s2 q2 => ?_)
  obtain ⟨it, fp, tn, J, H2, rfl, I2, T, at0, fp2, q⟩ := q2
  apply newSet_ok
  refine newEnv_comp ?_
  obtain ⟨D, eD⟩ : ∃ D, D = s2.heap.objs.size := ⟨_, rfl⟩
  obtain ⟨W, ⟨m0, w0⟩, turn⟩ := q D (I2.hok.fresh (Nat.le_of_eq eD.symm))
  rw [← eD]
  obtain ⟨s3, e3⟩ : ∃ s3 : Shared, s3 = { s2 with heap := s2.heap.push { cls := .type "set", dict := none, data := .set #[] 0 (.fresh 0 0 (!X.w.params.followText "set-order")) } } := ⟨_, rfl⟩
  have grew : s3.heap = s2.heap.push { cls := .type "set", dict := none, data := .set #[] 0 (.fresh 0 0 (!X.w.params.followText "set-order")) } := by rw [e3]
  obtain ⟨H3, eH⟩ : ∃ H3, H3 = upd H2 D (SetO X.w D (fun _ => false) 0) := ⟨_, rfl⟩
  rw [← eH] at w0
  have I3 : Inv X pins σ H3 s3 := by
    rw [e3, eH]
    refine I2.laid (t' := s2.toks) (fun b o e => Heap.get?_push_of_some _ e) (Nat.le_of_eq eD.symm) ?_
    rw [eD]
    exact setO_new (setR_fresh X.w)
  have below : ∀ b ∈ fp, b < s2.heap.objs.size := fun b hb => let ⟨o, e, _⟩ := T.obj _ _ at0 b hb; Heap.lt_size e
  have fp3 : ∀ b ∈ fp, FpOk X pins H3 b ∧ b < s3.heap.objs.size := fun b hb => by
    have lt := below b hb
    refine ⟨⟨?_, (fp2 b hb).2⟩, by rw [grew, Heap.size_push]; exact Nat.lt_succ_of_lt lt⟩
    rw [eH, upd_ne (by rw [eD]; exact Nat.ne_of_lt lt)]
    exact (fp2 b hb).1
  have at3 : tn 0 s3.heap := T.keep _ _ _ at0 fun b _ o e => by rw [grew]; exact Heap.get?_push_of_some _ e
  have I4 := block_start I3 ok hN fp3
  obtain ⟨ce, ece⟩ : ∃ ce, ce = compEnvC scope (cellsFrom (s3.heap.objs.size + 1) scope.names (cloFrom X.env.cells scope.names [])) s3.heap.objs.size X.env := ⟨_, rfl⟩
  have pg := own0 s3 H3 s3.heap.objs.size (cellsFrom (s3.heap.objs.size + 1) scope.names (cloFrom X.env.cells scope.names [])) fp
  have pt := asks0 s3 H3 s3.heap.objs.size (cellsFrom (s3.heap.objs.size + 1) scope.names (cloFrom X.env.cells scope.names [])) fp
  have pe := says0 s3 H3 s3.heap.objs.size (cellsFrom (s3.heap.objs.size + 1) scope.names (cloFrom X.env.cells scope.names [])) fp
  rw [← e3]
  rw [← ece] at I4 pg pt pe
  have cL : ce.locals = s3.heap.objs.size := by rw [ece]; rfl
  have nfp : ∀ b ∈ fp, H3 b = none := fun b hb => (fp3 b hb).1.1
  obtain ⟨s4, e4⟩ : ∃ s4 : Shared, s4 = { s3 with heap := pushCells (s3.heap.push { cls := .type "dict", data := .dict #[] }) scope.names } := ⟨_, rfl⟩
  rw [← e4] at I4
  have at4 : tn 0 s4.heap := T.keep _ _ _ at3 fun b _ o e => by rw [e4]; exact pushCells_keeps _ _ _ _ (Heap.get?_push_of_some _ e)
  have stat : ∀ {σ1 : L2.St} {H1 : Hp} {s1 : Shared}, Inv (X.blk s3 H3 scope ce fp) [] σ1 H1 s1 → (∀ b ∈ fp, H1 b = none) → ∀ b ∈ fp, FpOk (X.blk s3 H3 scope ce fp) [] H1 b := fun {σ1 H1 s1} I1 hn b hb =>
    ⟨hn b hb, (I1.ok.exf b hb).1, I1.ok.exfs b hb, .inl hb, fun x c e => (I1.ok.exf b hb).2 x c e, fun p hp => absurd (show p ∈ ([] : List (Addr × Obj)) ++ [] from hp) (by simp)⟩
  have goal4 : codeAny (model X.prog X.w) X.A (.compStart (.SetComp elt [⟨tg, iter, ifs, 0⟩] scope pos) 0 (.ref it) (.ref D) ce) (compPost (model X.prog X.w) X.A X.xe none (fun v s' => ∃ (y : V) (H' : Hp), Inv X pins σ H' s' ∧ RelV y v ∧ Q y H') (.ref D) s3.heap.objs.size) s4 := by
    have far : codeAny (model X.prog X.w) X.A (.compLoop (.SetComp elt [⟨tg, iter, ifs, 0⟩] scope pos) 0 (.ref it) (.ref D) ce) (compPost (model X.prog X.w) X.A X.xe none (fun v s' => ∃ (y : V) (H' : Hp), Inv X pins σ H' s' ∧ RelV y v ∧ Q y H') (.ref D) s3.heap.objs.size) s4 := by
      refine compLoopS_any (fun n s1 => ∃ i H1, Inv (X.blk s3 H3 scope ce fp) [] (wipe σ (own.map (·.2))) H1 s1 ∧ tn i s1.heap ∧ (∀ b ∈ fp, H1 b = none) ∧ W i n H1) ?_ m0 ⟨0, H3, I4, at4, nfp, w0⟩
      rintro n s5 ⟨i, H5, I5, at5, n5, w5⟩
      rcases turn i n H5 w5 with ⟨stop, there⟩ | ⟨go, Nx, goes, step⟩
      · refine thnF (T.done (X.blk s3 H3 scope ce fp) rfl rfl rfl hc i [] s5 _ H5 (fun _ _ => False) I5 (stat I5 n5) at5 stop) fun r s6 ⟨hr, I6⟩ => ?_
        subst hr
        have I7 : Inv X pins σ H5 s6 := I3.call' (ch := fp) I6.os I6.base I6.hok I6.bare fun b hb => ⟨(fp3 b hb).1.2.2.2.1, (fp3 b hb).1.2.1, (fp3 b hb).1.2.2.2.2.1, (fp3 b hb).1.2.2.2.2.2⟩
        have nC : H5 s3.heap.objs.size = none := cL ▸ (show H5 ce.locals = none from I6.free)
        obtain ⟨m, hn, _⟩ := I6.loc
        refine ⟨m, cL ▸ (show s6.heap.Ns ce.locals m from hn), fun h1 sb => ?_⟩
        obtain ⟨f0, f1, f2, f3, f4, f5⟩ := I3.fpOk (Nat.le_refl _) nC
        exact ⟨.ref D, H5, I7.turned (t' := s6.toks) (fun b o hb e => (sb.2 b hb).trans e) f0 f1 f3 f4 f5, rfl, there⟩
      · refine thnF (T.item (X.blk s3 H3 scope ce fp) rfl rfl rfl hc i [] s5 _ H5 (fun _ _ => False) I5 (stat I5 n5) at5 go) fun r s6 ⟨u, hr, q6⟩ => ?_
        subst hr
        refine thnF q6 fun _ s7 ⟨x, H7, I7, r7, y7, at7, n7⟩ => ?_
        refine thnF (pg.run _ s7 _ H7 x u _ (I7.pinned (stat I7 n7) (T.obj _ _ at7)) r7 (step x H7 y7)) fun _ s8 ⟨σ8, H8, I8, back, q8⟩ => ?_
        refine thnF (pt.run _ s8 σ8 H8 _ I8 q8) fun b s9 come => ?_
        obtain ⟨H9, I9, q9⟩ := come
        have close : ∀ {s1 : Shared} {H1 : Hp}, Inv (X.blk s3 H3 scope ce fp) ([] ++ pinsAt fp s7.heap) σ8 H1 s1 → Nx H1 → ∃ m, m < n ∧ ∃ i H', Inv (X.blk s3 H3 scope ce fp) [] (wipe σ (own.map (·.2))) H' s1 ∧ tn i s1.heap ∧ (∀ b ∈ fp, H' b = none) ∧ W i m H' := fun {s1 H1} J1 nx => by
          obtain ⟨m1, less, w1⟩ := goes H1 nx
          have held : ∀ b ∈ fp, ∀ o, s7.heap.get? b = some o → s1.heap.get? b = some o ∧ H1 b = none := fun b hb o e =>
            let z := J1.pin (b, o) (List.mem_append_right _ (List.mem_append_right _ (mem_pinsAt hb e)))
            ⟨z.1, z.2.1⟩
          exact ⟨m1, less, i + 1, H1, (J1.unpinned (pins := [])).weak (by rw [← back, wipe_length]) (fun j v e => (wipe_some (back ▸ e)).1), T.keep _ _ _ at7 fun b hb o e => (held b hb o e).1, fun b hb => let ⟨o, e, _⟩ := T.obj _ _ at7 b hb; (held b hb o e).2, w1⟩
        match b, q9 with
        | false, q9 => exact close I9 q9
        | true, q9 =>
          refine thnF (pe.run _ s9 σ8 H9 _ I9 q9) fun v s10 ⟨y, H10, I10, r10, z, S, c, ey, has, room, nx⟩ => ?_
          subst ey
          obtain ⟨tk, rfl⟩ := (show ∃ t, v = Value.int z t from r10)
          exact setO_add (X := X.blk s3 H3 scope ce fp) I10 has room fun s11 I11 => close I11 nx
    exact codeAny_compStart_set far (T.self X.A 0 _ _ _ at4 far)
  rw [e4, ece] at goal4
  exact goal4
end
end Tg

namespace Tg
open PySem PySem.Spec PyProof.Rows L2
/-! ### sorted of a set of numbers, however many (the library's own rule ends at 63) -/
/-- a set's members, handed out in some order: whole numbers, the set's keys -/
theorem keys_out {es : Array (Int × Value)} {vs : List Value} (good : ∀ e ∈ es.toList, GoodE e) (pm : vs.Perm (es.toList.map (·.2))) :
    IntsAre vs (vs.map Builtin.Re.reRawOf) ∧ (vs.map Builtin.Re.reRawOf).Perm (es.toList.map keyOf) := by
  refine ⟨ints_of vs fun v hv => ?_, ?_⟩
  · have there := pm.mem_iff.mp hv
    rw [List.mem_map] at there
    obtain ⟨e, he, rfl⟩ := there
    have ⟨k, tk, h1, _⟩ := good e he
    exact ⟨k, tk, h1⟩
  · exact List.map_map (f := (·.2)) (g := Builtin.Re.reRawOf) (l := es.toList) ▸ pm.map Builtin.Re.reRawOf
/-- the rising list of just the n numbers of S -/
def Rising (S : Int → Bool) (n : Nat) (ns : List Int) : Prop := ns.Pairwise (· < ·) ∧ (∀ k : Int, k ∈ ns ↔ S k = true) ∧ ns.length = n
/-- what stood before a list was made and sorted stands behind it -/
theorem sorted_keeps {h : Heap} {o u : Obj} {vs : List Value} {out : Array Value} {b : Addr} (q : h.get? b = some u) : (sortedHeap (h.push o) h.objs.size vs out).get? b = some u := by
  have lt := Heap.lt_size q
  exact (sortedHeap_old (Nat.ne_of_lt lt) (size_push' h o ▸ Nat.lt_succ_of_lt lt)).trans (Heap.get?_push_of_some o q)
section
variable {P : Program} {w : World} {A : Around} {s : Shared} {E : Value → Shared → Prop} {a : Addr}
theorem sorted_setA {S : Int → Bool} {n : Nat} {Q : Value → Shared → Prop} (R : SetR w s.heap a S n) (free : A.handled = none) (few : n ≤ sizeLine)
    (told : ∀ s' p (out : List Value) (c : Nat) (ns : List Int), (∀ b o, s.heap.get? b = some o → s'.heap.get? b = some o) → s'.gens = s.gens → s'.os = s.os → s.heap.objs.size ≤ p →
      s'.heap.get? p = some (seqObj "list" out.toArray c) → IntsAre out ns → Rising S n ns → Q (.ref p) s') : wpAny (model P w) A (call (.builtin "sorted") [.ref a]) Q E s := by
  have ⟨o, es, ep, tbl, at_a, exact_set, dat, good, once, mem, bound, fits, count, ris, led⟩ := R
  apply Calls.call_function_entry kind_sorted plain_sorted entry_sorted (args_sorted1 _)
  unfold Builtin.«sorted»
  apply wpAny_bind
  apply wpAny_pure
  apply wpAny_bind
  apply collect_set (A := A.in1) free ⟨o, at_a, exact_set.1, dat⟩ fits bound ris led
  intro s1 vs kept more gens1 os1 pm
  obtain ⟨are, perm⟩ := keys_out good pm
  have many : vs.length = n := by
    have := pm.length_eq
    rw [List.length_map] at this
    exact this.trans (Array.length_toList.trans count)
  have room : vs.length ≤ sizeLine := many ▸ few
  have at_l := Heap.get?_push_size s1.heap (o := seqObj "list" vs.toArray 0) rfl
  apply wpAny_bind
  refine wpAny_newList (hsz := room) (wpAny_bind (wpAny_holding (wpAny_call_entry slot_list_sort ⟨_, at_l, rfl⟩ entry_list_sort ?_ (args_list_sort _))))
  refine SrtO.list_sort_ord SrtO.swo_int at_l room (SrtO.ints_sortable are) fun out up stable => ⟨_, rfl, ?_⟩
  have ⟨a1, a2, a3⟩ := SrtO.ints_out are up stable
  have pn := a2.trans perm
  have ⟨c, hc⟩ := sortedHeap_at (out := out.toArray) at_l
  refine wpAny_pure ⟨_, rfl, told _ s1.heap.objs.size out c _ (fun b u e => ?_) gens1 os1 more hc a1 ⟨lt_of_le_nodup _ a3 (pn.nodup_iff.mpr once), fun k => pn.mem_iff.trans (mem k).symm, ?_⟩⟩
  · exact sorted_keeps (kept b u e)
  · rw [pn.length_eq, List.length_map]
    exact Array.length_toList.trans count
end
def rSortedSetA (w : World) : List V → Hp → VK → Prop := fun vs H Q => ∃ (a : Addr) (S : Int → Bool) (n : Nat), vs = [V.ref a] ∧ H a = some (SetO w a S n) ∧ n ≤ sizeLine ∧
  ∀ ns p, Rising S n ns → H p = none → Q (.ref p) (upd H p (.lst (ns.map V.int)))
theorem cr_sortedSetA {X : Cx} (calm : X.calm = true) : CallR X (.builtin "sorted") (rSortedSetA X.w) := by
  rintro pins s σ H vs us Q I rel ⟨a, S, n, rfl, ha, few, q⟩
  rw [Vals.ref1 rel]
  refine sorted_setA (setO_get I ha) (I.ok.hd calm) few fun s' p out c ns k g o hp hg hi up => ?_
  have len : (ns.map V.int).length ≤ sizeLine := by
    rw [List.length_map, up.2.2]
    exact few
  have new := I.hok.fresh hp
  have J := I.call' (s' := s') (ch := []) (H' := upd H p (.lst (ns.map V.int))) o (Un.laid k hp new) (I.hok.laid k hp ⟨len, out, c, vals_of_ints hi, hg⟩) (g.symm ▸ I.bare) (fun _ z => nomatch z)
  exact ⟨.ref p, _, J, rfl, q ns p up new⟩
end Tg

set_option maxHeartbeats 1000000
namespace Tg
open PySem PySem.Spec PyProof.Rows L2
/-! ### lists or tuples; sorted of a tuple of ints, of a dict by ints -/
section
variable {X : Cx}
/-- a list or a tuple -/
def SqA (K : PySem.W.Frag) (H : Hp) (a : Addr) (xs : List V) : Prop := SqL K H a xs ∨ SqT K H a xs
def iSeq (K : PySem.W.Frag) (tl : TE) : TI := fun σ H R => tl σ H fun x H1 => ∃ a, x = .ref a ∧ (((∃ xs, SqL K H1 a xs) ∧ R (Itl K a) H1) ∨ ((∃ xs, SqT K H1 a xs) ∧ R (Itt K a) H1))
theorem pi_seq {tg l : Expr} {tl : TE} (hl : PE X l tl) : PI X tg l (iSeq X.K tl) := by
  refine ⟨fun pins s σ H R I want => thn (hl.run pins s σ H _ I want) fun v s1 ⟨x, H1, I1, r1, told⟩ => ?_⟩
  obtain ⟨a, rfl, q⟩ := told
  cases r1
  rcases q with ⟨⟨xs, hq⟩, q⟩ | ⟨⟨xs, hq⟩, q⟩
  · obtain ⟨its, rv, at_, hz⟩ := I1.list hq
    refine wpAny_pyIter_list at_.isList ⟨s1.heap.objs.size, [s1.heap.objs.size], _, _, H1, rfl, I1.kept (t' := s1.toks) fun b o e => Heap.get?_push_of_some _ e, turn_list a _, ⟨_, Heap.get?_push_size _ rfl, rfl, rfl⟩, fun b hb => ?_, q⟩
    rw [List.mem_singleton.mp hb]
    exact I1.fpOk Nat.le.refl (I1.hok.fresh Nat.le.refl)
  · obtain ⟨its, rv, at_, hz⟩ := I1.tuple hq
    refine wpAny_pyIter_tuple (show s1.heap.IsTuple a its.toArray from at_) ⟨s1.heap.objs.size, [s1.heap.objs.size], _, _, H1, rfl, I1.kept (t' := s1.toks) fun b o e => Heap.get?_push_of_some _ e, turn_tuple a _, ⟨_, Heap.get?_push_size _ rfl, rfl, rfl⟩, fun b hb => ?_, q⟩
    rw [List.mem_singleton.mp hb]
    exact I1.fpOk Nat.le.refl (I1.hok.fresh Nat.le.refl)
/-- sorted of what is walked to ints -/
theorem sorted_of {pins : List (Addr × Obj)} {σ : L2.St} {H : Hp} {s : Shared} {a : Addr} {ns : List Int} {Q : VK} (I : Inv X pins σ H s) (few : ns.length ≤ sizeLine)
    (col : ∀ (R : List Value → Shared → Prop) (E : Value → Shared → Prop), (∀ (h' : Heap) (tk : Nat) (vs : List Value), (∀ b o, s.heap.get? b = some o → h'.get? b = some o) → IntsAre vs ns → R vs { s with heap := h', toks := tk }) → wpAny (model X.prog X.w) X.A.in1 (collect (.ref a)) R E s)
    (q : ∀ (ns' : List Int) (p : Addr), ns'.Perm ns → ns'.Pairwise (· ≤ ·) → H p = none → Q (.ref p) (upd H p (.lst (ns'.map V.int)))) :
    wpAny (model X.prog X.w) X.A (call (.builtin "sorted") [.ref a]) (EP X pins σ Q) X.xe s := by
  apply Calls.call_function_entry kind_sorted plain_sorted entry_sorted (args_sorted1 _)
  unfold Builtin.«sorted»
  refine wpAny_bind (m := checkCount "sorted" 1 1 _) (wpAny_pure (wpAny_bind (col _ _ fun h' tk vs kept are => ?_)))
  have I1 : Inv X pins σ H { s with heap := h', toks := tk } := I.kept kept
  have many : vs.length = ns.length := by
    have z := congrArg List.length (SrtO.iv_ints are)
    rw [List.length_map] at z
    exact z
  have room : vs.length ≤ sizeLine := many ▸ few
  refine wpAny_bind (wpAny_newList ?_ room)
  have new : (h'.push (seqObj "list" vs.toArray 0)).get? h'.objs.size = some (seqObj "list" vs.toArray 0) := Heap.get?_push_size _ rfl
  show wpAny _ _ _ _ _ { s with heap := h'.push (seqObj "list" vs.toArray 0), toks := tk }
  refine wpAny_bind (wpAny_holding (wpAny_call_entry slot_list_sort ⟨_, new, rfl⟩ entry_list_sort ?_ (args_list_sort _)))
  refine SrtO.list_sort_ord (s := { s with heap := h'.push (seqObj "list" vs.toArray 0), toks := tk }) SrtO.swo_int new room (SrtO.ints_sortable are) fun out up stable => ⟨_, rfl, ?_⟩
  have ⟨a1, a2, a3⟩ := SrtO.ints_out are up stable
  have ⟨c, hc⟩ := sortedHeap_at (vs := vs) (out := out.toArray) new
  have len : ((out.map SrtO.iv).map V.int).length ≤ sizeLine := by
    rw [List.length_map, a2.length_eq]
    exact few
  refine wpAny_pure ⟨_, rfl, .ref h'.objs.size, upd H h'.objs.size (.lst ((out.map SrtO.iv).map V.int)), I1.laid (t' := tk) (fun b u e => ?_) (Nat.le_refl _) (show ObjOk X.prog X.w _ _ _ (.lst ((out.map SrtO.iv).map V.int)) from ⟨len, out, c, vals_of_ints a1, hc⟩), rfl, q _ _ a2 a3 (I1.hok.fresh (Nat.le_refl _))⟩
  have lt : b < h'.objs.size := Heap.lt_size e
  rw [sortedHeap_old (Nat.ne_of_lt lt) (by rw [size_push']; exact Nat.lt_succ_of_lt lt)]
  refine Heap.get?_push_of_some _ ?_
  exact e
/-- sorted of a list or a tuple of ints -/
def rSortedA (K : PySem.W.Frag) : List V → Hp → VK → Prop := fun vs H Q => ∃ (a : Addr) (ns : List Int), vs = [V.ref a] ∧ SqA K H a (ns.map V.int) ∧
  ∀ (ms : List Int) (l : Addr), ms.Perm ns → ms.Pairwise (· ≤ ·) → H l = none → Q (.ref l) (upd H l (.lst (ms.map V.int)))
theorem cr_sortedA : CallR X (.builtin "sorted") (rSortedA X.K) := by
  rintro pins s σ H vs us Q I r ⟨a, ns, rfl, hs, q⟩
  rcases hs with hs | hs
  · exact cr_sortedI pins s σ H _ us Q I r ⟨a, ns, rfl, hs, q⟩
  · rw [Vals.ref1 r]
    obtain ⟨its, rv, at_, hz⟩ := I.tuple hs
    have few : ns.length ≤ sizeLine := by
      rw [List.length_map] at hz
      exact hz
    obtain ⟨o, ho, hc, n, hd⟩ := at_
    refine sorted_of I few (fun R E told => ?_) q
    refine wpAny_collect_seq a (.inr rfl) ho hc hd (fun h' kept => ?_) (by rw [List.size_toArray, ← rv.length, List.length_map]; exact few)
    exact told h' s.toks its kept rv.ints
/-- sorted of a dict whose keys are ints: its keys -/
def rSortedDI : List V → Hp → VK → Prop := fun vs H Q => ∃ (a : Addr) (kvs : List (Key × V)) (ks : List Int), vs = [V.ref a] ∧ Rd H a (.dK kvs) ∧ kvs.map (·.1) = ks.map Sum.inl ∧
  ∀ (ns' : List Int) (p : Addr), ns'.Perm ks → ns'.Pairwise (· ≤ ·) → H p = none → Q (.ref p) (upd H p (.lst (ns'.map V.int)))
theorem cr_sortedDI (calm : X.calm = true) : CallR X (.builtin "sorted") rSortedDI := by
  rintro pins s σ H vs us Q I r ⟨a, kvs, ks, rfl, hd, hks, q⟩
  rw [Vals.ref1 r]
  obtain ⟨z, lo, ws, rel, dd⟩ := dk_rd I.hok hd
  obtain ⟨ep, hat⟩ := dd.dictAt
  have hkeys : ws.map (·.1) = ks.map Sum.inl := rel.keys.symm.trans hks
  have hl : ws.length = ks.length := by
    have many := congrArg List.length hkeys
    simpa only [List.length_map] using many
  have kl : kvs.length = ks.length := by
    have many := congrArg List.length hks
    simpa only [List.length_map] using many
  refine sorted_of I (kl ▸ z) (fun R E told => ?_) q
  refine PySem.W.kdu_collect (A := X.A.in1) (PySem.W.kdl_dict (knd := mixKind X.prog X.w) (kvs := ws) (ep := ep) lo) (I.ok.hd calm) hat (by rw [hl, ← kl]; exact z) fun h' tk acc hk hacc => ?_
  refine told h' tk acc.toList hk ?_
  have size : acc.toList.length = ks.length := by rw [Array.length_toList, hacc.1, hl]
  have rv : Vals (ks.map V.int) acc.toList := vals_of_at (by rw [List.length_map, size]) fun j x u hx hu => by
    obtain ⟨k, y, e1, e2⟩ := hacc.2 j u (by rw [← hu, Array.getElem?_toList])
    have e3 : (ws.map (·.1))[j]? = some k := by
      rw [List.getElem?_map, e1]
      rfl
    rw [List.getElem?_map] at hx
    simp only [hkeys, List.getElem?_map] at e3
    obtain ⟨n, en, rfl⟩ := Option.map_eq_some_iff.mp hx
    rw [en] at e3
    have e4 : Sum.inl n = k := Option.some.inj e3
    subst e4
    exact keyIs_rel (k := .inl n) (v := u) e2
  exact rv.ints
end
/-! ### walking a list or a tuple -/
section
variable {K : PySem.W.Frag} {a : Addr} {xs : List V} {H H' : Hp}
theorem sqL_at (k : ∀ o, H a = some o → H' a = some o) (h : SqL K H a xs) : SqL K H' a xs := h.imp (fun r => r.imp (k _) fun ⟨o, e⟩ => ⟨o, k _ e⟩) id
theorem sqT_at (k : ∀ o, H a = some o → H' a = some o) (h : SqT K H a xs) : SqT K H' a xs := h.imp (fun r => r.imp (k _) fun ⟨o, e⟩ => ⟨o, k _ e⟩) id
theorem sqA_at (k : ∀ o, H a = some o → H' a = some o) (h : SqA K H a xs) : SqA K H' a xs := h.imp (sqL_at k) (sqT_at k)
/-- all rounds of a loop over J -/
abbrev Rounds (J : It) (g : TG) (tb : TS) (D : Ends) (σ : L2.St) (H : Hp) : Prop :=
  ∃ W : Nat → Nat → L2.St → Hp → Prop, (∃ m, W 0 m σ H) ∧ ∀ i m σ1 H1, W i m σ1 H1 → (J.stop i H1 ∧ D.nx σ1 H1) ∨
    (J.go i H1 ∧ ∃ N : L2.St → Hp → Prop, (∀ σ2 H2, N σ2 H2 → ∃ m2, m2 < m ∧ W (i + 1) m2 σ2 H2) ∧ ∀ x H2, J.yld i H1 x H2 → g x σ1 H2 fun σ3 H3 => tb { D with nx := N, ct := N, bk := D.nx } σ3 H3)
theorem for_seq {Hb : Hp} {g : TG} {tb : TS} {D : Ends} {σ : L2.St} (sq : SqA K Hb a xs) (Pv : Nat → L2.St → Hp → Prop) (first : Pv 0 σ H) (keep : ∀ i σ1 H1, Pv i σ1 H1 → ∀ o, Hb a = some o → H1 a = some o)
    (round : ∀ i x σ1 H1, xs[i]? = some x → Pv i σ1 H1 → g x σ1 H1 fun σ2 H2 => tb { D with nx := Pv (i + 1), ct := Pv (i + 1), bk := D.nx } σ2 H2) (last : ∀ σ1 H1, Pv xs.length σ1 H1 → D.nx σ1 H1) :
    ((∃ ys, SqL K H a ys) ∧ Rounds (Itl K a) g tb D σ H) ∨ ((∃ ys, SqT K H a ys) ∧ Rounds (Itt K a) g tb D σ H) :=
  sq.imp (fun h => ⟨⟨_, sqL_at (keep 0 σ H first) h⟩, for_list Pv first (fun i σ1 H1 _ p => sqL_at (keep i σ1 H1 p) h) round last⟩) fun h => ⟨⟨_, sqT_at (keep 0 σ H first) h⟩, for_tup Pv first (fun i σ1 H1 _ p => sqT_at (keep i σ1 H1 p) h) round last⟩
abbrev RoundsL (J : It) (g : TG) (tt : TT) (te : TE) (vs : List Nat) (σ : L2.St) (H : Hp) (D : Addr) (Qd : Hp → Prop) : Prop :=
  ∃ W : Nat → Nat → Hp → Prop, (∃ m, W 0 m (upd H D (.lst []))) ∧ ∀ i m H1, W i m H1 → (J.stop i H1 ∧ Qd H1) ∨
    (J.go i H1 ∧ ∃ Nx : Hp → Prop, (∀ H2, Nx H2 → ∃ m2, m2 < m ∧ W (i + 1) m2 H2) ∧ ∀ x H2, J.yld i H1 x H2 → g x (wipe σ vs) H2 fun σ3 H3 => wipe σ3 vs = wipe σ vs ∧ tt σ3 H3 fun b H4 =>
      if b = true then te σ3 H4 fun y H5 => ∃ acc, H5 D = some (.lst acc) ∧ acc.length < sizeLine ∧ Nx (upd H5 D (.lst (acc ++ [y]))) else Nx H4)
theorem lc_seq {g : TG} {tt : TT} {te : TE} {vs : List Nat} {σ : L2.St} {Qd : Addr → Hp → Prop} (sq : SqA K H a xs) (Pv : Addr → Nat → Hp → Prop) (first : ∀ D, H D = none → Pv D 0 (upd H D (.lst []))) (keep : ∀ D i H1, H D = none → Pv D i H1 → ∀ o, H a = some o → H1 a = some o)
    (round : ∀ D (i : Nat) (x : V) H1, H D = none → xs[i]? = some x → Pv D i H1 → g x (wipe σ vs) H1 fun σ2 H2 => wipe σ2 vs = wipe σ vs ∧ tt σ2 H2 fun b H3 =>
      if b = true then te σ2 H3 fun y H4 => ∃ acc, H4 D = some (.lst acc) ∧ acc.length < sizeLine ∧ Pv D (i + 1) (upd H4 D (.lst (acc ++ [y]))) else Pv D (i + 1) H3) (last : ∀ D H1, H D = none → Pv D xs.length H1 → Qd D H1) :
    ((∃ ys, SqL K H a ys) ∧ ∀ D, H D = none → RoundsL (Itl K a) g tt te vs σ H D (Qd D)) ∨ ((∃ ys, SqT K H a ys) ∧ ∀ D, H D = none → RoundsL (Itt K a) g tt te vs σ H D (Qd D)) :=
  sq.imp (fun h => ⟨⟨_, h⟩, fun D nD => lc_list (Pv D) (first D nD) (fun i H1 _ p => sqL_at (keep D i H1 nD p) h) (fun i x H1 e p => round D i x H1 nD e p) fun H1 p => last D H1 nD p⟩)
    fun h => ⟨⟨_, h⟩, fun D nD => lc_tup (Pv D) (first D nD) (fun i H1 _ p => sqT_at (keep D i H1 nD p) h) (fun i x H1 e p => round D i x H1 nD e p) fun H1 p => last D H1 nD p⟩
/-- {k: v for x in xs} of a list -/
theorem dc_lst {g : TG} {tt : TT} {tk tv : TE} {vs : List Nat} {σ : L2.St} {H1 : Hp} {D : Addr} {Qd : Hp → Prop} (Pv : Nat → Hp → Prop) (first : Pv 0 (upd H1 D (.dK []))) (keep : ∀ i H2, Pv i H2 → SqL K H2 a xs)
    (round : ∀ i x H2, xs[i]? = some x → Pv i H2 → g x (wipe σ vs) H2 fun σ2 H3 => wipe σ2 vs = wipe σ vs ∧ tt σ2 H3 fun b H4 =>
      if b = true then tk σ2 H4 fun y H5 => tv σ2 H5 fun z H6 => ∃ kvs k, y = kV k ∧ H6 D = some (.dK kvs) ∧ kvs.length < sizeLine ∧ Pv (i + 1) (upd H6 D (.dK (putK kvs k z))) else Pv (i + 1) H4) (last : ∀ H2, Pv xs.length H2 → Qd H2) :
    ∃ W : Nat → Nat → Hp → Prop, (∃ m, W 0 m (upd H1 D (.dK []))) ∧ ∀ i m H2, W i m H2 →
      ((Itl K a).stop i H2 ∧ Qd H2) ∨ ((Itl K a).go i H2 ∧ ∃ Nx : Hp → Prop, (∀ H3, Nx H3 → ∃ m2, m2 < m ∧ W (i + 1) m2 H3) ∧ ∀ x H3, (Itl K a).yld i H2 x H3 → g x (wipe σ vs) H3 fun σ2 H4 => wipe σ2 vs = wipe σ vs ∧ tt σ2 H4 fun b H5 =>
        if b = true then tk σ2 H5 fun y H6 => tv σ2 H6 fun z H7 => ∃ kvs k, y = kV k ∧ H7 D = some (.dK kvs) ∧ kvs.length < sizeLine ∧ Nx (upd H7 D (.dK (putK kvs k z))) else Nx H5) := by
  refine ⟨fun i m H2 => m = xs.length - i ∧ i ≤ xs.length ∧ Pv i H2, ⟨xs.length, by omega, Nat.zero_le _, first⟩, ?_⟩
  rintro i m H2 ⟨rfl, hi, p⟩
  have q := keep i H2 p
  by_cases lt : i < xs.length
  · refine .inr ⟨⟨xs, xs[i], q, List.getElem?_eq_getElem lt⟩, Pv (i + 1), fun H3 p3 => ⟨xs.length - (i + 1), by omega, rfl, lt, p3⟩, fun x H3 y => ?_⟩
    obtain ⟨rfl, y⟩ := y
    exact round i x H3 (y xs q) p
  · obtain rfl : i = xs.length := by omega
    exact .inl ⟨⟨xs, q, Nat.le_refl _⟩, last H2 p⟩
end
end Tg

set_option maxHeartbeats 1000000
namespace Tg
open PySem PySem.Spec PyProof.Rows L2
/-! ### name = {k: v for .. in ..}, the name plain: stored in the midst of the comprehension's end -/
section
variable {X : Cx}
theorem sw_dict {kx vx : Expr} {gs : List Comprehension} {scope : Scope} {pos py : Pos} {y : Str} {l : Nat} {env : Env} (fn : env.scope.kind = .function) (plain : env.scope.names.lookup y = some .local) (row : (py.line == pos.line) = true)
    (apart : (scope.names.any fun (n, k) => n == y && (k == .local || k == .cell)) = false) : swapsWith (.DictComp kx vx gs scope pos) (some (.Name y py)) l env = pure true := by
  have kind : env.kindOf y = some .local := plain
  have block : env.blockKind = .function := by
    unfold Env.blockKind
    rw [fn]
    rfl
  unfold swapsWith
  simp only [block, kind, apart, Expr.pos, row]
  rfl
theorem ps_setDc {i : Nat} {y : Str} {py pos spos : Pos} {kx vx tg iter : Expr} {ifs : List Expr} {scope : Scope} {own : List (Str × Nat)} {wi : TI} {g : TG} {tt : TT} {tk tv : TE} (calm : X.calm = true) (names : X.N.Nodup) (at_ : X.N[i]? = some y) (plain : X.env.scope.names.lookup y = some .local)
    (sw : swapsWith (.DictComp kx vx [⟨tg, iter, ifs, 0⟩] scope pos) (some (.Name y py)) spos.line X.env = pure true) (over : PI X tg iter wi) (blk : BlkOk X.N X.env.scope scope own)
    (pg : ∀ (s : Shared) (H : Hp) (C : Addr) (cl : List (Str × Addr)) (fp : List Addr), PG (X.blk s H scope (compEnvC scope cl C X.env) fp) tg g)
    (pt : ∀ (s : Shared) (H : Hp) (C : Addr) (cl : List (Str × Addr)) (fp : List Addr), PTs (X.blk s H scope (compEnvC scope cl C X.env) fp) ifs tt)
    (pk : ∀ (s : Shared) (H : Hp) (C : Addr) (cl : List (Str × Addr)) (fp : List Addr), PE (X.blk s H scope (compEnvC scope cl C X.env) fp) kx tk)
    (pw : ∀ (s : Shared) (H : Hp) (C : Addr) (cl : List (Str × Addr)) (fp : List Addr), PE (X.blk s H scope (compEnvC scope cl C X.env) fp) vx tv) (flat : ∀ x, foldedSetIterable iter X.env x = pure x := by intro _; rfl) :
    PS X (.Assign [.Name y py] (.DictComp kx vx [⟨tg, iter, ifs, 0⟩] scope pos) spos) (tAsg (tDc wi g tt tk tv (own.map (·.2))) (gName i)) := by
  refine ⟨fun pins s σ H D I read => ?_⟩
  rw [exec_Assign_Name_used _ _ _ _ sw]
  apply wpAny_bind
  refine wpAny_standAt (wpAny_bind ?_)
  show wpAny _ X.A (do let _ ← comprehension (.DictComp kx vx [⟨tg, iter, ifs, 0⟩] scope pos) scope X.env (firstIterPos [⟨tg, iter, ifs, 0⟩] pos) newDict false (eval iter X.env) (some (assign (.Name y py) X.env))) _ _ s
  have read2 : tDc wi g tt tk tv (own.map (·.2)) σ H (fun x H1 => gName i x σ H1 D.nx) := read
  refine wpAny_bind (thn (dc_core (Qf := fun _ s2 => SP X pins D .next s2) calm names I over blk pg pt pk pw flat read2 fun L C s2 m H2 I2 q ns f => ?_) fun _ s2 done => wpAny_pure (wpAny_pure done))
  rcases f with ⟨f0, f1, _, f3, f4, f5⟩
  change wpAny _ _ (assign (.Name y py) X.env (.ref L)) _ _ _
  refine wpAny_assign_Name (store_ok2 (v := V.ref L) I2 names at_ (.inl plain) rfl (fun s3 I3 ⟨a, sb, ha⟩ => ?_) (.inr plain))
  have apart : C ≠ a := by
    rcases ha with z | z
    · rw [z]
      exact f1
    · exact (f4 y a z).symm
  exact ⟨m, ns.sameBut sb apart, fun h3 sb3 => ⟨_, H2, I3.turned (t' := s3.toks) (fun b o hb e => (sb3.2 b hb).trans e) f0 f1 f3 f4 f5, q⟩⟩
end
end Tg

namespace Tg
open PySem PySem.Spec PyProof.Rows L2
/-! ### methods that may raise, called by keywords alone, in a def that lets errors out -/
def CalMRK (P : Program) (w : World) (K : PySem.W.Frag) (mg : Str → Option Value) (base : Heap) (k : Nat) (C : Addr) (m : Str) (ps ks : List Str) (is : List Nat) (sp : Sp) : Prop := ∃ f fd, FnOk P w K mg base (L2.CX P w) k f fd ps sp ∧ Meth K C m f ∧ KBn K fd ps 1 ks (fun us ws => us ++ prm is ws) (fun vs zs => vs ++ prm is zs)
section
variable {X : Cx} {E : XK} {k : Nat} {C : Addr} {m : Str} {ps ks : List Str} {is : List Nat} {sp : Sp} {o : Expr} {to : TE} {tk : TA} {pos apos : Pos} {kws : List Keyword}
theorem pe_calMRK {pl : Sem Bool} (he : PE X o to) (cl : Cls X.K C) (c : CalMRK X.prog X.w X.K X.mg X.base k C m ps ks is sp) (hr : Room k X.A) (lets : Passes (L2.CX X.prog X.w) X E) (vals : PK X kws tk)
    (named : (backToKw pos (keywordEach kws X.env)).all (·.1.isSome) = true := by rfl) (names : (backToKw pos (keywordEach kws X.env)).filterMap (·.1) = ks := by rfl)
    (nostar : ((backTo pos (starEach [] X.env)).any (·.1) || (backToKw pos (keywordEach kws X.env)).any (·.1.isNone)) = false := by rfl)
    (ht : eval (.Call (.Attribute o m apos) [] kws pos) X.env = (do let ov ← eval o X.env; standAt apos.atName; let (f, first) ← holding [ov] (getMethod ov m pl); callWith pos f first (backTo pos (starEach [] X.env)) (backToKw pos (keywordEach kws X.env))) := by rfl) :
    PE X (.Call (.Attribute o m apos) [] kws pos) (tMethK C m ks.length sp is E to tk) := by
  obtain ⟨f, fd, F, hm, hb⟩ := c
  constructor
  intro pins s σ H Q I read
  refine PySem.W.methodCall_KW (pl := pl) (thn (he.run pins s σ H _ I read) fun u s1 z => ?_) ht
  obtain ⟨_, H1, J, ru, a, dx, fs, rfl, ea, none_, told⟩ := z
  cases ru
  refine getmeth_ok J ea cl hm none_ (PySem.W.callWith_KW0 (first := [.ref a]) (h₀ := X.base) J.ok.mod.kin hm.kp named (thn (vals.run pos pins s1 σ H1 _ J told) fun ws s2 z => ?_) nostar)
  obtain ⟨zs, H2, J2, rel, many, said⟩ := z
  rw [names]
  exact ⟨J2.kIn, run_fnN (E := E) (us := [.ref a]) (vs := [.ref a]) F hr hb lets J2 (.cons rfl .nil) rel rfl many said⟩
end
end Tg

namespace Tg
open PySem PySem.Spec PyProof.Rows L2
/-! ### rules whose reading names K, said for a comprehension -/
theorem call_lenK {X : Cx} {K : PySem.W.Frag} (hK : X.K = K := by rfl) : CallR X (.builtin "len") (fun xs H Q => ∃ p ys, xs = [V.ref p] ∧ (SqL K H p ys ∨ SqT K H p ys) ∧ Q (V.int (ys.length : Nat)) H) := by
  subst hK
  exact call_len_seq
theorem mt_indexK {X : Cx} {K : PySem.W.Frag} (hK : X.K = K := by rfl) : MtR X "list.index" (rIndex K) := by
  subst hK
  exact mt_index
/-- a rule over X.K is one over K -/
theorem pe_overK {X : Cx} {K : PySem.W.Frag} {e : Expr} (t : PySem.W.Frag → TE) (h : PE X e (t X.K)) (hK : X.K = K := by rfl) : PE X e (t K) := hK ▸ h
theorem yes_i {σ : L2.St} {H : Hp} {Q : Bool → Hp → Prop} (h : Q true H) : tYes σ H Q := h
end Tg

set_option maxHeartbeats 2000000
namespace Tg
open PySem PySem.Spec PyProof.Rows L2
section
variable {prog : Program} {s : Shared} {E : Value → Shared → Prop} {w : World} {A : Around}
/-- (lambda v: v[0])(t), t a tuple -/
theorem lam_first {f c t : Addr} {pm ctv u : Value} {qual nm : Str} {params : Arguments} {scope : Scope} {p1 p2 p3 : Pos} {kk : Nat} {its : List Value} {Q : Value → Shared → Prop} (room : A.depth < recursionLimit) (lim : s.heap.NoLimit)
    (at_f : s.heap.get? f = some (PySem.W.kla_obj "<lambda>" qual params (.Subscript (.Name nm p1) (.Constant (.int 0) kk p2) p3) scope [] pm c ctv)) (code : s.heap.CodeRec (.ref c) qual)
    (binds : ∀ v, bindArgs (PySem.W.kla_fn "<lambda>" qual params (.Subscript (.Name nm p1) (.Constant (.int 0) kk p2) p3) scope [] pm (.ref c) ctv) ⟨[v], []⟩ = pure [(nm, v)])
    (loc : scope.names.lookup nm = some .local) (nocell : ∀ x ∈ scope.names, x.2 ≠ .cell) (kind : scope.kind = .function) (co : scope.isCoroutine = false) (gen : scope.isGenerator = false) (nodebug : (nm == ("__debug__" : Str)) = false) (tup : PyProof.Rows.IsTup s.heap t its.toArray) (first : its[0]? = some u)
    (told : ∀ h tk, (∀ b o, s.heap.get? b = some o → h.get? b = some o) → Q u { s with heap := h, toks := tk }) :
    wpAny (model prog w) A (call (.ref f) [.ref t]) Q E s := by
  refine wpAny_call (PySem.W.kla_callFunE room at_f rfl co gen rfl code ?_)
  rw [binds]
  refine wpAny_pure (wpAny_newFunctionEnv nocell (fun x hx => by
    cases List.mem_singleton.mp hx
    exact loc) (fun h1 ns sb => ⟨lim.fresh _ sb, PySem.W.kla_codeExpr (Subscript_ ?_)⟩) kind)
  have keeps : ∀ b o, s.heap.get? b = some o → h1.get? b = some o := fun b o e => sb.extBut b o (Nat.ne_of_lt (Heap.lt_size e)) (Heap.get?_push_of_some _ e)
  have tup1 : PyProof.Rows.IsTup h1 t its.toArray := by
    obtain ⟨o, e, r⟩ := tup
    exact ⟨o, keeps _ _ e, r⟩
  obtain ⟨m, ix, get, _, _, _⟩ := atI_get (atI_nat (j := 0) first)
  refine wpAny_Name (wpAny_loadName_local kind loc ns (v := .ref t) (by simp [List.lookup]) ?_) nodebug
  refine wpAny_Constant_int ?_
  refine subscriptTail_builtinR (x := u) tup1.typeIs slot_tuple_getitem.lookup (PyProof.Rows.getItem_tuple (j := m) tup1 (by decide) (by decide) ?_ ?_ ⟨rfl, told _ _ keeps⟩)
  · rw [List.size_toArray]
    exact ix
  · simpa using get
end
end Tg

set_option maxHeartbeats 400000
namespace Tg
open PySem PySem.Spec PyProof.Rows L2 LamX
/-- a tuple of two, its place, its first (a text), its second -/
abbrev KP := Addr × Str × V
def KTp (H : Hp) (q : KP) : Prop := H q.1 = some (.tup [.str q.2.1, q.2.2])
def kRefs (L : List KP) : List V := L.map fun q => V.ref q.1
def sortK (L : List KP) : List KP := L.mergeSort fun a b => decide (a.2.1.cps.toList ≤ b.2.1.cps.toList)
/-- sorted(e, key=lambda v: v[0]) of a list of such tuples -/
def tSortK (T : List (Addr × Str)) (te : TE) : TE := fun σ H Q => te σ H fun v H1 => ∃ (l : Addr) (L : List KP), [v] = [V.ref l] ∧ H1 l = some (.lst (kRefs L)) ∧ (∀ q, q ∈ L → KTp H1 q) ∧ Tabs T H1 ∧
  ∀ (H2 : Hp) (p : Addr), ExtN H1 H2 → Tabs T H2 → H2 p = none → Q (.ref p) (upd H2 p (.lst (kRefs (sortK L))))
theorem kRefs_vals : ∀ {L : List KP} {us : List Value}, Vals (kRefs L) us → us = L.map fun q => Value.ref q.1
  | [], us, r => by cases r; rfl
  | q :: L, us, r => by
    cases r with
    | cons a b =>
      cases a
      rw [kRefs_vals b]
      rfl
theorem each_refs : ∀ (L : List KP), PySem.W.EachIs (fun (v : Value) (q : KP) => v = .ref q.1) (L.map fun q => Value.ref q.1) L
  | [] => .nil
  | q :: L => .cons rfl (each_refs L)
theorem vals_each : ∀ {out : List Value} {L : List KP}, PySem.W.EachIs (fun (v : Value) (q : KP) => v = .ref q.1) out L → Vals (kRefs L) out
  | _, _, .nil => .nil
  | _, _, .cons a b => by
    subst a
    exact .cons rfl (vals_each b)
section
variable {X : Cx} {T : List (Addr × Str)} {c P : Addr} {k kk : Nat} {e : Expr} {te : TE} {params : Arguments} {scope : Scope} {nm : Str} {p p1 p2 p3 lpos kpos pos : Pos}
theorem sortK_call {pins : List (Addr × Obj)} {σ : L2.St} {H : Hp} {s : Shared} {E : Value → Shared → Prop} {f c l : Addr} {pm ctv : Value} {qual : Str} {L : List KP} {Q : VK} (I : Inv X pins σ H s) (room : Room k X.A) (at_l : H l = some (.lst (kRefs L))) (tups : ∀ q, q ∈ L → KTp H q)
    (at_f : s.heap.get? f = some (PySem.W.kla_obj "<lambda>" qual params (.Subscript (.Name nm p1) (.Constant (.int 0) kk p2) p3) scope [] pm c ctv)) (code : s.heap.CodeRec (.ref c) qual)
    (binds : ∀ v, bindArgs (PySem.W.kla_fn "<lambda>" qual params (.Subscript (.Name nm p1) (.Constant (.int 0) kk p2) p3) scope [] pm (.ref c) ctv) ⟨[v], []⟩ = pure [(nm, v)])
    (loc : scope.names.lookup nm = some .local) (nocell : ∀ x ∈ scope.names, x.2 ≠ .cell) (kind : scope.kind = .function) (co : scope.isCoroutine = false) (gen : scope.isGenerator = false) (nodebug : (nm == ("__debug__" : Str)) = false)
    (told : ∀ p, H p = none → Q (.ref p) (upd H p (.lst (kRefs (sortK L))))) :
    wpAny (model X.prog X.w) X.A (call (.builtin "sorted") [.ref l] [(Str.ofString "key", .ref f)]) (EP X pins σ Q) E s := by
  obtain ⟨small, its, n, rel, obj⟩ := I.hok l _ at_l
  have eits := kRefs_vals rel
  have lenL : L.length ≤ sizeLine := by
    have z : (kRefs L).length ≤ sizeLine := small
    rw [kRefs, List.length_map] at z
    exact z
  have each0 : PySem.W.EachIs (fun (v : Value) (q : KP) => v = .ref q.1) its L := by
    rw [eits]
    exact each_refs L
  have depth0 : ∀ q : KP, q ∈ L → X.A.units + 2 + (PyData.str q.2.1).depth < cLine := fun q _ => by
    have := room.units
    have d : (PyData.str q.2.1).depth = 0 := by simp [PyData.depth]
    omega
  have turn : ∀ (v : Value) (q : KP), v = .ref q.1 → q ∈ L → ∀ (h : Heap) (tk : Nat), (∀ b o, s.heap.get? b = some o → h.get? b = some o) →
      wpAny (model X.prog X.w) X.A.in1.in1 (call (.ref f) [v]) (PySem.W.KeyPure (.str q.2.1) { s with heap := h, toks := tk }) (fun _ _ => False) { s with heap := h, toks := tk } := by
    intro v q ev hq h tk keeps
    subst ev
    obtain ⟨_, its2, rel2, tup⟩ := I.hok q.1 _ (tups q hq)
    obtain ⟨u1, u2, rfl, ⟨t1, rfl⟩, _⟩ := rel2.two
    exact lam_first (s := { s with heap := h, toks := tk }) (A := X.A.in1.in1) (u := .str q.2.1 t1) room.depth (I.nolimit.keeps keeps) (keeps _ _ at_f) (code.keeps keeps) binds loc nocell kind co gen nodebug (tup.keeps keeps) rfl fun h3 tk3 k3 => ⟨h3, tk3, rfl, k3, .str _ _⟩
  refine PySem.W.sorted_key_data (f := .ref f) (b := false) (R := fun (v : Value) (q : KP) => v = .ref q.1) (bs := L) (vs := its) (fun q : KP => .str q.2.1) (PySem.IsL.isList obj) each0 (PySem.W.AllAlike.of fun _ _ => by simp [PySem.W.alike]) (PySem.W.Sortable.others fun _ => ⟨by simp, by simp⟩) lenL
      depth0 (ksk_s1 _ _) (fun _ => ksk_l1 _ _) (fun _ => ksk_t1 _ _) turn fun out cc h' tk keeps _ at_p len each => ?_
  rw [PySem.W.dataLe_str] at each
  have rel3 : Vals (kRefs (sortK L)) out := vals_each each
  have len3 : (kRefs (sortK L)).length ≤ sizeLine := by
    rw [rel3.length, len]
    exact lenL
  exact ⟨.ref _, upd H (s.heap.objs.size + 1) (.lst (kRefs (sortK L))), I.laid (t' := tk) keeps (Nat.le_succ _) ⟨len3, out, cc, rel3, at_p⟩, rfl, told _ (I.hok.fresh (Nat.le_succ _))⟩
theorem pe_sortK (list : PE X e te) (room : Room k X.A) (table : TabB X.base X.mg c P) (coded : X.env.code = .ref c) (among : (P, X.env.qual ++ "<lambda>") ∈ T) (alone : ∀ p ∈ T, p.1 = P → p.2 = X.env.qual ++ "<lambda>") (nodefaults : defaultsOf params X.env = ([], []))
    (glob : Gl X "sorted") (unset : X.mg "sorted" = none) (nostar : starEach [e] X.env = (false, eval e X.env) :: starEach [] X.env) (closed : cloFrom X.env.cells scope.names [] = [])
    (binds : ∀ qual pm c ctv v, bindArgs (PySem.W.kla_fn "<lambda>" qual params (.Subscript (.Name nm p1) (.Constant (.int 0) kk p2) p3) scope [] pm (.ref c) ctv) ⟨[v], []⟩ = pure [(nm, v)])
    (loc : scope.names.lookup nm = some .local) (nocell : ∀ x ∈ scope.names, x.2 ≠ .cell) (nofree : ∀ x ∈ scope.names, x.2 ≠ .free) (kind : scope.kind = .function) (co : scope.isCoroutine = false) (gen : scope.isGenerator = false) (nodebug : (nm == ("__debug__" : Str)) = false) :
    PE X (.Call (.Name "sorted" p) [e] [⟨some "key", .Lambda params (.Subscript (.Name nm p1) (.Constant (.int 0) kk p2) p3) scope lpos, kpos⟩] pos) (tSortK T te) := by
  constructor
  intro pins s σ H Q I read
  have args := (pa_cons list pa_nil nostar).run pos pins s σ H (fun vs H1 => ∃ (l : Addr) (L : List KP), vs = [.ref l] ∧ H1 l = some (.lst (kRefs L)) ∧ (∀ q, q ∈ L → KTp H1 q) ∧ Tabs T H1 ∧ ∀ (H2 : Hp) (p : Addr), ExtN H1 H2 → Tabs T H2 → H2 p = none → Q (.ref p) (upd H2 p (.lst (kRefs (sortK L))))) I ?_
  · refine wpAny_Call_Name_kw (ld_blt I glob unset PyProof.Rows.boot_sorted (PyProof.Rows.callWith_kw (thn args fun us s1 ⟨vs, H1, I1, r1, q1⟩ => ?_) ?_ ?_ ?_ ?_))
    · obtain ⟨l, L, ev, at_l, tups, tabs, told⟩ := q1
      subst ev
      obtain ⟨u, rfl, ru⟩ := r1.one
      cases ru
      refine PyProof.Rows.evalAll_cons (wpAny_bind (lam_make2 I1 table coded among alone tabs nodefaults (fun y hy z => absurd z (nofree y hy)) fun f c' pm ctv H2 s2 I2 ext tabs2 at_f nf _ at_c => wpAny_bind (wpAny_standAt (wpAny_pure (PyProof.Rows.evalAll_nil ?_)))))
      rw [closed] at at_f
      have codeR : s2.heap.CodeRec (.ref c') (X.env.qual ++ "<lambda>") := by
        obtain ⟨⟨oc, vs, t, z1, z2, z3⟩, _⟩ := I2.hok c' _ at_c
        exact ⟨c', oc, vs, t, rfl, z1, z2, z3⟩
      exact sortK_call I2 room (ext _ _ at_l fun ps z => by cases z) (fun q hq => ext _ _ (tups q hq) fun ps z => by cases z) at_f codeR (binds _ _ _ _) loc nocell kind co gen nodebug fun p np => told H2 p ext tabs2 np
    · rw [nostar]
      rfl
    · rw [nostar]
      rfl
    · rfl
    · rfl
  · exact read
end
end Tg

set_option maxHeartbeats 400000
namespace Tg
open PySem PySem.Spec PyProof.Rows L2 LamX
/-! ### a def that makes lambdas: its code object is known -/
structure FunC (K : PySem.W.Frag) (x qual : Str) (st : Stmt) (c : Addr) (f : Addr) (fd : FuncData) : Prop where
  ex : ∃ (oc : Value) (od : Option Addr) (kV doc pm : Value) (an : Option Addr) (ct : Value) (osl : Array (Option Value)),
    fd = PySem.W.fnOf x qual (defArgs st) (defBody st) (defScope st) .none kV doc pm an (.ref c) ct ∧ K.lookup f = some ⟨oc, od, .func fd, osl⟩ ∧ PySem.W.codeIn K (.ref c) qual = true
  kept : PySem.W.keepIn K (.ref f) = true
section
variable {P : Program} {w : World} {K : PySem.W.Frag} {mg : Str → Option Value} {base : Heap}
theorem FunC.ok {x qual : Str} {st : Stmt} {c f : Addr} {fd : FuncData} {N ps : List Str} {k : Nat} {sp : Sp} (F : FunC K x qual st c f fd) (S : FnScope N ps (defScope st)) (len : ∀ vs H Q E, sp vs H Q E → vs.length = ps.length)
    (hbody : ∀ (A : Around) (outer : List Env) (s : Shared) (H : Hp) (vs : List V) (Q : VK) (E : XK), Room k (A.deeper (envOfC qual (defScope st) s.heap.objs.size f (.ref c))) → sp vs H Q E →
      ∃ t, PSs (cxOf CX0 P w K mg base N qual (defScope st) f (.ref c) A outer s H E).nox (defBody st) t ∧ t { nx := fun _ H' => Q .non H', rt := Q } (start N vs) H) : FnOk P w K mg base CX0 (k + 1) f fd ps sp := by
  obtain ⟨oc, od, kV, doc, pm, an, ct, osl, rfl, lk, hcd⟩ := F.ex
  refine fn_of lk hcd S len fun A outer s H vs Q E hr told => ?_
  obtain ⟨t, h, q⟩ := hbody A outer s H vs Q E hr told
  exact ⟨t, h.nox, q⟩
theorem FunC.fn {x qual : Str} {st : Stmt} {c f : Addr} {fd : FuncData} (F : FunC K x qual st c f fd) : Fun K x qual st f fd := by
  obtain ⟨oc, od, kV, doc, pm, an, ct, osl, h1, h2, h3⟩ := F.ex
  exact ⟨⟨oc, od, kV, doc, pm, an, .ref c, ct, osl, h1, h2, h3⟩, F.kept⟩
theorem func_mk {x qual : Str} {st : Stmt} {c f : Addr} {oc : Value} {od an : Option Addr} {osl : Array (Option Value)} {kV doc pm ct : Value} (l : K.lookup f = some ⟨oc, od, .func (PySem.W.fnOf x qual (defArgs st) (defBody st) (defScope st) .none kV doc pm an (.ref c) ct), osl⟩)
    (h : PySem.W.codeIn K (.ref c) qual = true) (k : PySem.W.keepIn K (.ref f) = true) : FunC K x qual st c f (PySem.W.fnOf x qual (defArgs st) (defBody st) (defScope st) .none kV doc pm an (.ref c) ct) := ⟨⟨oc, od, kV, doc, pm, an, ct, osl, rfl, l, h⟩, k⟩
end
/-! ### what stands where a table may have grown -/
/-- T's tables are well, all but tables stands -/
structure Grow (T : List (Addr × Str)) (H H' : Hp) : Prop where
  ext : ExtN H H'
  tabs : Tabs T H'
theorem Grow.trans {T : List (Addr × Str)} {H H1 H2 : Hp} (a : Grow T H H1) (b : Grow T H1 H2) : Grow T H H2 := ⟨a.ext.trans b.ext, b.tabs⟩
theorem Grow.same {T : List (Addr × Str)} {H H1 H2 : Hp} (a : Grow T H H1) (b : Same H1 H2) : Grow T H H2 := ⟨a.ext.trans (.of b), a.tabs.ext b⟩
theorem Grow.of {T : List (Addr × Str)} {H H' : Hp} (t : Tabs T H) (s : Same H H') : Grow T H H' := ⟨.of s, t.ext s⟩
theorem fix_tbl {o : HO} (f : Fix o) : ∀ ps, o ≠ .tbl ps := fun ps z => by
  rw [z] at f
  exact f
theorem ExtN.kt {H H' : Hp} (e : ExtN H H') : KT H H' := fun a o f h => e a o h (fix_tbl f)
theorem rd_ext {H H' : Hp} {a : Addr} {o : HO} (s : ExtN H H') (n : ∀ ps, o ≠ .tbl ps) (h : Rd H a o) : Rd H' a o := by
  rcases h with h | ⟨ob, h⟩
  · exact .inl (s _ _ h n)
  · exact .inr ⟨ob, s _ _ h (fun ps z => nomatch z)⟩
theorem sqL_ext {K : PySem.W.Frag} {H H' : Hp} {a : Addr} {xs : List V} (s : ExtN H H') (h : SqL K H a xs) : SqL K H' a xs := h.imp (rd_ext s fun _ z => nomatch z) id
theorem sqT_ext {K : PySem.W.Frag} {H H' : Hp} {a : Addr} {xs : List V} (s : ExtN H H') (h : SqT K H a xs) : SqT K H' a xs := h.imp (rd_ext s fun _ z => nomatch z) id
mutual
theorem dp_ext {K : PySem.W.Frag} {H H' : Hp} (s : ExtN H H') : ∀ {x : V} {d : PyData}, Dp K H x d → Dp K H' x d
  | _, _, .non => .non
  | _, _, .bl b => .bl b
  | _, _, .int i => .int i
  | _, _, .str z => .str z
  | _, _, .lst a b => .lst (sqL_ext s a) (dpAll_ext s b)
  | _, _, .tup a b => .tup (sqT_ext s a) (dpAll_ext s b)
theorem dpAll_ext {K : PySem.W.Frag} {H H' : Hp} (s : ExtN H H') : ∀ {xs : List V} {ds : List PyData}, DpAll K H xs ds → DpAll K H' xs ds
  | _, _, .nil => .nil
  | _, _, .cons a b => .cons (dp_ext s a) (dpAll_ext s b)
end
theorem ext_new {H H1 : Hp} {p : Addr} {o : HO} (e : ExtN H H1) (h : H p = none) : ExtN H (upd H1 p o) := fun b x y n => by
  rw [upd_ne (ne_of_none y h)]
  exact e _ _ y n
theorem tabs_kp {T : List (Addr × Str)} {p : Addr} {o : HO} {H H' : Hp} (k : Kp p H H') (h : H p = some o) (n1 : ∀ ps, o ≠ .tbl ps) (n2 : ∀ φ, o ≠ .ext φ) (t : Tabs T H) : Tabs T H' := fun r hr => by
  obtain ⟨ps, h1, h2, h3⟩ := t r hr
  refine ⟨ps, k _ _ (fun z => n1 ps (Option.some.inj (h.symm.trans (by rw [← z]; exact h1)))) h1, h2, fun pos cv hc => ?_⟩
  obtain ⟨code, e1, e2⟩ := h3 pos cv hc
  exact ⟨code, e1, k _ _ (fun z => n2 _ (Option.some.inj (h.symm.trans (by rw [← z]; exact e2)))) e2⟩
end Tg

namespace Tg
open PySem PySem.Spec PyProof.Rows L2 LamX
/-! ### a lambda that is only handed on -/
def tLamV (T : List (Addr × Str)) : TE := fun _ H Q => Tabs T H ∧ ∀ f H1, ExtN H H1 → Tabs T H1 → H1 f = none → Q (.ref f) H1
theorem pe_lamV {X : Cx} {T : List (Addr × Str)} {c P : Addr} {params : Arguments} {body : Expr} {scope : Scope} {pos : Pos} (TB : TabB X.base X.mg c P) (code : X.env.code = .ref c) (there : (P, X.env.qual ++ "<lambda>") ∈ T) (one : ∀ p ∈ T, p.1 = P → p.2 = X.env.qual ++ "<lambda>")
    (plain : defaultsOf params X.env = ([], []) := by rfl) (closed : (scope.names.all fun y => !decide (y.2 = .free)) = true := by decide +kernel) : PE X (.Lambda params body scope pos) (tLamV T) := by
  constructor
  intro pins s σ H Q I read
  obtain ⟨tabs, q⟩ := read
  have nofree : ∀ y ∈ scope.names, y.2 = .free → ∃ c, X.env.cells.lookup y.1 = some c := fun y hy e => by
    have z := List.all_eq_true.mp closed y hy
    rw [decide_eq_true e] at z
    cases z
  exact lam_make2 I TB code there one tabs plain nofree fun f c' pm ctv H1 s' J grow tabs1 _ free _ _ => ⟨.ref f, H1, J, rfl, q f H1 grow tabs1 free⟩
end Tg

namespace Tg
open PySem PySem.Spec PyProof.Rows L2
/-! ### the text -/
def topS (i : Nat) : Stmt := PySem.Challenge.pw_timegranary_k54_widths.main.body.getD i (.Pass ⟨0, 0, 0, 0⟩)
abbrev sMixed : Stmt := topS 36
abbrev sPurse : Stmt := topS 37
abbrev sDraw : Stmt := topS 38
theorem scMixed : FnScope ["_law_cell", "_law_k", "_law_a_number"] ["_law_cell", "_law_k"] (defScope sMixed) := ⟨rfl, rfl, rfl, by decide +kernel, rfl, by decide +kernel, by decide +kernel⟩
theorem scPurse : FnScope ["_law_script", "_law_at", "_law_cell", "_law_cut", "_law_k"] ["_law_script", "_law_at"] (defScope sPurse) := ⟨rfl, rfl, rfl, by decide +kernel, rfl, by decide +kernel, by decide +kernel⟩
theorem scDraw : FnScope ["_law_purse_here", "_law_out_of", "_law_drawn", "_law_a_number", "_law_k"] ["_law_purse_here", "_law_out_of"] (defScope sDraw) := ⟨rfl, rfl, rfl, by decide +kernel, rfl, by decide +kernel, by decide +kernel⟩
/-! ### purses: what is drawn from -/
/-- a purse at p, from which at most n were drawn -/
def Pu (H : Hp) (p : Addr) (n : Nat) : Prop := ∃ a c k : Int, H p = some (.lst [.int a, .int c, .int k]) ∧ 0 ≤ k ∧ k ≤ n
theorem Pu.same {H H' : Hp} {p : Addr} {n : Nat} (s : Same H H') (h : Pu H p n) : Pu H' p n := by
  obtain ⟨a, c, k, e, r⟩ := h
  exact ⟨a, c, k, s _ _ e, r⟩
theorem Pu.ne {H : Hp} {p l : Addr} {n : Nat} (d : Pu H p n) (h : H l = none) : l ≠ p := fun z => by
  obtain ⟨_, _, _, z2, _⟩ := d
  rw [z, z2] at h
  cases h
theorem Pu.kt {H H' : Hp} {p : Addr} {n : Nat} (d : Pu H p n) (k : Kp p H H') : KT H H' := by
  obtain ⟨_, _, _, z2, _⟩ := d
  exact KT.kp k z2 nfix_lst
theorem Pu.mono {H : Hp} {p : Addr} {n m : Nat} (d : Pu H p n) (h : n ≤ m) : Pu H p m := by
  obtain ⟨a, c, k, e, r0, r1⟩ := d
  exact ⟨a, c, k, e, r0, by omega⟩
section
variable {P : Program} {w : World} {K : PySem.W.Frag} {mg : Str → Option Value} {base : Heap}
def spMixed : Sp := fun vs H Q _ => ∃ c k : Int, vs = [.int c, .int k] ∧ 0 ≤ k ∧ k < 2 ^ 40 ∧ ∀ v : Int, Q (.int v) H
theorem ok_mixed {f : Addr} {fd : FuncData} {k : Nat} (F : Fun K "_law_mixed" "_law_mixed" sMixed f fd) : FnOk P w K mg base CX0 (k + 1) f fd ["_law_cell", "_law_k"] spMixed := by
  refine F.ok scMixed (fun vs H Q E h => ?_) (fun cdv A outer s H vs Q E hr h => ?_)
  · obtain ⟨c, k, rfl, _⟩ := h
    rfl
  · obtain ⟨c, k, rfl, k0, k1, q⟩ := h
    refine ⟨_, pss_cons (ps_set (i := 2) scMixed.nd rfl (.inl rfl) (pe_op op_mod (pe_op op_add (pe_op op_add (pe_op op_add (pe_op op_mul (pv 0) pe_int) (pe_op op_mul (pe_op op_mul pe_int (pv 1)) (pv 1))) (pv 1)) pe_int) pe_int))
      (pss_cons (ps_set (i := 2) scMixed.nd rfl (.inl rfl) (pe_op op_mod (pe_op op_add (pe_op op_mul (pv 2) (pv 2)) pe_int) pe_int))
      (pss_one (ps_ret (pe_op op_mod (pe_op op_mul (pv 2) pe_int) pe_int)))), ?_⟩
    refine ⟨_, rfl, _, _, rfl, rfl, .inr ⟨by decide, by decide⟩, _, rfl, _, _, rfl, rfl, .inl ⟨by decide, by decide⟩, _, rfl, _, _, rfl, rfl, .inr ⟨by omega, by omega⟩, _, _, rfl, rfl, _, rfl, _, _, rfl, rfl, _, _, rfl, rfl, _, _, rfl, rfl, (by show (0 : Int) < 2147483647; decide), ?_⟩
    generalize (c * 1103515245 + 7919 * k * k + k + 1) = y
    have y0 := Int.emod_nonneg y (show (2147483647 : Int) ≠ 0 by decide)
    have y1 := Int.emod_lt_of_pos y (show (0 : Int) < 2147483647 by decide)
    refine ⟨_, rfl, _, rfl, _, _, rfl, rfl, .inl ⟨by omega, by omega⟩, _, _, rfl, rfl, _, _, rfl, rfl, (by show (0 : Int) < 2147483629; decide), ?_⟩
    exact ⟨_, rfl, _, _, rfl, rfl, .inr ⟨by decide, by decide⟩, _, _, rfl, rfl, (by show (0 : Int) < 2147483587; decide), q _⟩
def spDraw : Sp := fun vs H Q _ => ∃ (p : Addr) (n : Nat) (m : Int), vs = [.ref p, .int m] ∧ Pu H p n ∧ n < 2 ^ 38 ∧ 0 < m ∧ m < 2 ^ 50 ∧
  ∀ (v : Int) (H' : Hp), Kp p H H' → Pu H' p (n + 2) → 0 ≤ v → v < m → Q (.int v) H'
theorem ok_draw {f : Addr} {fd : FuncData} {k : Nat} (F : Fun K "_law_draw" "_law_draw" sDraw f fd) (C_mixed : Cal P w K mg base k "_law_mixed" ["_law_cell", "_law_k"] spMixed) (m_range : mg "range" = none) :
    FnOk P w K mg base CX0 (k + 1) f fd ["_law_purse_here", "_law_out_of"] spDraw := by
  refine F.ok scDraw (fun vs H Q E h => ?_) (fun cdv A outer s H vs Q E hr h => ?_)
  · obtain ⟨p, n, m, rfl, _⟩ := h
    rfl
  · obtain ⟨p, n, m, rfl, ⟨a, c, k, hp, k0, k1⟩, hn, m0, m1, q⟩ := h
    refine ⟨_, pss_cons (ps_if (pt_cmpR op_gt (pe_ix ix_list (pv 0) pe_int (fun _ _ => rfl)) pe_int (nomark _))
        (pss_cons (ps_set (i := 2) scDraw.nd rfl (.inl rfl) (pe_op op_mod (pe_ix ix_list (pv 0) pe_int (fun _ _ => rfl)) (pv 1)))
        (pss_cons (ps_asg (pe_op op_fdivW (pe_ix ix_list (pv 0) pe_int (fun _ _ => rfl)) (pv 1)) (pg_sub (pv 0) pe_int set_list))
        (pss_one (ps_ret (pv 2)))))
        pss_nil)
      (pss_cons (ps_set (i := 3) scDraw.nd rfl (.inl rfl) pe_int)
      (pss_cons (ps_for PassesOwn.never rfl (pi_range1 (by rfl) m_range (pa_cons (pe_op op_add pe_int (pe_op op_fdiv (pe_bits (pv 1)) pe_int)) pa_nil)) (pg_name (i := 4) scDraw.nd rfl (.inl rfl))
        (pss_cons (ps_asg (pe_op op_add (pe_ix ix_list (pv 0) pe_int (fun _ _ => rfl)) pe_int) (pg_sub (pv 0) pe_int set_list))
        (pss_one (ps_set (i := 3) scDraw.nd rfl (.inl rfl) (pe_op op_add (pe_op op_mul (pv 3) pe_int) (pe_cal C_mixed (hr.mono (by omega)) (by rfl) (pa_cons (pe_ix ix_list (pv 0) pe_int (fun _ _ => rfl)) (pa_cons (pe_ix ix_list (pv 0) pe_int (fun _ _ => rfl)) pa_nil))))))))
      (pss_one (ps_ret (pe_op op_mod (pv 3) (pv 1)))))), ?_⟩
    have e0 := Int.emod_nonneg a (show m ≠ 0 by omega)
    have e1 := Int.emod_lt_of_pos a m0
    refine ⟨_, rfl, p, _, 0, .int a, rfl, rfl, SqL.of hp, rfl, _, _, rfl, rfl, _, rfl, ite2 (fun g => ?_) (fun g => ?_)⟩
    · refine ⟨_, rfl, p, _, 0, .int a, rfl, rfl, SqL.of hp, rfl, _, rfl, _, _, rfl, rfl, m0, ?_⟩
      refine ⟨_, rfl, p, _, 0, .int a, rfl, rfl, SqL.of hp, rfl, _, rfl, _, _, rfl, rfl, wide_div (b := 50) m0 (by omega) (by decide) (by decide), _, rfl, p, _, 0, 0, rfl, rfl, hp, rfl, _, rfl, ?_⟩
      exact q _ _ Kp.put ⟨_, _, _, upd_same, k0, by omega⟩ e0 e1
    · have b0 : Builtin.Int.intBits m ≤ 50 := intBits_le_iff.mpr (by omega)
      refine ⟨_, rfl, _, rfl, _, _, rfl, rfl, ⟨by decide, by decide⟩, _, _, rfl, rfl, _, rfl, ?_, ?_, ?_⟩
      · omega
      · omega
      · obtain ⟨cn, ec⟩ : ∃ cn : Nat, (1 + ((Builtin.Int.intBits m : Nat) : Int) / 30).toNat = cn := ⟨_, rfl⟩
        have c2 : cn ≤ 2 := by omega
        rw [ec]
        refine for_range (n := cn) (fun i σ H2 => ∃ (num k' : Int) (z : Option V), σ = [some (.ref p), some (.int m), none, some (.int num), z] ∧ Kp p H H2 ∧ H2 p = some (.lst [.int a, .int c, .int k']) ∧ 0 ≤ k' ∧ k' ≤ n + i) ?_ ?_ ?_
        · exact ⟨0, k, none, rfl, Kp.refl _ _, hp, k0, by omega⟩
        · rintro i σ H2 hi ⟨num, k', z, rfl, kp, h2, k0', k1'⟩
          refine ⟨_, rfl, p, _, 2, .int k', rfl, rfl, SqL.of h2, rfl, _, _, rfl, rfl, _, rfl, p, _, 2, 2, rfl, rfl, h2, rfl, ?_⟩
          have h3 : (upd H2 p (.lst [.int a, .int c, .int (k' + 1)])) p = some (.lst [.int a, .int c, .int (k' + 1)]) := upd_same
          refine ⟨_, rfl, _, _, rfl, rfl, .inr ⟨by decide, by decide⟩, _, rfl, p, _, 1, .int c, rfl, rfl, SqL.of h3, rfl, _, rfl, p, _, 2, .int (k' + 1), rfl, rfl, SqL.of h3, rfl, c, k' + 1, rfl, by omega, by omega, fun v => ?_⟩
          exact ⟨_, _, rfl, rfl, _, _, _, rfl, kp.trans Kp.put, h3, by omega, by omega⟩
        · rintro σ H2 ⟨num, k', z, rfl, kp, h2, k0', k1'⟩
          refine ⟨_, rfl, _, rfl, _, _, rfl, rfl, m0, ?_⟩
          exact q _ _ kp ⟨_, _, _, h2, k0', by omega⟩ (Int.emod_nonneg _ (by omega)) (Int.emod_lt_of_pos _ m0)
def spPurse (K : PySem.W.Frag) : Sp := fun vs H Q _ => ∃ (sa : Addr) (ns : List Int) (at_ : Int), vs = [.ref sa, .int at_] ∧ SqL K H sa (ns.map V.int) ∧ ns.length ≤ 63 ∧ 0 ≤ at_ ∧ at_ ≤ 1000 ∧
  ∀ (p : Addr) (H' : Hp), Same H H' → H p = none → Pu H' p 1000000 → Q (.ref p) H'
theorem cut_ints (ns : List Int) (lo hi : Option Int) : ∃ ms : List Int, cutV (ns.map V.int) lo hi = ms.map V.int ∧ ms.length ≤ ns.length := by
  unfold cutV
  refine ⟨(ns.drop (HT.sIx (ns.map V.int).length 0 lo)).take (HT.sIx (ns.map V.int).length (ns.map V.int).length hi - HT.sIx (ns.map V.int).length 0 lo), ?_, ?_⟩
  · rw [List.map_take, List.map_drop]
  · rw [List.length_take, List.length_drop]
    omega
theorem ok_purse {f : Addr} {fd : FuncData} {k : Nat} (F : Fun K "_law_purse" "_law_purse" sPurse f fd) (m_range : mg "range" = none) (m_max : mg "max" = none) :
    FnOk P w K mg base CX0 (k + 1) f fd ["_law_script", "_law_at"] (spPurse K) := by
  refine F.ok scPurse (fun vs H Q E h => ?_) (fun cdv A outer s H vs Q E hr h => ?_)
  · obtain ⟨sa, ns, at_, rfl, _⟩ := h
    rfl
  · obtain ⟨sa, ns, at_, rfl, hS, hl, a0, a1, q⟩ := h
    refine ⟨_, pss_cons (ps_set (i := 2) scPurse.nd rfl (.inl rfl) (pe_ix ix_list (pe_op op_cat (pe_slice sl_list (pv 0) (po_some (pv 1)) (po_some (pe_op op_add (pv 1) pe_int))) (pe_lst (pa_cons pe_int pa_nil))) pe_int (fun _ _ => rfl)))
      (pss_cons (ps_set (i := 3) scPurse.nd rfl (.inl rfl) (pe_op op_pow pe_int pe_int))
      (pss_cons (ps_for PassesOwn.never rfl (pi_range1 (by rfl) m_range (pa_cons pe_int pa_nil)) (pg_name (i := 4) scPurse.nd rfl (.inl rfl))
        (pss_one (ps_set (i := 3) scPurse.nd rfl (.inl rfl) (pe_op op_mulW (pv 3) (pv 3)))))
      (pss_one (ps_ret (pe_lst (pa_cons (pe_op op_mod (pe_callB (call_max2 rfl) (by rfl) m_max boot_max (pa_cons (pe_op op_sub (pv 2) (pe_op op_pow pe_int pe_int)) (pa_cons pe_int pa_nil))) (pv 3)) (pa_cons (pe_op op_mod (pv 2) pe_int) (pa_cons (pe_op op_mul pe_int (pv 1)) pa_nil)))))))), ?_⟩
    obtain ⟨ms, em, lm⟩ := cut_ints ns (some at_) (some (at_ + 1))
    refine ⟨_, rfl, _, rfl, at_, rfl, _, rfl, _, _, rfl, rfl, at_ + 1, rfl, sa, _, rfl, hS, fun l1 n1 => ?_⟩
    rw [em]
    refine ⟨by show 1 ≤ sizeLine; decide, fun l2 n2 => ?_⟩
    have s1 : Same H (upd H l1 (.lst (ms.map V.int))) := same_new n1
    have s2 := same_new (o := .lst [.int 0]) n2
    have m1 : (upd (upd H l1 (.lst (ms.map V.int))) l2 (.lst [.int 0])) l1 = some (.lst (ms.map V.int)) := s2 _ _ upd_same
    refine ⟨l1, l2, _, _, rfl, rfl, m1, upd_same, ?_, fun l3 n3 => ?_⟩
    · rw [List.length_map]
      exact Nat.le_of_lt (small1000 (by show ms.length + 1 ≤ 1000; omega))
    · have s3 := same_new (o := .lst (ms.map V.int ++ [.int 0])) n3
      obtain ⟨c, ec⟩ : ∃ c : Int, atI (ms.map V.int ++ [.int 0]) 0 = some (.int c) := by
        cases ms with
        | nil => exact ⟨0, rfl⟩
        | cons x r =>
          refine ⟨x, ?_⟩
          show atI _ ((0 : Nat) : Int) = _
          exact atI_nat rfl
      have s4 : Same H (upd (upd (upd H l1 (.lst (ms.map V.int))) l2 (.lst [.int 0])) l3 (.lst (ms.map V.int ++ [.int 0]))) := (s1.trans s2).trans s3
      refine ⟨l3, _, 0, .int c, rfl, rfl, SqL.of upd_same, ec, ?_⟩
      refine ⟨10, 60, rfl, rfl, ⟨by decide, by decide, by decide⟩, ?_⟩
      revert s4
      generalize upd (upd (upd H l1 (.lst (ms.map V.int))) l2 (.lst [.int 0])) l3 (.lst (ms.map V.int ++ [.int 0])) = H4
      intro s4
      refine ⟨5, rfl, by decide, by decide, for_range (n := 5) (fun i σ H2 => ∃ (x : Int) (y : Option V), σ = [some (.ref sa), some (.int at_), some (.int c), some (.int x), y] ∧ H2 = H4 ∧ 0 < x ∧ x.natAbs < 2 ^ (200 * 2 ^ i)) ?_ ?_ ?_⟩
      · exact ⟨_, none, rfl, rfl, by decide, by decide⟩
      · rintro i σ H2 hi ⟨x, y, rfl, rfl, hx, hb⟩
        refine ⟨_, rfl, _, rfl, x, x, rfl, rfl, ?_, x * x, _, rfl, rfl, Int.mul_pos hx hx, ?_⟩
        · have h7 : 2 ^ i ≤ 2 ^ 6 := Nat.pow_le_pow_right (by decide) (by omega)
          have h0 : 0 < 2 ^ i := Nat.pow_pos (by decide)
          exact wide_mul hb hb (by omega) (by omega) (by omega)
        · have e := wide_lt hb hb
          rw [show 200 * 2 ^ (i + 1) = 200 * 2 ^ i + 200 * 2 ^ i by rw [Nat.pow_succ]; omega]
          exact e
      · rintro σ H2 ⟨x, y, rfl, rfl, hx, _⟩
        refine ⟨_, rfl, 10, 18, rfl, rfl, ⟨by decide, by decide, by decide⟩, _, _, rfl, rfl, _, _, rfl, _, rfl, _, _, rfl, rfl, hx, _, rfl, _, _, rfl, rfl, (by show (0 : Int) < 2147483647; decide), _, rfl, _, _, rfl, rfl, .inl ⟨by decide, by decide⟩, by show 3 ≤ sizeLine; decide, fun p np => ?_⟩
        exact q p _ (s4.trans (same_new np)) (s4.free np) ⟨_, _, _, upd_same, by omega, by omega⟩
end
theorem if_n {c : Bool} {A B : Prop} (h : c = false) (b : B) : if c = true then A else B := by
  subst h
  exact if_f b
theorem if_y {c : Bool} {A B : Prop} (h : c = true) (a : A) : if c = true then A else B := by
  subst h
  exact if_t a
theorem vi_ne {i j : Int} (h : i ≠ j) : decide (V.int i = V.int j) = false := decide_eq_false fun z => h (V.int.inj z)
theorem at_pred {xs : List V} {i : Nat} {v : V} (h : xs[i]? = some v) : atI xs (((i + 1 : Nat) : Int) - 1) = some v := by
  rw [show (((i + 1 : Nat) : Int) - 1) = ((i : Nat) : Int) by omega]
  exact atI_nat h
/-! ### numbers or None -/
section
variable {P : Program} {w : World} {K : PySem.W.Frag} {mg : Str → Option Value} {base : Heap}
end
section
variable {P : Program} {w : World} {K : PySem.W.Frag} {mg : Str → Option Value} {base : Heap} {C CB CD CG CK CL CO CN CP CT : Addr}
end
set_option maxHeartbeats 1000000
abbrev sClass : Stmt := topS 39
abbrev NCl : List Str := ["_law_caught", "_law_some", "_law_words", "_law_found", "_law_word", "_law_truth"]
theorem scClass : FnScope NCl ["_law_caught"] (defScope sClass) := ⟨rfl, rfl, rfl, by decide +kernel, rfl, by decide +kernel, by decide +kernel⟩
/-- what the top has of the nine classes -/
structure Nine (K : PySem.W.Frag) (mg : Str → Option Value) (CB CD CG CK CL CO CN CP CT : Addr) : Prop where
  mB : mg "NoBody" = some (.ref CB)
  mD : mg "NoDeed" = some (.ref CD)
  mG : mg "NoGrain" = some (.ref CG)
  mK : mg "NoKeep" = some (.ref CK)
  mL : mg "NoLog" = some (.ref CL)
  mO : mg "NoOrder" = some (.ref CO)
  mN : mg "NoNumber" = some (.ref CN)
  mP : mg "NoPlace" = some (.ref CP)
  mT : mg "NoText" = some (.ref CT)
  mi : mg "isinstance" = none
  mV : mg "ValueError" = none
  kB : PySem.W.kitOne K (.ref CG) (.ref CB) = some false
  kD : PySem.W.kitOne K (.ref CG) (.ref CD) = some false
  kG : PySem.W.kitOne K (.ref CG) (.ref CG) = some true
  kK : PySem.W.kitOne K (.ref CG) (.ref CK) = some false
  kL : PySem.W.kitOne K (.ref CG) (.ref CL) = some false
  kO : PySem.W.kitOne K (.ref CG) (.ref CO) = some false
  kN : PySem.W.kitOne K (.ref CG) (.ref CN) = some false
  kP : PySem.W.kitOne K (.ref CG) (.ref CP) = some false
  kT : PySem.W.kitOne K (.ref CG) (.ref CT) = some false
  kV : PySem.W.kitOne K (.ref CG) (.type "ValueError") = some true
  xc : ExcC K CG
  xf : XfC K CG
  no : PySem.W.findIn K (.ref CG) "at" = some none
  ex : PySem.W.exmOne K (.ref CG) (.ref CG) = some true
/-- the words whose truth is one -/
def pick : List Str → List Bool → List Str
  | x :: xs, true :: bs => x :: pick xs bs
  | _ :: xs, false :: bs => pick xs bs
  | _, _ => []
theorem pick_take : ∀ {xs : List Str} {bs : List Bool} {i : Nat} {x : Str} {b : Bool}, xs[i]? = some x → bs[i]? = some b → pick (xs.take (i + 1)) (bs.take (i + 1)) = pick (xs.take i) (bs.take i) ++ (if b = true then [x] else [])
  | [], _, i, x, b, h, _ => by simp at h
  | _ :: _, [], i, x, b, _, h => by simp at h
  | y :: xs, c :: bs, 0, x, b, h1, h2 => by
    simp only [List.getElem?_cons_zero, Option.some.injEq] at h1 h2
    subst h1
    subst h2
    cases c <;> rfl
  | y :: xs, c :: bs, i + 1, x, b, h1, h2 => by
    rw [List.getElem?_cons_succ] at h1 h2
    have ih := pick_take (xs := xs) (bs := bs) h1 h2
    rw [List.take_succ_cons, List.take_succ_cons, List.take_succ_cons, List.take_succ_cons]
    cases c with
    | false => exact ih
    | true =>
      show y :: pick _ _ = y :: (pick _ _ ++ _)
      rw [ih]
theorem pick_len : ∀ (xs : List Str) (bs : List Bool), (pick xs bs).length ≤ xs.length
  | [], _ => Nat.zero_le _
  | _ :: _, [] => Nat.zero_le _
  | x :: xs, true :: bs => Nat.succ_le_succ (pick_len xs bs)
  | x :: xs, false :: bs => Nat.le_succ_of_le (pick_len xs bs)
def nineW : List Str := ["body", "deed", "grain", "keep", "log", "order", "number", "place", "text"]
def nineT : List Bool := [false, false, true, false, false, false, false, false, false]
section
variable {P : Program} {w : World} {K : PySem.W.Frag} {mg : Str → Option Value} {base : Heap} {C CB CD CG CK CL CO CN CP CT : Addr}
def spClass (CG : Addr) : Sp := fun vs H Q _ => ∃ (a d : Addr) (fs : List (Str × V)), vs = [.ref a] ∧ H a = some (ExV (.ref CG) (some d) a) ∧ H d = some (.xd fs) ∧ ∀ H', Same H H' → Q (.str "grain") H'
theorem ok_class {f : Addr} {fd : FuncData} {k : Nat} (F : Fun K "_law_class" "_law_class" sClass f fd) (N9 : Nine K mg CB CD CG CK CL CO CN CP CT) (m_zip : mg "zip" = none) (m_len : mg "len" = none) : FnOk P w K mg base CX0 (k + 1) f fd ["_law_caught"] (spClass CG) := by
  refine F.ok scClass (fun vs H Q E h => ?_) (fun cdv A outer s H vs Q E hr h => ?_)
  · obtain ⟨a, d, fs, rfl, _⟩ := h
    rfl
  · obtain ⟨a, d, fs, rfl, ha, hd, q⟩ := h
    refine ⟨_, pss_cons (ps_if (pt_cmpR op_isN (pv 0) pe_non (nomark _))
        (pss_one (ps_ret pe_str))
        pss_nil)
      (pss_cons (ps_set (i := 1) scClass.nd rfl (.inl rfl) (pe_lst (pa_cons (pe_callB call_isV (by rfl) N9.mi PyProof.Rows.boot_isinstance (pa_cons (pv 0) (pa_cons (pe_glob (v := .ref CB) (by rfl) N9.mB rfl) pa_nil))) (pa_cons (pe_callB call_isV (by rfl) N9.mi PyProof.Rows.boot_isinstance (pa_cons (pv 0) (pa_cons (pe_glob (v := .ref CD) (by rfl) N9.mD rfl) pa_nil))) (pa_cons (pe_callB call_isV (by rfl) N9.mi PyProof.Rows.boot_isinstance (pa_cons (pv 0) (pa_cons (pe_glob (v := .ref CG) (by rfl) N9.mG rfl) pa_nil))) pa_nil)))))
      (pss_cons (ps_set (i := 1) scClass.nd rfl (.inl rfl) (pe_op op_cat (pv 1) (pe_lst (pa_cons (pe_callB call_isV (by rfl) N9.mi PyProof.Rows.boot_isinstance (pa_cons (pv 0) (pa_cons (pe_glob (v := .ref CK) (by rfl) N9.mK rfl) pa_nil))) (pa_cons (pe_callB call_isV (by rfl) N9.mi PyProof.Rows.boot_isinstance (pa_cons (pv 0) (pa_cons (pe_glob (v := .ref CL) (by rfl) N9.mL rfl) pa_nil))) (pa_cons (pe_callB call_isV (by rfl) N9.mi PyProof.Rows.boot_isinstance (pa_cons (pv 0) (pa_cons (pe_glob (v := .ref CO) (by rfl) N9.mO rfl) pa_nil))) pa_nil))))))
      (pss_cons (ps_set (i := 1) scClass.nd rfl (.inl rfl) (pe_op op_cat (pv 1) (pe_lst (pa_cons (pe_callB call_isV (by rfl) N9.mi PyProof.Rows.boot_isinstance (pa_cons (pv 0) (pa_cons (pe_glob (v := .ref CN) (by rfl) N9.mN rfl) pa_nil))) (pa_cons (pe_callB call_isV (by rfl) N9.mi PyProof.Rows.boot_isinstance (pa_cons (pv 0) (pa_cons (pe_glob (v := .ref CP) (by rfl) N9.mP rfl) pa_nil))) (pa_cons (pe_callB call_isV (by rfl) N9.mi PyProof.Rows.boot_isinstance (pa_cons (pv 0) (pa_cons (pe_glob (v := .ref CT) (by rfl) N9.mT rfl) pa_nil))) pa_nil))))))
      (pss_cons (ps_set (i := 2) scClass.nd rfl (.inl rfl) (pe_lst (pa_cons pe_str (pa_cons pe_str (pa_cons pe_str (pa_cons pe_str (pa_cons pe_str (pa_cons pe_str (pa_cons pe_str (pa_cons pe_str (pa_cons pe_str pa_nil)))))))))))
      (pss_cons (ps_setLc (i := 3) (own := [("_law_word", 4), ("_law_truth", 5)]) (g := gTup K 2 _) rfl scClass.nd rfl rfl (sw_true rfl rfl rfl (by decide +kernel)) (pi_zip (by rfl) m_zip (pa_cons (pv 2) (pa_cons (pv 1) pa_nil))) (blkOk_by (own := [("_law_word", 4), ("_law_truth", 5)]) (N := NCl) (sc := defScope sClass) (by decide +kernel)) (fun _ _ _ _ _ => (pg_tup rfl (pgs_cons (pg_name (i := 4) scClass.nd rfl (.inl rfl)) (pgs_cons (pg_name (i := 5) scClass.nd rfl (.inl rfl)) pgs_nil)))) (fun _ _ _ _ _ => pts_one (pt_val (pv 5))) (fun _ _ _ _ _ => (pv 4)))
      (pss_cons (ps_if (pt_cmpR op_ne (pe_callB call_len_seq (by rfl) m_len (by decide +kernel) (pa_cons (pv 3) pa_nil)) pe_int (nomark _))
        (pss_one (ps_ret pe_str))
        pss_nil)
      (pss_one (ps_ret (pe_ix ix_list (pv 3) pe_int (fun _ _ => rfl)))))))))), ?_⟩
    refine ⟨_, rfl, rfl, _, rfl, if_n (decide_eq_false (fun z => nomatch z)) ?_⟩
    refine ⟨_, rfl, a, CG, d, fs, .ref CB, .ref CB, false, rfl, ha, hd, N9.xc, .own _, N9.kB, _, rfl, a, CG, d, fs, .ref CD, .ref CD, false, rfl, ha, hd, N9.xc, .own _, N9.kD, _, rfl, a, CG, d, fs, .ref CG, .ref CG, true, rfl, ha, hd, N9.xc, .own _, N9.kG, by show 3 ≤ sizeLine; decide, fun l1 n1 => ?_⟩
    have s1 := same_new (o := .lst [.bl false, .bl false, .bl true]) n1
    have ha1 := s1 _ _ ha
    have hd1 := s1 _ _ hd
    refine ⟨_, rfl, _, rfl, a, CG, d, fs, .ref CK, .ref CK, false, rfl, ha1, hd1, N9.xc, .own _, N9.kK, _, rfl, a, CG, d, fs, .ref CL, .ref CL, false, rfl, ha1, hd1, N9.xc, .own _, N9.kL, _, rfl, a, CG, d, fs, .ref CO, .ref CO, false, rfl, ha1, hd1, N9.xc, .own _, N9.kO, by show 3 ≤ sizeLine; decide, fun l2 n2 => ?_⟩
    have s2 := same_new (o := .lst [.bl false, .bl false, .bl false]) n2
    refine ⟨l1, l2, _, _, rfl, rfl, s2 _ _ upd_same, upd_same, (by show 3 + 3 ≤ sizeLine; decide), fun l3 n3 => ?_⟩
    have s3 := same_new (o := .lst ([.bl false, .bl false, .bl true] ++ [.bl false, .bl false, .bl false])) n3
    have s13 := (s1.trans s2).trans s3
    have ha3 := s13 _ _ ha
    have hd3 := s13 _ _ hd
    refine ⟨_, rfl, _, rfl, a, CG, d, fs, .ref CN, .ref CN, false, rfl, ha3, hd3, N9.xc, .own _, N9.kN, _, rfl, a, CG, d, fs, .ref CP, .ref CP, false, rfl, ha3, hd3, N9.xc, .own _, N9.kP, _, rfl, a, CG, d, fs, .ref CT, .ref CT, false, rfl, ha3, hd3, N9.xc, .own _, N9.kT, by show 3 ≤ sizeLine; decide, fun l4 n4 => ?_⟩
    have s4 := same_new (o := .lst [.bl false, .bl false, .bl false]) n4
    refine ⟨l3, l4, _, _, rfl, rfl, s4 _ _ upd_same, upd_same, (by show 6 + 3 ≤ sizeLine; decide), fun l5 n5 => ?_⟩
    have s5 := same_new (o := .lst (nineT.map V.bl)) n5
    have s15 := (s13.trans s4).trans s5
    obtain ⟨H5, e5⟩ : ∃ H5, upd (upd (upd (upd (upd H l1 (.lst [.bl false, .bl false, .bl true])) l2 (.lst [.bl false, .bl false, .bl false])) l3 (.lst ([.bl false, .bl false, .bl true] ++ [.bl false, .bl false, .bl false]))) l4 (.lst [.bl false, .bl false, .bl false])) l5 (.lst (nineT.map V.bl)) = H5 := ⟨_, rfl⟩
    have h5 : H5 l5 = some (.lst (nineT.map V.bl)) := by
      rw [← e5]
      exact upd_same
    have sH5 : Same H H5 := by
      rw [← e5]
      exact s15
    refine ⟨by show 9 ≤ sizeLine; decide, fun l6 n60 => ?_⟩
    have n6 : H5 l6 = none := by
      rw [← e5]
      exact n60
    have s6 : Same H5 (upd (upd (upd (upd (upd (upd H l1 (.lst [.bl false, .bl false, .bl true])) l2 (.lst [.bl false, .bl false, .bl false])) l3 (.lst ([.bl false, .bl false, .bl true] ++ [.bl false, .bl false, .bl false]))) l4 (.lst [.bl false, .bl false, .bl false])) l5 (.lst (nineT.map V.bl))) l6 (.lst (nineW.map V.str))) := by
      rw [e5]
      exact same_new n6
    have h6 : (upd (upd (upd (upd (upd (upd H l1 (.lst [.bl false, .bl false, .bl true])) l2 (.lst [.bl false, .bl false, .bl false])) l3 (.lst ([.bl false, .bl false, .bl true] ++ [.bl false, .bl false, .bl false]))) l4 (.lst [.bl false, .bl false, .bl false])) l5 (.lst (nineT.map V.bl))) l6 (.lst (nineW.map V.str))) l6 = some (.lst (nineW.map V.str)) := upd_same
    obtain ⟨H6, e6⟩ : ∃ H6, upd (upd (upd (upd (upd (upd H l1 (.lst [.bl false, .bl false, .bl true])) l2 (.lst [.bl false, .bl false, .bl false])) l3 (.lst ([.bl false, .bl false, .bl true] ++ [.bl false, .bl false, .bl false]))) l4 (.lst [.bl false, .bl false, .bl false])) l5 (.lst (nineT.map V.bl))) l6 (.lst (nineW.map V.str)) = H6 := ⟨_, rfl⟩
    have g6 : H6 l6 = some (.lst (nineW.map V.str)) := by
      rw [← e6]
      exact h6
    have g5 : H6 l5 = some (.lst (nineT.map V.bl)) := by
      rw [← e6]
      exact s6 _ _ h5
    have sH6 : Same H H6 := by
      rw [← e6]
      exact sH5.trans s6
    refine ⟨_, rfl, _, rfl, l6, l5, nineW.map V.str, nineT.map V.bl, rfl, SqL.of h6, SqL.of (s6 _ _ h5), fun D nD0 => ?_⟩
    have nD : H6 D = none := by
      rw [← e6]
      exact nD0
    refine lc_it (walk_zip (K := K) (a := l6) (b := l5) (xs := nineW.map V.str) (ys := nineT.map V.bl) (n := 9) rfl) (fun j Hc => Same H6 Hc ∧ Hc D = some (.lst ((pick (nineW.take j) (nineT.take j)).map V.str))) ?_ ?_ ?_ ?_
    · rw [← e6]
      exact ⟨same_new nD0, upd_same⟩
    · rintro j Hc _ ⟨sc, _⟩
      exact ⟨SqL.of (sc _ _ g6), SqL.of (sc _ _ g5)⟩
    · rintro j x Hc Hd hj ⟨sc, hD⟩ ⟨t, x1, x2, rfl, nt, rfl, f1, f2⟩
      replace f1 : (nineW.map V.str)[j]? = some x1 := f1
      replace f2 : (nineT.map V.bl)[j]? = some x2 := f2
      rw [List.getElem?_map] at f1 f2
      obtain ⟨z, hz, rfl⟩ := Option.map_eq_some_iff.mp f1
      obtain ⟨b, hb, rfl⟩ := Option.map_eq_some_iff.mp f2
      have st := same_new (o := .tup [V.str z, V.bl b]) nt
      refine ⟨t, _, rfl, SqT.of upd_same, rfl, _, _, rfl, _, _, rfl, rfl, rfl, _, rfl, b, rfl, ?_⟩
      have pt := pick_take hz hb
      cases b with
      | false =>
        refine if_f ⟨sc.trans st, ?_⟩
        rw [pt, if_neg (by decide), List.append_nil]
        exact st _ _ hD
      | true =>
        refine if_t ⟨_, rfl, _, st _ _ hD, ?_, same_put nD (sc.trans st), ?_⟩
        · rw [List.length_map]
          have := pick_len (nineW.take j) (nineT.take j)
          rw [List.length_take] at this
          exact small1000 (by omega)
        · rw [upd_same, pt, List.map_append]
          rfl
    · rintro Hc ⟨sc, hD⟩
      have hD1 : Hc D = some (.lst [.str "grain"]) := hD
      refine ⟨_, rfl, D, _, rfl, .inl (SqL.of hD1), rfl, _, rfl, if_n (by show (!decide (V.int 1 = V.int 1)) = false; decide) ?_⟩
      exact ⟨_, rfl, D, _, 0, .str "grain", rfl, rfl, SqL.of hD1, rfl, q _ (sH6.trans sc)⟩
end
end Tg

namespace Tg
open PySem PySem.Spec PyProof.Rows L2
abbrev sCellOf : Stmt := topS 22
abbrev sWhole : Stmt := topS 12
abbrev sCkW : Stmt := topS 25
abbrev sCkw : Stmt := topS 26
abbrev sKeep : Stmt := topS 32
abbrev sCkK : Stmt := topS 33
theorem scCellOf : FnScope ["time", "width"] ["time", "width"] (defScope sCellOf) := ⟨rfl, rfl, rfl, by decide +kernel, rfl, by decide +kernel, by decide +kernel⟩
theorem scWhole : FnScope ["thing"] ["thing"] (defScope sWhole) := ⟨rfl, rfl, rfl, by decide +kernel, rfl, by decide +kernel, by decide +kernel⟩
theorem scCkW : FnScope ["widths", "at", "width"] ["widths"] (defScope sCkW) := ⟨rfl, rfl, rfl, by decide +kernel, rfl, by decide +kernel, by decide +kernel⟩
theorem scCkw : FnScope ["widths", "width"] ["widths", "width"] (defScope sCkw) := ⟨rfl, rfl, rfl, by decide +kernel, rfl, by decide +kernel, by decide +kernel⟩
theorem scKeep : FnScope ["keep", "ahead"] ["keep", "ahead"] (defScope sKeep) := ⟨rfl, rfl, rfl, by decide +kernel, rfl, by decide +kernel, by decide +kernel⟩
theorem scCkK : FnScope ["keeps", "many", "ahead", "at", "keep"] ["keeps", "many"] (defScope sCkK) := ⟨rfl, rfl, rfl, by decide +kernel, rfl, by decide +kernel, by decide +kernel⟩
/-! ### numbers or None -/
def vo : Option Int → V
  | none => .non
  | some i => .int i
/-- widths as the check lets them by -/
structure WOk (ws : List Int) : Prop where
  ne : ws ≠ []
  le : ws.length ≤ 4
  pos : ∀ (i : Nat) (x : Int), ws[i]? = some x → 1 ≤ x ∧ x ≤ 10 ^ 13
  up : ∀ (i : Nat) (x y : Int), ws[i]? = some x → ws[i + 1]? = some y → y ≠ x ∧ y % x = 0
section
variable {P : Program} {w : World} {K : PySem.W.Frag} {mg : Str → Option Value} {base : Heap}
def spCell : Sp := fun vs H Q _ => ∃ t d : Int, vs = [.int t, .int d] ∧ 0 < d ∧ Q (.int (t - t % d)) H
theorem ok_cell {f : Addr} {fd : FuncData} {k : Nat} (F : Fun K "cell_of" "cell_of" sCellOf f fd) : FnOk P w K mg base CX0 (k + 1) f fd ["time", "width"] spCell := by
  refine F.ok scCellOf (fun vs H Q E h => ?_) (fun cdv A outer s H vs Q E hr h => ?_)
  · obtain ⟨t, d, rfl, _⟩ := h
    rfl
  · obtain ⟨t, d, rfl, d0, q⟩ := h
    refine ⟨_, pss_one (ps_ret (pe_op op_sub (pv 0) (pe_op op_mod (pv 0) (pv 1)))), ?_⟩
    exact ⟨_, rfl, _, rfl, _, rfl, _, _, rfl, rfl, d0, _, _, rfl, rfl, q⟩
def spWhole : Sp := fun vs H Q _ => ∃ t : Int, vs = [.int t] ∧ Q (.bl true) H
theorem ok_whole {f : Addr} {fd : FuncData} {k : Nat} (F : Fun K "is_whole" "is_whole" sWhole f fd) (m_isinstance : mg "isinstance" = none) (m_int : mg "int" = none) (m_bool : mg "bool" = none) : FnOk P w K mg base CX0 (k + 1) f fd ["thing"] spWhole := by
  refine F.ok scWhole (fun vs H Q E h => ?_) (fun cdv A outer s H vs Q E hr h => ?_)
  · obtain ⟨t, rfl, _⟩ := h
    rfl
  · obtain ⟨t, rfl, q⟩ := h
    refine ⟨_, pss_one (ps_ret (pe_and (pe_callB call_isi (by rfl) m_isinstance (by decide +kernel) (pa_cons (pv 0) (pa_cons (pe_bltn (v := .ty "int") (by rfl) m_int (by decide +kernel) rfl) pa_nil))) (pe_one (pe_not (pe_callB call_isi (by rfl) m_isinstance (by decide +kernel) (pa_cons (pv 0) (pa_cons (pe_bltn (v := .ty "bool") (by rfl) m_bool (by decide +kernel) rfl) pa_nil))))))), ?_⟩
    refine ⟨_, rfl, _, _, _, _, true, rfl, .ty "int", .base (.int t), rfl, true, rfl, if_t ?_⟩
    exact ⟨_, rfl, _, _, _, _, false, rfl, .ty "bool", .base (.int t), rfl, _, rfl, q⟩
theorem inV_mem {ws : List Int} {x : Int} (h : x ∈ ws) : inV (.int x) (ws.map V.int) = true := by
  unfold inV
  rw [List.any_map, List.any_eq_true]
  exact ⟨x, h, by show eqV (V.int x) (V.int x) = true; simp [eqV]⟩
theorem flat_ints (ws : List Int) : (ws.map V.int).all flatV = true := by
  rw [List.all_map, List.all_eq_true]
  exact fun _ _ => rfl
end
abbrev sErrK : Stmt := inClass (topS 8) 0
theorem scErrK : FnScope ["self", "at"] ["self", "at"] (defScope sErrK) := ⟨rfl, rfl, rfl, by decide +kernel, rfl, by decide +kernel, by decide +kernel⟩
/-! ### the mathematics: the first wrong keep -/
/-- may the keep b stand behind a -/
def okB (a b : Option Int) : Bool :=
  match b with
  | none => true
  | some y => match a with
    | none => false
    | some x => decide (x ≤ y)
def wr (many : Nat) : Nat → Option Int → List (Option Int) → Option Nat
  | i, _, [] => if i < many then some i else none
  | i, a, b :: ks => if decide (i = many) = true ∨ okB a b = false then some i else wr many (i + 1) b ks
/-- the place of the first that is wrong -/
def wrong (ks : List (Option Int)) (many : Nat) : Option Nat := wr many 0 (some 0) ks
theorem wr_drop {many : Nat} {ks : List (Option Int)} {i : Nat} {a b : Option Int} (h : ks[i]? = some b) : wr many i a (ks.drop i) = if decide (i = many) = true ∨ okB a b = false then some i else wr many (i + 1) b (ks.drop (i + 1)) := by
  obtain ⟨l, rfl⟩ := List.getElem?_eq_some_iff.mp h
  rw [List.drop_eq_getElem_cons l]
  rfl
theorem wr_end {many : Nat} {ks : List (Option Int)} {a : Option Int} : wr many ks.length a (ks.drop ks.length) = if ks.length < many then some ks.length else none := by
  rw [List.drop_length]
  rfl
/-- where none is wrong there are just so many -/
theorem wr_len {many : Nat} : ∀ {ks : List (Option Int)} {i : Nat} {a : Option Int}, i ≤ many → wr many i a ks = none → i + ks.length = many
  | [], i, a, le, h => by
    unfold wr at h
    split at h
    · cases h
    · show i = many
      omega
  | b :: ks, i, a, le, h => by
    unfold wr at h
    split at h
    · cases h
    · rename_i c
      have ne : i ≠ many := fun z => c (.inl (decide_eq_true z))
      have := wr_len (ks := ks) (i := i + 1) (a := b) (by omega) h
      rw [List.length_cons]
      omega
section
variable {P : Program} {w : World} {K : PySem.W.Frag} {mg : Str → Option Value} {base : Heap} {C CK : Addr}
theorem ok_errK {f : Addr} {fd : FuncData} {k : Nat} (F : Fun K "__init__" "NoKeep.__init__" sErrK f fd) (T : OexC K CK) (hno : PySem.W.findIn K (.ref CK) "at" = some none) (mV : mg "ValueError" = none)
    (vV : PySem.W.findCls K (.type "ValueError") (.type "type") "__init__" = some (.val (.builtin "ValueError.__init__"))) : FnOk P w K mg base CX0 (k + 1) f fd ["self", "at"] (spErr CK "at") := by
  refine F.ok scErrK (fun vs H Q E h => ?_) (fun cdv A outer s H vs Q E hr h => ?_)
  · obtain ⟨a, v, rfl, _⟩ := h
    rfl
  · obtain ⟨a, v, rfl, ha, q⟩ := h
    refine ⟨_, pss_cons (ps_expr (pe_veinit (by rfl) mV vV (pa_cons (pv 0) (pa_cons pe_str pa_nil)))) (pss_one (ps_ost (pv 0) (pv 1))), ?_⟩
    exact ⟨_, rfl, a, CK, _, rfl, by show 1 ≤ 1000; decide, T, ha, _, rfl, _, rfl, a, CK, rfl, T, hno, .inl ⟨ha, fun dx nd da => q dx nd da⟩⟩
def spKeep : Sp := fun vs H Q _ => ∃ (a b : Option Int), vs = [vo b, vo a] ∧ Q (.bl (okB a b)) H
theorem ok_keep {f : Addr} {fd : FuncData} {k : Nat} (F : Fun K "is_keep" "is_keep" sKeep f fd) (C_is_whole : Cal P w K mg base k "is_whole" ["thing"] spWhole) : FnOk P w K mg base CX0 (k + 1) f fd ["keep", "ahead"] spKeep := by
  refine F.ok scKeep (fun vs H Q E h => ?_) (fun cdv A outer s H vs Q E hr h => ?_)
  · obtain ⟨a, b, rfl, _⟩ := h
    rfl
  · obtain ⟨a, b, rfl, q⟩ := h
    refine ⟨_, pss_cons (ps_if (pt_cmpR op_isN (pv 0) pe_non (nomark _))
        (pss_one (ps_ret pe_bl))
        pss_nil)
      (pss_one (ps_ret (pe_and (pe_cal C_is_whole (hr.mono (by omega)) (by rfl) (pa_cons (pv 0) pa_nil)) (pe_and (pe_cmpR op_notN (pv 1) pe_non (nomark _)) (pe_one (pe_cmpR op_ge (pv 0) (pv 1) (nomark _))))))), ?_⟩
    cases b with
    | none => exact ⟨_, rfl, rfl, _, rfl, if_y rfl q⟩
    | some y =>
      cases a with
      | none => exact ⟨_, rfl, rfl, _, rfl, if_n rfl ⟨_, rfl, y, rfl, true, rfl, if_t ⟨_, rfl, rfl, false, rfl, if_f q⟩⟩⟩
      | some x => exact ⟨_, rfl, rfl, _, rfl, if_n rfl ⟨_, rfl, y, rfl, true, rfl, if_t ⟨_, rfl, rfl, true, rfl, if_t ⟨_, rfl, _, rfl, _, _, rfl, rfl, q⟩⟩⟩⟩
def spCkK (K : PySem.W.Frag) (CK : Addr) : Sp := fun vs H Q E => ∃ (a : Addr) (ks : List (Option Int)) (many : Nat), vs = [.ref a, .int many] ∧ SqT K H a (ks.map vo) ∧
  (wrong ks many = none → ∀ H', Same H H' → Q .non H') ∧ (∀ i, wrong ks many = some i → ∀ H' d, Same H H' → H d = none → H' d = some (.xd [("at", .int (i : Nat))]) → E (.ref CK) (some d) H')
theorem ok_ckK {f : Addr} {fd : FuncData} {k : Nat} (F : Fun K "check_keeps" "check_keeps" sCkK f fd) (C_is_keep : Cal P w K mg base k "is_keep" ["keep", "ahead"] spKeep) (C_err : CalE P w K mg base k "NoKeep" CK "at") (m_len : mg "len" = none) (m_enumerate : mg "enumerate" = none) :
    FnOk P w K mg base (L2.CX P w) (k + 2) f fd ["keeps", "many"] (spCkK K CK) := by
  refine F.okX scCkK (fun vs H Q E h => ?_) (fun cdv A outer s H vs Q E hr h => ?_)
  · obtain ⟨a, ks, many, rfl, _⟩ := h
    rfl
  · obtain ⟨a, ks, many, rfl, ha, qY, qN⟩ := h
    refine ⟨_, pss_cons (ps_set (i := 2) scCkK.nd rfl (.inl rfl) pe_int)
      (pss_cons (ps_for (passes_of rfl) rfl (pi_enumT (by rfl) m_enumerate (pa_cons (pv 0) pa_nil)) (pg_tup rfl (pgs_cons (pg_name (i := 3) scCkK.nd rfl (.inl rfl)) (pgs_cons (pg_name (i := 4) scCkK.nd rfl (.inl rfl)) pgs_nil)))
        (pss_cons (ps_if (PW.pt (pw_or (pt_cmpR op_eq (pv 3) (pv 1) (nomark _)) (pw_or1 (pt_not (pt_val (pe_cal C_is_keep (hr.mono (by omega)) (by rfl) (pa_cons (pv 4) (pa_cons (pv 2) pa_nil))))))))
          (pss_one (ps_raise rfl (takes_of rfl rfl rfl rfl) (pm_err C_err hr (by rfl) (pv 3))))
          pss_nil)
        (pss_one (ps_set (i := 2) scCkK.nd rfl (.inl rfl) (pv 4)))))
      (pss_one (ps_if (pt_cmpR op_lt (pe_callB call_len_seq (by rfl) m_len (by decide +kernel) (pa_cons (pv 0) pa_nil)) (pv 1) (nomark _))
        (pss_one (ps_raise rfl (takes_of rfl rfl rfl rfl) (pm_err C_err hr (by rfl) (pe_callB call_len_seq (by rfl) m_len (by decide +kernel) (pa_cons (pv 0) pa_nil)))))
        pss_nil))), ?_⟩
    have hl : (ks.map vo).length = ks.length := List.length_map ..
    refine ⟨_, rfl, a, _, rfl, ha, for_it (walk_enumT (K := K) (a := a) (xs := ks.map vo)) (fun i σ H2 => ∃ (x : Option Int) (z1 z2 : Option V), σ = [some (.ref a), some (.int many), some (vo x), z1, z2] ∧ Same H H2 ∧ wrong ks many = wr many i x (ks.drop i)) ⟨some 0, none, none, rfl, Same.refl _, rfl⟩ ?_ ?_ ?_⟩
    · rintro i σ H2 _ ⟨_, z1, z2, _, s2, _⟩
      exact sqT_same s2 ha
    · rintro i x σ H2 H3 hi ⟨ah, z1, z2, rfl, s2, st⟩ ⟨T, x1, x2, rfl, nT, rfl, e1, e2⟩
      cases e1
      replace e2 : (ks.map vo)[i]? = some x2 := e2
      rw [List.getElem?_map] at e2
      obtain ⟨y, hy, rfl⟩ := Option.map_eq_some_iff.mp e2
      have s3 : Same H (upd H2 T (.tup [.int (i : Nat), vo y])) := s2.trans (same_new nT)
      rw [wr_drop hy] at st
      refine ⟨T, _, rfl, SqT.of upd_same, rfl, _, _, rfl, _, _, rfl, rfl, ?_⟩
      have bad : (decide (i = many) = true ∨ okB ah y = false) → ∀ (d : Addr) (H' : Hp), Same (upd H2 T (.tup [.int (i : Nat), vo y])) H' → (upd H2 T (.tup [.int (i : Nat), vo y])) d = none → H' d = some (.xd [("at", .int (i : Nat))]) → E (.ref CK) (some d) H' := fun c d H' s' nd hd => by
        rw [if_pos c] at st
        exact qN i st H' d (s3.trans s') (s3.free nd) hd
      refine ⟨_, rfl, _, rfl, rfl, _, rfl, ite2 (fun g => ?_) (fun g => ?_)⟩
      · have g1 : decide (i = many) = true := decide_eq_true (by
          have := V.int.inj (of_decide_eq_true g)
          omega)
        exact if_t (err_read ⟨_, rfl, fun d H' s' nd hd => bad (.inl g1) d H' s' nd hd⟩ fun {Q Q'} hq ⟨v, e, q⟩ => ⟨v, e, hq _ _ q⟩)
      · have g1 : ¬ decide (i = many) = true := fun z => g (decide_eq_true (by rw [of_decide_eq_true z]))
        refine ⟨_, rfl, _, rfl, ah, y, rfl, okB ah y, rfl, ?_⟩
        cases c : okB ah y with
        | false => exact if_t (err_read ⟨_, rfl, fun d H' s' nd hd => bad (.inr c) d H' s' nd hd⟩ fun {Q Q'} hq ⟨v, e, q⟩ => ⟨v, e, hq _ _ q⟩)
        | true =>
          refine if_f ⟨_, rfl, y, _, _, rfl, s3, ?_⟩
          rw [st, if_neg (fun z => z.elim g1 fun z => by rw [c] at z; cases z)]
    · rintro σ H2 ⟨ah, z1, z2, rfl, s2, st⟩
      rw [hl, wr_end] at st
      refine ⟨_, rfl, a, _, rfl, .inr (sqT_same s2 ha), _, rfl, _, _, rfl, rfl, _, rfl, ite2 (fun g => ?_) (fun g => ?_)⟩
      · have g1 : ks.length < many := by
          have z := of_decide_eq_true g
          rw [hl] at z
          omega
        rw [if_pos g1] at st
        refine err_read ⟨_, rfl, a, _, rfl, .inr (sqT_same s2 ha), fun d H' s' nd hd => ?_⟩ fun {Q Q'} hq ⟨v, e, a, xs, e1, e2, q⟩ => ⟨v, e, a, xs, e1, e2, hq _ _ q⟩
        rw [hl] at hd
        exact qN _ st H' d (s2.trans s') (s2.free nd) hd
      · have g1 : ¬ ks.length < many := fun z => g (decide_eq_true (by rw [hl]; omega))
        rw [if_neg g1] at st
        exact qY st _ s2
end
end Tg

set_option maxHeartbeats 1000000
namespace Tg
open PySem PySem.Spec PyProof.Rows L2
/-! ### widths, wrong or right -/
abbrev sErrG : Stmt := inClass (topS 7) 0
theorem scErrG : FnScope ["self", "at"] ["self", "at"] (defScope sErrG) := ⟨rfl, rfl, rfl, by decide +kernel, rfl, by decide +kernel, by decide +kernel⟩
/-- the first wrong width, from the i-th on, a ahead of it -/
def badW (i : Nat) (a w : Int) : Bool := decide (i = 4) || decide (w < 1) || (decide (0 < i) && (decide (w = a) || decide (0 < w % a)))
def wW : Nat → Int → List Int → Option Nat
  | _, _, [] => none
  | i, a, w :: r => if badW i a w = true then some i else wW (i + 1) w r
def wrongW (ws : List Int) : Option Nat := if ws = [] then some 0 else wW 0 1 ws
theorem wW_drop {ws : List Int} {i : Nat} {a b : Int} (h : ws[i]? = some b) : wW i a (ws.drop i) = if badW i a b = true then some i else wW (i + 1) b (ws.drop (i + 1)) := by
  obtain ⟨l, e⟩ := List.getElem?_eq_some_iff.mp h
  rw [List.drop_eq_getElem_cons l, e]
  rfl
theorem wW_end {ws : List Int} {a : Int} : wW ws.length a (ws.drop ws.length) = none := by
  rw [List.drop_length]
  rfl
/-- the width ahead of the i-th -/
def ahd (ws : List Int) : Nat → Int
  | 0 => 1
  | i + 1 => ws.getD i 1
theorem badW_no {i : Nat} {a x : Int} (h : badW i a x = false) : i ≠ 4 ∧ 1 ≤ x ∧ (0 < i → x ≠ a ∧ x % a ≤ 0) := by
  unfold badW at h
  rw [Bool.or_eq_false_iff, Bool.or_eq_false_iff] at h
  obtain ⟨⟨h1, h2⟩, h3⟩ := h
  refine ⟨of_decide_eq_false h1, by have := of_decide_eq_false h2; omega, fun p => ?_⟩
  rw [decide_eq_true p, Bool.true_and, Bool.or_eq_false_iff] at h3
  exact ⟨of_decide_eq_false h3.1, by have := of_decide_eq_false h3.2; omega⟩
section
variable {P : Program} {w : World} {K : PySem.W.Frag} {mg : Str → Option Value} {base : Heap} {C CG : Addr}
theorem ok_errG {f : Addr} {fd : FuncData} {k : Nat} (F : Fun K "__init__" "NoGrain.__init__" sErrG f fd) (T : OexC K CG) (hno : PySem.W.findIn K (.ref CG) "at" = some none) (mV : mg "ValueError" = none)
    (vV : PySem.W.findCls K (.type "ValueError") (.type "type") "__init__" = some (.val (.builtin "ValueError.__init__"))) : FnOk P w K mg base CX0 (k + 1) f fd ["self", "at"] (spErr CG "at") := by
  refine F.ok scErrG (fun vs H Q E h => ?_) (fun cdv A outer s H vs Q E hr h => ?_)
  · obtain ⟨a, v, rfl, _⟩ := h
    rfl
  · obtain ⟨a, v, rfl, ha, q⟩ := h
    refine ⟨_, pss_cons (ps_expr (pe_veinit (by rfl) mV vV (pa_cons (pv 0) (pa_cons pe_str pa_nil)))) (pss_one (ps_ost (pv 0) (pv 1))), ?_⟩
    exact ⟨_, rfl, a, CG, _, rfl, by show 1 ≤ 1000; decide, T, ha, _, rfl, _, rfl, a, CG, rfl, T, hno, .inl ⟨ha, fun dx nd da => q dx nd da⟩⟩
def spCkWX (K : PySem.W.Frag) (CG : Addr) : Sp := fun vs H Q E => ∃ (a : Addr) (ws : List Int), vs = [.ref a] ∧ SqT K H a (ws.map V.int) ∧ (wrongW ws = none → ∀ H', Same H H' → Q .non H') ∧
  ∀ i, wrongW ws = some i → ∀ H' d, Same H H' → H d = none → H' d = some (.xd [("at", .int (i : Nat))]) → E (.ref CG) (some d) H'
theorem ok_ckWX {f : Addr} {fd : FuncData} {k : Nat} (F : Fun K "check_widths" "check_widths" sCkW f fd) (C_is_whole : Cal P w K mg base k "is_whole" ["thing"] spWhole) (C_err : CalE P w K mg base k "NoGrain" CG "at") {z : Tok} (g_MOST_WIDTHS : mg "MOST_WIDTHS" = some (.int 4 z)) (m_len : mg "len" = none) (m_enumerate : mg "enumerate" = none) :
    FnOk P w K mg base (L2.CX P w) (k + 2) f fd ["widths"] (spCkWX K CG) := by
  refine F.okX scCkW (fun vs H Q E h => ?_) (fun cdv A outer s H vs Q E hr h => ?_)
  · obtain ⟨a, ws, rfl, _⟩ := h
    rfl
  · obtain ⟨a, ws, rfl, ha, qY, qN⟩ := h
    refine ⟨_, pss_cons (ps_if (pt_cmpR op_eq (pe_callB call_len_seq (by rfl) m_len (by decide +kernel) (pa_cons (pv 0) pa_nil)) pe_int (nomark _))
        (pss_one (ps_raise rfl (takes_of rfl rfl rfl rfl) (pm_err C_err hr (by rfl) pe_int)))
        pss_nil)
      (pss_one (ps_for (passes_of rfl) rfl (pi_enumT (by rfl) m_enumerate (pa_cons (pv 0) pa_nil)) (pg_tup rfl (pgs_cons (pg_name (i := 1) scCkW.nd rfl (.inl rfl)) (pgs_cons (pg_name (i := 2) scCkW.nd rfl (.inl rfl)) pgs_nil)))
        (pss_cons (ps_if (PW.pt (pw_or (pt_cmpR op_eq (pv 1) (pe_glob (v := .int 4) rfl g_MOST_WIDTHS ⟨_, rfl⟩) (nomark _)) (pw_or (pt_not (pt_val (pe_cal C_is_whole (hr.mono (by omega)) (by rfl) (pa_cons (pv 2) pa_nil)))) (pw_or1 (pt_cmpR op_lt (pv 2) pe_int (nomark _))))))
          (pss_one (ps_raise rfl (takes_of rfl rfl rfl rfl) (pm_err C_err hr (by rfl) (pv 1))))
          pss_nil)
        (pss_one (ps_if (PW.pt (pw_and (pt_cmpR op_gt (pv 1) pe_int (nomark _)) (pw_and1 (PW.pt (pw_or (pt_cmpR op_eq (pv 2) (pe_ix ix_tup (pv 0) (pe_op op_sub (pv 1) pe_int) (fun _ _ => rfl)) (nomark _)) (pw_or1 (pt_cmpR op_gt (pe_op op_mod (pv 2) (pe_ix ix_tup (pv 0) (pe_op op_sub (pv 1) pe_int) (fun _ _ => rfl))) pe_int (nomark _))))))))
          (pss_one (ps_raise rfl (takes_of rfl rfl rfl rfl) (pm_err C_err hr (by rfl) (pv 1))))
          pss_nil))))), ?_⟩
    have hl : (ws.map V.int).length = ws.length := List.length_map ..
    refine ⟨_, rfl, a, _, rfl, .inr ha, rfl, _, rfl, ite2 (fun g => ?_) (fun g => ?_)⟩
    · have e0 : ws = [] := by
        have z := V.int.inj (of_decide_eq_true g)
        rw [hl] at z
        exact List.eq_nil_of_length_eq_zero (by omega)
      have w0 : wrongW ws = some 0 := by
        unfold wrongW
        rw [if_pos e0]
      exact err_read (fun d H' s' nd hd => qN 0 w0 H' d s' nd hd) fun {Q Q'} hq q => hq _ _ q
    have ne : ws ≠ [] := fun z => g (by rw [hl, z]; rfl)
    have wn : wrongW ws = wW 0 1 ws := by
      unfold wrongW
      rw [if_neg ne]
    refine ⟨_, rfl, a, _, rfl, ha, for_it (walk_enumT (K := K) (a := a) (xs := ws.map V.int)) (fun i σ H2 => ∃ z1 z2 : Option V, σ = [some (.ref a), z1, z2] ∧ Same H H2 ∧ wW 0 1 ws = wW i (ahd ws i) (ws.drop i) ∧ 1 ≤ ahd ws i) ⟨none, none, rfl, Same.refl _, rfl, Int.le_refl _⟩ ?_ ?_ ?_⟩
    · rintro i σ H2 _ ⟨z1, z2, _, s2, _⟩
      exact sqT_same s2 ha
    · rintro i x σ H2 H3 hi ⟨z1, z2, rfl, s2, st, ap⟩ ⟨T, x1, x2, rfl, nT, rfl, e1, e2⟩
      cases e1
      replace e2 : (ws.map V.int)[i]? = some x2 := e2
      rw [List.getElem?_map] at e2
      obtain ⟨y, hy, rfl⟩ := Option.map_eq_some_iff.mp e2
      have s3 : Same H (upd H2 T (.tup [.int (i : Nat), .int y])) := s2.trans (same_new nT)
      have ha3 := sqT_same s3 ha
      rw [wW_drop hy] at st
      have bad : badW i (ahd ws i) y = true → ∀ (d : Addr) (H' : Hp), Same (upd H2 T (.tup [.int (i : Nat), .int y])) H' → (upd H2 T (.tup [.int (i : Nat), .int y])) d = none → H' d = some (.xd [("at", .int (i : Nat))]) → E (.ref CG) (some d) H' := fun c d H' s' nd hd => by
        rw [if_pos c] at st
        exact qN i (wn.trans st) H' d (s3.trans s') (s3.free nd) hd
      refine ⟨T, _, rfl, SqT.of upd_same, rfl, _, _, rfl, _, _, rfl, rfl, ?_⟩
      refine ⟨_, rfl, rfl, _, rfl, ite2 (fun g => ?_) (fun g => ?_)⟩
      · have g1 : i = 4 := by
          have := V.int.inj (of_decide_eq_true g)
          omega
        exact if_t (err_read ⟨_, rfl, fun d H' s' nd hd => bad (by unfold badW; rw [decide_eq_true g1]; rfl) d H' s' nd hd⟩ fun {Q Q'} hq ⟨v, e, q⟩ => ⟨v, e, hq _ _ q⟩)
      have n4 : i ≠ 4 := fun z => g (by rw [z]; rfl)
      refine ⟨_, rfl, y, rfl, true, rfl, if_f ⟨_, rfl, _, _, rfl, rfl, _, rfl, ?_⟩⟩
      by_cases y1 : y < 1
      · rw [decide_eq_true y1]
        exact if_t (err_read ⟨_, rfl, fun d H' s' nd hd => bad (by unfold badW; rw [decide_eq_true y1, Bool.or_true]; rfl) d H' s' nd hd⟩ fun {Q Q'} hq ⟨v, e, q⟩ => ⟨v, e, hq _ _ q⟩)
      rw [decide_eq_false y1]
      refine if_f ?_
      have next : badW i (ahd ws i) y = false → ∃ z1 z2 : Option V, [some (V.ref a), some (.int (i : Nat)), some (.int y)] = [some (.ref a), z1, z2] ∧ Same H (upd H2 T (.tup [.int (i : Nat), .int y])) ∧ wW 0 1 ws = wW (i + 1) (ahd ws (i + 1)) (ws.drop (i + 1)) ∧ 1 ≤ ahd ws (i + 1) := fun c => by
        have ey : ahd ws (i + 1) = y := by
          show ws.getD i 1 = y
          rw [List.getD_eq_getElem?_getD, hy]
          rfl
        rw [if_neg (by rw [c]; decide)] at st
        rw [ey]
        exact ⟨_, _, rfl, s3, st, by omega⟩
      cases i with
      | zero =>
        refine ⟨_, rfl, _, _, rfl, rfl, _, rfl, if_n (decide_eq_false (by omega)) (if_f (next ?_))⟩
        unfold badW
        rw [decide_eq_false y1]
        rfl
      | succ i =>
        obtain ⟨x, hx⟩ : ∃ x, ws[i]? = some x := ⟨ws[i]'(by rw [hl] at hi; omega), List.getElem?_eq_getElem _⟩
        have ex : atI (ws.map V.int) (((i + 1 : Nat) : Int) - 1) = some (.int x) := at_pred (by rw [List.getElem?_map, hx]; rfl)
        have eah : ahd ws (i + 1) = x := by
          show ws.getD i 1 = x
          rw [List.getD_eq_getElem?_getD, hx]
          rfl
        rw [eah] at ap bad next
        have bv : badW (i + 1) x y = (decide (y = x) || decide (0 < y % x)) := by
          unfold badW
          rw [decide_eq_false n4, decide_eq_false y1, decide_eq_true (Nat.succ_pos i)]
          rfl
        refine ⟨_, rfl, _, _, rfl, rfl, _, rfl, if_y (decide_eq_true (by omega)) ?_⟩
        refine ⟨_, rfl, _, rfl, _, rfl, _, _, rfl, rfl, a, _, _, .int x, rfl, rfl, ha3, ex, rfl, _, rfl, ?_⟩
        by_cases c1 : y = x
        · refine if_y (decide_eq_true (congrArg V.int c1)) ?_
          exact if_t (err_read ⟨_, rfl, fun d H' s' nd hd => bad (by rw [bv, decide_eq_true c1]; rfl) d H' s' nd hd⟩ fun {Q Q'} hq ⟨v, e, q⟩ => ⟨v, e, hq _ _ q⟩)
        · refine if_n (decide_eq_false fun z => c1 (V.int.inj z)) ?_
          refine ⟨_, rfl, _, rfl, _, rfl, _, _, rfl, rfl, a, _, _, .int x, rfl, rfl, ha3, ex, _, _, rfl, rfl, (by omega), _, _, rfl, rfl, _, rfl, ?_⟩
          by_cases c2 : 0 < y % x
          · rw [decide_eq_true c2]
            exact if_t (err_read ⟨_, rfl, fun d H' s' nd hd => bad (by rw [bv, decide_eq_true c2, Bool.or_true]) d H' s' nd hd⟩ fun {Q Q'} hq ⟨v, e, q⟩ => ⟨v, e, hq _ _ q⟩)
          · rw [decide_eq_false c2]
            exact if_f (next (by rw [bv, decide_eq_false c1, decide_eq_false c2]; rfl))
    · rintro σ H2 ⟨z1, z2, rfl, s2, st, _⟩
      rw [hl, wW_end] at st
      exact qY (wn.trans st) _ s2
def spCkwX (K : PySem.W.Frag) (CG : Addr) : Sp := fun vs H Q E => ∃ (a : Addr) (ws : List Int) (x : Int), vs = [.ref a, .int x] ∧ SqT K H a (ws.map V.int) ∧ (x ∈ ws → Q .non H) ∧
  (x ∉ ws → ∀ H' d, Same H H' → H d = none → H' d = some (.xd [("at", .int x)]) → E (.ref CG) (some d) H')
theorem inV_not {ws : List Int} {x : Int} (h : x ∉ ws) : inV (.int x) (ws.map V.int) = false := by
  cases e : inV (.int x) (ws.map V.int) with
  | false => rfl
  | true =>
    unfold inV at e
    obtain ⟨v, h1, h2⟩ := List.any_eq_true.mp e
    obtain ⟨y, hy, rfl⟩ := List.mem_map.mp h1
    have : y = x := by simpa [eqV] using h2
    exact absurd (this ▸ hy) h
theorem ok_ckwX {f : Addr} {fd : FuncData} {k : Nat} (F : Fun K "check_width" "check_width" sCkw f fd) (C_err : CalE P w K mg base k "NoGrain" CG "at") : FnOk P w K mg base (L2.CX P w) (k + 2) f fd ["widths", "width"] (spCkwX K CG) := by
  refine F.okX scCkw (fun vs H Q E h => ?_) (fun cdv A outer s H vs Q E hr h => ?_)
  · obtain ⟨a, ws, x, rfl, _⟩ := h
    rfl
  · obtain ⟨a, ws, x, rfl, ha, qY, qN⟩ := h
    refine ⟨_, pss_one (ps_if (pt_cmpR op_notIn_seq (pv 1) (pv 0) (by with_unfolding_all rfl))
        (pss_one (ps_raise rfl (takes_of rfl rfl rfl rfl) (pm_err C_err hr (by rfl) (pv 1))))
        pss_nil), ?_⟩
    refine ⟨_, rfl, _, rfl, a, _, rfl, .inr ha, rfl, flat_ints ws, _, rfl, ?_⟩
    by_cases c : x ∈ ws
    · rw [inV_mem c]
      exact if_f (qY c)
    · rw [inV_not c]
      exact if_t (err_read ⟨_, rfl, fun d H' s' nd hd => qN c H' d s' nd hd⟩ fun {Q Q'} hq ⟨v, e, q⟩ => ⟨v, e, hq _ _ q⟩)
end
end Tg

set_option maxHeartbeats 1000000
namespace Tg
open PySem PySem.Spec PyProof.Rows L2
/-! ### _law_wrong -/
abbrev sWr : Stmt := topS 41
abbrev NWr : List Str := ["_law_some_widths_here", "_law_at", "_law_a_width", "_law_ahead"]
theorem scWr : FnScope NWr ["_law_some_widths_here"] (defScope sWr) := ⟨rfl, rfl, rfl, by decide +kernel, rfl, by decide +kernel, by decide +kernel⟩
def wv : Option Nat → V
  | none => .non
  | some i => .int (i : Nat)
theorem bad_both {a x : Int} (ha : 1 ≤ a) (hx : 1 ≤ x) : (decide (x = a) || decide (0 < x % a)) = (decide (x ≤ a) || !decide (x % a = 0)) := by
  have h0 := Int.emod_nonneg x (show a ≠ 0 by omega)
  by_cases c : x < a
  · have e : x % a = x := Int.emod_eq_of_lt (by omega) c
    rw [e, decide_eq_true (show 0 < x by omega), decide_eq_true (show x ≤ a by omega), Bool.or_true, Bool.true_or]
  · by_cases c2 : x = a
    · rw [decide_eq_true c2, decide_eq_true (show x ≤ a by omega), Bool.true_or, Bool.true_or]
    · rw [decide_eq_false c2, decide_eq_false (show ¬ x ≤ a by omega), Bool.false_or, Bool.false_or]
      by_cases c3 : x % a = 0
      · rw [decide_eq_true c3, decide_eq_false (by omega)]
        rfl
      · rw [decide_eq_false c3, decide_eq_true (by omega)]
        rfl
section
variable {P : Program} {w : World} {K : PySem.W.Frag} {mg : Str → Option Value} {base : Heap}
def spWr (K : PySem.W.Frag) : Sp := fun vs H Q _ => ∃ (a : Addr) (ws : List Int), vs = [.ref a] ∧ SqT K H a (ws.map V.int) ∧ ws.length ≤ 20 ∧ ∀ H', Same H H' → Q (wv (wrongW ws)) H'
theorem ok_wr {f : Addr} {fd : FuncData} {k : Nat} (F : Fun K "_law_wrong" "_law_wrong" sWr f fd) (m_list : mg "list" = none) (m_enumerate : mg "enumerate" = none) : FnOk P w K mg base CX0 (k + 1) f fd ["_law_some_widths_here"] (spWr K) := by
  refine F.ok scWr (fun vs H Q E h => ?_) (fun cdv A outer s H vs Q E hr h => ?_)
  · obtain ⟨a, ws, rfl, _⟩ := h
    rfl
  · obtain ⟨a, ws, rfl, ha, few, q⟩ := h
    have hu : (A.deeper (envOfC (Str.ofString "_law_wrong") (defScope sWr) s.heap.objs.size f cdv)).units + 64 < cLine := by have := hr.un; omega
    refine ⟨_, pss_cons (ps_if (pt_cmpR (op_eqD hu) (pv 0) (pe_tup pa_nil) (nomark _))
        (pss_one (ps_ret pe_int))
        pss_nil)
      (pss_cons (ps_for PassesOwn.never rfl (pi_enumT (by rfl) m_enumerate (pa_cons (pv 0) pa_nil)) (pg_tup rfl (pgs_cons (pg_name (i := 1) scWr.nd rfl (.inl rfl)) (pgs_cons (pg_name (i := 2) scWr.nd rfl (.inl rfl)) pgs_nil)))
        (pss_cons (ps_if (PW.pt (pw_or (pt_cmpR op_eq (pv 1) pe_int (nomark _)) (pw_or1 (pt_cmpR op_lt (pv 2) pe_int (nomark _)))))
          (pss_one (ps_ret (pv 1)))
          pss_nil)
        (pss_cons (ps_set (i := 3) scWr.nd rfl (.inl rfl) (pe_ix ix_list (pe_op op_cat (pe_lst (pa_cons pe_int pa_nil)) (pe_callTy call_list_of (by rfl) m_list (by decide +kernel) (pa_cons (pv 0) pa_nil))) (pv 1) (fun _ _ => rfl)))
        (pss_one (ps_if (PW.pt (pw_and (pt_cmpR op_gt (pv 1) pe_int (nomark _)) (pw_and1 (PW.pt (pw_or (pt_cmpR op_le (pv 2) (pv 3) (nomark _)) (pw_or1 (pt_cmpR op_ne (pe_op op_mod (pv 2) (pv 3)) pe_int (nomark _))))))))
          (pss_one (ps_ret (pv 1)))
          pss_nil)))))
      (pss_one (ps_ret pe_non))), ?_⟩
    have hl : (ws.map V.int).length = ws.length := List.length_map ..
    refine ⟨_, rfl, by show 0 ≤ sizeLine; decide, fun e ne => ?_⟩
    have s1 := same_new (o := .tup []) ne
    refine ⟨.tuple (ws.map .int), .tuple [], .tup (sqT_same s1 ha) (dp_ints _), .tup (SqT.of upd_same) .nil, ?_, rfl, _, rfl, ite2 (fun g => ?_) (fun g => ?_)⟩
    · exact shaped_of (lay_ints ws) (by show PyData.depthAll (ws.map .int) + 1 ≤ 64; have := depth_ints ws; omega)
    · have e0 : ws = [] := by
        cases ws with
        | nil => rfl
        | cons x r => cases g
      have w0 : wrongW ws = some 0 := by
        unfold wrongW
        rw [if_pos e0]
      have z := q _ s1
      rw [w0] at z
      exact z
    have nE : ws ≠ [] := fun z => g (by rw [z]; rfl)
    have wn : wrongW ws = wW 0 1 ws := by
      unfold wrongW
      rw [if_neg nE]
    refine ⟨_, rfl, a, _, rfl, sqT_same s1 ha, for_it (walk_enumT (K := K) (a := a) (xs := ws.map V.int)) (fun i σ H2 => ∃ z1 z2 z3 : Option V, σ = [some (.ref a), z1, z2, z3] ∧ Same H H2 ∧ wW 0 1 ws = wW i (ahd ws i) (ws.drop i) ∧ 1 ≤ ahd ws i) ⟨none, none, none, rfl, s1, rfl, Int.le_refl _⟩ ?_ ?_ ?_⟩
    · rintro i σ H2 _ ⟨z1, z2, z3, _, s2, _⟩
      exact sqT_same s2 ha
    · rintro i x σ H2 H3 hi ⟨z1, z2, z3, rfl, s2, st, ap⟩ ⟨T, x1, x2, rfl, nT, rfl, e1, e2⟩
      cases e1
      replace e2 : (ws.map V.int)[i]? = some x2 := e2
      rw [List.getElem?_map] at e2
      obtain ⟨y, hy, rfl⟩ := Option.map_eq_some_iff.mp e2
      have s3 : Same H (upd H2 T (.tup [.int (i : Nat), .int y])) := s2.trans (same_new nT)
      have ha3 := sqT_same s3 ha
      rw [wW_drop hy] at st
      have bad : badW i (ahd ws i) y = true → ∀ H', Same H H' → Q (.int (i : Nat)) H' := fun c H' s' => by
        rw [if_pos c] at st
        have z := q H' s'
        rw [wn, st] at z
        exact z
      refine ⟨T, _, rfl, SqT.of upd_same, rfl, _, _, rfl, _, _, rfl, rfl, ?_⟩
      refine ⟨_, rfl, rfl, _, rfl, ite2 (fun g => ?_) (fun g => ?_)⟩
      · have g1 : i = 4 := by
          have := V.int.inj (of_decide_eq_true g)
          omega
        exact if_t ⟨_, rfl, bad (by unfold badW; rw [decide_eq_true g1]; rfl) _ s3⟩
      have n4 : i ≠ 4 := fun z => g (by rw [z]; rfl)
      refine ⟨_, rfl, _, _, rfl, rfl, _, rfl, ?_⟩
      by_cases y1 : y < 1
      · rw [decide_eq_true y1]
        exact if_t ⟨_, rfl, bad (by unfold badW; rw [decide_eq_true y1, Bool.or_true]; rfl) _ s3⟩
      rw [decide_eq_false y1]
      refine if_f ?_
      -- the one ahead
      refine ⟨by show 1 ≤ sizeLine; decide, fun l1 n1 => ?_⟩
      have q1 := same_new (o := .lst [.int 0]) n1
      refine ⟨_, rfl, a, _, rfl, .inr (sqT_same q1 ha3), fun l2 n2 => ?_⟩
      have q2 := same_new (o := .lst (ws.map V.int)) n2
      refine ⟨l1, l2, _, _, rfl, rfl, q2 _ _ upd_same, upd_same, ?_, fun l3 n3 => ?_⟩
      · rw [hl]
        have : 1000 < sizeLine := by decide
        show 1 + _ ≤ _
        omega
      have q3 := same_new (o := .lst ([.int 0] ++ ws.map V.int)) n3
      have s4 := s3.trans ((q1.trans q2).trans q3)
      have hx : atI ([V.int 0] ++ ws.map V.int) (i : Nat) = some (.int (if i = 0 then 0 else ahd ws i)) := by
        refine atI_nat ?_
        cases i with
        | zero => rfl
        | succ i =>
          have il : i < ws.length := by rw [hl] at hi; omega
          rw [if_neg (Nat.succ_ne_zero i)]
          show (V.int 0 :: ws.map V.int)[i + 1]? = some (.int (ws.getD i 1))
          rw [List.getElem?_cons_succ, List.getElem?_map, List.getD_eq_getElem?_getD, List.getElem?_eq_getElem il]
          rfl
      have next : badW i (ahd ws i) y = false → ∀ z : V, ∃ z1 z2 z3 : Option V, [some (V.ref a), some (.int (i : Nat)), some (.int y), some z] = [some (.ref a), z1, z2, z3] ∧ Same H (upd (upd (upd (upd H2 T (.tup [.int (i : Nat), .int y])) l1 (.lst [.int 0])) l2 (.lst (ws.map V.int))) l3 (.lst ([.int 0] ++ ws.map V.int))) ∧ wW 0 1 ws = wW (i + 1) (ahd ws (i + 1)) (ws.drop (i + 1)) ∧ 1 ≤ ahd ws (i + 1) := fun c z => by
        have ey : ahd ws (i + 1) = y := by
          show ws.getD i 1 = y
          rw [List.getD_eq_getElem?_getD, hy]
          rfl
        rw [if_neg (by rw [c]; decide)] at st
        rw [ey]
        exact ⟨_, _, _, rfl, s4, st, by omega⟩
      refine ⟨_, rfl, l3, _, _, _, rfl, rfl, SqL.of upd_same, hx, ?_⟩
      cases i with
      | zero =>
        refine ⟨_, rfl, _, _, rfl, rfl, _, rfl, if_n (decide_eq_false (by omega)) (if_f (next ?_ _))⟩
        unfold badW
        rw [decide_eq_false y1]
        rfl
      | succ i =>
        rw [if_neg (Nat.succ_ne_zero i)]
        have bv : badW (i + 1) (ahd ws (i + 1)) y = (decide (y ≤ ahd ws (i + 1)) || !decide (y % ahd ws (i + 1) = 0)) := by
          rw [← bad_both ap (by omega)]
          unfold badW
          rw [decide_eq_false n4, decide_eq_false y1, decide_eq_true (Nat.succ_pos i)]
          rfl
        obtain ⟨x, ex⟩ : ∃ x, ahd ws (i + 1) = x := ⟨_, rfl⟩
        rw [ex] at bv ap bad next ⊢
        refine ⟨_, rfl, _, _, rfl, rfl, _, rfl, if_y (decide_eq_true (by omega)) ?_⟩
        refine ⟨_, rfl, _, rfl, _, _, rfl, rfl, _, rfl, ?_⟩
        by_cases c1 : y ≤ x
        · rw [decide_eq_true c1]
          exact if_t ⟨_, rfl, bad (by rw [bv, decide_eq_true c1]; rfl) _ s4⟩
        · rw [decide_eq_false c1]
          refine ⟨_, rfl, _, rfl, _, _, rfl, rfl, (by omega), rfl, _, rfl, ?_⟩
          by_cases c2 : y % x = 0
          · refine if_n ?_ (next (by rw [bv, decide_eq_false c1, decide_eq_true c2]; rfl) _)
            show (!decide (V.int (y % x) = V.int 0)) = false
            rw [c2]
            rfl
          · refine if_y ?_ ⟨_, rfl, bad (by rw [bv, decide_eq_false c2, Bool.not_false, Bool.or_true]) _ s4⟩
            show (!decide (V.int (y % x) = V.int 0)) = true
            rw [vi_ne c2]
            rfl
    · rintro σ H2 ⟨z1, z2, z3, rfl, s2, st, _⟩
      rw [hl, wW_end] at st
      have z := q _ s2
      rw [wn, st] at z
      exact z
end
end Tg

set_option maxHeartbeats 2000000
namespace Tg
open PySem PySem.Spec PyProof.Rows L2
/-! ### _law_some_widths -/
abbrev sSW : Stmt := topS 40
abbrev NSW : List Str := ["_law_purse_here", "_law_many", "_law_a_width", "_law_found", "_law_k", "_law_at", "_law_ahead", "_law_bent"]
theorem scSW : FnScope NSW ["_law_purse_here"] (defScope sSW) := ⟨rfl, rfl, rfl, by decide +kernel, rfl, by decide +kernel, by decide +kernel⟩
/-- how large the i-th width may be drawn -/
def mx (i : Nat) : Int := 10 ^ 6 * 24 ^ i
def Drn (ws : List Int) : Prop := ∀ (i : Nat) (x : Int), ws[i]? = some x → 1 ≤ x ∧ x ≤ mx i
theorem atV_in {xs : List V} {i : Int} (h0 : 0 ≤ i) (h1 : i < xs.length) : ∃ v, v ∈ xs ∧ atI xs i = some v := by
  obtain ⟨j, rfl⟩ : ∃ j : Nat, i = (j : Int) := ⟨i.toNat, by omega⟩
  have hj : j < xs.length := by omega
  exact ⟨xs[j], List.getElem_mem hj, atI_nat (List.getElem?_eq_getElem hj)⟩
theorem mx_pos (i : Nat) : 1 ≤ mx i := by
  unfold mx
  have : (0 : Int) < 10 ^ 6 * 24 ^ i := Int.mul_pos (by decide) (Int.pow_pos (by decide))
  omega
theorem mx_succ (i : Nat) : mx (i + 1) = mx i * 24 := by
  unfold mx
  rw [Int.pow_succ 24 i, ← Int.mul_assoc]
theorem cut_take (ns : List Int) (i : Nat) : cutV (ns.map V.int) none (some (i : Int)) = (ns.take i).map V.int := by
  unfold cutV
  have e : HT.sIx (ns.map V.int).length (ns.map V.int).length (some (i : Int)) = min i ns.length := by
    show (if (i : Int) < 0 then ((i : Int) + ((ns.map V.int).length : Nat)).toNat else min (i : Int).toNat (ns.map V.int).length) = _
    rw [if_neg (by omega), List.length_map]
    rfl
  rw [HT.sIx_none, e, List.drop_zero, Nat.sub_zero, List.map_take]
  rw [← List.length_map (f := V.int), List.take_eq_take_iff]
  omega
theorem cut_drop (ns : List Int) (i : Nat) : cutV (ns.map V.int) (some (i : Int)) none = (ns.drop i).map V.int := by
  unfold cutV
  have e : HT.sIx (ns.map V.int).length 0 (some (i : Int)) = min i ns.length := by
    show (if (i : Int) < 0 then ((i : Int) + ((ns.map V.int).length : Nat)).toNat else min (i : Int).toNat (ns.map V.int).length) = _
    rw [if_neg (by omega), List.length_map]
    rfl
  rw [HT.sIx_none, e, List.map_drop, List.length_map]
  rcases Nat.le_total i ns.length with c | c
  · rw [Nat.min_eq_left c]
    exact List.take_of_length_le (by rw [List.length_drop, List.length_map]; omega)
  · rw [Nat.min_eq_right c, Nat.sub_self, List.take_zero]
    exact (List.drop_eq_nil_of_le (by rw [List.length_map]; exact c)).symm
theorem at_last {xs : List V} {v : V} (h : xs[xs.length - 1]? = some v) : atI xs (-1) = some v := by
  have pos : 0 < xs.length := by
    cases xs with
    | nil => cases h
    | cons _ _ => exact Nat.succ_pos _
  unfold atI ixN
  rw [if_neg (by decide), if_pos (by omega)]
  have e : ((-1 : Int) + (xs.length : Nat)).toNat = xs.length - 1 := by omega
  rw [e]
  exact h
theorem ahd_b {fs : List Int} (dr : Drn fs) {j : Nat} (jl : j < fs.length) : 1 ≤ ahd fs j ∧ ahd fs j * 3 ≤ mx j := by
  cases j with
  | zero => exact ⟨Int.le_refl _, by show (1 : Int) * 3 ≤ mx 0; decide⟩
  | succ j =>
    obtain ⟨y, hy⟩ : ∃ y, fs[j]? = some y := ⟨_, List.getElem?_eq_getElem (Nat.lt_of_succ_lt jl)⟩
    obtain ⟨h1, h2⟩ := dr j y hy
    have e : ahd fs (j + 1) = y := by
      show fs.getD j 1 = y
      rw [List.getD_eq_getElem?_getD, hy]
      rfl
    rw [e, mx_succ]
    omega
section
variable {P : Program} {w : World} {K : PySem.W.Frag} {mg : Str → Option Value} {base : Heap}
def spSW : Sp := fun vs H Q _ => ∃ (p : Addr) (n : Nat), vs = [.ref p] ∧ Pu H p n ∧ n < 2 ^ 37 ∧
  ∀ (t : Addr) (o : Obj) (ws : List Int) (H' : Hp), Kp p H H' → Pu H' p (n + 60) → H t = none → o.dict = none → H' t = some (.frz o (.tup (ws.map V.int))) → ws.length ≤ 6 → (∀ (i : Nat) (x : Int), ws[i]? = some x → x ≤ mx i + 1) → Q (.ref t) H'
theorem ok_sw {f : Addr} {fd : FuncData} {k : Nat} (F : Fun K "_law_some_widths" "_law_some_widths" sSW f fd) (L_draw : Cal P w K mg base k "_law_draw" ["_law_purse_here", "_law_out_of"] spDraw) (m_range : mg "range" = none) (m_max : mg "max" = none) (m_tuple : mg "tuple" = none) :
    FnOk P w K mg base CX0 (k + 1) f fd ["_law_purse_here"] spSW := by
  refine F.ok scSW (fun vs H Q E h => ?_) (fun cdv A outer s H vs Q E hr h => ?_)
  · obtain ⟨p, n, rfl, _⟩ := h
    rfl
  · obtain ⟨p, n, rfl, hp, hn, q⟩ := h
    have hu : (A.deeper (envOfC (Str.ofString "_law_some_widths") (defScope sSW) s.heap.objs.size f cdv)).units + 64 < cLine := by have := hr.un; omega
    refine ⟨_, pss_cons (ps_set (i := 1) scSW.nd rfl (.inl rfl) (pe_cal L_draw (hr.mono (by omega)) (by rfl) (pa_cons (pv 0) (pa_cons pe_int pa_nil))))
      (pss_cons (ps_set (i := 2) scSW.nd rfl (.inl rfl) (pe_ix ix_list (pe_lst (pa_cons pe_int (pa_cons pe_int (pa_cons pe_int (pa_cons (pe_op op_add pe_int (pe_cal L_draw (hr.mono (by omega)) (by rfl) (pa_cons (pv 0) (pa_cons (pe_op op_pow pe_int pe_int) pa_nil)))) pa_nil))))) (pe_cal L_draw (hr.mono (by omega)) (by rfl) (pa_cons (pv 0) (pa_cons pe_int pa_nil))) (fun _ _ => rfl)))
      (pss_cons (ps_set (i := 3) scSW.nd rfl (.inl rfl) (pe_lst pa_nil))
      (pss_cons (ps_for PassesOwn.never rfl (pi_range1 (by rfl) m_range (pa_cons (pv 1) pa_nil)) (pg_name (i := 4) scSW.nd rfl (.inl rfl))
        (pss_cons (ps_expr (pe_bm PySem.F.plainAttrs_list PySem.F.slot_list_append PySem.F.type_list_append mt_append (pv 3) (pa_cons (pv 2) pa_nil)))
        (pss_one (ps_set (i := 2) scSW.nd rfl (.inl rfl) (pe_op op_mul (pv 2) (pe_ix ix_list (pe_lst (pa_cons pe_int (pa_cons (pe_op op_add pe_int (pe_cal L_draw (hr.mono (by omega)) (by rfl) (pa_cons (pv 0) (pa_cons pe_int pa_nil)))) (pa_cons pe_int (pa_cons pe_int pa_nil))))) (pe_cal L_draw (hr.mono (by omega)) (by rfl) (pa_cons (pv 0) (pa_cons pe_int pa_nil))) (fun _ _ => rfl)))))))
      (pss_cons (ps_if (PW.pt (pw_or (pt_cmpR (op_eqD hu) (pv 3) (pe_lst pa_nil) (nomark _)) (pw_or1 (pt_cmpR op_eq (pe_cal L_draw (hr.mono (by omega)) (by rfl) (pa_cons (pv 0) (pa_cons pe_int pa_nil))) pe_int (nomark _)))))
        (pss_one (ps_ret (pe_callTy call_tupleF (by rfl) m_tuple (by decide +kernel) (pa_cons (pv 3) pa_nil))))
        pss_nil)
      (pss_cons (ps_set (i := 5) scSW.nd rfl (.inl rfl) (pe_cal L_draw (hr.mono (by omega)) (by rfl) (pa_cons (pv 0) (pa_cons (pv 1) pa_nil))))
      (pss_cons (ps_set (i := 6) scSW.nd rfl (.inl rfl) (pe_ix ix_list (pe_op op_cat (pe_lst (pa_cons pe_int pa_nil)) (pe_slice sl_list (pv 3) po_none (po_some (pv 5)))) (pe_un un_neg pe_int) (fun _ _ => rfl)))
      (pss_cons (ps_set (i := 7) scSW.nd rfl (.inl rfl) (pe_ix ix_list (pe_lst (pa_cons pe_int (pa_cons (pe_op op_sub pe_int (pe_ix ix_list (pv 3) (pv 5) (fun _ _ => rfl))) (pa_cons (pv 6) (pa_cons (pe_op op_add (pe_ix ix_list (pv 3) (pv 5) (fun _ _ => rfl)) pe_int) (pa_cons (pe_callB (call_max2 rfl) (by rfl) m_max (by decide +kernel) (pa_cons (pe_op op_sub (pv 6) pe_int) (pa_cons pe_int pa_nil))) (pa_cons (pe_op op_mul (pv 6) pe_int) (pa_cons (pe_op op_sub pe_int pe_int) pa_nil)))))))) (pe_cal L_draw (hr.mono (by omega)) (by rfl) (pa_cons (pv 0) (pa_cons pe_int pa_nil))) (fun _ _ => rfl)))
      (pss_one (ps_ret (pe_callTy call_tupleF (by rfl) m_tuple (by decide +kernel) (pa_cons (pe_op op_cat (pe_op op_cat (pe_slice sl_list (pv 3) po_none (po_some (pv 5))) (pe_lst (pa_cons (pv 7) pa_nil))) (pe_slice sl_list (pv 3) (po_some (pe_op op_add (pv 5) pe_int)) po_none)) pa_nil))))))))))), ?_⟩
    have e37 : 2 ^ 37 + 100 < 2 ^ 38 := by decide
    refine ⟨_, rfl, p, n, 7, rfl, hp, by omega, by decide, by decide, fun many H1 k1 d1 m0 m1 => ?_⟩
    -- the first width
    refine ⟨_, rfl, 10, 6, rfl, rfl, ⟨by decide, by decide, by decide⟩, p, _, _, rfl, d1, by omega, by decide, by decide, fun v2 H2 k2 d2 v20 v21 => ?_⟩
    refine ⟨_, _, rfl, rfl, by show 4 ≤ sizeLine; decide, fun l1 n1 => ?_⟩
    have s1 := same_new (o := .lst ([1, 1, 60, 1 + v2].map V.int)) n1
    have hl1 : (upd H2 l1 (.lst ([1, 1, 60, 1 + v2].map V.int))) l1 = some (.lst ([1, 1, 60, 1 + v2].map V.int)) := upd_same
    have lp : l1 ≠ p := d2.ne n1
    refine ⟨_, rfl, p, _, 4, rfl, d2.same s1, by omega, by decide, by decide, fun v3 H3 k3 d3 v30 v31 => ?_⟩
    obtain ⟨w0, hw0, ew0⟩ := atI_mem (xs := [1, 1, 60, 1 + v2]) v30 v31
    have w0b : 1 ≤ w0 ∧ w0 ≤ mx 0 := by
      have e6 : (10 : Int) ^ 6 = 1000000 := by decide
      have em : mx 0 = 1000000 := by decide
      have v21' : v2 < 1000000 := by
        have z : v2 < 10 ^ (6 : Int).toNat := v21
        have e : (10 : Int) ^ (6 : Int).toNat = 1000000 := by decide
        omega
      rw [em]
      simp only [List.mem_cons, List.not_mem_nil, or_false] at hw0
      rcases hw0 with rfl | rfl | rfl | rfl <;> omega
    refine ⟨l1, _, _, .int w0, rfl, rfl, SqL.of (k3 _ _ lp hl1), ew0, Nat.zero_le _, fun l nl => ?_⟩
    have lp3 : l ≠ p := d3.ne nl
    have s3 := same_new (o := .lst []) nl
    have nlH : H l = none := by
      cases e : H l with
      | none => rfl
      | some o =>
        have := k3 l o lp3 (s1 _ _ (k2 l o lp3 (k1 l o lp3 e)))
        rw [nl] at this
        cases this
    refine ⟨_, rfl, _, rfl, by omega, by omega, ?_⟩
    obtain ⟨cn, ec⟩ : ∃ cn : Nat, many.toNat = cn := ⟨_, rfl⟩
    have cn6 : cn ≤ 6 := by omega
    have e64 : (2 : Int) ^ 64 = 18446744073709551616 := by decide
    rw [ec]
    refine for_range (n := cn) (fun i σ Hc => ∃ (fs : List Int) (aw : Int) (z4 : Option V), σ = [some (.ref p), some (.int many), some (.int aw), some (.ref l), z4, none, none, none] ∧ Kp p H Hc ∧ Pu Hc p (n + 6 + 4 * i) ∧ Hc l = some (.lst (fs.map V.int)) ∧ fs.length = i ∧ Drn fs ∧ 1 ≤ aw ∧ aw ≤ mx i) ?_ ?_ ?_
    · exact ⟨[], w0, none, rfl, (((k1.trans k2).trans (.of s1)).trans k3).trans (.of s3), d3.same s3, upd_same, rfl, fun i x h => (nomatch h), w0b⟩
    · rintro i σ Hc hi ⟨fs, aw, z4, rfl, kc, dc, hl, lf, dr, a1, a2⟩
      refine ⟨_, rfl, .inl ⟨rfl, _, SqL.of hl⟩, _, rfl, l, _, .int aw, rfl, rfl, hl, by rw [List.length_map]; exact small1000 (by omega), ?_⟩
      have kl : Kp p H (upd Hc l (.lst (fs.map V.int ++ [.int aw]))) := fun c o hc e => by
        rw [upd_ne (ne_of_none e nlH)]
        exact kc _ _ hc e
      have dl : Pu (upd Hc l (.lst (fs.map V.int ++ [.int aw]))) p (n + 6 + 4 * i) := by
        obtain ⟨x1, x2, x3, h1, h2⟩ := dc
        exact ⟨x1, x2, x3, by rw [upd_ne lp3.symm]; exact h1, h2⟩
      have hl5 : (upd Hc l (.lst (fs.map V.int ++ [.int aw]))) l = some (.lst ((fs ++ [aw]).map V.int)) := by
        rw [upd_same, List.map_append]
        rfl
      refine ⟨_, rfl, _, rfl, _, _, 8, rfl, dl, by omega, by decide, by decide, fun v5 H5 k5 d5 v50 v51 => ?_⟩
      refine ⟨_, _, rfl, rfl, by show 4 ≤ sizeLine; decide, fun l2 n2 => ?_⟩
      have s5 := same_new (o := .lst ([2, 2 + v5, 10, 24].map V.int)) n2
      have hl2 : (upd H5 l2 (.lst ([2, 2 + v5, 10, 24].map V.int))) l2 = some (.lst ([2, 2 + v5, 10, 24].map V.int)) := upd_same
      have l2p : l2 ≠ p := d5.ne n2
      refine ⟨_, rfl, p, _, 4, rfl, d5.same s5, by omega, by decide, by decide, fun v6 H6 k6 d6 v60 v61 => ?_⟩
      obtain ⟨ff, hff, eff⟩ := atI_mem (xs := [2, 2 + v5, 10, 24]) v60 v61
      have fb : 1 ≤ ff ∧ ff ≤ 24 := by
        simp only [List.mem_cons, List.not_mem_nil, or_false] at hff
        rcases hff with rfl | rfl | rfl | rfl <;> omega
      refine ⟨l2, _, _, .int ff, rfl, rfl, SqL.of (k6 _ _ l2p hl2), eff, _, _, rfl, rfl, .inr ⟨by omega, by omega⟩, ?_⟩
      have up : aw * ff ≤ mx i * 24 := Int.mul_le_mul a2 fb.2 (by omega) (by omega)
      have lo : 1 ≤ aw * ff := by
        have : 0 < aw * ff := Int.mul_pos (by omega) (by omega)
        omega
      refine ⟨fs ++ [aw], aw * ff, _, rfl, ((kl.trans k5).trans (.of s5)).trans k6, d6, k6 _ _ lp3 (s5 _ _ (k5 _ _ lp3 hl5)), by rw [List.length_append, lf]; rfl, fun j x hx => ?_, lo, by rw [mx_succ]; exact up⟩
      rw [List.getElem?_append] at hx
      by_cases c : j < fs.length
      · rw [if_pos c] at hx
        exact dr j x hx
      · rw [if_neg c] at hx
        cases e : j - fs.length with
        | zero =>
          rw [e] at hx
          cases hx
          have : j = i := by omega
          rw [this]
          exact ⟨a1, a2⟩
        | succ m =>
          rw [e] at hx
          cases hx
    · rintro σ Hb ⟨fs, aw, z4, rfl, kb, db, hl, lf, dr, _⟩
      -- told whole
      have whole : ∀ Hx, Kp p H Hx → Pu Hx p (n + 50) → Hx l = some (.lst (fs.map V.int)) → ∀ t o, o.dict = none → Hx t = none → Q (.ref t) (upd Hx t (.frz o (.tup (fs.map V.int)))) := fun Hx kx dx hx t o no nt => by
        have tp : t ≠ p := dx.ne nt
        have st := same_new (o := .frz o (.tup (fs.map V.int))) nt
        have ntH : H t = none := by
          cases e : H t with
          | none => rfl
          | some o2 =>
            have := kx t o2 tp e
            rw [nt] at this
            cases this
        exact q t o fs _ (kx.trans (.of st)) ((dx.same st).mono (by omega)) ntH no upd_same (by omega) fun i x h => by have := (dr i x h).2; omega
      refine ⟨_, rfl, Nat.zero_le _, fun e ne => ?_⟩
      have s7 := same_new (o := .lst []) ne
      refine ⟨.list (fs.map .int), .list [], .lst (SqL.of (s7 _ _ hl)) (dp_ints _), .lst (SqL.of upd_same) .nil, shaped_ints _, rfl, _, rfl, ite2 (fun g => ?_) (fun g => ?_)⟩
      · exact if_t ⟨_, rfl, l, _, rfl, SqL.of (s7 _ _ hl), fun t o no nt => whole _ (kb.trans (.of s7)) ((db.same s7).mono (by omega)) (s7 _ _ hl) t o no nt⟩
      have fne : fs ≠ [] := fun z => g (by rw [z]; rfl)
      have fpos : 0 < fs.length := List.length_pos_iff.mpr fne
      refine ⟨_, rfl, p, _, 3, rfl, db.same s7, by omega, by decide, by decide, fun v8 H8 k8 d8 v80 v81 => ?_⟩
      have hl8 := k8 _ _ lp3 (s7 _ _ hl)
      have kb8 := (kb.trans (.of s7)).trans k8
      refine ⟨rfl, _, rfl, ite2 (fun g => ?_) (fun g => ?_)⟩
      · exact ⟨_, rfl, l, _, rfl, SqL.of hl8, fun t o no nt => whole _ kb8 (d8.mono (by omega)) hl8 t o no nt⟩
      have mlf : many = (fs.length : Nat) := by omega
      refine ⟨_, rfl, _, rfl, p, _, many, rfl, d8, by omega, by omega, by have : (6 : Int) < 2 ^ 50 := by decide
                                                                          omega, fun at_ H9 k9 d9 a0 a1 => ?_⟩
      have hl9 := k9 _ _ lp3 hl8
      obtain ⟨j, rfl⟩ : ∃ j : Nat, at_ = (j : Int) := ⟨at_.toNat, by omega⟩
      have jl : j < fs.length := by omega
      obtain ⟨y, hy⟩ : ∃ y, fs[j]? = some y := ⟨_, List.getElem?_eq_getElem jl⟩
      have yb := dr j y hy
      refine ⟨by show 1 ≤ sizeLine; decide, fun r1 nr1 => ?_⟩
      have q1 := same_new (o := .lst [.int 1]) nr1
      refine ⟨_, rfl, _, rfl, (j : Int), rfl, l, _, rfl, SqL.of (q1 _ _ hl9), fun r2 nr2 => ?_⟩
      rw [cut_take]
      have q2 := same_new (o := .lst ((fs.take j).map V.int)) nr2
      have ltj : (fs.take j).length = j := by rw [List.length_take]; omega
      refine ⟨r1, r2, _, _, rfl, rfl, q2 _ _ upd_same, upd_same, ?_, fun r3 nr3 => ?_⟩
      · rw [List.length_map, ltj]
        exact Nat.le_of_lt (small1000 (by show 1 + j ≤ 1000; omega))
      have q3 := same_new (o := .lst ([.int 1] ++ (fs.take j).map V.int)) nr3
      have hah : atI ([V.int 1] ++ (fs.take j).map V.int) (-1) = some (.int (ahd fs j)) := by
        refine at_last ?_
        have ll : ([V.int 1] ++ (fs.take j).map V.int).length - 1 = j := by
          rw [List.length_append, List.length_map, ltj]
          show 1 + j - 1 = j
          omega
        rw [ll]
        cases j with
        | zero => rfl
        | succ j =>
          show (V.int 1 :: (fs.take (j + 1)).map V.int)[j + 1]? = some (.int (fs.getD j 1))
          rw [List.getElem?_cons_succ, List.getElem?_map, List.getElem?_take, if_pos (Nat.lt_succ_self j), List.getD_eq_getElem?_getD, List.getElem?_eq_getElem (Nat.lt_of_succ_lt jl)]
          rfl
      refine ⟨1, rfl, r3, _, _, .int (ahd fs j), rfl, rfl, SqL.of upd_same, hah, ?_⟩
      obtain ⟨ah1, ah3⟩ := ahd_b dr jl
      obtain ⟨ah, eah⟩ : ∃ ah, ahd fs j = ah := ⟨_, rfl⟩
      rw [eah] at ah1 ah3 ⊢
      have s9 := (q1.trans q2).trans q3
      have hl10 := s9 _ _ hl9
      have haty : atI (fs.map V.int) ((j : Nat) : Int) = some (.int y) := atI_nat (by rw [List.getElem?_map, hy]; rfl)
      -- the bent one
      refine ⟨_, rfl, _, rfl, l, _, _, .int y, rfl, rfl, SqL.of hl10, haty, _, _, rfl, rfl, _, rfl, _, rfl, _, rfl, l, _, _, .int y, rfl, rfl, SqL.of hl10, haty, _, _, rfl, rfl, _, rfl, _, _, rfl, rfl, _, _, rfl, _, rfl, _, _, rfl, rfl, .inr ⟨by decide, by decide⟩, _, _, rfl, rfl, by show 7 ≤ sizeLine; decide, fun r4 nr4 => ?_⟩
      have bentL : [V.int 0, (fun i j => V.int (i - j)) 0 y, .int ah, (fun i j => V.int (i + j)) y 1, .int (if 1 > ah - 1 then 1 else ah - 1), (fun i j => V.int (i * j)) ah 3, (fun i j => V.int (i - j)) 0 1] = [0, 0 - y, ah, y + 1, if 1 > ah - 1 then 1 else ah - 1, ah * 3, 0 - 1].map V.int := rfl
      rw [bentL] at *
      have q4 := same_new (o := .lst ([0, 0 - y, ah, y + 1, if 1 > ah - 1 then 1 else ah - 1, ah * 3, 0 - 1].map V.int)) nr4
      have r4p : r4 ≠ p := (d9.same s9).ne nr4
      refine ⟨_, rfl, p, _, 7, rfl, (d9.same s9).same q4, by omega, by decide, by decide, fun v11 H11 k11 d11 v110 v111 => ?_⟩
      obtain ⟨bt, hbt, ebt⟩ := atI_mem (xs := [0, 0 - y, ah, y + 1, if 1 > ah - 1 then 1 else ah - 1, ah * 3, 0 - 1]) v110 v111
      have btb : bt ≤ mx j + 1 := by
        have := mx_pos j
        simp only [List.mem_cons, List.not_mem_nil, or_false] at hbt
        rcases hbt with rfl | rfl | rfl | rfl | rfl | rfl | rfl
        · omega
        · omega
        · omega
        · omega
        · split <;> omega
        · omega
        · omega
      refine ⟨r4, _, _, .int bt, rfl, rfl, SqL.of (k11 _ _ r4p upd_same), ebt, ?_⟩
      have hl12 := k11 _ _ lp3 (q4 _ _ hl10)
      have kb12 := ((((kb8.trans k9).trans (.of s9)).trans (.of q4))).trans k11
      -- told with the bent one in it
      refine ⟨_, rfl, _, rfl, (j : Int), rfl, l, _, rfl, SqL.of hl12, fun r5 nr5 => ?_⟩
      rw [cut_take]
      have p5 := same_new (o := .lst ((fs.take j).map V.int)) nr5
      refine ⟨_, rfl, by show 1 ≤ sizeLine; decide, fun r6 nr6 => ?_⟩
      have p6 := same_new (o := .lst [.int bt]) nr6
      refine ⟨r5, r6, _, _, rfl, rfl, p6 _ _ upd_same, upd_same, ?_, fun r7 nr7 => ?_⟩
      · rw [List.length_map, ltj]
        exact Nat.le_of_lt (small1000 (by show j + 1 ≤ 1000; omega))
      have p7 := same_new (o := .lst ((fs.take j).map V.int ++ [.int bt])) nr7
      have p57 := (p5.trans p6).trans p7
      refine ⟨_, rfl, _, rfl, _, _, rfl, rfl, ((j + 1 : Nat) : Int), rfl, l, _, rfl, SqL.of (p57 _ _ hl12), fun r8 nr8 => ?_⟩
      rw [cut_drop]
      have p8 := same_new (o := .lst ((fs.drop (j + 1)).map V.int)) nr8
      refine ⟨r7, r8, _, _, rfl, rfl, p8 _ _ upd_same, upd_same, ?_, fun r9 nr9 => ?_⟩
      · rw [List.length_append, List.length_map, List.length_map, ltj, List.length_drop]
        exact Nat.le_of_lt (small1000 (by show j + 1 + _ ≤ 1000; omega))
      have p9 := same_new (o := .lst ((fs.take j).map V.int ++ [.int bt] ++ (fs.drop (j + 1)).map V.int)) nr9
      refine ⟨r9, _, rfl, SqL.of upd_same, fun t o no nt => ?_⟩
      have p10 := same_new (o := .frz o (.tup ((fs.take j).map V.int ++ [.int bt] ++ (fs.drop (j + 1)).map V.int))) nt
      have pAll := p57.trans (p8.trans (p9.trans p10))
      have tp : t ≠ p := (d11.same (p57.trans (p8.trans p9))).ne nt
      have ntH : H t = none := by
        cases e : H t with
        | none => rfl
        | some o2 =>
          have := (p57.trans (p8.trans p9)) _ _ (kb12 t o2 tp e)
          rw [nt] at this
          cases this
      have ew : (fs.take j).map V.int ++ [.int bt] ++ (fs.drop (j + 1)).map V.int = (fs.take j ++ [bt] ++ fs.drop (j + 1)).map V.int := by
        rw [List.map_append, List.map_append]
        rfl
      refine q t o (fs.take j ++ [bt] ++ fs.drop (j + 1)) _ (kb12.trans (.of pAll)) ((d11.same pAll).mono (by omega)) ntH no (by rw [← ew]; exact upd_same) ?_ fun i x hx => ?_
      · rw [List.length_append, List.length_append, ltj, List.length_drop]
        show j + 1 + _ ≤ 6
        omega
      · rw [List.append_assoc, List.getElem?_append, ltj] at hx
        by_cases c : i < j
        · rw [if_pos c, List.getElem?_take, if_pos c] at hx
          have := (dr i x hx).2
          omega
        · rw [if_neg c] at hx
          cases e : i - j with
          | zero =>
            rw [e] at hx
            cases hx
            have : i = j := by omega
            rw [this]
            exact btb
          | succ m =>
            rw [e] at hx
            have hx2 : (fs.drop (j + 1))[m]? = some x := hx
            rw [List.getElem?_drop] at hx2
            have ei : j + 1 + m = i := by omega
            rw [ei] at hx2
            have := (dr i x hx2).2
            omega
end
end Tg

set_option maxHeartbeats 1000000
namespace Tg
open PySem PySem.Spec PyProof.Rows L2
/-! ### widths that are right -/
theorem wW_none {ws : List Int} (h : wW 0 1 ws = none) : ∀ i : Nat, i ≤ ws.length → wW i (ahd ws i) (ws.drop i) = none
  | 0, _ => h
  | i + 1, l => by
    have ih := wW_none h i (by omega)
    obtain ⟨x, hx⟩ : ∃ x, ws[i]? = some x := ⟨_, List.getElem?_eq_getElem (by omega)⟩
    rw [wW_drop hx] at ih
    have ex : ahd ws (i + 1) = x := by
      show ws.getD i 1 = x
      rw [List.getD_eq_getElem?_getD, hx]
      rfl
    rw [ex]
    by_cases c : badW i (ahd ws i) x = true
    · rw [if_pos c] at ih
      cases ih
    · rw [if_neg c] at ih
      exact ih
theorem wW_good {ws : List Int} (h : wrongW ws = none) : ws ≠ [] ∧ ∀ (i : Nat) (x : Int), ws[i]? = some x → badW i (ahd ws i) x = false := by
  unfold wrongW at h
  by_cases e : ws = []
  · rw [if_pos e] at h
    cases h
  rw [if_neg e] at h
  refine ⟨e, fun i x hx => ?_⟩
  obtain ⟨l, _⟩ := List.getElem?_eq_some_iff.mp hx
  have z := wW_none h i (by omega)
  rw [wW_drop hx] at z
  by_cases c : badW i (ahd ws i) x = true
  · rw [if_pos c] at z
    cases z
  · exact Bool.eq_false_iff.mpr c
theorem mx_le {i : Nat} (h : i < 4) : mx i + 1 ≤ 10 ^ 13 := by
  match i, h with
  | 0, _ => decide
  | 1, _ => decide
  | 2, _ => decide
  | 3, _ => decide
theorem wok_of {ws : List Int} (h : wrongW ws = none) (b : ∀ (i : Nat) (x : Int), ws[i]? = some x → x ≤ mx i + 1) : WOk ws := by
  obtain ⟨ne, good⟩ := wW_good h
  have le : ws.length ≤ 4 := by
    refine Decidable.byContradiction fun c => ?_
    obtain ⟨x, hx⟩ : ∃ x, ws[4]? = some x := ⟨_, List.getElem?_eq_getElem (by omega)⟩
    exact (badW_no (good 4 x hx)).1 rfl
  refine ⟨ne, le, fun i x hx => ?_, fun i x y hx hy => ?_⟩
  · obtain ⟨l, _⟩ := List.getElem?_eq_some_iff.mp hx
    have h1 := (badW_no (good i x hx)).2.1
    have h2 := b i x hx
    have h3 := mx_le (i := i) (by omega)
    omega
  · obtain ⟨_, y1, up⟩ := badW_no (good (i + 1) y hy)
    obtain ⟨_, x1, _⟩ := badW_no (good i x hx)
    have ex : ahd ws (i + 1) = x := by
      show ws.getD i 1 = x
      rw [List.getD_eq_getElem?_getD, hx]
      rfl
    rw [ex] at up
    obtain ⟨u1, u2⟩ := up (Nat.succ_pos i)
    have := Int.emod_nonneg y (show x ≠ 0 by omega)
    exact ⟨u1, by omega⟩
/-- they rise -/
theorem wok_lt {ws : List Int} (ok : WOk ws) (i : Nat) (x y : Int) (hx : ws[i]? = some x) (hy : ws[i + 1]? = some y) : x < y := by
  obtain ⟨u1, u2⟩ := ok.up i x y hx hy
  have xp := (ok.pos i x hx).1
  have yp := (ok.pos _ y hy).1
  refine Decidable.byContradiction fun c => ?_
  have e : y % x = y := Int.emod_eq_of_lt (by omega) (by omega)
  omega
theorem wok_rise {ws : List Int} (ok : WOk ws) {i : Nat} {x : Int} (hx : ws[i]? = some x) : ∀ (d : Nat) (y : Int), ws[i + d + 1]? = some y → x < y
  | 0, y, hy => wok_lt ok i x y hx hy
  | d + 1, y, hy => by
    obtain ⟨l, _⟩ := List.getElem?_eq_some_iff.mp hy
    obtain ⟨z, hz⟩ : ∃ z, ws[i + d + 1]? = some z := ⟨_, List.getElem?_eq_getElem (by omega)⟩
    have h1 := wok_rise ok hx d z hz
    have h2 := wok_lt ok (i + d + 1) z y hz hy
    omega
theorem wok_nd {ws : List Int} (ok : WOk ws) : ws.Nodup := by
  refine List.pairwise_iff_getElem.mpr fun i j hi hj ij => ?_
  obtain ⟨d, rfl⟩ : ∃ d, j = i + d + 1 := ⟨j - i - 1, by omega⟩
  have := wok_rise ok (List.getElem?_eq_getElem hi) d _ (List.getElem?_eq_getElem hj)
  omega
end Tg

set_option maxHeartbeats 1000000
namespace Tg
open PySem PySem.Spec PyProof.Rows L2
/-! ### grains made -/
abbrev sGI : Stmt := inClass (topS 30) 0
abbrev NGI : List Str := ["self", "widths", "width"]
theorem scGI : FnScope NGI ["self", "widths"] (defScope sGI) := ⟨rfl, rfl, rfl, by decide +kernel, rfl, by decide +kernel, by decide +kernel⟩
structure TGr (K : PySem.W.Frag) (C : Addr) : Prop where
  cl : Cls K C
  no : ∀ n : Str, n ∈ (["widths", "busy", "kept", "horizons"] : List Str) → NoAttr K C n
/-- the cells kept at a width: none at any place -/
def KdE (H : Hp) (kd hd : Addr) (ws : List Int) : Prop := ∃ kvs, H kd = some (.dK kvs) ∧ Paired (fun (kv : Key × V) (w : Int) => kv.1 = .inl w ∧ ∃ e, kv.2 = .ref e ∧ H e = some (.dK []) ∧ e ≠ hd) kvs ws
theorem nx_atS {D : Ends} {σ : L2.St} {H H2 : Hp} (e : H = H2) (h : D.nx σ H2) : D.nx σ H := e ▸ h
section
variable {P : Program} {w : World} {K : PySem.W.Frag} {mg : Str → Option Value} {base : Heap} {C CG : Addr}
def spGI (K : PySem.W.Frag) (C CG : Addr) : Sp := fun vs H Q E => ∃ (x dx wa : Addr) (ws : List Int), vs = [.ref x, .ref wa] ∧ H x = some (.ins C dx []) ∧ SqT K H wa (ws.map V.int) ∧ ws.length ≤ 6 ∧ (∀ (i : Nat) (x : Int), ws[i]? = some x → x ≤ mx i + 1) ∧
  (wrongW ws = none → ∀ kd hd H', (∀ b o, b ≠ x → H b = some o → H' b = some o) → H kd = none → H hd = none → kd ≠ hd → H' x = some (.ins C dx [("widths", .ref wa), ("busy", .bl false), ("kept", .ref kd), ("horizons", .ref hd)]) → KdE H' kd hd ws → H' hd = some (.dK []) → Q .non H') ∧
  ∀ i, wrongW ws = some i → ∀ H' d, Same H H' → H d = none → H' d = some (.xd [("at", .int (i : Nat))]) → E (.ref CG) (some d) H'
theorem ok_gi {f : Addr} {fd : FuncData} {k : Nat} (F : Fun K "__init__" "Grains.__init__" sGI f fd) (T : TGr K C) (C_check_widths : CalR P w K mg base k "check_widths" ["widths"] (spCkWX K CG)) (m_tuple : mg "tuple" = none) :
    FnOk P w K mg base (L2.CX P w) (k + 1) f fd ["self", "widths"] (spGI K C CG) := by
  refine F.okX scGI (fun vs H Q E h => ?_) (fun cdv A outer s H vs Q E hr h => ?_)
  · obtain ⟨x, dx, wa, ws, rfl, _⟩ := h
    rfl
  · obtain ⟨x, dx, wa, ws, rfl, hx, hw, few, bd, qY, qN⟩ := h
    refine ⟨_, pss_cons (ps_expr (pe_calR (E := E) C_check_widths (hr.mono (by omega)) (by rfl) (passes_call (takes_of rfl rfl rfl rfl) (fun _ _ _ _ z => z)) (pa_cons (pv 1) pa_nil)))
      (pss_cons (ps_fld (pv 0) (pe_callTy call_tupleT (by rfl) m_tuple (by decide +kernel) (pa_cons (pv 1) pa_nil)) rfl)
      (pss_cons (ps_fld (pv 0) pe_bl rfl)
      (pss_cons (ps_fld (pv 0) (pe_dc (own := [("width", 2)]) (g := (gName 2)) (tt := tYes) rfl scGI.nd (pi_tup (pe_fld (pv 0) rfl)) (blkOk_by (own := [("width", 2)]) (N := NGI) (sc := defScope sGI) (by decide +kernel)) (fun _ _ _ _ _ => (pg_name (i := 2) scGI.nd rfl (.inl rfl))) (fun _ _ _ _ _ => pts_nil) (fun _ _ _ _ _ => (pv 2)) (fun _ _ _ _ _ => pe_dnewK)) rfl)
      (pss_one (ps_fld (pv 0) pe_dnewK rfl))))), ?_⟩
    refine ⟨_, rfl, wa, ws, rfl, hw, fun g H1 s1 => ?_, fun i g H1 d s1 nd' hd' => qN i g H1 d s1 nd' hd'⟩
    have hx1 := s1 _ _ hx
    have nd := wok_nd (wok_of g bd)
    refine ⟨_, rfl, wa, _, rfl, sqT_same s1 hw, _, rfl, x, C, dx, [], rfl, hx1, T.cl, T.no _ (by decide), (by show 0 < 1000; decide), ?_⟩
    obtain ⟨H2, e2⟩ : ∃ H2, upd H1 x (.ins C dx [("widths", .ref wa)]) = H2 := ⟨_, rfl⟩
    have hx2 : H2 x = some (.ins C dx [("widths", .ref wa)]) := by
      rw [← e2]
      exact upd_same
    have hw2 : SqT K H2 wa (ws.map V.int) := by
      rw [← e2]
      exact sqT_kt (KT.put hx1 nfix_ins) (sqT_same s1 hw)
    refine nx_atS e2 ?_
    refine ⟨_, rfl, x, C, dx, _, rfl, hx2, T.cl, T.no _ (by decide), (by show 1 < 1000; decide), ?_⟩
    obtain ⟨H3, e3⟩ : ∃ H3, upd H2 x (.ins C dx [("widths", .ref wa), ("busy", .bl false)]) = H3 := ⟨_, rfl⟩
    have hx3 : H3 x = some (.ins C dx [("widths", .ref wa), ("busy", .bl false)]) := by
      rw [← e3]
      exact upd_same
    have hw3 : SqT K H3 wa (ws.map V.int) := by
      rw [← e3]
      exact sqT_kt (KT.put hx2 nfix_ins) hw2
    refine nx_atS e3 ?_
    have keep3 : ∀ b o, b ≠ x → H b = some o → H3 b = some o := fun b o n e => by
      rw [← e3, upd_ne n, ← e2, upd_ne n]
      exact s1 _ _ e
    refine ⟨_, rfl, x, C, dx, _, .ref wa, rfl, hx3, T.cl, T.no _ (by decide), rfl, wa, rfl, ⟨_, hw3⟩, fun D nD => ?_⟩
    have big : 1000 < sizeLine := by decide
    refine walked_w (walk_tup (K := K) (a := wa) (xs := ws.map V.int)) (fun i Hc => Same H3 Hc ∧ ∃ kvs, Hc D = some (.dK kvs) ∧ Paired (fun (kv : Key × V) (w : Int) => kv.1 = .inl w ∧ ∃ e, kv.2 = .ref e ∧ Hc e = some (.dK []) ∧ e ≠ D ∧ H3 e = none) kvs (ws.take i)) ⟨same_new nD, [], upd_same, .nil⟩ (fun i Hc _ h => sqT_same h.1 hw3) ?_ ?_
    · rintro i y Hc Hd hi ⟨sc, kvs, hD, pr⟩ ⟨rfl, ey⟩
      rw [List.getElem?_map] at ey
      obtain ⟨w0, ew, rfl⟩ := Option.map_eq_some_iff.mp ey
      obtain ⟨il, ei⟩ := List.getElem?_eq_some_iff.mp ew
      have lk : kvs.length = i := by
        rw [Paired.length pr, List.length_take]
        omega
      refine ⟨rfl, yes_b (if_t ⟨_, rfl, fun e ne => ?_⟩)⟩
      have se := same_new (o := .dK []) ne
      have eD : e ≠ D := fun z => by
        rw [z, hD] at ne
        cases ne
      have keysEq : ∀ {l : List (Key × V)} {ts : List Int}, Paired (fun (kv : Key × V) (w : Int) => kv.1 = .inl w ∧ ∃ e, kv.2 = .ref e ∧ Hd e = some (.dK []) ∧ e ≠ D ∧ H3 e = none) l ts → l.map (·.1) = ts.map Sum.inl := fun h => by
        induction h with
        | nil => rfl
        | cons a t ih => rw [List.map_cons, List.map_cons, ih, a.1]
      have fresh : valV kvs (.inl w0) = none := by
        have z := valV_any (.inl w0) kvs
        cases ev : valV kvs (.inl w0) with
        | none => rfl
        | some v =>
          rw [ev] at z
          obtain ⟨kv, h1, h2⟩ := List.any_eq_true.mp z
          have h3 : (Sum.inl w0 : Key) ∈ kvs.map (·.1) := List.mem_map.mpr ⟨kv, h1, of_decide_eq_true h2⟩
          rw [keysEq pr] at h3
          obtain ⟨w1, h4, h5⟩ := List.mem_map.mp h3
          have e1 := Sum.inl.inj h5
          rw [e1] at h4
          obtain ⟨j, hj, ej⟩ := List.getElem_of_mem h4
          rw [List.length_take] at hj
          rw [List.getElem_take] at ej
          have := List.pairwise_iff_getElem.mp nd j i (by omega) il (by omega)
          exact absurd (ej.trans ei.symm) this
      refine ⟨kvs, .inl w0, rfl, se _ _ hD, by omega, same_put nD (sc.trans se), _, upd_same, ?_⟩
      rw [L2.putK_new _ fresh, show ws.take (i + 1) = ws.take i ++ [w0] from by rw [List.take_add_one, ew]; rfl]
      have app : ∀ {F : Key × V → Int → Prop} {l : List (Key × V)} {ts : List Int} {kv : Key × V} {w1 : Int}, Paired F l ts → F kv w1 → Paired F (l ++ [kv]) (ts ++ [w1]) := fun h g => by
        induction h with
        | nil => exact .cons g .nil
        | cons a t ih => exact .cons a ih
      refine app (L2.Paired.mapP pr fun kv w1 ⟨h1, e1, h2, h3, h4, h5⟩ => ⟨h1, e1, h2, (upd_ne h4).trans (se _ _ h3), h4, h5⟩) ⟨rfl, e, rfl, (upd_ne eD).trans upd_same, eD, sc.free ne⟩
    · rintro Hc ⟨sc, kvs, hD, pr⟩
      rw [List.length_map, List.take_length] at pr
      have hxc := sc _ _ hx3
      refine ⟨_, rfl, x, C, dx, _, rfl, hxc, T.cl, T.no _ (by decide), (by show 2 < 1000; decide), fun hd nh => ?_⟩
      have Dx : D ≠ x := fun z => by
        rw [z, hx3] at nD
        cases nD
      have hx' : hd ≠ x := fun z => by
        rw [z, upd_same] at nh
        cases nh
      have nh2 : Hc hd = none := (upd_ne hx').symm.trans nh
      have nh3 : H3 hd = none := sc.free nh2
      have Dh : D ≠ hd := fun z => by
        rw [z, nh2] at hD
        cases hD
      have old : ∀ b, b ≠ x → H3 b = none → H b = none := fun b n e => by
        cases e2 : H b with
        | none => rfl
        | some o =>
          have := keep3 b o n e2
          rw [e] at this
          cases this
      have st : ∀ b o, b ≠ x → b ≠ hd → Hc b = some o → (upd (upd (upd Hc x (.ins C dx (putF "kept" (.ref D) [("widths", .ref wa), ("busy", .bl false)]))) hd (.dK [])) x (.ins C dx (putF "horizons" (.ref hd) (putF "kept" (.ref D) [("widths", .ref wa), ("busy", .bl false)])))) b = some o := fun b o n1 n2 e => by
        rw [upd_ne n1, upd_ne n2, upd_ne n1]
        exact e
      refine ⟨_, rfl, x, C, dx, _, rfl, (upd_ne hx'.symm).trans upd_same, T.cl, T.no _ (by decide), (by show 3 < 1000; decide), ?_⟩
      refine qY g D hd _ (fun b o n e => ?_) (old D Dx nD) (old hd hx' nh3) Dh upd_same ⟨kvs, st _ _ Dx Dh hD, L2.Paired.mapP pr fun kv w1 ⟨h1, e1, h2, h3, h4, h5⟩ => ⟨h1, e1, h2, st _ _ (fun z => ?_) (fun z => ?_) h3, fun z => by rw [z, nh2] at h3; cases h3⟩⟩ ((upd_ne hx').trans upd_same)
      · have hb := sc _ _ (keep3 b o n e)
        exact st b o n (fun z => by rw [z, nh2] at hb; cases hb) hb
      · rw [z, hx3] at h5
        cases h5
      · rw [z, nh2] at h3
        cases h3
end
end Tg

set_option maxHeartbeats 1000000
namespace Tg
open PySem PySem.Spec PyProof.Rows L2
abbrev sInit : Stmt := inClass (topS 34) 0
theorem scInit : FnScope ["self", "widths", "keeps"] ["self", "widths", "keeps"] (defScope sInit) := ⟨rfl, rfl, rfl, by decide +kernel, rfl, by decide +kernel, by decide +kernel⟩
/-! ### the mathematics: the first wrong keep -/
section
variable {P : Program} {w : World} {K : PySem.W.Frag} {mg : Str → Option Value} {base : Heap} {C CK : Addr}
end
abbrev sGone : Stmt := inClass (topS 34) 2
theorem scGone : FnScope ["self", "width"] ["self", "width"] (defScope sGone) := ⟨rfl, rfl, rfl, by decide +kernel, rfl, by decide +kernel, by decide +kernel⟩
/-- a Keeping in the heap -/
def KpO (C : Addr) (H : Hp) (e wa ka ha : Addr) : Prop := ∃ dx, H e = some (.ins C dx [("widths", .ref wa), ("keeps", .ref ka), ("horizons", .ref ha)])
structure TKeep (K : PySem.W.Frag) (C : Addr) : Prop where
  cl : Cls K C
  nw : NoAttr K C "widths"
  nk : NoAttr K C "keeps"
  nh : NoAttr K C "horizons"
theorem gD {xs : List Int} {i : Nat} {d : Int} (h : i < xs.length) : xs.getD i d = xs[i] := by
  rw [List.getD_eq_getElem?_getD, List.getElem?_eq_getElem h]
  rfl
theorem getD_of {α : Type} {xs : List α} {i : Nat} {d x : α} (h : xs[i]? = some x) : xs.getD i d = x := by
  rw [List.getD_eq_getElem?_getD, h]
  rfl
theorem map_at {α : Type} {f : α → V} {xs : List α} {i : Nat} {v : V} (h : (xs.map f)[i]? = some v) : ∃ x, xs[i]? = some x ∧ v = f x := by
  rw [List.getElem?_map] at h
  obtain ⟨x, h1, h2⟩ := Option.map_eq_some_iff.mp h
  exact ⟨x, h1, h2.symm⟩
section
variable {P : Program} {w : World} {K : PySem.W.Frag} {mg : Str → Option Value} {base : Heap} {C CK CG : Addr}
theorem rep_none (n : Nat) : (List.replicate n [V.non]).flatten = (List.replicate n none).map vo := by
  induction n with
  | zero => rfl
  | succ n ih =>
    rw [List.replicate_succ, List.flatten_cons, ih, List.replicate_succ]
    rfl
theorem wr_none (many : Nat) : ∀ (m i : Nat) (a : Option Int), i + m = many → wr many i a (List.replicate m none) = none
  | 0, i, a, h => by
    show (if i < many then some i else none) = none
    rw [if_neg (by omega)]
  | m + 1, i, a, h => by
    rw [List.replicate_succ]
    show (if decide (i = many) = true ∨ okB a none = false then some i else wr many (i + 1) none (List.replicate m none)) = none
    have ok : okB a none = true := by cases a <;> rfl
    rw [ok, decide_eq_false (by omega), if_neg (by simp)]
    exact wr_none many m (i + 1) none (by omega)
theorem wr_nones {n : Nat} : wrong (List.replicate (n + 1) none) (n + 1) = none := wr_none (n + 1) (n + 1) 0 (some 0) (by omega)
def spInitX (K : PySem.W.Frag) (C CG : Addr) : Sp := fun vs H Q E => ∃ (p dx wa ka : Addr) (ws : List Int), vs = [.ref p, .ref wa, .ref ka] ∧ H p = some (.ins C dx []) ∧ SqT K H wa (ws.map V.int) ∧ ws.length ≤ 6 ∧ SqT K H ka ((List.replicate (ws.length + 1) none).map vo) ∧
  (wrongW ws = none → ∀ (ha : Addr) (H' : Hp), KpO C H' p wa ka ha → H' ha = some (.tup ((List.replicate (List.replicate (ws.length + 1) (none : Option Int)).length none).map vo)) → Kp p H H' → Q .non H') ∧
  ∀ i, wrongW ws = some i → ∀ H' d, Same H H' → H d = none → H' d = some (.xd [("at", .int (i : Nat))]) → E (.ref CG) (some d) H'
theorem ok_initX {f : Addr} {fd : FuncData} {k : Nat} (F : Fun K "__init__" "Keeping.__init__" sInit f fd) (T : TKeep K C) (C_check_widths : CalR P w K mg base k "check_widths" ["widths"] (spCkWX K CG)) (C_check_keeps : CalR P w K mg base k "check_keeps" ["keeps", "many"] (spCkK K CK)) (m_len : mg "len" = none) (m_tuple : mg "tuple" = none) :
    FnOk P w K mg base (L2.CX P w) (k + 1) f fd ["self", "widths", "keeps"] (spInitX K C CG) := by
  refine F.okX scInit (fun vs H Q E h => ?_) (fun cdv A outer s H vs Q E hr h => ?_)
  · obtain ⟨p, dx, wa, ka, ws, rfl, _⟩ := h
    rfl
  · obtain ⟨p, dx, wa, ka, ws, rfl, hp, hw, few, hk, qY, qN⟩ := h
    obtain ⟨ks, eks⟩ : ∃ ks : List (Option Int), List.replicate (ws.length + 1) none = ks := ⟨_, rfl⟩
    rw [eks] at hk qY
    refine ⟨_, pss_cons (ps_expr (pe_calR (E := E) C_check_widths (hr.mono (by omega)) (by rfl) (passes_call (takes_of rfl rfl rfl rfl) (fun _ _ _ _ z => z)) (pa_cons (pv 1) pa_nil)))
      (pss_cons (ps_expr (pe_calR (E := E) C_check_keeps (hr.mono (by omega)) (by rfl) (passes_call (takes_of rfl rfl rfl rfl) (fun _ _ _ _ z => z)) (pa_cons (pv 2) (pa_cons (pe_op op_add (pe_callB call_len_seq (by rfl) m_len (by decide +kernel) (pa_cons (pv 1) pa_nil)) pe_int) pa_nil))))
      (pss_cons (ps_fld (pv 0) (pe_callTy call_tuple_of (by rfl) m_tuple (by decide +kernel) (pa_cons (pv 1) pa_nil)) rfl)
      (pss_cons (ps_fld (pv 0) (pe_callTy call_tuple_of (by rfl) m_tuple (by decide +kernel) (pa_cons (pv 2) pa_nil)) rfl)
      (pss_one (ps_fld (pv 0) (pe_op op_repT (pe_tup (pa_cons pe_non pa_nil)) (pe_callB call_len_seq (by rfl) m_len (by decide +kernel) (pa_cons (pe_fld (pv 0) rfl) pa_nil))) rfl))))), ?_⟩
    have lw : (ws.map V.int).length = ws.length := List.length_map ..
    have lk : (ks.map vo).length = ks.length := List.length_map ..
    refine ⟨_, rfl, wa, ws, rfl, hw, fun gw H1 s1 => ?_, fun i gw H1 d s1 nd hd => qN i gw H1 d s1 nd hd⟩
    have l4 : ws.length ≤ 6 := few
    refine ⟨_, rfl, _, rfl, wa, _, rfl, .inr (sqT_same s1 hw), _, _, rfl, rfl, ka, ks, ws.length + 1, (by rw [lw]; rfl), sqT_same s1 hk, fun g H2 s2 => ?_, fun i g H2 d s2 nd hd => by rw [← eks, wr_nones] at g; cases g⟩
    have hl : ks.length = ws.length + 1 := by
      have z := wr_len (Nat.zero_le _) g
      omega
    have l0 := List.length_pos_iff.mpr (wW_good gw).1
    have q := qY gw
    have s12 := s1.trans s2
    have hp2 := s12 _ _ hp
    refine ⟨_, rfl, wa, _, rfl, .inr ⟨sqT_same s12 hw, _, rfl, p, C, dx, [], rfl, hp2, T.cl, T.nw, (by show 0 < 1000; decide), ?_⟩⟩
    obtain ⟨H3, e3⟩ : ∃ H3, upd H2 p (.ins C dx (putF "widths" (.ref wa) [])) = H3 := ⟨_, rfl⟩
    have hp3 : H3 p = some (.ins C dx [("widths", .ref wa)]) := by
      rw [← e3]
      exact upd_same
    have k3 : Kp p H H3 := by
      rw [← e3]
      exact (Kp.of s12).trans Kp.put
    have kt3 : KT H H3 := KT.kp k3 hp nfix_ins
    rw [e3]
    refine ⟨_, rfl, ka, _, rfl, .inr ⟨sqT_kt kt3 hk, _, rfl, p, C, dx, _, rfl, hp3, T.cl, T.nk, (by show 1 < 1000; decide), ?_⟩⟩
    obtain ⟨H4, e4⟩ : ∃ H4, upd H3 p (.ins C dx (putF "keeps" (.ref ka) [("widths", .ref wa)])) = H4 := ⟨_, rfl⟩
    have hp4 : H4 p = some (.ins C dx [("widths", .ref wa), ("keeps", .ref ka)]) := by
      rw [← e4]
      exact upd_same
    have k4 : Kp p H H4 := by
      rw [← e4]
      exact k3.trans Kp.put
    have kt4 : KT H H4 := KT.kp k4 hp nfix_ins
    rw [e4]
    refine ⟨by show 1 ≤ sizeLine; decide, fun t nt => ?_⟩
    have s5 := same_new (o := .tup [.non]) nt
    have hp5 := s5 _ _ hp4
    refine ⟨_, rfl, p, C, dx, _, .ref ka, rfl, hp5, T.cl, T.nk, rfl, ka, _, rfl, .inr (sqT_same s5 (sqT_kt kt4 hk)), ?_⟩
    refine ⟨t, _, [.non], rfl, rfl, SqT.of upd_same, (fun z => nomatch z), by rw [lk]; omega, by rw [lk]; omega, (by show 1 ≤ 1000; decide), fun r nr => ?_⟩
    have s6 := same_new (o := .tup (List.replicate (((ks.map vo).length : Nat) : Int).toNat [V.non]).flatten) nr
    have hp6 := s6 _ _ hp5
    refine ⟨_, rfl, p, C, dx, _, rfl, hp6, T.cl, T.nh, (by show 2 < 1000; decide), ?_⟩
    have npr : p ≠ r := ne_of_none hp5 nr
    refine q r _ ⟨dx, upd_same⟩ ?_ ((k4.trans (Kp.of (s5.trans s6))).trans Kp.put)
    rw [upd_ne npr.symm, upd_same, lk, Int.toNat_natCast, rep_none]
end
end Tg

set_option maxHeartbeats 1000000
namespace Tg
open PySem PySem.Spec PyProof.Rows L2
/-! ### grains that keep nothing: cells asked for -/
abbrev sCIx : Stmt := inClass (topS 30) 8
abbrev sCA : Stmt := inClass (topS 30) 10
abbrev sKC : Stmt := inClass (topS 30) 11
abbrev sSA : Stmt := inClass (topS 30) 3
theorem scCI : FnScope ["self"] ["self"] (defScope sCIx) := ⟨rfl, rfl, rfl, by decide +kernel, rfl, by decide +kernel, by decide +kernel⟩
theorem scKC : FnScope ["self", "place", "width"] ["self", "place", "width"] (defScope sKC) := ⟨rfl, rfl, rfl, by decide +kernel, rfl, by decide +kernel, by decide +kernel⟩
theorem scCA : FnScope ["self", "place", "width", "time"] ["self", "place", "width", "time"] (defScope sCA) := ⟨rfl, rfl, rfl, by decide +kernel, rfl, by decide +kernel, by decide +kernel⟩
theorem scSA : FnScope ["self", "place", "width", "time", "cell"] ["self", "place", "width", "time"] (defScope sSA) := ⟨rfl, rfl, rfl, by decide +kernel, rfl, by decide +kernel, by decide +kernel⟩
/-- by the widths the dicts at es -/
def kvz (ws : List Int) (es : List Addr) : List (Key × V) := (ws.zip es).map fun p => ((.inl p.1 : Key), V.ref p.2)
/-- at e: nothing, or a place with nothing -/
def EmpA (H : Hp) (kd hd : Addr) (es : List Addr) (e : Addr) : Prop := H e = some (.dK []) ∨ ∃ e2, e2 ∉ es ∧ e2 ≠ kd ∧ e2 ≠ hd ∧ H e = some (.dK [(.inl 1, .ref e2)]) ∧ H e2 = some (.dK [])
structure KdS (H : Hp) (kd hd : Addr) (ws : List Int) (es : List Addr) : Prop where
  at_ : H kd = some (.dK (kvz ws es))
  len : es.length = ws.length
  k : kd ∉ es
  h : hd ∉ es
  ne : kd ≠ hd
  all : ∀ e, e ∈ es → EmpA H kd hd es e
theorem EmpA.same {H H' : Hp} (s : Same H H') {kd hd e : Addr} {es : List Addr} (h : EmpA H kd hd es e) : EmpA H' kd hd es e := by
  rcases h with h3 | ⟨e2, n1, n2, n3, h4, h5⟩
  · exact .inl (s _ _ h3)
  · exact .inr ⟨e2, n1, n2, n3, s _ _ h4, s _ _ h5⟩
theorem KdS.same {H H' : Hp} {kd hd : Addr} {ws : List Int} {es : List Addr} (s : Same H H') (h : KdS H kd hd ws es) : KdS H' kd hd ws es :=
  ⟨s _ _ h.at_, h.len, h.k, h.h, h.ne, fun e he => (h.all e he).same s⟩
theorem kvz_val {w : Int} : ∀ {ws : List Int} {es : List Addr}, es.length = ws.length → w ∈ ws → ∃ e, e ∈ es ∧ valV (kvz ws es) (.inl w) = some (.ref e)
  | [], _, _, h => nomatch h
  | _ :: _, [], l, _ => nomatch l
  | w1 :: ws, e :: es, l, h => by
    by_cases c : w1 = w
    · subst c
      exact ⟨e, List.mem_cons_self, valV_pos (p := ((.inl w1 : Key), V.ref e)) rfl⟩
    · obtain ⟨e', g1, g2⟩ := kvz_val (ws := ws) (es := es) (Nat.succ.inj l) (by
        obtain z | z := List.mem_cons.mp h
        · exact absurd z.symm c
        · exact z)
      exact ⟨e', List.mem_cons_of_mem _ g1, by
        show valV (((.inl w1 : Key), V.ref e) :: kvz ws es) (.inl w) = _
        rw [valV_neg (fun y => c (Sum.inl.inj y))]
        exact g2⟩
/-- what was made is such -/
theorem kds_made {H : Hp} {kd hd : Addr} {ws : List Int} (h : KdE H kd hd ws) (ne : kd ≠ hd) (n0 : ws ≠ []) : ∃ es, KdS H kd hd ws es := by
  obtain ⟨kvs, hk, pr⟩ := h
  have cut : ∀ {kvs : List (Key × V)} {ws : List Int}, Paired (fun (kv : Key × V) (w : Int) => kv.1 = .inl w ∧ ∃ e, kv.2 = .ref e ∧ H e = some (.dK []) ∧ e ≠ hd) kvs ws → ∃ es, kvs = kvz ws es ∧ es.length = ws.length ∧ ∀ e, e ∈ es → H e = some (.dK []) ∧ e ≠ hd := fun h => by
    induction h with
    | nil => exact ⟨[], rfl, rfl, fun _ z => nomatch z⟩
    | cons a t ih =>
      obtain ⟨es, h1, h2, h3⟩ := ih
      obtain ⟨a1, e, a2, a3, a4⟩ := a
      refine ⟨e :: es, ?_, by rw [List.length_cons, h2, List.length_cons], fun x hx => ?_⟩
      · rw [h1]
        exact congrArg (· :: kvz _ es) (Prod.ext a1 a2)
      · rcases List.mem_cons.mp hx with z | z
        · rw [z]
          exact ⟨a3, a4⟩
        · exact h3 x z
  obtain ⟨es, h1, h2, h3⟩ := cut pr
  rw [h1] at hk
  refine ⟨es, hk, h2, fun z => ?_, fun z => (h3 _ z).2 rfl, ne, fun e he => .inl (h3 e he).1⟩
  have := (h3 _ z).1
  rw [hk] at this
  match ws, es, n0, h2, this with
  | _ :: _, _ :: _, _, _, this => cases this
  | [], _, n0, _, _ => exact n0 rfl
/-- grains, not being renewed, n times let go at most -/
structure GrO (K : PySem.W.Frag) (C : Addr) (H : Hp) (g wa kd hd : Addr) (ws : List Int) (es : List Addr) (n : Nat) : Prop where
  gi : ∃ dx, H g = some (.ins C dx [("widths", .ref wa), ("busy", .bl false), ("kept", .ref kd), ("horizons", .ref hd)])
  gw : SqT K H wa (ws.map V.int)
  gk : KdS H kd hd ws es
  gh : ∃ hv : List (Key × V), H hd = some (.dK hv) ∧ hv.length ≤ n ∧ ∀ k v, valV hv k = some v → ∃ i : Int, v = .int i
theorem GrO.same {K : PySem.W.Frag} {C : Addr} {H H' : Hp} {g wa kd hd : Addr} {ws : List Int} {es : List Addr} {n : Nat} (s : Same H H') (h : GrO K C H g wa kd hd ws es n) : GrO K C H' g wa kd hd ws es n := by
  obtain ⟨⟨dx, h1⟩, h2, h3, hv, h4, h5⟩ := h
  exact ⟨⟨dx, s _ _ h1⟩, sqT_same s h2, h3.same s, hv, s _ _ h4, h5⟩
section
variable {P : Program} {w : World} {K : PySem.W.Frag} {mg : Str → Option Value} {base : Heap} {C CG : Addr}
def spCIx (K : PySem.W.Frag) (C : Addr) : Sp := fun vs H Q _ => ∃ (g wa kd hd : Addr) (ws : List Int) (es : List Addr) (n : Nat), vs = [.ref g] ∧ GrO K C H g wa kd hd ws es n ∧ Q .non H
theorem ok_ci {f : Addr} {fd : FuncData} {k : Nat} (F : Fun K "check_idle" "Grains.check_idle" sCIx f fd) (T : TGr K C) : FnOk P w K mg base CX0 (k + 1) f fd ["self"] (spCIx K C) := by
  refine F.ok scCI (fun vs H Q E h => ?_) (fun cdv A outer s H vs Q E hr h => ?_)
  · obtain ⟨g, wa, kd, hd, ws, es, n, rfl, _⟩ := h
    rfl
  · obtain ⟨g, wa, kd, hd, ws, es, n, rfl, ⟨⟨dx, hg⟩, _⟩, q⟩ := h
    refine ⟨_, pss_one (ps_if (pt_val (pe_fld (pv 0) rfl))
        (pss_one ps_dead)
        pss_nil), ?_⟩
    exact ⟨_, rfl, g, C, dx, _, .bl false, rfl, hg, T.cl, T.no _ (by decide), rfl, false, rfl, if_f q⟩
def spKC (K : PySem.W.Frag) (C : Addr) : Sp := fun vs H Q _ => ∃ (g wa kd hd : Addr) (ws : List Int) (es : List Addr) (n : Nat) (x : Int), vs = [.ref g, .int 1, .int x] ∧ GrO K C H g wa kd hd ws es n ∧ x ∈ ws ∧ ∀ r H', Same H H' → H' r = some (.dK []) → Q (.ref r) H'
theorem ok_kc {f : Addr} {fd : FuncData} {k : Nat} (F : Fun K "kept_cells" "Grains.kept_cells" sKC f fd) (T : TGr K C) : FnOk P w K mg base CX0 (k + 1) f fd ["self", "place", "width"] (spKC K C) := by
  refine F.ok scKC (fun vs H Q E h => ?_) (fun cdv A outer s H vs Q E hr h => ?_)
  · obtain ⟨g, wa, kd, hd, ws, es, n, x, rfl, _⟩ := h
    rfl
  · obtain ⟨g, wa, kd, hd, ws, es, n, x, rfl, ⟨⟨dx, hg⟩, _, ks, _⟩, hx, q⟩ := h
    have hu := hu_of hr
    refine ⟨_, pss_one (ps_ret (pe_dget2 hu (pe_dget hu (pe_fld (pv 0) rfl) (pv 2) (fun _ _ => rfl)) (pv 1) pe_dnewK ⟨rfl, rfl, rfl, rfl⟩)), ?_⟩
    obtain ⟨e, em, ev⟩ := kvz_val ks.len hx
    have he := ks.all e em
    have gd := DGet.k (k := .inl x) ks.at_
    rw [ev] at gd
    refine ⟨_, rfl, g, C, dx, _, .ref kd, rfl, hg, T.cl, T.no _ (by decide), rfl, _, rfl, kd, _, rfl, gd, e, rfl, ?_⟩
    rcases he with he | ⟨e2, _, _, _, he, h2⟩
    · exact ⟨.inl ⟨_, .inl he⟩, _, rfl, fun nw nn => ⟨_, DGet.k (k := .inl 1) ((same_new nn) _ _ he), q nw _ (same_new nn) upd_same⟩⟩
    · refine ⟨.inl ⟨_, .inl he⟩, _, rfl, fun nw nn => ⟨_, DGet.k (k := .inl 1) ((same_new nn) _ _ he), ?_⟩⟩
      rw [valV_pos (p := ((.inl 1 : Key), V.ref e2)) rfl]
      exact q e2 _ (same_new nn) ((same_new nn) _ _ h2)
/-- of a cell that isn't there, or of a width that isn't -/
def NoCell (K : PySem.W.Frag) (C CG : Addr) (v : V) : Sp := fun vs H Q E => ∃ (g wa kd hd : Addr) (ws : List Int) (es : List Addr) (n : Nat) (x t : Int), vs = [.ref g, .int 1, .int x, .int t] ∧ GrO K C H g wa kd hd ws es n ∧ (∀ y, y ∈ ws → 1 ≤ y) ∧ (x ∈ ws → ∀ H', Same H H' → Q v H') ∧
  (x ∉ ws → ∀ H' d, Same H H' → H d = none → H' d = some (.xd [("at", .int x)]) → E (.ref CG) (some d) H')
theorem ok_ca {f : Addr} {fd : FuncData} {k : Nat} (F : Fun K "cell_at" "Grains.cell_at" sCA f fd) (T : TGr K C) (C_check_width : CalR P w K mg base k "check_width" ["widths", "width"] (spCkwX K CG)) (M_kept_cells : CalM P w K mg base k C "kept_cells" ["self", "place", "width"] (spKC K C)) (C_cell_of : Cal P w K mg base k "cell_of" ["time", "width"] spCell) :
    FnOk P w K mg base (L2.CX P w) (k + 1) f fd ["self", "place", "width", "time"] (NoCell K C CG .non) := by
  refine F.okX scCA (fun vs H Q E h => ?_) (fun cdv A outer s H vs Q E hr h => ?_)
  · obtain ⟨g, wa, kd, hd, ws, es, n, x, t, rfl, _⟩ := h
    rfl
  · obtain ⟨g, wa, kd, hd, ws, es, n, x, t, rfl, gr, pos, qY, qN⟩ := h
    have hu := hu_of hr
    obtain ⟨⟨dx, hg⟩, hw, _⟩ := id gr
    refine ⟨_, pss_cons (ps_expr (pe_calR (E := E) C_check_width (hr.mono (by omega)) (by rfl) (passes_call (takes_of rfl rfl rfl rfl) (fun _ _ _ _ z => z)) (pa_cons (pe_fld (pv 0) rfl) (pa_cons (pv 2) pa_nil))))
      (pss_one (ps_ret (pe_dget1 hu (pe_calM (pv 0) T.cl M_kept_cells (hr.mono (by omega)) (pa_cons (pv 1) (pa_cons (pv 2) pa_nil))) (pe_cal C_cell_of (hr.mono (by omega)) (by rfl) (pa_cons (pv 3) (pa_cons (pv 2) pa_nil))) ⟨rfl, rfl, rfl, rfl⟩))), ?_⟩
    refine ⟨_, rfl, g, C, dx, _, .ref wa, rfl, hg, T.cl, T.no _ (by decide), rfl, _, rfl, wa, ws, x, rfl, hw, fun hx => ?_, fun hx => qN hx⟩
    refine ⟨_, rfl, g, dx, _, rfl, hg, rfl, _, rfl, _, rfl, g, wa, kd, hd, ws, es, n, x, rfl, gr, hx, fun r H1 s1 hr1 => ?_⟩
    exact ⟨r, rfl, .inl ⟨_, .inl hr1⟩, _, rfl, _, rfl, t, x, rfl, by have := pos x hx; omega, _, DGet.k (k := .inl (t - t % x)) hr1, qY hx _ s1⟩
theorem ok_sa {f : Addr} {fd : FuncData} {k : Nat} (F : Fun K "since_at" "Grains.since_at" sSA f fd) (T : TGr K C) (M_cell_at : CalMR P w K mg base k C "cell_at" ["self", "place", "width", "time"] (NoCell K C CG .non)) : FnOk P w K mg base (L2.CX P w) (k + 1) f fd ["self", "place", "width", "time"] (NoCell K C CG (.int 0)) := by
  refine F.okX scSA (fun vs H Q E h => ?_) (fun cdv A outer s H vs Q E hr h => ?_)
  · obtain ⟨g, wa, kd, hd, ws, es, n, x, t, rfl, _⟩ := h
    rfl
  · obtain ⟨g, wa, kd, hd, ws, es, n, x, t, rfl, gr, pos, qY, qN⟩ := h
    obtain ⟨⟨dx, hg⟩, hw, _⟩ := id gr
    refine ⟨_, pss_cons (ps_set (i := 4) scSA.nd rfl (.inl rfl) (pe_calMR (E := E) (lets := passes_call (takes_of rfl rfl rfl rfl) (fun _ _ _ _ z => z)) (pv 0) T.cl M_cell_at (hr.mono (by omega)) (pa_cons (pv 1) (pa_cons (pv 2) (pa_cons (pv 3) pa_nil)))))
      (pss_one (ps_ret (pe_ifExp (pt_cmpR op_isN (pv 4) pe_non (nomark _)) pe_int (pe_ix ix_list (pv 4) pe_int (fun _ _ => rfl))))), ?_⟩
    refine ⟨_, rfl, g, dx, _, rfl, hg, rfl, _, rfl, _, rfl, _, rfl, g, wa, kd, hd, ws, es, n, x, t, rfl, gr, pos, fun hx H1 s1 => ?_, fun hx => qN hx⟩
    exact ⟨_, rfl, rfl, true, rfl, if_t (qY hx H1 s1)⟩
end
end Tg

set_option maxHeartbeats 1000000
namespace Tg
open PySem PySem.Spec PyProof.Rows L2
abbrev sFin : Stmt := inClass (topS 34) 3
theorem scFin : FnScope ["self", "time", "grain", "horizon"] ["self", "time"] (defScope sFin) := ⟨rfl, rfl, rfl, by decide +kernel, rfl, by decide +kernel, by decide +kernel⟩
def cnd (h : Option Int) (t : Int) : Bool :=
  match h with
  | none => true
  | some x => decide (x ≤ t)
def fin : List Int → List (Option Int) → Int → Option Int
  | g :: gs, h :: hs, t => if cnd h t = true then some g else fin gs hs t
  | _, _, _ => none
def rCatU (K : PySem.W.Frag) : R2 := fun x y H Q => ∃ a b xs ys, x = .ref a ∧ y = .ref b ∧ SqT K H a xs ∧ SqT K H b ys ∧ xs.length + ys.length ≤ sizeLine ∧ ∀ p H', Same H H' → SqT K H' p (xs ++ ys) → Q (.ref p) H'
theorem op_catU {X : Cx} : OpR X (binaryOp .Add) (rCatU X.K) := by
  rintro pins s σ H _ _ v u Q I rx ry ⟨a, b, xs, ys, rfl, rfl, ha, hb, hz, q⟩
  refine op_catA pins s σ H _ _ v u Q I rx ry ⟨a, b, xs, ys, rfl, rfl, ha, hb, hz, fun e => q b H (Same.refl _) (by rw [e]; exact hb), fun _ e => q a H (Same.refl _) (by rw [e, List.append_nil]; exact ha), fun _ _ p np => q p _ (same_new np) (SqT.of upd_same)⟩
section
variable {P : Program} {w : World} {K : PySem.W.Frag} {mg : Str → Option Value} {base : Heap} {C : Addr}
def spFin (K : PySem.W.Frag) (C : Addr) : Sp := fun vs H Q _ => ∃ (e wa ka ha : Addr) (ws : List Int) (hs : List (Option Int)) (t : Int), vs = [.ref e, .int t] ∧ KpO C H e wa ka ha ∧ SqT K H wa (ws.map V.int) ∧ ws.length ≤ 4 ∧ SqT K H ha (hs.map vo) ∧ hs.length = ws.length + 1 ∧ ∀ H', Same H H' → Q (vo (fin (0 :: ws) hs t)) H'
theorem fin_drop {gs : List Int} {hs : List (Option Int)} {t : Int} {i : Nat} {g : Int} {h : Option Int} (e1 : gs[i]? = some g) (e2 : hs[i]? = some h) : fin (gs.drop i) (hs.drop i) t = if cnd h t = true then some g else fin (gs.drop (i + 1)) (hs.drop (i + 1)) t := by
  obtain ⟨l1, rfl⟩ := List.getElem?_eq_some_iff.mp e1
  obtain ⟨l2, rfl⟩ := List.getElem?_eq_some_iff.mp e2
  rw [List.drop_eq_getElem_cons l1, List.drop_eq_getElem_cons l2]
  rfl
theorem ok_fin {f : Addr} {fd : FuncData} {k : Nat} (F : Fun K "finest" "Keeping.finest" sFin f fd) (T : TKeep K C) (m_zip : mg "zip" = none) : FnOk P w K mg base CX0 (k + 1) f fd ["self", "time"] (spFin K C) := by
  refine F.ok scFin (fun vs H Q E h => ?_) (fun cdv A outer s H vs Q E hr h => ?_)
  · obtain ⟨e, wa, ka, ha, ws, hs, t, rfl, _⟩ := h
    rfl
  · obtain ⟨e, wa, ka, ha, ws, hs, t, rfl, ⟨dx, he⟩, hw, l4, hh, lh, q⟩ := h
    refine ⟨_, pss_cons (ps_for PassesOwn.never rfl (RZ.pi_zipA (by rfl) m_zip (pa_cons (pe_op op_catU (pe_tup (pa_cons pe_int pa_nil)) (pe_fld (pv 0) rfl)) (pa_cons (pe_fld (pv 0) rfl) pa_nil))) (pg_tup rfl (pgs_cons (pg_name (i := 2) scFin.nd rfl (.inl rfl)) (pgs_cons (pg_name (i := 3) scFin.nd rfl (.inl rfl)) pgs_nil)))
        (pss_one (ps_if (PW.pt (pw_or (pt_cmpR op_isN (pv 3) pe_non (nomark _)) (pw_or1 (pt_cmpR op_le (pv 3) (pv 1) (nomark _)))))
          (pss_one (ps_ret (pv 2)))
          pss_nil)))
      (pss_one (ps_ret pe_non)), ?_⟩
    refine ⟨by show 1 ≤ sizeLine; decide, fun p np => ?_⟩
    have s1 := same_new (o := .tup [V.int 0]) np
    have he1 := s1 _ _ he
    refine ⟨_, rfl, e, C, dx, _, .ref wa, rfl, he1, T.cl, T.nw, rfl, p, wa, _, _, rfl, rfl, SqT.of upd_same, sqT_same s1 hw, (by rw [List.length_map]; exact Nat.le_of_lt (small1000 (by show 1 + ws.length ≤ 1000; omega))), fun g H2 s2 hg => ?_⟩
    have hg' : SqT K H2 g ((0 :: ws).map V.int) := hg
    have s12 := s1.trans s2
    have hh2 := sqT_same s12 hh
    refine ⟨_, rfl, e, C, dx, _, .ref ha, rfl, s12 _ _ he, T.cl, T.nh, rfl, g, ha, _, _, rfl, .inr ⟨hg', hh2, ?_⟩⟩
    refine for_it (walk_zipTT (K := K) (a := g) (b := ha) (xs := (0 :: ws).map V.int) (ys := hs.map vo) (by rw [List.length_map, List.length_map, lh]; rfl)) (fun i σ H3 => ∃ z2 z3 : Option V, σ = [some (.ref e), some (.int t), z2, z3] ∧ Same H2 H3 ∧ fin ((0 :: ws).drop i) (hs.drop i) t = fin (0 :: ws) hs t) ⟨none, none, rfl, Same.refl _, rfl⟩ ?_ ?_ ?_
    · rintro i σ H3 _ ⟨_, _, _, s3, _⟩
      exact ⟨sqT_same s3 hg', sqT_same s3 hh2⟩
    · rintro i x σ H3 H4 hi ⟨z2, z3, rfl, s3, ef⟩ ⟨tp, x1, x2, rfl, nT, rfl, f1, f2⟩
      obtain ⟨gr, eg, rfl⟩ := map_at f1
      obtain ⟨h, eh, rfl⟩ := map_at f2
      have s4 : Same H2 (upd H3 tp (.tup [V.int gr, vo h])) := s3.trans (same_new nT)
      rw [fin_drop eg eh] at ef
      refine ⟨tp, _, rfl, SqT.of upd_same, rfl, _, _, rfl, _, _, rfl, rfl, ?_⟩
      have yes : cnd h t = true → Q (V.int gr) (upd H3 tp (.tup [V.int gr, vo h])) := fun c => by
        rw [if_pos c] at ef
        have := q _ (s12.trans s4)
        rw [← ef] at this
        exact this
      have nos : cnd h t = false → ∃ z2 z3 : Option V, [some (V.ref e), some (V.int t), some (V.int gr), some (vo h)] = [some (.ref e), some (.int t), z2, z3] ∧ Same H2 (upd H3 tp (.tup [V.int gr, vo h])) ∧ fin ((0 :: ws).drop (i + 1)) (hs.drop (i + 1)) t = fin (0 :: ws) hs t := fun c => by
        rw [if_neg (by rw [c]; decide)] at ef
        exact ⟨_, _, rfl, s4, ef⟩
      cases h with
      | none => exact ⟨_, rfl, rfl, _, rfl, if_y rfl (if_t ⟨_, rfl, yes rfl⟩)⟩
      | some x =>
        refine ⟨_, rfl, rfl, _, rfl, if_n rfl ⟨_, rfl, _, rfl, _, _, rfl, rfl, _, rfl, ite2 (fun c => ?_) (fun c => ?_)⟩⟩
        · exact ⟨_, rfl, yes c⟩
        · exact nos (Bool.eq_false_iff.mpr c)
    · rintro σ H3 ⟨z2, z3, rfl, s3, ef⟩
      have e0 : fin (0 :: ws) hs t = none := by
        rw [← ef, List.length_map, List.drop_length]
        rfl
      have := q _ (s12.trans s3)
      rw [e0] at this
      exact this
end
end Tg

set_option maxHeartbeats 1000000
namespace Tg
open PySem PySem.Spec PyProof.Rows L2
/-! ### gone_before, of a width that may be refused -/
def spGoneX (K : PySem.W.Frag) (C CG : Addr) : Sp := fun vs H Q E => ∃ (e wa ka ha : Addr) (ws : List Int) (x : V), vs = [.ref e, x] ∧ KpO C H e wa ka ha ∧ NdT H wa (ws.map V.int) ∧ ws.Nodup ∧ SqT K H ha ((List.replicate (ws.length + 1) none).map vo) ∧
  ((x = .non ∧ Q .non H) ∨ ∃ y : Int, x = .int y ∧ (y ∈ ws → Q .non H) ∧ (y ∉ ws → ∀ H' d, Same H H' → H d = none → H' d = some (.xd [("at", .int y)]) → E (.ref CG) (some d) H'))
section
variable {P : Program} {w : World} {K : PySem.W.Frag} {mg : Str → Option Value} {base : Heap} {C CG : Addr}
theorem ok_goneX {f : Addr} {fd : FuncData} {dvs : List V} {kws : List (Str × V)} {k : Nat} (F : FunD K "gone_before" "Keeping.gone_before" (defArgs sGone) (defBody sGone) (defScope sGone) dvs kws f fd) (T : TKeep K C) (C_check_width : CalR P w K mg base k "check_width" ["widths", "width"] (spCkwX K CG)) :
    FnOk P w K mg base (L2.CX P w) (k + 1) f fd ["self", "width"] (spGoneX K C CG) := by
  refine F.ok scGone (fun vs H Q E h => ?_) (fun cdv A outer s H vs Q E hr h => ?_)
  · obtain ⟨e, wa, ka, ha, ws, x, rfl, _⟩ := h
    rfl
  · obtain ⟨e, wa, ka, ha, ws, x, rfl, ⟨dx, he⟩, hw, nd, hh, cs⟩ := h
    refine ⟨_, pss_cons (ps_if (pt_cmpR op_isN (pv 1) pe_non (nomark _))
        (pss_one (ps_ret (pe_ix ix_tup (pe_fld (pv 0) rfl) pe_int (fun _ _ => rfl))))
        pss_nil)
      (pss_cons (ps_expr (pe_calR (E := E) C_check_width (hr.mono (by omega)) (by rfl) (passes_call (takes_of rfl rfl rfl rfl) (fun _ _ _ _ z => z)) (pa_cons (pe_fld (pv 0) rfl) (pa_cons (pv 1) pa_nil))))
      (pss_one (ps_ret (pe_ix ix_tup (pe_fld (pv 0) rfl) (pe_op op_add pe_int (pe_bmF PySem.F.slot_tuple_index PySem.F.type_tuple_index mt_tup_indexI (pe_fld (pv 0) rfl) (pa_cons (pv 1) pa_nil))) (fun _ _ => rfl))))), ?_⟩
    have ev : ∀ i : Nat, i < ws.length + 1 → ((List.replicate (ws.length + 1) (none : Option Int)).map vo)[i]? = some .non := fun i l => by
      rw [List.getElem?_map, List.getElem?_replicate, if_pos l]
      rfl
    rcases cs with ⟨rfl, q⟩ | ⟨y, rfl, qY, qN⟩
    · exact ⟨_, rfl, rfl, _, rfl, if_y rfl ⟨_, rfl, e, C, dx, _, .ref ha, rfl, he, T.cl, T.nh, rfl, ha, _, _, _, rfl, rfl, hh, atI_nat (ev 0 (by omega)), q⟩⟩
    · refine ⟨_, rfl, rfl, _, rfl, if_n rfl ⟨_, rfl, e, C, dx, _, .ref wa, rfl, he, T.cl, T.nw, rfl, _, rfl, wa, ws, y, rfl, hw.sq, fun ym => ?_, fun ym => qN ym⟩⟩
      have il : ws.idxOf y < ws.length := List.idxOf_lt_length_of_mem ym
      refine ⟨_, rfl, e, C, dx, _, .ref ha, rfl, he, T.cl, T.nh, rfl, _, rfl, e, C, dx, _, .ref wa, rfl, he, T.cl, T.nw, rfl, ?_⟩
      obtain ⟨ob, nod, ew⟩ := id hw
      refine ⟨⟨wa, ob, _, rfl, nod, ew⟩, _, rfl, wa, ws, y, rfl, rfl, hw.sq, ym, _, _, rfl, rfl, ha, _, _, _, rfl, rfl, hh, ?_, qY ym⟩
      rw [show (1 + ((ws.idxOf y : Nat) : Int)) = ((ws.idxOf y + 1 : Nat) : Int) by omega]
      exact atI_nat (ev _ (by omega))
end
end Tg

set_option maxHeartbeats 1000000
namespace Tg
open PySem PySem.Spec PyProof.Rows L2
/-! ### drop_cells, of no cells -/
abbrev sDr : Stmt := topS 29
abbrev NDr : List Str := ["kept", "horizon", "dropped", "start", "full"]
theorem scDr : FnScope NDr ["kept", "horizon"] (defScope sDr) := ⟨rfl, rfl, rfl, by decide +kernel, rfl, by decide +kernel, by decide +kernel⟩
theorem pe_dead {X : Cx} {e : Expr} : PE X e (fun _ _ _ => False) := ⟨fun _ _ _ _ _ _ h => h.elim⟩
section
variable {P : Program} {w : World} {K : PySem.W.Frag} {mg : Str → Option Value} {base : Heap}
def spDr : Sp := fun vs H Q _ => ∃ (e : Addr) (h : Int), vs = [.ref e, .int h] ∧ H e = some (.dK []) ∧ ∀ H', Same H H' → Q (.int 0) H'
theorem ok_dr {f : Addr} {fd : FuncData} {k : Nat} (F : Fun K "drop_cells" "drop_cells" sDr f fd) (m_len : mg "len" = none) : FnOk P w K mg base CX0 (k + 1) f fd ["kept", "horizon"] spDr := by
  refine F.ok scDr (fun vs H Q E h => ?_) (fun cdv A outer s H vs Q E hr h => ?_)
  · obtain ⟨e, h, rfl, _⟩ := h
    rfl
  · obtain ⟨e, h, rfl, he, q⟩ := h
    have hu := hu_of hr
    refine ⟨_, pss_cons (ps_lock (ps_setLc (i := 2) (own := [("start", 3)]) (g := (gName 3)) rfl scDr.nd rfl rfl (sw_true rfl rfl rfl (by decide +kernel)) (pi_keys (pv 0)) (blkOk_by (own := [("start", 3)]) (N := NDr) (sc := defScope sDr) (by decide +kernel)) (fun _ _ _ _ _ => (pg_name (i := 3) scDr.nd rfl (.inl rfl))) (fun _ _ _ _ _ => pts_one (pt_cmpR op_lt (pv 3) (pv 1) (nomark _))) (fun _ _ _ _ _ => (pv 3))))
      (pss_cons (ps_setLc (i := 4) (own := [("start", 3)]) (g := (gName 3)) rfl scDr.nd rfl rfl (sw_true rfl rfl rfl (by decide +kernel)) (pi_list (pv 2)) (blkOk_by (own := [("start", 3)]) (N := NDr) (sc := defScope sDr) (by decide +kernel)) (fun _ _ _ _ _ => (pg_name (i := 3) scDr.nd rfl (.inl rfl))) (fun _ _ _ _ _ => pts_one (pt_cmpR op_gt pe_dead pe_int (nomark _))) (fun _ _ _ _ _ => (pv 3)))
      (pss_cons (ps_for PassesOwn.never rfl (pi_list (pv 2)) (pg_name (i := 3) scDr.nd rfl (.inl rfl))
        (pss_one (ps_ddel (pv 0) (pv 3))))
      (pss_one (ps_ret (pe_callB call_len_seq (by rfl) m_len (by decide +kernel) (pa_cons (pv 4) pa_nil)))))), ?_⟩
    refine ⟨e, _, he, trivial, fun od => ?_⟩
    obtain ⟨H1, e1⟩ : ∃ H1, upd H e (.frz od (.dK [])) = H1 := ⟨_, rfl⟩
    have he1 : H1 e = some (.frz od (.dK [])) := by
      rw [← e1]
      exact upd_same
    rw [e1]
    refine ⟨_, rfl, e, od, rfl, .inl ⟨[], he1, fun D nD => ?_⟩⟩
    have eD : e ≠ D := ne_of_none he1 nD
    refine walked_w walk_keys (fun i Hc => Hc = upd H1 D (.lst [])) rfl (fun i Hc _ h => by rw [h, upd_ne eD]; exact he1) (fun i x Hc Hd hi => absurd hi (Nat.not_lt_zero i)) ?_
    rintro Hc rfl
    refine ⟨(upd_ne eD).trans he1, ?_⟩
    have nD0 : H D = none := by
      rw [← e1, upd_ne eD.symm] at nD
      exact nD
    have st : Same H (upd (upd H1 D (.lst [])) e (.dK [])) := fun c o h => by
      by_cases z : c = e
      · rw [z, he] at h
        cases h
        rw [z, upd_same]
      · rw [upd_ne z, upd_ne (ne_of_none h nD0), ← e1, upd_ne z]
        exact h
    obtain ⟨H2, e2⟩ : ∃ H2, upd (upd H1 D (.lst [])) e (.dK []) = H2 := ⟨_, rfl⟩
    have hD2 : H2 D = some (.lst []) := by
      rw [← e2, upd_ne eD.symm, upd_same]
    rw [e2] at st
    refine nx_atS e2 ?_
    refine ⟨_, rfl, D, rfl, ⟨_, SqL.of hD2⟩, fun D2 nD2 => ?_⟩
    have s2 := same_new (o := .lst []) nD2
    refine walked_w (walk_list (K := K) (a := D) (xs := [])) (fun i Hc => Hc = upd H2 D2 (.lst [])) rfl (fun i Hc _ h => by rw [h]; exact SqL.of (s2 _ _ hD2)) (fun i x Hc Hd hi => absurd hi (Nat.not_lt_zero i)) ?_
    rintro Hc rfl
    refine ⟨_, rfl, D, rfl, ⟨_, SqL.of (s2 _ _ hD2)⟩, for_list (K := K) (a := D) (xs := []) (fun i σ Hc => σ = [some (.ref e), some (.int h), some (.ref D), none, some (.ref D2)] ∧ Hc = upd H2 D2 (.lst [])) ⟨rfl, rfl⟩ (fun i σ Hc _ z => by rw [z.2]; exact SqL.of (s2 _ _ hD2)) (fun i v σ Hc hv => nomatch hv) ?_⟩
    rintro σ Hc ⟨rfl, rfl⟩
    exact ⟨_, rfl, D2, [], rfl, .inl (SqL.of upd_same), q _ (st.trans s2)⟩
end
end Tg

namespace Tg
open PySem PySem.Spec PyProof.Rows L2
abbrev sFI : Stmt := inCls (topS 14) 0
abbrev NFI : List Str := ["self", "count", "total", "squares", "least", "greatest", "first", "last", "rise", "held"]
theorem scFI : FnScope NFI NFI (defScope sFI) := ⟨rfl, rfl, rfl, by decide +kernel, rfl, by decide +kernel, by decide +kernel⟩
/-! ### points and their folds -/
abbrev Pt := Int × Int
def riz (a b : Int) : Int := if b ≥ a then b - a else if 0 > b then 0 else b
def hld (p q : Pt) : Int := p.2 * (q.1 - p.1)
def wts (ps : List Pt) : List Int := ps.map (·.2)
structure FD where
  cnt : Int
  tot : Int
  sq : Int
  lo : Option Int
  hi : Option Int
  fst : Option Pt
  lst : Option Pt
  ris : Int
  hel : Int
def fOf (ps : List Pt) : FD := ⟨ps.length, (wts ps).sum, ((wts ps).map fun w => w * w).sum, (wts ps).min?, (wts ps).max?, ps.head?, ps.getLast?, (List.zipWith riz (wts ps) ((wts ps).drop 1)).sum, (List.zipWith hld ps (ps.drop 1)).sum⟩
section
variable {K : PySem.W.Frag} {H H' : Hp}
/-- a point or None -/
def PO (K : PySem.W.Frag) (H : Hp) (v : V) : Option Pt → Prop
  | none => v = .non
  | some p => ∃ t, v = .ref t ∧ SqT K H t [.int p.1, .int p.2]
theorem PO.same {v : V} (s : Same H H') : ∀ {o : Option Pt}, PO K H v o → PO K H' v o
  | none, h => h
  | some p, ⟨t, e, h⟩ => ⟨t, e, sqT_same s h⟩
theorem dp_pd {v : V} {x : Pt} (h : Dp K H v (pd x)) : ∃ a, v = .ref a ∧ SqT K H a [.int x.1, .int x.2] := by
  cases h with
  | tup a b =>
    cases b with
    | cons h1 b =>
      cases b with
      | cons h2 b =>
        cases b
        cases h1
        cases h2
        exact ⟨_, rfl, a⟩
def flds (F : FD) (vf vl : V) : List (Str × V) := [("count", .int F.cnt), ("total", .int F.tot), ("squares", .int F.sq), ("least", vw F.lo), ("greatest", vw F.hi), ("first", vf), ("last", vl), ("rise", .int F.ris), ("held", .int F.hel)]
/-- a Fold in the heap -/
def FdO (K : PySem.W.Frag) (C : Addr) (H : Hp) (a : Addr) (F : FD) : Prop := ∃ dx vf vl, H a = some (.ins C dx (flds F vf vl)) ∧ PO K H vf F.fst ∧ PO K H vl F.lst
theorem FdO.same {C a : Addr} {F : FD} (s : Same H H') (h : FdO K C H a F) : FdO K C H' a F := by
  obtain ⟨dx, vf, vl, e, h1, h2⟩ := h
  exact ⟨dx, vf, vl, s _ _ e, h1.same s, h2.same s⟩
/-- points in a list -/
def PtL (K : PySem.W.Frag) (H : Hp) (l : Addr) (ps : List Pt) : Prop := ∃ xs, SqL K H l xs ∧ DpAll K H xs (ps.map pd)
theorem PtL.same {l : Addr} {ps : List Pt} (s : Same H H') (h : PtL K H l ps) : PtL K H' l ps := by
  obtain ⟨xs, h1, h2⟩ := h
  exact ⟨xs, sqL_same s h1, dpAll_same s h2⟩
structure TFold (K : PySem.W.Frag) (C : Addr) : Prop where
  cl : Cls K C
  no : ∀ n, n ∈ ["count", "total", "squares", "least", "greatest", "first", "last", "rise", "held"] → PySem.W.findIn K (.ref C) n = some none
end
section
variable {P : Program} {w : World} {K : PySem.W.Frag} {mg : Str → Option Value} {base : Heap} {C : Addr}
/-- C(k = v, ..), keywords alone -/
def CalCK (P : Program) (w : World) (K : PySem.W.Frag) (mg : Str → Option Value) (base : Heap) (k : Nat) (x : Str) (C : Addr) (ps ks : List Str) (gV : List V → List V → List V) (sp : Sp) : Prop := ∃ f fd g, FnOk P w K mg base CX0 k f fd ps sp ∧ mg x = some (.ref C) ∧ Mk K C f ∧ KBn K fd ps 1 ks g gV
theorem pe_calCK {X : Cx} {k : Nat} {x : Str} {ps ks : List Str} {gV : List V → List V → List V} {sp : Sp} {kws : List Keyword} {tk : TA} {p pos : Pos} (c : CalCK X.prog X.w X.K X.mg X.base k x C ps ks gV sp) (hr : Room (k + 1) X.A) (gl : Gl X x) (vals : PK X kws tk)
    (named : (backToKw pos (keywordEach kws X.env)).all (·.1.isSome) = true := by rfl) (names : (backToKw pos (keywordEach kws X.env)).filterMap (·.1) = ks := by rfl) (nodebug : (x == ("__debug__" : Str)) = false := by decide)
    (nostar : ((backTo pos (starEach [] X.env)).any (·.1) || (backToKw pos (keywordEach kws X.env)).any (·.1.isNone)) = false := by rfl) :
    PE X (.Call (.Name x p) [] kws pos) (tMakeK C 0 ks.length sp gV E0 tNil tk) := by
  obtain ⟨f, fd, g, F, hm, M, hb⟩ := c
  exact pe_makeK0 M F hr gl hm hb pass0 vals named names nodebug nostar
/-! ### Fold.__init__ -/
def spFI (C : Addr) : Sp := fun vs H Q _ => ∃ (p dx : Addr) (a b c d e f g h i : V), vs = [.ref p, a, b, c, d, e, f, g, h, i] ∧ H p = some (.ins C dx []) ∧
  Q .non (upd H p (.ins C dx [("count", a), ("total", b), ("squares", c), ("least", d), ("greatest", e), ("first", f), ("last", g), ("rise", h), ("held", i)]))
theorem ok_fi {f : Addr} {fd : FuncData} {kws : List (Str × V)} {k : Nat} (F : FunD K "__init__" "Fold.__init__" (defArgs sFI) (defBody sFI) (defScope sFI) [] kws f fd) (T : TFold K C) : FnOk P w K mg base CX0 (k + 1) f fd NFI (spFI C) := by
  refine F.ok scFI (fun vs H Q E h => ?_) (fun cdv A outer s H vs Q E hr h => ?_)
  · obtain ⟨p, dx, a, b, c, d, e, f, g, h, i, rfl, _⟩ := h
    rfl
  · obtain ⟨p, dx, a, b, c, d, e, f, g, h, i, rfl, hp, q⟩ := h
    refine ⟨_, pss_cons (ps_fld (pv 0) (pv 1) rfl) (pss_cons (ps_fld (pv 0) (pv 2) rfl) (pss_cons (ps_fld (pv 0) (pv 3) rfl) (pss_cons (ps_fld (pv 0) (pv 4) rfl) (pss_cons (ps_fld (pv 0) (pv 5) rfl)
      (pss_cons (ps_fld (pv 0) (pv 6) rfl) (pss_cons (ps_fld (pv 0) (pv 7) rfl) (pss_cons (ps_fld (pv 0) (pv 8) rfl) (pss_one (ps_fld (pv 0) (pv 9) rfl))))))))), ?_⟩
    refine ⟨_, rfl, _, rfl, p, C, dx, _, rfl, hp, T.cl, T.no _ (by decide), (by show 0 < 1000; decide), ?_⟩
    refine ⟨_, rfl, _, rfl, p, C, dx, _, rfl, upd_same, T.cl, T.no _ (by decide), (by show 1 < 1000; decide), ?_⟩
    rw [upd_upd]
    refine ⟨_, rfl, _, rfl, p, C, dx, _, rfl, upd_same, T.cl, T.no _ (by decide), (by show 2 < 1000; decide), ?_⟩
    rw [upd_upd]
    refine ⟨_, rfl, _, rfl, p, C, dx, _, rfl, upd_same, T.cl, T.no _ (by decide), (by show 3 < 1000; decide), ?_⟩
    rw [upd_upd]
    refine ⟨_, rfl, _, rfl, p, C, dx, _, rfl, upd_same, T.cl, T.no _ (by decide), (by show 4 < 1000; decide), ?_⟩
    rw [upd_upd]
    refine ⟨_, rfl, _, rfl, p, C, dx, _, rfl, upd_same, T.cl, T.no _ (by decide), (by show 5 < 1000; decide), ?_⟩
    rw [upd_upd]
    refine ⟨_, rfl, _, rfl, p, C, dx, _, rfl, upd_same, T.cl, T.no _ (by decide), (by show 6 < 1000; decide), ?_⟩
    rw [upd_upd]
    refine ⟨_, rfl, _, rfl, p, C, dx, _, rfl, upd_same, T.cl, T.no _ (by decide), (by show 7 < 1000; decide), ?_⟩
    rw [upd_upd]
    refine ⟨_, rfl, _, rfl, p, C, dx, _, rfl, upd_same, T.cl, T.no _ (by decide), (by show 8 < 1000; decide), ?_⟩
    rw [upd_upd]
    exact q
/-! ### risen, held_between, check_rising -/
end
end Tg

namespace Tg
open PySem PySem.Spec PyProof.Rows L2
theorem fd_made {K : PySem.W.Frag} {C x dx : Addr} {H : Hp} (nx : H x = none) (nd : H dx = none) (ne : dx ≠ x) {F : FD} {vf vl : V} (h1 : PO K H vf F.fst) (h2 : PO K H vl F.lst) :
    Same H (upd (upd (upd H dx (.own x)) x (.ins C dx [])) x (.ins C dx (flds F vf vl))) ∧ FdO K C (upd (upd (upd H dx (.own x)) x (.ins C dx [])) x (.ins C dx (flds F vf vl))) x F := by
  have sm : Same H (upd (upd (upd H dx (.own x)) x (.ins C dx [])) x (.ins C dx (flds F vf vl))) := same_put nx (same_put nx (same_new nd))
  exact ⟨sm, dx, vf, vl, upd_same, h1.same sm, h2.same sm⟩
theorem fOf_nil : fOf [] = ⟨0, 0, 0, none, none, none, none, 0, 0⟩ := rfl
abbrev kFold : List Str := ["count", "total", "squares", "least", "greatest", "first", "last", "rise", "held"]
section
variable {P : Program} {w : World} {K : PySem.W.Frag} {mg : Str → Option Value} {base : Heap} {C : Addr}
abbrev KF9 (P : Program) (w : World) (K : PySem.W.Frag) (mg : Str → Option Value) (base : Heap) (C : Addr) (k : Nat) : Prop := CalCK P w K mg base k "Fold" C NFI kFold (fun vs zs => vs ++ zs) (spFI C)
abbrev KF0 (P : Program) (w : World) (K : PySem.W.Frag) (mg : Str → Option Value) (base : Heap) (C : Addr) (k : Nat) : Prop := CalCK P w K mg base k "Fold" C NFI [] (fun vs _ => vs ++ [.int 0, .int 0, .int 0, .non, .non, .non, .non, .int 0, .int 0]) (spFI C)
end
end Tg

namespace Tg
open PySem PySem.Spec PyProof.Rows L2
abbrev sEq : Stmt := inCls (topS 14) 1
theorem scEq : FnScope ["self", "other"] ["self", "other"] (defScope sEq) := ⟨rfl, rfl, rfl, by decide +kernel, rfl, by decide +kernel, by decide +kernel⟩
/-- what isinstance asks of the class -/
structure TIns (K : PySem.W.Frag) (C : Addr) : Prop where
  cc : PySem.W.findIn K (.ref C) "__class__" = some (some (.builtin "object.__class__"))
  get : PySem.W.specialIn K (.builtin "object.__class__") "__get__" = some (some (.builtin "getset_descriptor.__get__"))
  takes : PySem.W.takesIn K (.builtin "object.__class__") = some true
  obj : PySem.W.mroIn K C (.type "object") = some true
  kit : PySem.W.kitOne K (.ref C) (.ref C) = some true
def od : Option Pt → PyData
  | none => .none
  | some p => pd p
theorem PO.dp {K : PySem.W.Frag} {H : Hp} {v : V} : ∀ {o : Option Pt}, PO K H v o → Dp K H v (od o)
  | none, h => by
    obtain rfl : v = .non := h
    exact .non
  | some p, ⟨t, e, h⟩ => by
    subst e
    exact .tup h (.cons (.int _) (.cons (.int _) .nil))
theorem od_form : ∀ o : Option Pt, SeqAt.shaped (od o) = true ∧ PyData.eqv (od o) (od o) = true
  | none => ⟨by decide +kernel, rfl⟩
  | some p => ⟨shaped_of rfl (by show 1 ≤ 64; decide), ref_pd p⟩
theorem dw_form : ∀ o : Option Int, SeqAt.shaped (dw o) = true ∧ PyData.eqv (dw o) (dw o) = true := fun o => ⟨shaped_of (lay_dw o) (by rw [dep_dw]; decide), by rw [eq_dw]; exact decide_eq_true rfl⟩
section
variable {P : Program} {w : World} {K : PySem.W.Frag} {mg : Str → Option Value} {base : Heap} {C : Addr}
/-- two folds that tell the same -/
def SameF (K : PySem.W.Frag) (C : Addr) (a b : Addr) (H : Hp) : Prop := ∃ F, FdO K C H a F ∧ FdO K C H b F
theorem ok_eq {f : Addr} {fd : FuncData} {k : Nat} (F : Fun K "__eq__" "Fold.__eq__" sEq f fd) (T : TFold K C) (TI : TIns K C) (g_Fold : mg "Fold" = some (.ref C)) (m_isinstance : mg "isinstance" = none) : FnOk P w K mg base CX0 (k + 1) f fd ["self", "other"] (spEq (SameF K C)) := by
  refine F.ok scEq (fun vs H Q E h => ?_) (fun cdv A outer s H vs Q E hr h => ?_)
  · obtain ⟨a, b, rfl, _⟩ := h
    rfl
  · obtain ⟨a, b, rfl, ⟨F, ⟨dA, fA, lA, eA, pA, zA⟩, ⟨dB, fB, lB, eB, pB, zB⟩⟩, q⟩ := h
    have hu := hr.units
    refine ⟨_, pss_one (ps_ret (pe_and (pe_callB call_isi (by rfl) m_isinstance (by decide +kernel) (pa_cons (pv 1) (pa_cons (pe_glob (v := .ref C) rfl g_Fold rfl) pa_nil))) (pe_and (pe_cmpR op_eq (pe_fld (pv 0) rfl) (pe_fld (pv 1) rfl) (nomark _)) (pe_and (pe_cmpR op_eq (pe_fld (pv 0) rfl) (pe_fld (pv 1) rfl) (nomark _)) (pe_and (pe_cmpR op_eq (pe_fld (pv 0) rfl) (pe_fld (pv 1) rfl) (nomark _)) (pe_and (pe_cmpR (op_eqD hu) (pe_fld (pv 0) rfl) (pe_fld (pv 1) rfl) (nomark _)) (pe_and (pe_cmpR (op_eqD hu) (pe_fld (pv 0) rfl) (pe_fld (pv 1) rfl) (nomark _)) (pe_and (pe_cmpR (op_eqD hu) (pe_fld (pv 0) rfl) (pe_fld (pv 1) rfl) (nomark _)) (pe_and (pe_cmpR (op_eqD hu) (pe_fld (pv 0) rfl) (pe_fld (pv 1) rfl) (nomark _)) (pe_and (pe_cmpR op_eq (pe_fld (pv 0) rfl) (pe_fld (pv 1) rfl) (nomark _)) (pe_one (pe_cmpR op_eq (pe_fld (pv 0) rfl) (pe_fld (pv 1) rfl) (nomark _))))))))))))), ?_⟩
    refine ⟨_, rfl, .ref b, .ref C, .ref C, .ref C, true, rfl, .own _, .base (.ins eB T.cl TI.cc TI.get TI.takes TI.obj), TI.kit, true, rfl, if_t ?_⟩
    refine ⟨_, rfl, a, C, dA, _, _, rfl, eA, T.cl, T.no _ (by decide), rfl, _, rfl, b, C, dB, _, _, rfl, eB, T.cl, T.no _ (by decide), rfl, rfl, true, congrArg V.bl (decide_eq_true rfl), if_t ?_⟩
    refine ⟨_, rfl, a, C, dA, _, _, rfl, eA, T.cl, T.no _ (by decide), rfl, _, rfl, b, C, dB, _, _, rfl, eB, T.cl, T.no _ (by decide), rfl, rfl, true, congrArg V.bl (decide_eq_true rfl), if_t ?_⟩
    refine ⟨_, rfl, a, C, dA, _, _, rfl, eA, T.cl, T.no _ (by decide), rfl, _, rfl, b, C, dB, _, _, rfl, eB, T.cl, T.no _ (by decide), rfl, rfl, true, congrArg V.bl (decide_eq_true rfl), if_t ?_⟩
    refine ⟨_, rfl, a, C, dA, _, _, rfl, eA, T.cl, T.no _ (by decide), rfl, _, rfl, b, C, dB, _, _, rfl, eB, T.cl, T.no _ (by decide), rfl, _, _, dp_vw F.lo, dp_vw F.lo, (dw_form _).1, (dw_form _).1, true, congrArg V.bl (dw_form _).2, if_t ?_⟩
    refine ⟨_, rfl, a, C, dA, _, _, rfl, eA, T.cl, T.no _ (by decide), rfl, _, rfl, b, C, dB, _, _, rfl, eB, T.cl, T.no _ (by decide), rfl, _, _, dp_vw F.hi, dp_vw F.hi, (dw_form _).1, (dw_form _).1, true, congrArg V.bl (dw_form _).2, if_t ?_⟩
    refine ⟨_, rfl, a, C, dA, _, _, rfl, eA, T.cl, T.no _ (by decide), rfl, _, rfl, b, C, dB, _, _, rfl, eB, T.cl, T.no _ (by decide), rfl, _, _, pA.dp, pB.dp, (od_form _).1, (od_form _).1, true, congrArg V.bl (od_form _).2, if_t ?_⟩
    refine ⟨_, rfl, a, C, dA, _, _, rfl, eA, T.cl, T.no _ (by decide), rfl, _, rfl, b, C, dB, _, _, rfl, eB, T.cl, T.no _ (by decide), rfl, _, _, zA.dp, zB.dp, (od_form _).1, (od_form _).1, true, congrArg V.bl (od_form _).2, if_t ?_⟩
    refine ⟨_, rfl, a, C, dA, _, _, rfl, eA, T.cl, T.no _ (by decide), rfl, _, rfl, b, C, dB, _, _, rfl, eB, T.cl, T.no _ (by decide), rfl, rfl, true, congrArg V.bl (decide_eq_true rfl), if_t ?_⟩
    refine ⟨_, rfl, a, C, dA, _, _, rfl, eA, T.cl, T.no _ (by decide), rfl, _, rfl, b, C, dB, _, _, rfl, eB, T.cl, T.no _ (by decide), rfl, rfl, ?_⟩
    rw [decide_eq_true rfl]
    exact q H Ext.rfl'
end
end Tg

namespace Tg
open PySem PySem.Spec PyProof.Rows L2
section
variable {P : Program} {w : World} {K : PySem.W.Frag} {mg : Str → Option Value} {base : Heap} {C : Addr}
/-- the own == of folds -/
def OwnE (P : Program) (w : World) (K : PySem.W.Frag) (mg : Str → Option Value) (base : Heap) (C : Addr) (k : Nat) (f : Addr) (fd : FuncData) : Prop := FnOk P w K mg base CX0 k f fd ["self", "other"] (spEq (SameF K C)) ∧ PySem.W.findIn K (.ref C) "__eq__" = some (some (.ref f)) ∧ PySem.W.isFn K (.ref f) = true ∧ Binds K fd ["self", "other"] [] ∧ NeC K C f
theorem FdO.ins {H : Hp} {a b : Addr} {F : FD} (hA : FdO K C H a F) (hB : FdO K C H b F) : DIns C (SameF K C) (.ref a) (.ref b) H := by
  obtain ⟨dA, fA, lA, eA, _⟩ := id hA
  obtain ⟨dB, fB, lB, eB, _⟩ := id hB
  exact ⟨a, b, dA, dB, _, _, rfl, rfl, eA, eB, F, hA, hB⟩
end
end Tg

namespace Tg
open PySem PySem.Spec PyProof.Rows L2
section
variable {K : PySem.W.Frag} {f : Addr} {fd : FuncData}
def kw9 : List (Str × V) := [("count", .int 0), ("total", .int 0), ("squares", .int 0), ("least", .non), ("greatest", .non), ("first", .non), ("last", .non), ("rise", .int 0), ("held", .int 0)]
abbrev FFold (K : PySem.W.Frag) (f : Addr) (fd : FuncData) : Prop := FunD K "__init__" "Fold.__init__" (defArgs sFI) (defBody sFI) (defScope sFI) [] kw9 f fd
set_option maxHeartbeats 0 in
theorem kb_9 (F : FFold K f fd) : ∃ g, KBn K fd NFI 1 kFold g (fun vs zs => vs ++ zs) := by
  obtain ⟨mv, h⟩ := F.kbinds0 (ps := NFI) 1 kFold [] (fun us _ ws => us ++ ws) (fun z => nomatch z) (fun q hq => nomatch hq) (fun h1 _ h2 => h1.append h2) (fun D doc pm an cdv ct us mv ws h1 h2 h3 => match us, mv, ws, h1, h2, h3 with | [_], [], [_, _, _, _, _, _, _, _, _], _, _, _ => rfl)
  exact ⟨_, h⟩
set_option maxHeartbeats 0 in
theorem kb_0 (F : FFold K f fd) : ∃ g, KBn K fd NFI 1 [] g (fun vs _ => vs ++ [.int 0, .int 0, .int 0, .non, .non, .non, .non, .int 0, .int 0]) := by
  obtain ⟨mv, h⟩ := F.kbinds0 (ps := NFI) 1 [] kw9 (fun us ms _ => us ++ ms) (fun z => nomatch z) (fun q hq => hq) (fun h1 h2 _ => h1.append h2) (fun D doc pm an cdv ct us mv ws h1 h2 h3 => match us, mv, ws, h1, h2, h3 with
    | [_], [_, _, _, _, _, _, _, _, _], [], _, _, _ => ⟨_, _, _, _, _, _, rfl, rfl, _, _, _, _, _, _, rfl, rfl, _, _, _, _, _, _, rfl, rfl, _, _, _, _, _, _, rfl, rfl, _, _, _, _, _, _, rfl, rfl, _, _, _, _, _, _, rfl, rfl, _, _, _, _, _, _, rfl, rfl, _, _, _, _, _, _, rfl, rfl, _, _, _, _, _, _, rfl, rfl, rfl⟩)
  exact ⟨_, h⟩
end
end Tg

set_option maxHeartbeats 1000000
namespace Tg
open PySem PySem.Spec PyProof.Rows L2
theorem pt_dead {X : Cx} {e : Expr} : PT X e (fun _ _ _ => False) := ⟨fun _ _ _ _ _ _ h => h.elim⟩
/-! ### fold_at, full_folds, cells_of, let_go, where nothing is kept -/
abbrev sFA : Stmt := inClass (topS 30) 2
abbrev sCO : Stmt := inClass (topS 30) 4
abbrev sLG : Stmt := inClass (topS 30) 5
abbrev sFF : Stmt := inClass (topS 30) 12
abbrev NFF : List Str := ["self", "place", "width", "start", "fold", "since"]
abbrev NLG : List Str := ["self", "width", "time", "horizon", "gone", "kept"]
theorem scFA : FnScope ["self", "place", "width", "time", "cell"] ["self", "place", "width", "time"] (defScope sFA) := ⟨rfl, rfl, rfl, by decide +kernel, rfl, by decide +kernel, by decide +kernel⟩
theorem scCO : FnScope ["self", "place", "width"] ["self", "place", "width"] (defScope sCO) := ⟨rfl, rfl, rfl, by decide +kernel, rfl, by decide +kernel, by decide +kernel⟩
theorem scLG : FnScope NLG ["self", "width", "time"] (defScope sLG) := ⟨rfl, rfl, rfl, by decide +kernel, rfl, by decide +kernel, by decide +kernel⟩
theorem scFF : FnScope NFF ["self", "place", "width"] (defScope sFF) := ⟨rfl, rfl, rfl, by decide +kernel, rfl, by decide +kernel, by decide +kernel⟩
section
variable {P : Program} {w : World} {K : PySem.W.Frag} {mg : Str → Option Value} {base : Heap} {C CG CF : Addr}
/-- Fold() -/
def spFold0 (K : PySem.W.Frag) (CF : Addr) : List V → Hp → VK → Prop := fun _ H Q => ∀ c H', Same H H' → H c = none → FdO K CF H' c (fOf []) → Q (.ref c) H'
/-- the empty fold of the cell asked for, or the width refused -/
def spFA (K : PySem.W.Frag) (C CG CF : Addr) : Sp := fun vs H Q E => ∃ (g wa kd hd : Addr) (ws : List Int) (es : List Addr) (n : Nat) (x t : Int), vs = [.ref g, .int 1, .int x, .int t] ∧ GrO K C H g wa kd hd ws es n ∧ (∀ y, y ∈ ws → 1 ≤ y) ∧ (x ∈ ws → ∀ c H', Same H H' → FdO K CF H' c (fOf []) → Q (.ref c) H') ∧
  (x ∉ ws → ∀ H' d, Same H H' → H d = none → H' d = some (.xd [("at", .int x)]) → E (.ref CG) (some d) H')
theorem fold0_made {x dx : Addr} {H : Hp} (nx : H x = none) (nd : H dx = none) (ne : dx ≠ x) :
    Same H (upd (upd (upd H dx (.own x)) x (.ins CF dx [])) x (.ins CF dx (flds (fOf []) .non .non))) ∧ FdO K CF (upd (upd (upd H dx (.own x)) x (.ins CF dx [])) x (.ins CF dx (flds (fOf []) .non .non))) x (fOf []) :=
  ⟨same_put nx (same_put nx (same_new nd)), dx, .non, .non, upd_same, rfl, rfl⟩
theorem ok_fa {f : Addr} {fd : FuncData} {k : Nat} (F : Fun K "fold_at" "Grains.fold_at" sFA f fd) (T : TGr K C) (M_cell_at : CalMR P w K mg base k C "cell_at" ["self", "place", "width", "time"] (NoCell K C CG .non)) (K_Fold0 : KF0 P w K mg base CF k) : FnOk P w K mg base (L2.CX P w) (k + 2) f fd ["self", "place", "width", "time"] (spFA K C CG CF) := by
  refine F.okX scFA (fun vs H Q E h => ?_) (fun cdv A outer s H vs Q E hr h => ?_)
  · obtain ⟨g, wa, kd, hd, ws, es, n, x, t, rfl, _⟩ := h
    rfl
  · obtain ⟨g, wa, kd, hd, ws, es, n, x, t, rfl, gr, pos, qY, qN⟩ := h
    obtain ⟨⟨dx, hg⟩, hw, _⟩ := id gr
    refine ⟨_, pss_cons (ps_set (i := 4) scFA.nd rfl (.inl rfl) (pe_calMR (E := E) (lets := passes_call (takes_of rfl rfl rfl rfl) (fun _ _ _ _ z => z)) (pv 0) T.cl M_cell_at (hr.mono (by omega)) (pa_cons (pv 1) (pa_cons (pv 2) (pa_cons (pv 3) pa_nil)))))
      (pss_one (ps_ret (pe_ifExp (pt_cmpR op_isN (pv 4) pe_non (nomark _)) (pe_calCK K_Fold0 (hr.mono (by omega)) (by rfl) pk_nil) (pe_ix ix_tup (pv 4) pe_int (fun _ _ => rfl))))), ?_⟩
    refine ⟨_, rfl, g, dx, _, rfl, hg, rfl, _, rfl, _, rfl, _, rfl, g, wa, kd, hd, ws, es, n, x, t, rfl, gr, pos, fun hx H1 s1 => ?_, fun hx => qN hx⟩
    refine ⟨_, rfl, rfl, true, rfl, if_t ?_⟩
    refine ⟨rfl, rfl, fun z dz nz nd ne => ⟨z, dz, _, _, _, _, _, _, _, _, _, rfl, upd_same, rfl, ?_⟩⟩
    obtain ⟨m1, m2⟩ := fold0_made (K := K) (CF := CF) nz nd ne
    exact qY hx z _ (s1.trans m1) m2
/-- a new empty dict -/
def spFF (K : PySem.W.Frag) (C : Addr) : Sp := fun vs H Q _ => ∃ (g wa kd hd : Addr) (ws : List Int) (es : List Addr) (n : Nat) (x : Int), vs = [.ref g, .int 1, .int x] ∧ GrO K C H g wa kd hd ws es n ∧ x ∈ ws ∧ ∀ r H', Same H H' → H' r = some (.dK []) → Q (.ref r) H'
theorem ok_ff {f : Addr} {fd : FuncData} {k : Nat} (F : Fun K "full_folds" "Grains.full_folds" sFF f fd) (T : TGr K C) (M_kept_cells : CalM P w K mg base k C "kept_cells" ["self", "place", "width"] (spKC K C)) : FnOk P w K mg base CX0 (k + 1) f fd ["self", "place", "width"] (spFF K C) := by
  refine F.ok scFF (fun vs H Q E h => ?_) (fun cdv A outer s H vs Q E hr h => ?_)
  · obtain ⟨g, wa, kd, hd, ws, es, n, x, rfl, _⟩ := h
    rfl
  · obtain ⟨g, wa, kd, hd, ws, es, n, x, rfl, gr, hx, q⟩ := h
    obtain ⟨⟨dx, hg⟩, hw, _⟩ := id gr
    refine ⟨_, pss_one (ps_ret (pe_thaw (pe_dc (own := [("start", 3), ("fold", 4), ("since", 5)]) (g := (gTup K 2 (gCons (gName 3) (gCons (gTup K 2 (gCons (gName 4) (gCons (gName 5) gNil))) gNil)))) rfl scFF.nd (pi_items (pe_hold (pe_calM (pv 0) T.cl M_kept_cells (hr.mono (by omega)) (pa_cons (pv 1) (pa_cons (pv 2) pa_nil))))) (blkOk_by (own := [("start", 3), ("fold", 4), ("since", 5)]) (N := NFF) (sc := defScope sFF) (by decide +kernel)) (fun _ _ _ _ _ => (pg_tup rfl (pgs_cons (pg_name (i := 3) scFF.nd rfl (.inl rfl)) (pgs_cons (pg_tup rfl (pgs_cons (pg_name (i := 4) scFF.nd rfl (.inl rfl)) (pgs_cons (pg_name (i := 5) scFF.nd rfl (.inl rfl)) pgs_nil))) pgs_nil)))) (fun _ _ _ _ _ => pts_one pt_dead) (fun _ _ _ _ _ => (pv 3)) (fun _ _ _ _ _ => (pv 4))))), ?_⟩
    refine ⟨_, rfl, g, dx, _, rfl, hg, rfl, _, rfl, _, rfl, g, wa, kd, hd, ws, es, n, x, rfl, gr, hx, fun r H1 s1 hr1 => ?_⟩
    refine ⟨r, _, rfl, hr1, trivial, fun od hn => ?_⟩
    obtain ⟨H2, e2⟩ : ∃ H2, upd H1 r (.frz od (.dK [])) = H2 := ⟨_, rfl⟩
    have h2 : H2 r = some (.frz od (.dK [])) := by
      rw [← e2]
      exact upd_same
    rw [e2]
    refine ⟨r, od, _, rfl, h2, fun D nD => ?_⟩
    have rD : r ≠ D := ne_of_none h2 nD
    have nD1 : H1 D = none := by
      rw [← e2, upd_ne rD.symm] at nD
      exact nD
    refine walked_w walk_items (fun i Hc => Hc = upd H2 D (.dK [])) rfl (fun i Hc _ h => by rw [h, upd_ne rD]; exact h2) (fun i x Hc Hd hi => absurd hi (Nat.not_lt_zero i)) ?_
    rintro Hc rfl
    refine ⟨r, od, _, (upd_ne rD).trans h2, hn, ?_⟩
    refine q D _ (s1.trans fun c o h => ?_) ?_
    · by_cases z : c = r
      · rw [z, hr1] at h
        cases h
        rw [z, upd_same]
      · rw [upd_ne z, upd_ne (ne_of_none h nD1), ← e2, upd_ne z]
        exact h
    · rw [upd_ne rD.symm, upd_same]
/-- a new empty list, or the width refused -/
def spCO (K : PySem.W.Frag) (C CG : Addr) : Sp := fun vs H Q E => ∃ (g wa kd hd : Addr) (ws : List Int) (es : List Addr) (n : Nat) (x : Int), vs = [.ref g, .int 1, .int x] ∧ GrO K C H g wa kd hd ws es n ∧ (x ∈ ws → ∀ l H', Same H H' → H' l = some (.lst []) → Q (.ref l) H') ∧
  (x ∉ ws → ∀ H' d, Same H H' → H d = none → H' d = some (.xd [("at", .int x)]) → E (.ref CG) (some d) H')
theorem ok_co {f : Addr} {fd : FuncData} {k : Nat} (F : Fun K "cells_of" "Grains.cells_of" sCO f fd) (T : TGr K C) (C_check_width : CalR P w K mg base k "check_width" ["widths", "width"] (spCkwX K CG)) (M_full_folds : CalM P w K mg base k C "full_folds" ["self", "place", "width"] (spFF K C)) (m_sorted : mg "sorted" = none) :
    FnOk P w K mg base (L2.CX P w) (k + 1) f fd ["self", "place", "width"] (spCO K C CG) := by
  refine F.okX scCO (fun vs H Q E h => ?_) (fun cdv A outer s H vs Q E hr h => ?_)
  · obtain ⟨g, wa, kd, hd, ws, es, n, x, rfl, _⟩ := h
    rfl
  · obtain ⟨g, wa, kd, hd, ws, es, n, x, rfl, gr, qY, qN⟩ := h
    obtain ⟨⟨dx, hg⟩, hw, _⟩ := id gr
    refine ⟨_, pss_cons (ps_expr (pe_calR (E := E) C_check_width (hr.mono (by omega)) (by rfl) (passes_call (takes_of rfl rfl rfl rfl) (fun _ _ _ _ z => z)) (pa_cons (pe_fld (pv 0) rfl) (pa_cons (pv 2) pa_nil))))
      (pss_one (ps_ret (pe_callB (cr_sortedDI rfl) (by rfl) m_sorted (by decide +kernel) (pa_cons (pe_calM (pv 0) T.cl M_full_folds (hr.mono (by omega)) (pa_cons (pv 1) (pa_cons (pv 2) pa_nil))) pa_nil)))), ?_⟩
    refine ⟨_, rfl, g, C, dx, _, .ref wa, rfl, hg, T.cl, T.no _ (by decide), rfl, _, rfl, wa, ws, x, rfl, hw, fun hx => ?_, fun hx => qN hx⟩
    refine ⟨_, rfl, g, dx, _, rfl, hg, rfl, _, rfl, _, rfl, g, wa, kd, hd, ws, es, n, x, rfl, gr, hx, fun r H1 s1 hr1 => ?_⟩
    refine ⟨r, [], [], rfl, .inl hr1, rfl, fun ns p pm _ np => ?_⟩
    rw [List.Perm.eq_nil pm]
    exact qY hx p _ (s1.trans (same_new np)) upd_same
end
end Tg

set_option maxHeartbeats 1000000
namespace Tg
open PySem PySem.Spec PyProof.Rows L2
/-! ### let_go, where nothing is kept -/
section
variable {P : Program} {w : World} {K : PySem.W.Frag} {mg : Str → Option Value} {base : Heap} {C CG : Addr}
def spLG (K : PySem.W.Frag) (C CG : Addr) : Sp := fun vs H Q E => ∃ (g wa kd hd : Addr) (ws : List Int) (es : List Addr) (n : Nat) (x t : Int), vs = [.ref g, .int x, .int t] ∧ GrO K C H g wa kd hd ws es n ∧ n < 1000 ∧ (∀ y, y ∈ ws → 1 ≤ y) ∧
  (x ∈ ws → ∀ H', Kp hd H H' → GrO K C H' g wa kd hd ws es (n + 1) → Q (.int 0) H') ∧ (x ∉ ws → ∀ H' d, Same H H' → H d = none → H' d = some (.xd [("at", .int x)]) → E (.ref CG) (some d) H')
theorem GrO.kp {H H' : Hp} {g wa kd hd : Addr} {ws : List Int} {es : List Addr} {n m : Nat} (k : Kp hd H H') (h : GrO K C H g wa kd hd ws es n) (hv : ∃ hv : List (Key × V), H' hd = some (.dK hv) ∧ hv.length ≤ m ∧ ∀ k v, valV hv k = some v → ∃ i : Int, v = .int i) : GrO K C H' g wa kd hd ws es m := by
  obtain ⟨⟨dx, h1⟩, h2, h3, hv0, h4, h5⟩ := h
  have gh : g ≠ hd := fun z => by
    rw [z, h4] at h1
    cases h1
  refine ⟨⟨dx, k _ _ gh h1⟩, sqT_kt (KT.kp k h4 nfix_dK) h2, ⟨k _ _ h3.ne h3.at_, h3.len, h3.k, h3.h, h3.ne, fun e he => ?_⟩, hv⟩
  have eh : e ≠ hd := fun z => h3.h (z ▸ he)
  rcases h3.all e he with z | ⟨e2, n1, n2, n3, z1, z2⟩
  · exact .inl (k _ _ eh z)
  · exact .inr ⟨e2, n1, n2, n3, k _ _ eh z1, k _ _ n3 z2⟩
theorem ok_lg {f : Addr} {fd : FuncData} {k : Nat} (F : Fun K "let_go" "Grains.let_go" sLG f fd) (T : TGr K C) (C_check_width : CalR P w K mg base k "check_width" ["widths", "width"] (spCkwX K CG)) (M_check_idle_0 : CalM P w K mg base k C "check_idle" ["self"] (spCIx K C)) (C_cell_of : Cal P w K mg base k "cell_of" ["time", "width"] spCell)
    (C_drop_cells : Cal P w K mg base k "drop_cells" ["kept", "horizon"] spDr) (m_max : mg "max" = none) (m_list : mg "list" = none) : FnOk P w K mg base (L2.CX P w) (k + 1) f fd ["self", "width", "time"] (spLG K C CG) := by
  refine F.okX scLG (fun vs H Q E h => ?_) (fun cdv A outer s H vs Q E hr h => ?_)
  · obtain ⟨g, wa, kd, hd, ws, es, n, x, t, rfl, _⟩ := h
    rfl
  · obtain ⟨g, wa, kd, hd, ws, es, n, x, t, rfl, gr, few, pos, qY, qN⟩ := h
    have hu := hu_of hr
    obtain ⟨⟨dx, hg⟩, hw, ks, hv, hh, hl, hi⟩ := id gr
    refine ⟨_, pss_cons (ps_expr (pe_calR (E := E) C_check_width (hr.mono (by omega)) (by rfl) (passes_call (takes_of rfl rfl rfl rfl) (fun _ _ _ _ z => z)) (pa_cons (pe_fld (pv 0) rfl) (pa_cons (pv 1) pa_nil))))
      (pss_cons (ps_expr (pe_calM0 (pv 0) T.cl M_check_idle_0 (hr.mono (by omega))))
      (pss_cons (ps_set (i := 3) scLG.nd rfl (.inl rfl) (pe_cal C_cell_of (hr.mono (by omega)) (by rfl) (pa_cons (pv 2) (pa_cons (pv 1) pa_nil))))
      (pss_cons (ps_dput hu (pe_fld (pv 0) rfl) (pv 1) (pe_callB (call_max2 rfl) (by rfl) m_max (by decide +kernel) (pa_cons (pv 3) (pa_cons (pe_dget2 hu (pe_fld (pv 0) rfl) (pv 1) (pv 3) ⟨rfl, rfl, rfl, rfl⟩) pa_nil))) rfl)
      (pss_cons (ps_set (i := 4) scLG.nd rfl (.inl rfl) pe_int)
      (pss_cons (ps_for (passes_of rfl) rfl (pi_list (pe_callTy (call_listVV rfl) (by rfl) m_list (by decide +kernel) (pa_cons (pe_bm0 PySem.F.plainAttrs_dict PySem.F.slot_dict_values PySem.F.type_dict_values mt_valsV (pe_dget hu (pe_fld (pv 0) rfl) (pv 1) (fun _ _ => rfl))) pa_nil))) (pg_name (i := 5) scLG.nd rfl (.inl rfl))
        (pss_one (ps_aug (i := 4) scLG.nd rfl (.inl rfl) (pe_cal C_drop_cells (hr.mono (by omega)) (by rfl) (pa_cons (pv 5) (pa_cons (pv 3) pa_nil))) ip_add)))
      (pss_one (ps_ret (pv 4)))))))), ?_⟩
    refine ⟨_, rfl, g, C, dx, _, .ref wa, rfl, hg, T.cl, T.no _ (by decide), rfl, _, rfl, wa, ws, x, rfl, hw, fun hx => ?_, fun hx => qN hx⟩
    have x0 := pos x hx
    refine ⟨_, rfl, g, dx, _, rfl, hg, rfl, g, wa, kd, hd, ws, es, n, rfl, gr, ?_⟩
    refine ⟨_, rfl, _, rfl, t, x, rfl, by omega, ?_⟩
    obtain ⟨h, eh⟩ : ∃ h : Int, t - t % x = h := ⟨_, rfl⟩
    rw [eh]
    obtain ⟨i0, ei⟩ : ∃ i0 : Int, (valV hv (.inl x)).getD (.int h) = .int i0 := by
      cases e : valV hv (.inl x) with
      | none => exact ⟨_, rfl⟩
      | some v =>
        obtain ⟨i, rfl⟩ := hi _ _ e
        exact ⟨i, rfl⟩
    refine ⟨_, rfl, _, rfl, g, C, dx, _, .ref hd, rfl, hg, T.cl, T.no _ (by decide), rfl, hd, rfl, .inl ⟨_, .inl hh⟩, _, rfl, _, rfl, _, DGet.k (k := .inl x) hh, ?_⟩
    rw [ei]
    refine ⟨_, i0, rfl, ?_⟩
    obtain ⟨m, em⟩ : ∃ m : Int, (if i0 > h then i0 else h) = m := ⟨_, rfl⟩
    rw [em]
    refine ⟨_, rfl, g, C, dx, _, .ref hd, rfl, hg, T.cl, T.no _ (by decide), rfl, _, rfl, hd, _, rfl, DPut.k (k := .inl x) hh (small1000 (by omega)), ?_⟩
    obtain ⟨H1, e1⟩ : ∃ H1, upd H hd (.dK (putK hv (.inl x) (.int m))) = H1 := ⟨_, rfl⟩
    have k1 : Kp hd H H1 := by
      rw [← e1]
      exact Kp.put
    have gr1 : GrO K C H1 g wa kd hd ws es (n + 1) := by
      refine gr.kp k1 ⟨putK hv (.inl x) (.int m), by rw [← e1]; exact upd_same, Nat.le_trans (length_putK _ _ _) (by omega), fun k v e => ?_⟩
      rw [valV_put] at e
      split at e
      · cases e
        exact ⟨m, rfl⟩
      · exact hi _ _ e
    refine nx_atS e1 ?_
    obtain ⟨⟨dx1, hg1⟩, _, ks1, _⟩ := id gr1
    obtain ⟨e, em1, ev⟩ := kvz_val ks1.len hx
    have gd := DGet.k (k := .inl x) ks1.at_
    rw [ev] at gd
    obtain ⟨kvs, he, inn⟩ : ∃ kvs, H1 e = some (.dK kvs) ∧ ∀ v, v ∈ kvs.map (·.2) → ∃ e2, v = .ref e2 ∧ H1 e2 = some (.dK []) := by
      rcases ks1.all e em1 with z | ⟨e2, _, _, _, z1, z2⟩
      · exact ⟨[], z, fun _ z => nomatch z⟩
      · exact ⟨_, z1, fun v hv => ⟨e2, List.mem_singleton.mp hv, z2⟩⟩
    refine ⟨_, rfl, g, C, dx1, _, .ref kd, rfl, hg1, T.cl, T.no _ (by decide), rfl, _, rfl, kd, _, rfl, gd, .inr (.inr (.inl ⟨rfl, .inl ⟨_, he⟩⟩)), e, kvs, rfl, rfl, he, fun p np => ?_⟩
    have s1 := same_new (o := vvO p e) np
    refine ⟨p, e, kvs, rfl, upd_same, s1 _ _ he, fun l nl => ?_⟩
    have s2 := s1.trans (same_new (o := .lst (kvs.map (·.2))) nl)
    obtain ⟨H2, e2⟩ : ∃ H2, upd (upd H1 p (vvO p e)) l (.lst (kvs.map (·.2))) = H2 := ⟨_, rfl⟩
    have hl2 : H2 l = some (.lst (kvs.map (·.2))) := by
      rw [← e2]
      exact upd_same
    rw [e2] at s2
    rw [e2]
    refine ⟨l, rfl, ⟨_, SqL.of hl2⟩, for_list (K := K) (xs := kvs.map (·.2)) (fun i σ Hc => ∃ z5, σ = [some (.ref g), some (.int x), some (.int t), some (.int h), some (.int 0), z5] ∧ Same H2 Hc) ⟨none, rfl, Same.refl _⟩ (fun i σ Hc _ z => ?_) (fun i v σ Hc hv z => ?_) ?_⟩
    · obtain ⟨_, _, z⟩ := z
      exact SqL.of (z _ _ hl2)
    · obtain ⟨z5, rfl, sc⟩ := z
      obtain ⟨e3, rfl, h3⟩ := inn v (List.mem_of_getElem? hv)
      refine ⟨_, rfl, _, rfl, _, rfl, e3, h, rfl, sc _ _ (s2 _ _ h3), fun H' s' => ?_⟩
      exact ⟨_, _, rfl, rfl, _, rfl, sc.trans s'⟩
    · rintro σ Hc ⟨z5, rfl, sc⟩
      have s3 := s2.trans sc
      exact ⟨_, rfl, qY hx _ (k1.trans (.of s3)) (gr1.same s3)⟩
end
end Tg

set_option maxHeartbeats 1000000
namespace Tg
open PySem PySem.Spec PyProof.Rows L2
/-! ### renewing at no times: cells_with, asked_anew, joined_folds, joined_anew -/
abbrev sCW : Stmt := inClass (topS 30) 13
abbrev sAA : Stmt := inClass (topS 30) 14
abbrev sJA : Stmt := inClass (topS 30) 15
abbrev sJF : Stmt := topS 28
abbrev NCW : List Str := ["self", "times", "width", "starts", "time", "start"]
abbrev NAA : List Str := ["self", "times", "points_in", "width", "folds", "start"]
abbrev NJA : List Str := ["self", "place", "finer", "anew", "width", "starts", "wanted", "start", "kept", "folds", "cell", "wholes"]
abbrev NJF : List Str := ["folds", "width", "wholes", "cell", "start"]
theorem scCW : FnScope NCW ["self", "times", "width"] (defScope sCW) := ⟨rfl, rfl, rfl, by decide +kernel, rfl, by decide +kernel, by decide +kernel⟩
theorem scAA : FnScope NAA ["self", "times", "points_in"] (defScope sAA) := ⟨rfl, rfl, rfl, by decide +kernel, rfl, by decide +kernel, by decide +kernel⟩
theorem scJA : FnScope NJA ["self", "place", "finer", "anew", "width", "starts"] (defScope sJA) := ⟨rfl, rfl, rfl, by decide +kernel, rfl, by decide +kernel, by decide +kernel⟩
theorem scJF : FnScope NJF ["folds", "width"] (defScope sJF) := ⟨rfl, rfl, rfl, by decide +kernel, rfl, by decide +kernel, by decide +kernel⟩
/-- a walk over nothing -/
theorem walk0 {J : It} {G : Hp → Prop} {Y : Nat → Hp → V → Hp → Prop} (w : Walk J 0 G Y) {Z : Hp} {turn : (Hp → Prop) → V → Hp → Prop} {Qd : Hp → Prop} (g : G Z) (q : Qd Z) : Walked J Z turn Qd :=
  walked_w w (fun i Hc => Hc = Z) rfl (fun i Hc _ h => h ▸ g) (fun i x Hc Hd hi => absurd hi (Nat.not_lt_zero i)) (fun Hc h => h ▸ q)
/-- a thing locked, another one made, and unlocked -/
theorem lk_same {H : Hp} {d D : Addr} {u f o : HO} (hd : H d = some u) (nD : H D = none) : Same H (upd (upd (upd H d f) D o) d u) ∧ upd (upd (upd H d f) D o) d u D = some o := by
  have dD : d ≠ D := ne_of_none hd nD
  refine ⟨fun c x h => ?_, by rw [upd_ne dD.symm, upd_same]⟩
  by_cases z : c = d
  · rw [z, hd] at h
    rw [z, upd_same]
    exact h
  · rw [upd_ne z, upd_ne (ne_of_none h nD), upd_ne z]
    exact h
theorem nD_of {H : Hp} {d D : Addr} {u f : HO} (hd : H d = some u) (nD : upd H d f D = none) : H D = none ∧ d ≠ D := by
  have ne : d ≠ D := fun z => by
    rw [z, upd_same] at nD
    cases nD
  exact ⟨(upd_ne ne.symm).symm.trans nD, ne⟩
section
variable {P : Program} {w : World} {K : PySem.W.Frag} {mg : Str → Option Value} {base : Heap} {C CG : Addr}
def spCW : Sp := fun vs H Q _ => ∃ (g l : Addr) (x : Int), vs = [.ref g, .ref l, .int x] ∧ H l = some (.lst []) ∧ ∀ r H', Same H H' → H' r = some (.lst []) → Q (.ref r) H'
theorem ok_cw {f : Addr} {fd : FuncData} {k : Nat} (F : Fun K "cells_with" "Grains.cells_with" sCW f fd) (m_sorted : mg "sorted" = none) : FnOk P w K mg base CX0 (k + 1) f fd ["self", "times", "width"] spCW := by
  refine F.ok scCW (fun vs H Q E h => ?_) (fun cdv A outer s H vs Q E hr h => ?_)
  · obtain ⟨g, l, x, rfl, _⟩ := h
    rfl
  · obtain ⟨g, l, x, rfl, hl, q⟩ := h
    refine ⟨_, pss_cons (ps_set (i := 3) scCW.nd rfl (.inl rfl) (pe_callB (cr_sortedSetA rfl) (by rfl) m_sorted (by decide +kernel) (pa_cons (pe_scI (own := [("time", 4)]) (g := (gName 4)) (tt := tYes) rfl scCW.nd (pi_list (pv 1)) (blkOk_by (own := [("time", 4)]) (N := NCW) (sc := defScope sCW) (by decide +kernel)) (fun _ _ _ _ _ => (pg_name (i := 4) scCW.nd rfl (.inl rfl))) (fun _ _ _ _ _ => pts_nil) (fun _ _ _ _ _ => pe_dead)) pa_nil)))
      (pss_one (ps_ret (pe_lc (own := [("start", 5)]) (g := (gName 5)) rfl scCW.nd (pi_list (pv 3)) (blkOk_by (own := [("start", 5)]) (N := NCW) (sc := defScope sCW) (by decide +kernel)) (fun _ _ _ _ _ => (pg_name (i := 5) scCW.nd rfl (.inl rfl))) (fun _ _ _ _ _ => pts_one pt_dead) (fun _ _ _ _ _ => (pv 5))))), ?_⟩
    refine ⟨_, rfl, l, rfl, ⟨_, SqL.of hl⟩, fun D nD => ?_⟩
    have lD : l ≠ D := ne_of_none hl nD
    refine walked_w (walk_list (K := K) (a := l) (xs := [])) (fun i Hc => ∃ wd, Hc = upd H D (SetO wd D (fun _ => false) 0) ∧ wd = w) ⟨_, rfl, rfl⟩ (fun i Hc _ h => by obtain ⟨_, h, _⟩ := h; rw [h]; exact SqL.of ((upd_ne lD).trans hl)) (fun i x Hc Hd hi => absurd hi (Nat.not_lt_zero i)) ?_
    rintro Hc ⟨wd, rfl, rfl⟩
    refine ⟨D, _, 0, rfl, upd_same, Nat.zero_le _, fun ns p up np => ?_⟩
    obtain rfl : ns = [] := List.length_eq_zero_iff.mp up.2.2
    have s1 : Same H (upd (upd H D (SetO wd D (fun _ => false) 0)) p (.lst [])) := (same_new nD).trans (same_new np)
    have hp : (upd (upd H D (SetO wd D (fun _ => false) 0)) p (.lst [])) p = some (.lst []) := upd_same
    refine ⟨_, rfl, p, rfl, ⟨_, SqL.of hp⟩, fun D2 nD2 => ?_⟩
    have s2 := same_new (o := .lst []) nD2
    refine walked_w (walk_list (K := K) (a := p) (xs := [])) (fun i Hc => Hc = upd (upd (upd H D (SetO wd D (fun _ => false) 0)) p (.lst [])) D2 (.lst [])) rfl (fun i Hc _ h => by rw [h]; exact SqL.of (s2 _ _ hp)) (fun i x Hc Hd hi => absurd hi (Nat.not_lt_zero i)) ?_
    rintro Hc rfl
    exact q D2 _ (s1.trans s2) upd_same
def spAA (K : PySem.W.Frag) (C : Addr) : Sp := fun vs H Q _ => ∃ (g wa kd hd l : Addr) (ws : List Int) (es : List Addr) (n : Nat) (pts : V), vs = [.ref g, .ref l, pts] ∧ GrO K C H g wa kd hd ws es n ∧ ws ≠ [] ∧ H l = some (.lst []) ∧ ∀ r H', Same H H' → H r = none → H' r = some (.dK []) → Q (.ref r) H'
theorem ok_aa {f : Addr} {fd : FuncData} {k : Nat} (F : Fun K "asked_anew" "Grains.asked_anew" sAA f fd) (T : TGr K C) (M_cells_with : CalM P w K mg base k C "cells_with" ["self", "times", "width"] spCW) : FnOk P w K mg base CX0 (k + 1) f fd ["self", "times", "points_in"] (spAA K C) := by
  refine F.ok scAA (fun vs H Q E h => ?_) (fun cdv A outer s H vs Q E hr h => ?_)
  · obtain ⟨g, wa, kd, hd, l, ws, es, n, pts, rfl, _⟩ := h
    rfl
  · obtain ⟨g, wa, kd, hd, l, ws, es, n, pts, rfl, gr, ne, hl, q⟩ := h
    obtain ⟨⟨dx, hg⟩, hw, _⟩ := id gr
    obtain ⟨w0, wr, rfl⟩ : ∃ w0 wr, ws = w0 :: wr := by
      cases ws with
      | nil => exact absurd rfl ne
      | cons a b => exact ⟨a, b, rfl⟩
    refine ⟨_, pss_cons (ps_set (i := 3) scAA.nd rfl (.inl rfl) (pe_ix ix_tup (pe_fld (pv 0) rfl) pe_int (fun _ _ => rfl)))
      (pss_cons (ps_set (i := 4) scAA.nd rfl (.inl rfl) pe_dnewK)
      (pss_cons (ps_fld (pv 0) pe_bl rfl)
      (pss_cons (ps_finQ (pss_one (ps_for PassesOwn.never rfl (pi_list (pe_calM (pv 0) T.cl M_cells_with (hr.mono (by omega)) (pa_cons (pv 1) (pa_cons (pv 3) pa_nil)))) (pg_name (i := 5) scAA.nd rfl (.inl rfl))
          (pss_one ps_dead)))
        (pss_one (ps_fld (pv 0) pe_bl rfl)))
      (pss_one (ps_ret (pv 4)))))), ?_⟩
    refine ⟨_, rfl, g, C, dx, _, .ref wa, rfl, hg, T.cl, T.no _ (by decide), rfl, wa, _, _, .int w0, rfl, rfl, hw, (by show atI _ ((0 : Nat) : Int) = _; exact atI_nat rfl), fun d nd => ?_⟩
    have s1 := same_new (o := .dK []) nd
    have hg1 := s1 _ _ hg
    refine ⟨_, rfl, g, C, dx, _, rfl, hg1, T.cl, T.no _ (by decide), (by show 4 < 1000; decide), ?_⟩
    obtain ⟨H2, e2⟩ : ∃ H2, upd (upd H d (.dK [])) g (.ins C dx (putF "busy" (.bl true) [("widths", .ref wa), ("busy", .bl false), ("kept", .ref kd), ("horizons", .ref hd)])) = H2 := ⟨_, rfl⟩
    have hg2 : H2 g = some (.ins C dx [("widths", .ref wa), ("busy", .bl true), ("kept", .ref kd), ("horizons", .ref hd)]) := by
      rw [← e2]
      exact upd_same
    have lg : l ≠ g := fun z => by
      rw [z, hg] at hl
      cases hl
    have k2 : ∀ b o, b ≠ g → H b = some o → H2 b = some o := fun b o n h => by
      rw [← e2, upd_ne n]
      exact s1 _ _ h
    have dg : d ≠ g := (ne_of_none hg nd).symm
    refine nx_atS e2 ?_
    refine ⟨_, rfl, g, dx, _, rfl, hg2, rfl, _, rfl, _, rfl, g, l, w0, rfl, k2 _ _ lg hl, fun r H3 s3 hr3 => ?_⟩
    refine ⟨r, rfl, ⟨_, SqL.of hr3⟩, fun i m σ Hc => i = 0 ∧ σ = [some (.ref g), some (.ref l), some pts, some (.int w0), some (.ref d), none] ∧ Hc = H3, ⟨0, rfl, rfl, rfl⟩, ?_⟩
    rintro i m σ Hc ⟨rfl, rfl, rfl⟩
    refine .inl ⟨⟨[], SqL.of hr3, Nat.le_refl _⟩, ?_⟩
    have hg3 := s3 _ _ hg2
    refine ⟨_, rfl, g, C, dx, _, rfl, hg3, T.cl, T.no _ (by decide), (by show 4 < 1000; decide), ?_⟩
    refine ⟨_, rfl, q d _ (fun b o h => ?_) nd ?_⟩
    · by_cases z : b = g
      · rw [z, hg] at h
        cases h
        rw [z, upd_same]
        rfl
      · rw [upd_ne z]
        exact s3 _ _ (k2 _ _ z h)
    · rw [upd_ne dg]
      refine s3 _ _ ?_
      rw [← e2, upd_ne dg, upd_same]
def spJF : Sp := fun vs H Q _ => ∃ (a : Addr) (x : Int), vs = [.ref a, .int x] ∧ H a = some (.dK []) ∧ ∀ r H', Same H H' → H' r = some (.dK []) → Q (.ref r) H'
theorem ok_jf {f : Addr} {fd : FuncData} {k : Nat} (F : Fun K "joined_folds" "joined_folds" sJF f fd) (m_sorted : mg "sorted" = none) : FnOk P w K mg base CX0 (k + 1) f fd ["folds", "width"] spJF := by
  refine F.ok scJF (fun vs H Q E h => ?_) (fun cdv A outer s H vs Q E hr h => ?_)
  · obtain ⟨a, x, rfl, _⟩ := h
    rfl
  · obtain ⟨a, x, rfl, ha, q⟩ := h
    refine ⟨_, pss_cons (ps_set (i := 2) scJF.nd rfl (.inl rfl) pe_dnewK)
      (pss_cons (ps_for PassesOwn.never rfl (pi_list (pe_callB (cr_sortedDI rfl) (by rfl) m_sorted (by decide +kernel) (pa_cons (pv 0) pa_nil))) (pg_name (i := 3) scJF.nd rfl (.inl rfl))
        (pss_cons ps_dead
        (pss_one ps_dead)))
      (pss_one (ps_ret (pv 2)))), ?_⟩
    intro d nd
    have s1 := same_new (o := .dK []) nd
    refine ⟨_, rfl, a, [], [], rfl, .inl (s1 _ _ ha), rfl, fun ns p pm _ np => ?_⟩
    rw [List.Perm.eq_nil pm]
    have s2 := s1.trans (same_new (o := .lst (([] : List Int).map V.int)) np)
    have hd : (upd (upd H d (.dK [])) p (.lst (([] : List Int).map V.int))) d = some (.dK []) := same_new np _ _ upd_same
    refine ⟨p, rfl, ⟨_, SqL.of upd_same⟩, for_list (K := K) (xs := []) (fun i σ Hc => σ = [some (.ref a), some (.int x), some (.ref d), none, none] ∧ Hc = upd (upd H d (.dK [])) p (.lst (([] : List Int).map V.int))) ⟨rfl, rfl⟩ (fun i σ Hc _ z => by rw [z.2]; exact SqL.of upd_same) (fun i v σ Hc hv => nomatch hv) ?_⟩
    rintro σ Hc ⟨rfl, rfl⟩
    exact ⟨_, rfl, q d _ s2 hd⟩
def spJA (K : PySem.W.Frag) (C : Addr) : Sp := fun vs H Q _ => ∃ (g wa kd hd an l : Addr) (ws : List Int) (es : List Addr) (n : Nat) (x y : Int), vs = [.ref g, .int 1, .int x, .ref an, .int y, .ref l] ∧ GrO K C H g wa kd hd ws es n ∧ x ∈ ws ∧ H an = some (.dK []) ∧ H l = some (.lst []) ∧ ∀ r H', Same H H' → H r = none → H' r = some (.dK []) → Q (.ref r) H'
theorem ok_ja {f : Addr} {fd : FuncData} {k : Nat} (F : Fun K "joined_anew" "Grains.joined_anew" sJA f fd) (T : TGr K C) (M_kept_cells : CalM P w K mg base k C "kept_cells" ["self", "place", "width"] (spKC K C)) (C_joined_folds : Cal P w K mg base k "joined_folds" ["folds", "width"] spJF) :
    FnOk P w K mg base CX0 (k + 1) f fd ["self", "place", "finer", "anew", "width", "starts"] (spJA K C) := by
  refine F.ok scJA (fun vs H Q E h => ?_) (fun cdv A outer s H vs Q E hr h => ?_)
  · obtain ⟨g, wa, kd, hd, an, l, ws, es, n, x, y, rfl, _⟩ := h
    rfl
  · obtain ⟨g, wa, kd, hd, an, l, ws, es, n, x, y, rfl, gr, hx, ha, hl, q⟩ := h
    refine ⟨_, pss_cons (ps_set (i := 6) scJA.nd rfl (.inr rfl) (pe_dc (own := [("start", 7)]) (g := (gName 7)) (tt := tYes) rfl scJA.nd (pi_list (pv 5)) (blkOk_by (own := [("start", 7)]) (N := NJA) (sc := defScope sJA) (by decide +kernel)) (fun _ _ _ _ _ => (pg_name (i := 7) scJA.nd rfl (.inl rfl))) (fun _ _ _ _ _ => pts_nil) (fun _ _ _ _ _ => (pv 7)) (fun _ _ _ _ _ => pe_bl)))
      (pss_cons (ps_set (i := 8) scJA.nd rfl (.inr rfl) (pe_calM (pv 0) T.cl M_kept_cells (hr.mono (by omega)) (pa_cons (pv 1) (pa_cons (pv 2) pa_nil))))
      (pss_cons (ps_lock (ps_setDc (i := 9) (own := [("cell", 10)]) (g := (gName 10)) rfl scJA.nd rfl rfl (sw_dict rfl rfl rfl (by decide +kernel)) (pi_keys (pv 8)) (blkOk_by (own := [("cell", 10)]) (N := NJA) (sc := defScope sJA) (by decide +kernel)) (fun _ _ _ _ _ => (pg_name (i := 10) scJA.nd rfl (.inl rfl))) (fun _ _ _ _ _ => pts_one pt_dead) (fun _ _ _ _ _ => (pv 10)) (fun _ _ _ _ _ => pe_dead)))
      (pss_cons (ps_expr (pe_bm PySem.F.plainAttrs_dict PySem.F.slot_dict_update PySem.F.type_dict_update mt_upd (pv 9) (pa_cons (pe_lock (pe_dc (own := [("cell", 10)]) (g := (gName 10)) rfl scJA.nd (pi_keys (pv 3)) (blkOk_by (own := [("cell", 10)]) (N := NJA) (sc := defScope sJA) (by decide +kernel)) (fun _ _ _ _ _ => (pg_name (i := 10) scJA.nd rfl (.inl rfl))) (fun _ _ _ _ _ => pts_one pt_dead) (fun _ _ _ _ _ => (pv 10)) (fun _ _ _ _ _ => pe_dead))) pa_nil)))
      (pss_cons (ps_set (i := 11) scJA.nd rfl (.inr rfl) (pe_cal C_joined_folds (hr.mono (by omega)) (by rfl) (pa_cons (pv 9) (pa_cons (pv 4) pa_nil))))
      (pss_one (ps_ret (pe_dc (own := [("start", 7)]) (g := (gName 7)) (tt := tYes) rfl scJA.nd (pi_list (pv 5)) (blkOk_by (own := [("start", 7)]) (N := NJA) (sc := defScope sJA) (by decide +kernel)) (fun _ _ _ _ _ => (pg_name (i := 7) scJA.nd rfl (.inl rfl))) (fun _ _ _ _ _ => pts_nil) (fun _ _ _ _ _ => (pv 7)) (fun _ _ _ _ _ => pe_dead)))))))), ?_⟩
    refine ⟨_, rfl, l, rfl, ⟨_, SqL.of hl⟩, fun D1 n1 => walk0 (walk_list (K := K) (a := l) (xs := [])) (SqL.of (same_new n1 _ _ hl)) ?_⟩
    obtain ⟨H1, e1⟩ : ∃ H1, upd H D1 (.dK []) = H1 := ⟨_, rfl⟩
    have s1 : Same H H1 := by
      rw [← e1]
      exact same_new n1
    rw [e1]
    have gr1 := gr.same s1
    obtain ⟨⟨dx, hg⟩, _⟩ := id gr1
    refine ⟨_, rfl, g, dx, _, rfl, hg, rfl, _, rfl, _, rfl, g, wa, kd, hd, ws, es, n, x, rfl, gr1, hx, fun r H2 s2 hr2 => ?_⟩
    refine ⟨r, _, hr2, trivial, fun od => ⟨_, rfl, r, od, rfl, .inl ⟨[], upd_same, fun D2 n2 => ?_⟩⟩⟩
    obtain ⟨n2', rD⟩ := nD_of hr2 n2
    refine walk0 walk_keys ((upd_ne rD).trans upd_same) ⟨(upd_ne rD).trans upd_same, ?_⟩
    obtain ⟨s3, hD2⟩ := lk_same (f := .frz od (.dK [])) (o := .dK []) hr2 n2'
    obtain ⟨H3, e3⟩ : ∃ H3, upd (upd (upd H2 r (.frz od (.dK []))) D2 (.dK [])) r (.dK []) = H3 := ⟨_, rfl⟩
    rw [e3] at s3 hD2
    rw [e3]
    have s13 := (s1.trans s2).trans s3
    have ha3 := s13 _ _ ha
    refine ⟨_, rfl, .inr (.inr (.inl ⟨rfl, .inl ⟨_, hD2⟩⟩)), ?_⟩
    refine ⟨an, _, ha3, trivial, fun od2 => ⟨_, rfl, an, od2, rfl, .inl ⟨[], upd_same, fun D3 n3 => ?_⟩⟩⟩
    obtain ⟨n3', aD⟩ := nD_of ha3 n3
    refine walk0 walk_keys ((upd_ne aD).trans upd_same) ⟨(upd_ne aD).trans upd_same, ?_⟩
    obtain ⟨s4, hD3⟩ := lk_same (f := .frz od2 (.dK [])) (o := .dK []) ha3 n3'
    obtain ⟨H4, e4⟩ : ∃ H4, upd (upd (upd H3 an (.frz od2 (.dK []))) D3 (.dK [])) an (.dK []) = H4 := ⟨_, rfl⟩
    rw [e4] at s4 hD3
    rw [e4]
    have hD24 := s4 _ _ hD2
    refine ⟨D2, D3, [], [], rfl, rfl, ne_of_none hD2 n3', hD24, hD3, by decide, ?_⟩
    have s5 : Same H4 (upd H4 D2 (.dK (mergeK [] []))) := fun c o h => by
      by_cases z : c = D2
      · rw [z, hD24] at h
        cases h
        rw [z, upd_same]
        rfl
      · rw [upd_ne z]
        exact h
    have hD25 : (upd H4 D2 (.dK (mergeK [] []))) D2 = some (.dK []) := upd_same
    refine ⟨_, rfl, _, rfl, D2, y, rfl, hD25, fun r6 H6 s6 hr6 => ?_⟩
    have sA := ((s13.trans s4).trans s5).trans s6
    have hl6 := sA _ _ hl
    exact ⟨_, rfl, l, rfl, ⟨_, SqL.of hl6⟩, fun D7 n7 => walk0 (walk_list (K := K) (a := l) (xs := [])) (SqL.of (same_new n7 _ _ hl6)) (q D7 _ (sA.trans (same_new n7)) (sA.free n7) upd_same)⟩
end
end Tg

set_option maxHeartbeats 1000000
namespace Tg
open PySem PySem.Spec PyProof.Rows L2
/-! ### settled and renew, at no times -/
abbrev sSt : Stmt := inClass (topS 30) 16
abbrev sRn : Stmt := inClass (topS 30) 1
abbrev NSt : List Str := ["self", "place", "folds_by_width", "number", "changed", "width", "folds", "kept", "start", "fold", "old"]
abbrev NRn : List Str := ["self", "place", "times", "points_in", "number", "told", "folds_by_width", "finer", "width", "starts"]
theorem scSt : FnScope NSt ["self", "place", "folds_by_width", "number"] (defScope sSt) := ⟨rfl, rfl, rfl, by decide +kernel, rfl, by decide +kernel, by decide +kernel⟩
theorem scRn : FnScope NRn ["self", "place", "times", "points_in", "number"] (defScope sRn) := ⟨rfl, rfl, rfl, by decide +kernel, rfl, by decide +kernel, by decide +kernel⟩
/-- all but what stands at es stays -/
def KpL (es : List Addr) (H H' : Hp) : Prop := ∀ b o, b ∉ es → H b = some o → H' b = some o
theorem KpL.of {es : List Addr} {H H' : Hp} (s : Same H H') : KpL es H H' := fun b o _ h => s b o h
theorem KpL.trans {es : List Addr} {H H1 H2 : Hp} (a : KpL es H H1) (b : KpL es H1 H2) : KpL es H H2 := fun c o n h => b c o n (a c o n h)
theorem kvz_len {ws : List Int} {es : List Addr} (l : es.length = ws.length) : (kvz ws es).length = ws.length := by
  unfold kvz
  rw [List.length_map, List.length_zip, l, Nat.min_self]
theorem kvz_at {ws : List Int} {es : List Addr} {i : Nat} {k : Key} {v : V} (h : (kvz ws es)[i]? = some (k, v)) : ∃ w e, ws[i]? = some w ∧ es[i]? = some e ∧ k = .inl w ∧ v = .ref e := by
  unfold kvz at h
  rw [List.getElem?_map] at h
  obtain ⟨p, h1, h2⟩ := Option.map_eq_some_iff.mp h
  obtain ⟨h3, h4⟩ := List.getElem?_zip_eq_some.mp h1
  exact ⟨p.1, p.2, h3, h4, (congrArg Prod.fst h2).symm, (congrArg Prod.snd h2).symm⟩
/-- a zip of two tuples, the second the shorter one -/
theorem walk_zipTs {K : PySem.W.Frag} {a b : Addr} {xs ys : List V} (hl : ys.length ≤ xs.length) : Walk (RZ.ItzT K a b) ys.length (fun H => SqT K H a xs ∧ SqT K H b ys) (YPair (fun i => xs[i]?) (fun i => ys[i]?)) :=
  ⟨fun i _ hi q => ⟨xs, ys, xs[i]'(by omega), ys[i], q.1, q.2, List.getElem?_eq_getElem (by omega), List.getElem?_eq_getElem hi⟩, fun _ q => ⟨xs, ys, q.1, q.2, .inr (Nat.le_refl _)⟩, fun i _ _ _ _ q ⟨T, x, z, e, n, l, one, two⟩ => ⟨T, x, z, e, n, l, one xs q.1, two ys q.2⟩⟩
section
variable {P : Program} {w : World} {K : PySem.W.Frag} {mg : Str → Option Value} {base : Heap} {C CG : Addr}
theorem GrO.dom {H : Hp} {g wa kd hd : Addr} {ws : List Int} {es : List Addr} {n : Nat} (h : GrO K C H g wa kd hd ws es n) : (∀ e, e ∈ es → H e ≠ none) ∧ g ∉ es := by
  obtain ⟨⟨dx, h1⟩, _, h3, _⟩ := h
  refine ⟨fun e he z => ?_, fun he => ?_⟩
  · rcases h3.all e he with y | ⟨_, _, _, _, y, _⟩
    · rw [z] at y
      cases y
    · rw [z] at y
      cases y
  · rcases h3.all g he with y | ⟨_, _, _, _, y, _⟩
    · rw [h1] at y
      cases y
    · rw [h1] at y
      cases y
/-- a place is laid in an empty dict of theirs -/
theorem GrO.laid {H : Hp} {g wa kd hd e nw : Addr} {ws : List Int} {es : List Addr} {n : Nat} (h : GrO K C H g wa kd hd ws es n) (he : e ∈ es) (ez : H e = some (.dK [])) (nn : H nw = none) : GrO K C (upd (upd H nw (.dK [])) e (.dK (putK [] (.inl 1) (.ref nw)))) g wa kd hd ws es n := by
  obtain ⟨d1, gn⟩ := h.dom
  obtain ⟨⟨dx, h1⟩, h2, ks, hv, h4, h5⟩ := h
  have st : ∀ b o, b ≠ e → H b = some o → (upd (upd H nw (.dK [])) e (.dK (putK [] (.inl 1) (.ref nw)))) b = some o := fun b o n1 z => by
    rw [upd_ne n1, upd_ne (ne_of_none z nn)]
    exact z
  have kt : KT H (upd (upd H nw (.dK [])) e (.dK (putK [] (.inl 1) (.ref nw)))) := KT.kp (p := e) (fun b o n1 z => st b o n1 z) ez nfix_dK
  have en : e ≠ nw := ne_of_none ez nn
  refine ⟨⟨dx, st _ _ (fun z => gn (z ▸ he)) h1⟩, sqT_kt kt h2, ⟨st _ _ (fun z => ks.k (z ▸ he)) ks.at_, ks.len, ks.k, ks.h, ks.ne, fun x hx => ?_⟩, hv, st _ _ (fun z => ks.h (z ▸ he)) h4, h5⟩
  by_cases xe : x = e
  · subst xe
    refine .inr ⟨nw, fun z => d1 _ z nn, fun z => ?_, fun z => ?_, upd_same, ?_⟩
    · have := ks.at_
      rw [← z, nn] at this
      cases this
    · rw [← z, nn] at h4
      cases h4
    · rw [upd_ne en.symm, upd_same]
  · rcases ks.all x hx with z | ⟨e2, n1, n2, n3, z1, z2⟩
    · exact .inl (st _ _ xe z)
    · exact .inr ⟨e2, n1, n2, n3, st _ _ xe z1, st _ _ (fun z => n1 (z ▸ he)) z2⟩
/-- a dict that isn't theirs is unlocked -/
theorem GrO.unl {H : Hp} {g wa kd hd fb : Addr} {ws : List Int} {es : List Addr} {n : Nat} {od : Obj} {u : List (Key × V)} {o : HO} (h : GrO K C H g wa kd hd ws es n) (hf : H fb = some (.frz od (.dK u))) : GrO K C (upd H fb o) g wa kd hd ws es n := by
  have st : ∀ b x, (∀ od u, x ≠ .frz od (.dK u)) → H b = some x → (upd H fb o) b = some x := fun b x nx z => by
    refine (upd_ne fun y => ?_).trans z
    rw [y, hf] at z
    cases z
    exact nx _ _ rfl
  obtain ⟨⟨dx, h1⟩, h2, ks, hv, h4, h5⟩ := h
  refine ⟨⟨dx, st _ _ (fun _ _ z => nomatch z) h1⟩, h2.imp (fun r => r.imp (fun e => st _ _ (fun _ _ z => nomatch z) e) fun ⟨ob, e⟩ => ⟨ob, st _ _ (fun _ _ z => nomatch z) e⟩) id, ⟨st _ _ (fun _ _ z => nomatch z) ks.at_, ks.len, ks.k, ks.h, ks.ne, fun x hx => ?_⟩, hv, st _ _ (fun _ _ z => nomatch z) h4, h5⟩
  rcases ks.all x hx with z | ⟨e2, n1, n2, n3, z1, z2⟩
  · exact .inl (st _ _ (fun _ _ z => nomatch z) z)
  · exact .inr ⟨e2, n1, n2, n3, st _ _ (fun _ _ z => nomatch z) z1, st _ _ (fun _ _ z => nomatch z) z2⟩
theorem same_lk {H : Hp} {d : Addr} {u f : HO} (hd : H d = some u) : Same H (upd (upd H d f) d u) := fun c o h => by
  by_cases z : c = d
  · rw [z, hd] at h
    rw [z, upd_same]
    exact h
  · rw [upd_ne z, upd_ne z]
    exact h
def spSt (K : PySem.W.Frag) (C : Addr) : Sp := fun vs H Q _ => ∃ (g wa kd hd fb : Addr) (ws : List Int) (es fs : List Addr) (n : Nat) (num : V) (H0 : Hp), vs = [.ref g, .int 1, .ref fb, num] ∧ GrO K C H0 g wa kd hd ws es n ∧ Same H0 H ∧ H0 fb = none ∧ H fb = some (.dK (kvz ws fs)) ∧ fs.length = ws.length ∧
  (∀ f, f ∈ fs → H0 f = none ∧ H f = some (.dK [])) ∧ ∀ r H', KpL es H H' → GrO K C H' g wa kd hd ws es n → H' r = some (.lst []) → Q (.ref r) H'
theorem ok_st {f : Addr} {fd : FuncData} {k : Nat} (F : Fun K "settled" "Grains.settled" sSt f fd) (T : TGr K C) : FnOk P w K mg base CX0 (k + 1) f fd ["self", "place", "folds_by_width", "number"] (spSt K C) := by
  refine F.ok scSt (fun vs H Q E h => ?_) (fun cdv A outer s H vs Q E hr h => ?_)
  · obtain ⟨g, wa, kd, hd, fb, ws, es, fs, n, num, H0, rfl, _⟩ := h
    rfl
  · obtain ⟨g, wa, kd, hd, fb, ws, es, fs, n, num, H0, rfl, gr0, s0, nfb, hfb, lf, hf, q⟩ := h
    have hu := hu_of hr
    refine ⟨_, pss_cons (ps_set (i := 4) scSt.nd rfl (.inl rfl) (pe_lst pa_nil))
      (pss_cons (ps_lock (ps_for PassesOwn.never rfl (pi_items (pv 2)) (pg_tup rfl (pgs_cons (pg_name (i := 5) scSt.nd rfl (.inl rfl)) (pgs_cons (pg_name (i := 6) scSt.nd rfl (.inl rfl)) pgs_nil)))
        (pss_cons (ps_set (i := 7) scSt.nd rfl (.inl rfl) (pe_dsetd (pe_dget hu (pe_fld (pv 0) rfl) (pv 5) (fun _ _ => rfl)) (pv 1) pe_dnewK ⟨rfl, rfl, rfl, rfl⟩))
        (pss_one (ps_lock (ps_for PassesOwn.never rfl (pi_items (pv 6)) (pg_tup rfl (pgs_cons (pg_name (i := 8) scSt.nd rfl (.inl rfl)) (pgs_cons (pg_name (i := 9) scSt.nd rfl (.inl rfl)) pgs_nil)))
          (pss_cons ps_dead
          (pss_one ps_dead))))))))
      (pss_one (ps_ret (pv 4)))), ?_⟩
    refine ⟨Nat.zero_le _, fun ch nch => ?_⟩
    have s1 := same_new (o := .lst []) nch
    obtain ⟨H1, e1⟩ : ∃ H1, upd H ch (.lst []) = H1 := ⟨_, rfl⟩
    have hch : H1 ch = some (.lst []) := by
      rw [← e1]
      exact upd_same
    rw [e1] at s1
    rw [e1]
    have hfb1 := s1 _ _ hfb
    refine ⟨fb, _, hfb1, trivial, fun od => ?_⟩
    have gr1 : GrO K C (upd H1 fb (.frz od (.dK (kvz ws fs)))) g wa kd hd ws es n := gr0.same (same_put nfb (s0.trans s1))
    have fbn : fb ∉ es := fun z => gr0.dom.1 _ z nfb
    have fin : ∀ f, f ∈ fs → f ∉ es := fun f h z => gr0.dom.1 _ z (hf f h).1
    have chfb : ch ≠ fb := fun z => by
      rw [z, hfb] at nch
      cases nch
    have chn : ch ∉ es := fun z => by
      have y := s0.free nch
      exact gr0.dom.1 _ z y
    refine ⟨_, rfl, fb, od, _, rfl, upd_same, ?_⟩
    refine for_it walk_items (fun i σ Hc => ∃ z5 z6 z7 z8 z9 z10, σ = [some (.ref g), some (.int 1), some (.ref fb), some num, some (.ref ch), z5, z6, z7, z8, z9, z10] ∧ Hc fb = some (.frz od (.dK (kvz ws fs))) ∧ (∀ b o, b ∉ es → b ≠ fb → H1 b = some o → Hc b = some o) ∧ GrO K C Hc g wa kd hd ws es n)
      ⟨none, none, none, none, none, none, rfl, upd_same, fun b o _ n h => (upd_ne n).trans h, gr1⟩ (fun i σ Hc _ z => by obtain ⟨_, _, _, _, _, _, _, z, _⟩ := z; exact z) ?_ ?_
    · rintro i x σ Hc Hd hi ⟨z5, z6, z7, z8, z9, z10, rfl, hc, kp, gr⟩ ⟨T0, x1, x2, rfl, nT, rfl, f1, f2⟩
      obtain ⟨kv, ekv, rfl⟩ := Option.map_eq_some_iff.mp f1
      dsimp only at ekv f2
      rw [ekv] at f2
      obtain ⟨kk, vv⟩ := kv
      obtain ⟨w1, fa, ew, ef, rfl, rfl⟩ := kvz_at ekv
      cases f2
      have sT : Same Hc (upd Hc T0 (.tup [kV (.inl w1), .ref fa])) := same_new nT
      have grT := gr.same sT
      have fm : fa ∈ fs := List.mem_of_getElem? ef
      have hfa : (upd Hc T0 (.tup [kV (.inl w1), .ref fa])) fa = some (.dK []) := by
        refine sT _ _ (kp _ _ (fin _ fm) (fun z => ?_) (s1 _ _ (hf _ fm).2))
        have y := (hf _ fm).2
        rw [z, hfb] at y
        have l0 := kvz_len lf
        have il := (List.getElem?_eq_some_iff.mp ew).1
        rw [show kvz ws fs = [] from HO.dK.inj (Option.some.inj y)] at l0
        rw [← l0] at il
        exact absurd il (Nat.not_lt_zero _)
      obtain ⟨⟨dx, hg⟩, _, ks, _⟩ := id grT
      obtain ⟨e, em, ev⟩ := kvz_val ks.len (List.mem_of_getElem? ew)
      have gd := DGet.k (k := .inl w1) ks.at_
      rw [ev] at gd
      refine ⟨T0, _, rfl, SqT.of upd_same, rfl, _, _, rfl, _, _, rfl, rfl, ?_⟩
      refine ⟨_, rfl, g, C, dx, _, .ref kd, rfl, hg, T.cl, T.no _ (by decide), rfl, _, rfl, kd, _, rfl, gd, e, rfl, ?_⟩
      rcases ks.all e em with he | ⟨e2, n1, n2, n3, he, he2⟩
      case' inl =>
        refine ⟨.inl ⟨_, .inl he⟩, _, rfl, fun nw nn => ⟨[], .inl 1, same_new nn _ _ he, rfl, by decide, (fun v hv => by cases hv), fun _ => ?_⟩⟩
        have gr5 := grT.laid em he nn
        have kp5 : KpL es (upd Hc T0 (.tup [kV (.inl w1), .ref fa])) (upd (upd (upd Hc T0 (.tup [kV (.inl w1), .ref fa])) nw (.dK [])) e (.dK (putK [] (.inl 1) (.ref nw)))) := fun b o nb h => by
          have ne1 : b ≠ e := fun z => nb (by rw [z]; exact em)
          exact (upd_ne ne1).trans ((upd_ne (ne_of_none h nn)).trans h)
      case' inr =>
        refine ⟨.inl ⟨_, .inl he⟩, _, rfl, fun nw nn => ⟨_, .inl 1, same_new nn _ _ he, rfl, (by show 1 < sizeLine; decide), fun v hv => ?_, fun hn => ?_⟩⟩
        case' refine_2 =>
          rw [valV_pos (p := ((.inl 1 : Key), V.ref e2)) rfl] at hn
          cases hn
        have gr5 := grT.same (same_new (o := .dK []) nn)
        have kp5 : KpL es (upd Hc T0 (.tup [kV (.inl w1), .ref fa])) (upd (upd Hc T0 (.tup [kV (.inl w1), .ref fa])) nw (.dK [])) := .of (same_new nn)
      all_goals
        have hfa5 := kp5 _ _ (fin _ fm) hfa
        refine ⟨fa, _, hfa5, trivial, fun od2 => ⟨_, rfl, fa, od2, [], rfl, upd_same, ?_⟩⟩
        refine ⟨fun i2 m σ2 H6 => i2 = 0 ∧ σ2 = _ ∧ H6 = _, ⟨0, rfl, rfl, rfl⟩, ?_⟩
        rintro i2 m σ2 H6 ⟨rfl, rfl, rfl⟩
        refine .inl ⟨⟨upd_same, Nat.le_refl _⟩, upd_same, _, _, _, _, _, _, rfl, ?_, fun b o nb nf h => ?_, ?_⟩
        · exact same_lk hfa5 _ _ (kp5 _ _ fbn (sT _ _ hc))
        · exact same_lk hfa5 _ _ (kp5 _ _ nb (sT _ _ (kp b o nb nf h)))
        · exact gr5.same (same_lk hfa5)
    · rintro σ Hc ⟨z5, z6, z7, z8, z9, z10, rfl, hc, kp, gr⟩
      refine ⟨hc, _, rfl, q ch _ (fun b o nb h => ?_) (gr.unl hc) ((upd_ne chfb).trans (kp _ _ chn chfb hch))⟩
      by_cases z : b = fb
      · rw [z, hfb] at h
        rw [z, upd_same]
        exact h
      · rw [upd_ne z]
        exact kp _ _ nb z (s1 _ _ h)
end
end Tg

set_option maxHeartbeats 1000000
namespace Tg
open PySem PySem.Spec PyProof.Rows L2
/-! ### renew, at no times -/
theorem kvz_none {w : Int} : ∀ {ws : List Int} {es : List Addr}, w ∉ ws → valV (kvz ws es) (.inl w) = none
  | [], _, _ => rfl
  | _ :: _, [], _ => rfl
  | w1 :: ws, e :: es, h => by
    show valV (((.inl w1 : Key), V.ref e) :: kvz ws es) (.inl w) = none
    rw [valV_neg (fun y => h (by rw [Sum.inl.inj y]; exact List.mem_cons_self))]
    exact kvz_none fun z => h (List.mem_cons_of_mem _ z)
theorem kvz_snoc {w : Int} {r : Addr} {ws : List Int} {es : List Addr} (l : es.length = ws.length) (h : w ∉ ws) : putK (kvz ws es) (.inl w) (.ref r) = kvz (ws ++ [w]) (es ++ [r]) := by
  rw [L2.putK_new _ (kvz_none h)]
  unfold kvz
  rw [List.zip_append l.symm, List.map_append]
  rfl
section
variable {P : Program} {w : World} {K : PySem.W.Frag} {mg : Str → Option Value} {base : Heap} {C CG : Addr}
def spRn (K : PySem.W.Frag) (C : Addr) : Sp := fun vs H Q _ => ∃ (g wa kd hd l : Addr) (ws : List Int) (es : List Addr) (n : Nat) (pts num : V), vs = [.ref g, .int 1, .ref l, pts, num] ∧ GrO K C H g wa kd hd ws es n ∧ WOk ws ∧ H l = some (.lst []) ∧
  ∀ r H', KpL es H H' → GrO K C H' g wa kd hd ws es n → H' r = some (.lst []) → Q (.ref r) H'
theorem ok_rn {f : Addr} {fd : FuncData} {k : Nat} (F : Fun K "renew" "Grains.renew" sRn f fd) (T : TGr K C) (M_check_idle_0 : CalM P w K mg base k C "check_idle" ["self"] (spCIx K C)) (M_asked_anew : CalM P w K mg base k C "asked_anew" ["self", "times", "points_in"] (spAA K C))
    (M_cells_with : CalM P w K mg base k C "cells_with" ["self", "times", "width"] spCW) (M_joined_anew : CalM P w K mg base k C "joined_anew" ["self", "place", "finer", "anew", "width", "starts"] (spJA K C)) (M_settled : CalM P w K mg base k C "settled" ["self", "place", "folds_by_width", "number"] (spSt K C)) (m_list : mg "list" = none) (m_zip : mg "zip" = none) :
    FnOk P w K mg base CX0 (k + 1) f fd ["self", "place", "times", "points_in", "number"] (spRn K C) := by
  refine F.ok scRn (fun vs H Q E h => ?_) (fun cdv A outer s H vs Q E hr h => ?_)
  · obtain ⟨g, wa, kd, hd, l, ws, es, n, pts, num, rfl, _⟩ := h
    rfl
  · obtain ⟨g, wa, kd, hd, l, ws, es, n, pts, num, rfl, gr, ok, hl, q⟩ := h
    have hu := hu_of hr
    refine ⟨_, pss_cons (ps_expr (pe_calM0 (pv 0) T.cl M_check_idle_0 (hr.mono (by omega))))
      (pss_cons (ps_set (i := 5) scRn.nd rfl (.inl rfl) (pe_callTy call_list_of (by rfl) m_list (by decide +kernel) (pa_cons (pv 2) pa_nil)))
      (pss_cons (ps_set (i := 6) scRn.nd rfl (.inl rfl) (pe_disp (pps_cons (pe_ix ix_tup (pe_fld (pv 0) rfl) pe_int (fun _ _ => rfl)) (pe_calM (pv 0) T.cl M_asked_anew (hr.mono (by omega)) (pa_cons (pv 5) (pa_cons (pv 3) pa_nil))) pps_nil) rfl rfl (by decide) (by decide)))
      (pss_cons (ps_for PassesOwn.never rfl (RZ.pi_zipA (by rfl) m_zip (pa_cons (pe_fld (pv 0) rfl) (pa_cons (pe_slice sl_tup (pe_fld (pv 0) rfl) (po_some pe_int) po_none) pa_nil))) (pg_tup rfl (pgs_cons (pg_name (i := 7) scRn.nd rfl (.inl rfl)) (pgs_cons (pg_name (i := 8) scRn.nd rfl (.inl rfl)) pgs_nil)))
        (pss_cons (ps_set (i := 9) scRn.nd rfl (.inl rfl) (pe_calM (pv 0) T.cl M_cells_with (hr.mono (by omega)) (pa_cons (pv 5) (pa_cons (pv 8) pa_nil))))
        (pss_one (ps_dput hu (pv 6) (pv 8) (pe_calM (pv 0) T.cl M_joined_anew (hr.mono (by omega)) (pa_cons (pv 1) (pa_cons (pv 7) (pa_cons (pe_dget hu (pv 6) (pv 7) (fun _ _ => rfl)) (pa_cons (pv 8) (pa_cons (pv 9) pa_nil)))))) rfl))))
      (pss_one (ps_ret (pe_calM (pv 0) T.cl M_settled (hr.mono (by omega)) (pa_cons (pv 1) (pa_cons (pv 6) (pa_cons (pv 4) pa_nil))))))))), ?_⟩
    obtain ⟨⟨dx, hg⟩, hw, _⟩ := id gr
    have nd := wok_nd ok
    have l0 := List.length_pos_iff.mpr ok.ne
    have lm : (ws.map V.int).length = ws.length := List.length_map ..
    refine ⟨_, rfl, g, dx, _, rfl, hg, rfl, g, wa, kd, hd, ws, es, n, rfl, gr, ?_⟩
    refine ⟨_, rfl, l, [], rfl, .inl (SqL.of hl), fun t nt => ?_⟩
    have s1 := same_new (o := .lst []) nt
    intro p np
    have s2 := s1.trans (same_new (o := .dK []) np)
    have nfb : H p = none := s1.free np
    have gr2 := gr.same s2
    have w0e : (ws.map V.int)[0]? = some (.int (ws[0]'l0)) := by rw [List.getElem?_map, List.getElem?_eq_getElem l0]; rfl
    have ht2 : (upd (upd H t (.lst [])) p (.dK [])) t = some (.lst []) := same_new np _ _ upd_same
    refine ⟨_, rfl, g, C, dx, _, .ref wa, rfl, s2 _ _ hg, T.cl, T.no _ (by decide), rfl, wa, _, _, .int (ws[0]'l0), rfl, rfl, sqT_same s2 hw, (by show atI _ ((0 : Nat) : Int) = _; exact atI_nat w0e), ?_⟩
    refine ⟨_, rfl, g, dx, _, rfl, s2 _ _ hg, rfl, _, rfl, _, rfl, g, wa, kd, hd, t, ws, es, n, pts, rfl, gr2, ok.ne, ht2, fun r H3 s3 nr hr3 => ?_⟩
    refine ⟨s3 _ _ upd_same, [(.inl (ws[0]'l0), .ref r)], rfl, (by show 1 ≤ 15; decide), ?_⟩
    obtain ⟨H4, e4⟩ : ∃ H4, upd H3 p (.dK (mergeK [] [(.inl (ws[0]'l0), .ref r)])) = H4 := ⟨_, rfl⟩
    have hp4 : H4 p = some (.dK (kvz (ws.take 1) [r])) := by
      rw [← e4, upd_same]
      congr 1
      cases ws with
      | nil => exact absurd rfl ok.ne
      | cons a b => rfl
    have s4 : Same H H4 := by
      rw [← e4]
      exact same_put nfb (s2.trans s3)
    have rp : r ≠ p := fun z => by
      rw [z, upd_same] at nr
      cases nr
    have hr4 : H4 r = some (.dK []) := by
      rw [← e4, upd_ne rp]
      exact hr3
    have nr0 : H r = none := s2.free nr
    have tp : t ≠ p := fun z => by
      rw [← z, upd_same] at np
      cases np
    have ht4 : H4 t = some (.lst []) := by
      rw [← e4, upd_ne tp]
      exact s3 _ _ ht2
    rw [e4]
    have hg4 := s4 _ _ hg
    have hw4 := sqT_same s4 hw
    have cut : ¬ (HT.sIx (ws.map V.int).length 0 (some ((1 : Nat) : Int)) = 0 ∧ HT.sIx (ws.map V.int).length (ws.map V.int).length none = (ws.map V.int).length) := fun z => by
      have z1 := z.1
      rw [HT.sIx_nat, lm] at z1
      omega
    refine ⟨_, rfl, g, C, dx, _, .ref wa, rfl, hg4, T.cl, T.no _ (by decide), rfl, _, rfl, g, C, dx, _, .ref wa, rfl, hg4, T.cl, T.no _ (by decide), rfl, 1, rfl, wa, _, rfl, hw4, cut, fun c nc => ?_⟩
    have ecut : cutV (ws.map V.int) (some 1) none = (ws.drop 1).map V.int := cut_drop ws 1
    rw [ecut]
    have s5 := same_new (o := .tup ((ws.drop 1).map V.int)) nc
    obtain ⟨H5, e5⟩ : ∃ H5, upd H4 c (.tup ((ws.drop 1).map V.int)) = H5 := ⟨_, rfl⟩
    have hc5 : SqT K H5 c ((ws.drop 1).map V.int) := by
      rw [← e5]
      exact SqT.of upd_same
    rw [e5] at s5
    rw [e5]
    have hw5 := sqT_same s5 hw4
    have l1 : (ws.drop 1).length = ws.length - 1 := List.length_drop ..
    refine ⟨wa, c, _, _, rfl, .inr ⟨hw5, hc5, ?_⟩⟩
    refine for_it (walk_zipTs (K := K) (a := wa) (b := c) (xs := ws.map V.int) (ys := (ws.drop 1).map V.int) (by rw [List.length_map, l1, lm]; omega)) (fun i σ Hc => ∃ (z7 z8 z9 : Option V) (fs : List Addr), σ = [some (.ref g), some (.int 1), some (.ref l), some pts, some num, some (.ref t), some (.ref p), z7, z8, z9] ∧ Same H Hc ∧ (∀ b o, b ≠ p → H5 b = some o → Hc b = some o) ∧
      Hc p = some (.dK (kvz (ws.take (i + 1)) fs)) ∧ fs.length = i + 1 ∧ ∀ f, f ∈ fs → H f = none ∧ f ≠ p ∧ Hc f = some (.dK [])) ⟨none, none, none, [r], rfl, s4.trans s5, fun _ _ _ h => h, s5 _ _ hp4, rfl, fun f hf => ?_⟩ ?_ ?_ ?_
    · rw [List.mem_singleton.mp hf]
      exact ⟨nr0, rp, s5 _ _ hr4⟩
    · rintro i σ Hc _ ⟨_, _, _, _, _, sh, k5, _⟩
      exact ⟨sqT_same sh hw, sqT_kt (KT.kp (p := p) (fun b o n h => k5 b o n h) (s5 _ _ hp4) nfix_dK) hc5⟩
    · rintro i x σ Hc Hd hi ⟨z7, z8, z9, fs, rfl, sh, k5, hp, lf, hfs⟩ ⟨T0, x1, x2, rfl, nT, rfl, f1, f2⟩
      dsimp only at f1 f2
      obtain ⟨x, ex, rfl⟩ := map_at f1
      obtain ⟨y, ey, rfl⟩ := map_at f2
      rw [List.getElem?_drop] at ey
      have sT : Same Hc (upd Hc T0 (.tup [.int x, .int y])) := same_new nT
      have shT := sh.trans sT
      have grT := gr.same shT
      have hgT := shT _ _ hg
      have xin : x ∈ ws.take (i + 1) := by
        refine List.mem_of_getElem? (i := i) ?_
        rw [List.getElem?_take, if_pos (Nat.lt_succ_self i)]
        exact ex
      have il : i + 1 < ws.length := by
        have := (List.getElem?_eq_some_iff.mp ey).1
        omega
      have yno : y ∉ ws.take (i + 1) := fun z => by
        obtain ⟨j, hj, e⟩ := List.getElem_of_mem z
        rw [List.length_take] at hj
        rw [List.getElem_take] at e
        obtain ⟨i1, e1⟩ := List.getElem?_eq_some_iff.mp ey
        have := List.pairwise_iff_getElem.mp nd j (1 + i) (by omega) (by omega) (by omega)
        exact this (e.trans e1.symm)
      have lt : (ws.take (i + 1)).length = i + 1 := by rw [List.length_take]; omega
      obtain ⟨fa, fm, fv⟩ := kvz_val (es := fs) (lf.trans lt.symm) xin
      obtain ⟨nf, fp, hfa⟩ := hfs fa fm
      have htc : Hc t = some (.lst []) := k5 _ _ tp (s5 _ _ ht4)
      refine ⟨T0, _, rfl, SqT.of upd_same, rfl, _, _, rfl, _, _, rfl, rfl, ?_⟩
      refine ⟨_, rfl, g, dx, _, rfl, hgT, rfl, _, rfl, _, rfl, g, t, y, rfl, sT _ _ htc, fun r1 H6 s6 hr1 => ?_⟩
      have gd := DGet.k (k := .inl x) (s6 _ _ (sT _ _ hp))
      rw [fv] at gd
      refine ⟨_, rfl, g, dx, _, rfl, s6 _ _ hgT, rfl, _, rfl, _, rfl, _, rfl, _, rfl, p, _, rfl, gd, _, rfl, _, rfl, ?_⟩
      refine ⟨g, wa, kd, hd, fa, r1, ws, es, n, x, y, rfl, grT.same s6, List.mem_of_getElem? ex, s6 _ _ (sT _ _ hfa), hr1, fun r2 H7 s7 nr2 hr2 => ?_⟩
      have s67 := s6.trans s7
      have hp7 := s67 _ _ (sT _ _ hp)
      refine ⟨_, rfl, _, rfl, p, _, rfl, DPut.k (k := .inl y) hp7 (small1000 (by rw [kvz_len (lf.trans lt.symm), lt]; have := ok.le; omega)), ?_⟩
      have nr0' : H r2 = none := shT.free (s6.free nr2)
      have r2p : r2 ≠ p := fun z => by
        rw [z, s6 _ _ (sT _ _ hp)] at nr2
        cases nr2
      refine ⟨_, _, _, fs ++ [r2], rfl, same_put nfb ((shT.trans s67)), fun b o nb h => ?_, ?_, by rw [List.length_append, lf]; rfl, fun f hf => ?_⟩
      · rw [upd_ne nb]
        exact s67 _ _ (sT _ _ (k5 b o nb h))
      · rw [upd_same, kvz_snoc (lf.trans lt.symm) yno, List.take_add_one (i := i + 1), Nat.add_comm i 1, ey]
        rfl
      · rcases List.mem_append.mp hf with h | h
        · obtain ⟨h1, h2, h3⟩ := hfs f h
          exact ⟨h1, h2, (upd_ne h2).trans (s67 _ _ (sT _ _ h3))⟩
        · rw [List.mem_singleton.mp h]
          exact ⟨nr0', r2p, (upd_ne r2p).trans hr2⟩
    · rintro σ Hc ⟨z7, z8, z9, fs, rfl, sh, k5, hp, lf, hfs⟩
      have li : ((ws.drop 1).map V.int).length + 1 = ws.length := by rw [List.length_map, l1]; omega
      rw [li] at hp lf
      rw [List.take_length] at hp
      exact ⟨_, rfl, g, dx, _, rfl, sh _ _ hg, rfl, _, rfl, _, rfl, _, rfl, g, wa, kd, hd, p, ws, es, fs, n, num, H, rfl, gr, sh, nfb, hp, lf, fun f hf => ⟨(hfs f hf).1, (hfs f hf).2.2⟩, fun r H' k gr' hr' => q r H' ((KpL.of sh).trans k) gr' hr'⟩
end
end Tg

set_option maxHeartbeats 2000000
namespace Tg
open PySem PySem.Spec PyProof.Rows L2
/-! ### _law_made -/
theorem call_tupleK {X : Cx} {K : PySem.W.Frag} (hK : X.K = K := by rfl) : CallR X (.type "tuple") (fun xs H Q => ∃ p ys, xs = [.ref p] ∧ ((SqL K H p ys ∧ ∀ l, H l = none → Q (.ref l) (upd H l (.tup ys))) ∨ (SqT K H p ys ∧ Q (.ref p) H))) := by
  subst hK
  exact call_tuple_of
abbrev sMd : Stmt := topS 42
abbrev NMd : List Str := ["_law_some_widths_here", "_law_word", "_law_told_here", "_law_caught", "_law_k", "e"]
theorem scMd : FnScope NMd ["_law_some_widths_here", "_law_word"] (defScope sMd) := ⟨rfl, rfl, rfl, by decide +kernel, rfl, by decide +kernel, by decide +kernel⟩
section
variable {P : Program} {w : World} {K : PySem.W.Frag} {mg : Str → Option Value} {base : Heap} {C C2 CB CD CG CK CL CO CN CP CT : Addr}
def spMade (K : PySem.W.Frag) (C C2 : Addr) : Sp := fun vs H Q _ => ∃ (wa : Addr) (ws : List Int) (word : Str), vs = [.ref wa, .str word] ∧ SqT K H wa (ws.map V.int) ∧ ws.length ≤ 6 ∧ (∀ (i : Nat) (x : Int), ws[i]? = some x → x ≤ mx i + 1) ∧ (word = "grains" ∨ word = "name" ∨ word = "keeping") ∧
  (∀ i, wrongW ws = some i → ∀ t H', Same H H' → H' t = some (.tup [.str "refused", .int (i : Nat)]) → Q (.ref t) H') ∧
  (wrongW ws = none → word ≠ "keeping" → ∀ t a kd hd es H', Same H H' → H' t = some (.tup [.str "made", .ref a]) → GrO K C H' a wa kd hd ws es 0 → Q (.ref t) H') ∧
  (wrongW ws = none → word = "keeping" → ∀ t a ka ha H', Same H H' → H' t = some (.tup [.str "made", .ref a]) → KpO C2 H' a wa ka ha → SqT K H' ha ((List.replicate (ws.length + 1) none).map vo) → Q (.ref t) H')
theorem ok_made {f : Addr} {fd : FuncData} {k : Nat} (F : Fun K "_law_made" "_law_made" sMd f fd) (N9 : Nine K mg CB CD CG CK CL CO CN CP CT) (K_Grains : CalRC P w K mg base k "Grains" C ["self", "widths"] (spGI K C CG)) (K_Grains_k : CalRCK P w K mg base k "Grains" C ["self", "widths"] ["widths"] [0] (spGI K C CG))
    (K_Keeping : CalRC P w K mg base k "Keeping" C2 ["self", "widths", "keeps"] (spInitX K C2 CG)) (L_class : Cal P w K mg base k "_law_class" ["_law_caught"] (spClass CG)) (m_tuple : mg "tuple" = none) (m_range : mg "range" = none) (m_len : mg "len" = none) :
    FnOk P w K mg base CX0 (k + 2) f fd ["_law_some_widths_here", "_law_word"] (spMade K C C2) := by
  refine F.ok scMd (fun vs H Q E h => ?_) (fun cdv A outer s H vs Q E hr h => ?_)
  · obtain ⟨wa, ws, word, rfl, _⟩ := h
    rfl
  · obtain ⟨wa, ws, word, rfl, hw, few, bd, one, qR, qG, qK⟩ := h
    refine ⟨_, pss_cons (ps_set (i := 2) scMd.nd rfl (.inl rfl) pe_non) (pss_cons (ps_set (i := 3) scMd.nd rfl (.inl rfl) pe_non)
      (pss_cons (ps_try_keep (i := 5) (j := 3) rfl rfl rfl scMd.nd rfl rfl rfl rfl (tests_one ⟨by rfl, by decide, .inl N9.mG⟩)
        (fun W pn xe tk _ => pss_one (ps_if (pt_cmpR op_eq (pv 1) pe_str (nomark _))
          (pss_one (ps_set (i := 2) scMd.nd rfl (.inl rfl) (pe_mkT K_Grains hr (by rfl) tk (pa_cons (pv 0) pa_nil))))
          (pss_one (ps_if (pt_cmpR op_eq (pv 1) pe_str (nomark _))
            (pss_one (ps_set (i := 2) scMd.nd rfl (.inl rfl) (pe_mkKT K_Grains_k hr (by rfl) tk (pk_cons (pv 0) pk_nil))))
            (pss_one (ps_set (i := 2) scMd.nd rfl (.inl rfl) (pe_mkT K_Keeping hr (by rfl) tk (pa_cons (pv 0) (pa_cons (pe_callTy (call_tupleK (K := K)) (by rfl) m_tuple PyProof.Rows.boot_tuple (pa_cons
              (pe_lc (own := [("_law_k", 4)]) (g := gName 4) (tt := tYes) rfl scMd.nd (pi_range1 (by rfl) m_range (pa_cons (pe_op op_add (pe_callB (call_lenK (K := K)) (by rfl) m_len PySem.boot_len (pa_cons (pv 0) pa_nil)) pe_int) pa_nil)) (blkOk_by (own := [("_law_k", 4)]) (N := NMd) (sc := defScope sMd) (by decide +kernel)) (fun _ _ _ _ _ => pg_name (i := 4) scMd.nd rfl (.inl rfl)) (fun _ _ _ _ _ => pts_nil) (fun _ _ _ _ _ => pe_non)) pa_nil)) pa_nil))))))))))
      (pss_cons (ps_if (PW.pt (pw_and (pt_cmpR op_notN (pv 3) pe_non (nomark _)) (pw_and1 (PW.pt (pw_or (pt_cmpR op_ne (pe_cal L_class (hr.mono (by omega)) (by rfl) (pa_cons (pv 3) pa_nil)) pe_str (nomark _)) (pw_or1 (pt_not (pt_val (pe_callB call_isV (by rfl) N9.mi PyProof.Rows.boot_isinstance (pa_cons (pv 3) (pa_cons (pe_bltn (v := .ty "ValueError") (by rfl) N9.mV PyProof.Rows.Boot.«ValueError» rfl) pa_nil)))))))))))
        (pss_one (ps_ret (pe_tup (pa_cons pe_str (pa_cons pe_non pa_nil)))))
        pss_nil)
      (pss_cons (ps_if (pt_cmpR op_notN (pv 3) pe_non (nomark _))
        (pss_one (ps_ret (pe_tup (pa_cons pe_str (pa_cons (pe_exf (pv 3)) pa_nil)))))
        pss_nil)
      (pss_one (ps_ret (pe_tup (pa_cons pe_str (pa_cons (pv 2) pa_nil))))))))), ?_⟩
    -- an instance laid
    have laid : ∀ {C : Addr} {H : Hp} (a d : Addr), H a = none → H d = none → Same H (upd (upd H d (.own a)) a (.ins C d [])) := fun {C H} a d na nd c o e => by
      rw [upd_ne (ne_of_none e na), upd_ne (ne_of_none e nd)]
      exact e
    -- what is refused
    have bad : ∀ (H0 : Hp), Same H H0 → ∀ (i : Nat), wrongW ws = some i → ∀ (H' : Hp) (dd : Addr), Same H0 H' → H' dd = some (.xd [("at", .int (i : Nat))]) → ∀ b, H' b = none → ∀ t H'', Same (upd H' b (ExV (.ref CG) (some dd) b)) H'' → H'' t = none → Q (.ref t) (upd H'' t (.tup [.str "refused", .int (i : Nat)])) := fun H0 s0 i e H' dd s' hd b nb t H'' s'' nt =>
      qR i e t _ ((((s0.trans s').trans (same_new nb)).trans s'').trans (same_new nt)) upd_same
    -- grains made
    have good : ∀ (a d : Addr), H a = none → H d = none → d ≠ a → wrongW ws = none → word ≠ "keeping" → ∀ kd hd H', (∀ b o, b ≠ a → (upd (upd H d (.own a)) a (.ins C d [])) b = some o → H' b = some o) → kd ≠ hd → H' a = some (.ins C d [("widths", .ref wa), ("busy", .bl false), ("kept", .ref kd), ("horizons", .ref hd)]) → KdE H' kd hd ws → H' hd = some (.dK []) →
        ∀ t, H' t = none → Q (.ref t) (upd H' t (.tup [.str "made", .ref a])) := fun a d na nd da g wk kd hd H' keep ne ha hk hh t nt => by
      have st := same_new (o := .tup [.str "made", .ref a]) nt
      have sH : Same H H' := fun b o e => keep b o (ne_of_none e na) (laid (C := C) a d na nd _ _ e)
      obtain ⟨es, ks⟩ := kds_made hk ne (wW_good g).1
      have gr : GrO K C H' a wa kd hd ws es 0 := ⟨⟨d, ha⟩, sqT_same sH hw, ks, [], hh, Nat.le_refl _, fun k v e => by cases e⟩
      exact qG g wk t a kd hd es _ (sH.trans st) upd_same (gr.same st)
    refine ⟨_, rfl, rfl, _, rfl, ?_⟩
    rcases one with rfl | rfl | rfl
    · refine if_y (by decide) ?_
      refine ⟨_, rfl, fun a d na nd da => ⟨a, d, wa, ws, rfl, upd_same, sqT_same (laid a d na nd) hw, few, bd, fun g kd hd H' keep nk nh ne ha hk hh => ⟨rfl, ?_⟩, fun i e H' dd s' ndd hd => ⟨N9.ex, fun b nb => ?_⟩⟩⟩
      · refine ⟨_, rfl, rfl, false, congrArg V.bl (by decide), if_f (if_f ?_)⟩
        refine ⟨_, rfl, rfl, false, congrArg V.bl (by decide), if_f ?_⟩
        exact ⟨_, rfl, by show 2 ≤ sizeLine; decide, fun t nt => good a d na nd da g (by decide) kd hd H' keep ne ha hk hh t nt⟩
      · obtain hb : (upd H' b (ExV (.ref CG) (some dd) b)) b = some (ExV (.ref CG) (some dd) b) := upd_same
        have hdd : (upd H' b (ExV (.ref CG) (some dd) b)) dd = some (.xd [("at", .int (i : Nat))]) := same_new nb _ _ hd
        refine ⟨_, rfl, rfl, true, congrArg V.bl (by rw [decide_eq_false (fun z => nomatch z)] <;> rfl), if_t ?_⟩
        refine ⟨_, rfl, b, dd, _, rfl, hb, hdd, fun H2 s2 => ⟨rfl, false, congrArg V.bl (by decide), if_f ?_⟩⟩
        refine ⟨_, rfl, b, CG, dd, _, .ty "ValueError", .type "ValueError", true, rfl, s2 _ _ hb, s2 _ _ hdd, N9.xc, .ty _, N9.kV, true, rfl, if_f ?_⟩
        refine ⟨_, rfl, rfl, true, congrArg V.bl (by rw [decide_eq_false (fun z => nomatch z)] <;> rfl), if_t ?_⟩
        exact ⟨_, rfl, b, CG, dd, _, .int (i : Nat), rfl, s2 _ _ hb, N9.xf, N9.no, s2 _ _ hdd, rfl, by show 2 ≤ sizeLine; decide, fun t nt => bad _ (laid a d na nd) i e H' dd s' hd b nb t H2 s2 nt⟩
    · refine if_n (by decide) ?_
      refine ⟨_, rfl, rfl, _, rfl, if_y (by decide) ?_⟩
      refine ⟨_, rfl, rfl, fun a d na nd da => ⟨a, d, wa, ws, rfl, upd_same, sqT_same (laid a d na nd) hw, few, bd, fun g kd hd H' keep nk nh ne ha hk hh => ⟨rfl, ?_⟩, fun i e H' dd s' ndd hd => ⟨N9.ex, fun b nb => ?_⟩⟩⟩
      · refine ⟨_, rfl, rfl, false, congrArg V.bl (by decide), if_f (if_f ?_)⟩
        refine ⟨_, rfl, rfl, false, congrArg V.bl (by decide), if_f ?_⟩
        exact ⟨_, rfl, by show 2 ≤ sizeLine; decide, fun t nt => good a d na nd da g (by decide) kd hd H' keep ne ha hk hh t nt⟩
      · obtain hb : (upd H' b (ExV (.ref CG) (some dd) b)) b = some (ExV (.ref CG) (some dd) b) := upd_same
        have hdd : (upd H' b (ExV (.ref CG) (some dd) b)) dd = some (.xd [("at", .int (i : Nat))]) := same_new nb _ _ hd
        refine ⟨_, rfl, rfl, true, congrArg V.bl (by rw [decide_eq_false (fun z => nomatch z)] <;> rfl), if_t ?_⟩
        refine ⟨_, rfl, b, dd, _, rfl, hb, hdd, fun H2 s2 => ⟨rfl, false, congrArg V.bl (by decide), if_f ?_⟩⟩
        refine ⟨_, rfl, b, CG, dd, _, .ty "ValueError", .type "ValueError", true, rfl, s2 _ _ hb, s2 _ _ hdd, N9.xc, .ty _, N9.kV, true, rfl, if_f ?_⟩
        refine ⟨_, rfl, rfl, true, congrArg V.bl (by rw [decide_eq_false (fun z => nomatch z)] <;> rfl), if_t ?_⟩
        exact ⟨_, rfl, b, CG, dd, _, .int (i : Nat), rfl, s2 _ _ hb, N9.xf, N9.no, s2 _ _ hdd, rfl, by show 2 ≤ sizeLine; decide, fun t nt => bad _ (laid a d na nd) i e H' dd s' hd b nb t H2 s2 nt⟩
    · refine if_n (by decide) ?_
      refine ⟨_, rfl, rfl, _, rfl, if_n (by decide) ?_⟩
      have lw : (ws.map V.int).length = ws.length := List.length_map ..
      refine ⟨_, rfl, _, rfl, wa, _, rfl, .inr hw, _, _, rfl, rfl, ((ws.length + 1 : Nat) : Int), by rw [lw]; rfl, by omega, by omega, fun D nD => ?_⟩
      rw [Int.toNat_natCast]
      refine lc_range (n := ws.length + 1) (fun i Hc => Same H Hc ∧ Hc D = some (.lst ((List.replicate i none).map vo))) ⟨same_new nD, upd_same⟩ ?_ ?_
      · rintro i Hc hi ⟨sc, hD⟩
        refine ⟨rfl, yes_b (if_t ⟨_, hD, ?_, same_put nD sc, ?_⟩)⟩
        · rw [List.length_map, List.length_replicate]
          exact small1000 (by omega)
        · rw [upd_same, List.replicate_succ', List.map_append]
          rfl
      · rintro Hc ⟨sc, hD⟩
        refine ⟨D, _, rfl, .inl ⟨SqL.of hD, fun ka nka => ?_⟩⟩
        have sk := sc.trans (same_new (o := .tup ((List.replicate (ws.length + 1) none).map vo)) nka)
        have hka : SqT K (upd Hc ka (.tup ((List.replicate (ws.length + 1) none).map vo))) ka ((List.replicate (ws.length + 1) none).map vo) := SqT.of upd_same
        intro a d na nd da
        have s3 := laid (C := C2) a d na nd
        refine ⟨a, d, wa, ka, ws, rfl, upd_same, sqT_same (sk.trans s3) hw, few, sqT_same s3 hka, fun g ha H' ko hh kp => ⟨rfl, ?_⟩, fun i e H' dd s' ndd hd => ⟨N9.ex, fun b nb => ?_⟩⟩
        · refine ⟨_, rfl, rfl, false, congrArg V.bl (by decide), if_f (if_f ?_)⟩
          refine ⟨_, rfl, rfl, false, congrArg V.bl (by decide), if_f ?_⟩
          refine ⟨_, rfl, by show 2 ≤ sizeLine; decide, fun t nt => ?_⟩
          have st := same_new (o := .tup [.str "made", .ref a]) nt
          have sH : Same H H' := fun b o e => kp b o (ne_of_none (sk _ _ e) na) ((sk.trans s3) _ _ e)
          obtain ⟨dx, hko⟩ := ko
          rw [List.length_replicate] at hh
          exact qK g rfl t a ka ha _ (sH.trans st) upd_same ⟨dx, st _ _ hko⟩ (sqT_same st (SqT.of hh))
        · obtain hb : (upd H' b (ExV (.ref CG) (some dd) b)) b = some (ExV (.ref CG) (some dd) b) := upd_same
          have hdd : (upd H' b (ExV (.ref CG) (some dd) b)) dd = some (.xd [("at", .int (i : Nat))]) := same_new nb _ _ hd
          refine ⟨_, rfl, rfl, true, congrArg V.bl (by rw [decide_eq_false (fun z => nomatch z)] <;> rfl), if_t ?_⟩
          refine ⟨_, rfl, b, dd, _, rfl, hb, hdd, fun H2 s2 => ⟨rfl, false, congrArg V.bl (by decide), if_f ?_⟩⟩
          refine ⟨_, rfl, b, CG, dd, _, .ty "ValueError", .type "ValueError", true, rfl, s2 _ _ hb, s2 _ _ hdd, N9.xc, .ty _, N9.kV, true, rfl, if_f ?_⟩
          refine ⟨_, rfl, rfl, true, congrArg V.bl (by rw [decide_eq_false (fun z => nomatch z)] <;> rfl), if_t ?_⟩
          exact ⟨_, rfl, b, CG, dd, _, .int (i : Nat), rfl, s2 _ _ hb, N9.xf, N9.no, s2 _ _ hdd, rfl, by show 2 ≤ sizeLine; decide, fun t nt => bad _ (sk.trans s3) i e H' dd s' hd b nb t H2 s2 nt⟩
end
end Tg

set_option maxHeartbeats 2000000
namespace Tg
open PySem PySem.Spec PyProof.Rows L2
/-! ### _law_asked, _law_told -/
abbrev sAk : Stmt := topS 43
abbrev sTl : Stmt := topS 44
abbrev PAk : List Str := ["_law_grains", "_law_keeping", "_law_word", "_law_a_width", "_law_a_time"]
abbrev NTl : List Str := ["_law_grains", "_law_keeping", "_law_word", "_law_a_width", "_law_a_time", "_law_caught", "_law_told_here", "e"]
theorem scAk : FnScope PAk PAk (defScope sAk) := ⟨rfl, rfl, rfl, by decide +kernel, rfl, by decide +kernel, by decide +kernel⟩
theorem scTl : FnScope NTl PAk (defScope sTl) := ⟨rfl, rfl, rfl, by decide +kernel, rfl, by decide +kernel, by decide +kernel⟩
/-- what is asked -/
def Wd (word : Str) : Prop := word = "fold" ∨ word = "since" ∨ word = "cells" ∨ word = "go" ∨ word = "gone"
section
variable {P : Program} {w : World} {K : PySem.W.Frag} {mg : Str → Option Value} {base : Heap} {C C2 CF CB CD CG CK CL CO CN CP CT : Addr}
theorem GrO.mono {H : Hp} {g wa kd hd : Addr} {ws : List Int} {es : List Addr} {n m : Nat} (h : GrO K C H g wa kd hd ws es n) (l : n ≤ m) : GrO K C H g wa kd hd ws es m := by
  obtain ⟨h1, h2, h3, hv, h4, h5, h6⟩ := h
  exact ⟨h1, h2, h3, hv, h4, by omega, h6⟩
/-- both that are asked -/
structure Both (K : PySem.W.Frag) (C C2 : Addr) (H : Hp) (g e wa wb kd hd ka ha : Addr) (ws : List Int) (es : List Addr) (n : Nat) : Prop where
  gr : GrO K C H g wa kd hd ws es n
  ko : KpO C2 H e wb ka ha
  nw : NdT H wb (ws.map V.int)
  hs : SqT K H ha ((List.replicate (ws.length + 1) none).map vo)
theorem Both.same {H H' : Hp} {g e wa wb kd hd ka ha : Addr} {ws : List Int} {es : List Addr} {n : Nat} (s : Same H H') (h : Both K C C2 H g e wa wb kd hd ka ha ws es n) : Both K C C2 H' g e wa wb kd hd ka ha ws es n := by
  obtain ⟨h1, ⟨dx, h2⟩, h3, h4⟩ := h
  exact ⟨h1.same s, ⟨dx, s _ _ h2⟩, h3.same s, sqT_same s h4⟩
def spAk (K : PySem.W.Frag) (C C2 CG : Addr) : Sp := fun vs H Q E => ∃ (g e wa wb kd hd ka ha : Addr) (ws : List Int) (es : List Addr) (n : Nat) (word : Str) (x t : Int), vs = [.ref g, .ref e, .str word, .int x, .int t] ∧ Both K C C2 H g e wa wb kd hd ka ha ws es n ∧ n < 1000 ∧ WOk ws ∧ Wd word ∧
  (x ∈ ws → ∀ H', Kp hd H H' → GrO K C H' g wa kd hd ws es (n + 1) → Q (.bl true) H') ∧ (x ∉ ws → ∀ H' d, Same H H' → H d = none → H' d = some (.xd [("at", .int x)]) → E (.ref CG) (some d) H')
theorem ok_ak {f : Addr} {fd : FuncData} {k : Nat} (F : Fun K "_law_asked" "_law_asked" sAk f fd) (T : TGr K C) (T2 : TKeep K C2) {fE : Addr} {fdE : FuncData} (FE : FnOk P w K mg base CX0 k fE fdE ["self", "other"] (spEq (SameF K CF))) (hs : PySem.W.findIn K (.ref CF) "__eq__" = some (some (.ref fE))) (hf : PySem.W.isFn K (.ref fE) = true) (hbE : Binds K fdE ["self", "other"] [])
    (M_fold_at_k : CalMRK P w K mg base k C "fold_at" ["self", "place", "width", "time"] ["time", "width", "place"] [2, 1, 0] (spFA K C CG CF)) (M_since_at_k : CalMRK P w K mg base k C "since_at" ["self", "place", "width", "time"] ["place", "time", "width"] [0, 2, 1] (NoCell K C CG (.int 0))) (M_cells_of_k : CalMRK P w K mg base k C "cells_of" ["self", "place", "width"] ["width", "place"] [1, 0] (spCO K C CG))
    (M_let_go_k : CalMRK P w K mg base k C "let_go" ["self", "width", "time"] ["time", "width"] [1, 0] (spLG K C CG)) (M_gone_before : CalMR P w K mg base k C2 "gone_before" ["self", "width"] (spGoneX K C2 CG)) (M_gone_before_k : CalMRK P w K mg base k C2 "gone_before" ["self", "width"] ["width"] [0] (spGoneX K C2 CG)) (K_Fold0 : KF0 P w K mg base CF k) :
    FnOk P w K mg base (L2.CX P w) (k + 2) f fd PAk (spAk K C C2 CG) := by
  refine F.okX scAk (fun vs H Q E h => ?_) (fun cdv A outer s H vs Q E hr h => ?_)
  · obtain ⟨g, e, wa, wb, kd, hd, ka, ha, ws, es, n, word, x, t, rfl, _⟩ := h
    rfl
  · obtain ⟨g, e, wa, wb, kd, hd, ka, ha, ws, es, n, word, x, t, rfl, bo, few, ok, one, qY, qN⟩ := h
    have hu : (A.deeper (envOfC (Str.ofString "_law_asked") (defScope sAk) s.heap.objs.size f cdv)).units + 64 < cLine := by have := hr.un; omega
    obtain ⟨gr, ko, nw, hs4⟩ := id bo
    obtain ⟨⟨dx, hg⟩, hw, _⟩ := id gr
    obtain ⟨dy, he⟩ := id ko
    have pos : ∀ y, y ∈ ws → 1 ≤ y := fun y hy => by
      have ⟨i, hi⟩ := List.mem_iff_getElem?.mp hy
      exact (ok.pos i y hi).1
    refine ⟨_, pss_cons (ps_if (pt_cmpR op_eq (pv 2) pe_str (nomark _))
        (pss_one (ps_ret (pe_cmpR (op_eqG (rcG_ins (C := CF) FE hs hf hbE pass0) (hr.mono (by omega))) (pe_calMRK (E := E) (lets := passes_call (takes_of rfl rfl rfl rfl) (fun _ _ _ _ z => z)) (pv 0) T.cl M_fold_at_k (hr.mono (by omega)) (pk_cons (pv 4) (pk_cons (pv 3) (pk_cons pe_int pk_nil)))) (pe_calCK K_Fold0 (hr.mono (by omega)) (by rfl) pk_nil) (nomark _))))
        pss_nil)
      (pss_cons (ps_if (pt_cmpR op_eq (pv 2) pe_str (nomark _))
        (pss_one (ps_ret (pe_cmpR op_eq (pe_calMRK (E := E) (lets := passes_call (takes_of rfl rfl rfl rfl) (fun _ _ _ _ z => z)) (pv 0) T.cl M_since_at_k (hr.mono (by omega)) (pk_cons pe_int (pk_cons (pv 4) (pk_cons (pv 3) pk_nil)))) pe_int (nomark _))))
        pss_nil)
      (pss_cons (ps_if (pt_cmpR op_eq (pv 2) pe_str (nomark _))
        (pss_one (ps_ret (pe_cmpR (op_eqD hu) (pe_calMRK (E := E) (lets := passes_call (takes_of rfl rfl rfl rfl) (fun _ _ _ _ z => z)) (pv 0) T.cl M_cells_of_k (hr.mono (by omega)) (pk_cons (pv 3) (pk_cons pe_int pk_nil))) (pe_lst pa_nil) (nomark _))))
        pss_nil)
      (pss_cons (ps_if (pt_cmpR op_eq (pv 2) pe_str (nomark _))
        (pss_one (ps_ret (pe_cmpR op_eq (pe_calMRK (E := E) (lets := passes_call (takes_of rfl rfl rfl rfl) (fun _ _ _ _ z => z)) (pv 0) T.cl M_let_go_k (hr.mono (by omega)) (pk_cons (pv 4) (pk_cons (pv 3) pk_nil))) pe_int (nomark _))))
        pss_nil)
      (pss_one (ps_ret (pe_and (pe_cmpR op_isN (pe_calMR (E := E) (lets := passes_call (takes_of rfl rfl rfl rfl) (fun _ _ _ _ z => z)) (pv 1) T2.cl M_gone_before (hr.mono (by omega)) (pa_cons (pv 3) pa_nil)) pe_non (nomark _)) (pe_one (pe_cmpR op_isN (pe_calMRK (E := E) (lets := passes_call (takes_of rfl rfl rfl rfl) (fun _ _ _ _ z => z)) (pv 1) T2.cl M_gone_before_k (hr.mono (by omega)) (pk_cons (pv 3) pk_nil)) pe_non (nomark _))))))))), ?_⟩
    rcases one with rfl | rfl | rfl | rfl | rfl
    · refine ⟨_, rfl, rfl, _, rfl, if_y (by decide) ?_⟩
      refine ⟨_, rfl, g, dx, _, rfl, hg, rfl, _, rfl, _, rfl, rfl, g, wa, kd, hd, ws, es, n, x, t, rfl, gr, pos, fun hx c H1 s1 hc => ?_, fun hx => qN hx⟩
      refine ⟨rfl, rfl, fun z dz nz nd ne => ⟨z, dz, _, _, _, _, _, _, _, _, _, rfl, upd_same, rfl, ?_⟩⟩
      obtain ⟨m1, m2⟩ := fold0_made (K := K) (CF := CF) nz nd ne
      refine ⟨FdO.ins (hc.same m1) m2, fun H' ex => ?_⟩
      have sA : Same H H' := s1.trans (m1.trans ex)
      exact qY hx H' (.of sA) ((gr.same sA).mono (by omega))
    · refine ⟨_, rfl, rfl, _, rfl, if_n (by decide) ?_⟩
      refine ⟨_, rfl, rfl, _, rfl, if_y (by decide) ?_⟩
      refine ⟨_, rfl, g, dx, _, rfl, hg, rfl, _, rfl, _, rfl, rfl, g, wa, kd, hd, ws, es, n, x, t, rfl, gr, pos, fun hx H1 s1 => ⟨rfl, ?_⟩, fun hx => qN hx⟩
      rw [decide_eq_true rfl]
      exact qY hx H1 (.of s1) ((gr.same s1).mono (by omega))
    · refine ⟨_, rfl, rfl, _, rfl, if_n (by decide) ?_⟩
      refine ⟨_, rfl, rfl, _, rfl, if_n (by decide) ?_⟩
      refine ⟨_, rfl, rfl, _, rfl, if_y (by decide) ?_⟩
      refine ⟨_, rfl, g, dx, _, rfl, hg, rfl, _, rfl, rfl, g, wa, kd, hd, ws, es, n, x, rfl, gr, fun hx l H1 s1 hl => ?_, fun hx => qN hx⟩
      refine ⟨Nat.zero_le _, fun l2 nl2 => ?_⟩
      have s2 := s1.trans (same_new (o := .lst []) nl2)
      exact ⟨.list [], .list [], .lst (SqL.of (same_new nl2 _ _ hl)) .nil, .lst (SqL.of upd_same) .nil, by decide, by decide, qY hx _ (.of s2) ((gr.same s2).mono (by omega))⟩
    · refine ⟨_, rfl, rfl, _, rfl, if_n (by decide) ?_⟩
      refine ⟨_, rfl, rfl, _, rfl, if_n (by decide) ?_⟩
      refine ⟨_, rfl, rfl, _, rfl, if_n (by decide) ?_⟩
      refine ⟨_, rfl, rfl, _, rfl, if_y (by decide) ?_⟩
      refine ⟨_, rfl, g, dx, _, rfl, hg, rfl, _, rfl, _, rfl, rfl, g, wa, kd, hd, ws, es, n, x, t, rfl, gr, few, pos, fun hx H1 k1 gr1 => ⟨rfl, ?_⟩, fun hx => qN hx⟩
      rw [decide_eq_true rfl]
      exact qY hx H1 k1 gr1
    · refine ⟨_, rfl, rfl, _, rfl, if_n (by decide) ?_⟩
      refine ⟨_, rfl, rfl, _, rfl, if_n (by decide) ?_⟩
      refine ⟨_, rfl, rfl, _, rfl, if_n (by decide) ?_⟩
      refine ⟨_, rfl, rfl, _, rfl, if_n (by decide) ?_⟩
      refine ⟨_, rfl, e, dy, _, rfl, he, rfl, _, rfl, e, wb, ka, ha, ws, .int x, rfl, ko, nw, wok_nd ok, hs4, .inr ⟨x, rfl, fun hx => ?_, fun hx => qN hx⟩⟩
      refine ⟨rfl, true, rfl, if_t ?_⟩
      refine ⟨_, rfl, e, dy, _, rfl, he, rfl, _, rfl, rfl, e, wb, ka, ha, ws, .int x, rfl, ko, nw, wok_nd ok, hs4, .inr ⟨x, rfl, fun _ => ?_, fun h => absurd hx h⟩⟩
      refine ⟨rfl, ?_⟩
      rw [decide_eq_true rfl]
      exact qY hx H (.of (Same.refl _)) (gr.mono (by omega))
end
end Tg

set_option maxHeartbeats 2000000
namespace Tg
open PySem PySem.Spec PyProof.Rows L2
/-! ### _law_told -/
section
variable {P : Program} {w : World} {K : PySem.W.Frag} {mg : Str → Option Value} {base : Heap} {C C2 CF CB CD CG CK CL CO CN CP CT : Addr}
def spTl (K : PySem.W.Frag) (C C2 : Addr) : Sp := fun vs H Q _ => ∃ (g e wa wb kd hd ka ha : Addr) (ws : List Int) (es : List Addr) (n : Nat) (word : Str) (x t : Int), vs = [.ref g, .ref e, .str word, .int x, .int t] ∧ Both K C C2 H g e wa wb kd hd ka ha ws es n ∧ n < 1000 ∧ WOk ws ∧ Wd word ∧
  (x ∈ ws → ∀ H', Kp hd H H' → GrO K C H' g wa kd hd ws es (n + 1) → Q (.bl true) H') ∧ (x ∉ ws → ∀ r H', Same H H' → H' r = some (.tup [.str "refused", .int x]) → Q (.ref r) H')
theorem ok_tl {f : Addr} {fd : FuncData} {k : Nat} (F : Fun K "_law_told" "_law_told" sTl f fd) (N9 : Nine K mg CB CD CG CK CL CO CN CP CT) (L_asked : CalR P w K mg base k "_law_asked" PAk (spAk K C C2 CG)) (L_class : Cal P w K mg base k "_law_class" ["_law_caught"] (spClass CG)) : FnOk P w K mg base CX0 (k + 1) f fd PAk (spTl K C C2) := by
  refine F.ok scTl (fun vs H Q E h => ?_) (fun cdv A outer s H vs Q E hr h => ?_)
  · obtain ⟨g, e, wa, wb, kd, hd, ka, ha, ws, es, n, word, x, t, rfl, _⟩ := h
    rfl
  · obtain ⟨g, e, wa, wb, kd, hd, ka, ha, ws, es, n, word, x, t, rfl, bo, few, ok, one, qY, qN⟩ := h
    refine ⟨_, pss_cons (ps_set (i := 5) scTl.nd rfl (.inl rfl) pe_non) (pss_cons (ps_set (i := 6) scTl.nd rfl (.inl rfl) pe_non)
      (pss_cons (ps_try_keep (i := 7) (j := 5) rfl rfl rfl scTl.nd rfl rfl rfl rfl (tests_one ⟨by rfl, by decide, .inl N9.mG⟩)
        (fun W pn xe tk _ => pss_one (ps_set (i := 6) scTl.nd rfl (.inl rfl) (pe_calT L_asked (hr.mono (by omega)) (by rfl) tk (pa_cons (pv 0) (pa_cons (pv 1) (pa_cons (pv 2) (pa_cons (pv 3) (pa_cons (pv 4) pa_nil)))))))))
      (pss_cons (ps_if (PW.pt (pw_and (pt_cmpR op_notN (pv 5) pe_non (nomark _)) (pw_and (pt_cmpR op_eq (pe_cal L_class (hr.mono (by omega)) (by rfl) (pa_cons (pv 5) pa_nil)) pe_str (nomark _)) (pw_and1 (pt_cmpR op_isN (pv 6) pe_non (nomark _))))))
        (pss_one (ps_ret (pe_tup (pa_cons pe_str (pa_cons (pe_exf (pv 5)) pa_nil)))))
        pss_nil)
      (pss_one (ps_ret (pv 6)))))), ?_⟩
    refine ⟨_, rfl, _, rfl, _, rfl, _, rfl, _, rfl, g, e, wa, wb, kd, hd, ka, ha, ws, es, n, word, x, t, rfl, bo, few, ok, one, fun hx H1 k1 gr1 => ?_, fun hx H1 d s1 nd hd1 => ⟨N9.ex, fun b nb => ?_⟩⟩
    · refine ⟨_, rfl, rfl, false, congrArg V.bl (by decide), if_f ?_⟩
      exact ⟨_, rfl, qY hx H1 k1 gr1⟩
    · have hb : (upd H1 b (ExV (.ref CG) (some d) b)) b = some (ExV (.ref CG) (some d) b) := upd_same
      have hdd : (upd H1 b (ExV (.ref CG) (some d) b)) d = some (.xd [("at", .int x)]) := same_new nb _ _ hd1
      refine ⟨_, rfl, rfl, true, congrArg V.bl (by rw [decide_eq_false (fun z => nomatch z)] <;> rfl), if_t ?_⟩
      refine ⟨_, rfl, b, d, _, rfl, hb, hdd, fun H2 s2 => ⟨rfl, true, congrArg V.bl (by decide), if_t ?_⟩⟩
      refine ⟨_, rfl, rfl, true, rfl, if_t ?_⟩
      exact ⟨_, rfl, b, CG, d, _, .int x, rfl, s2 _ _ hb, N9.xf, N9.no, s2 _ _ hdd, rfl, by show 2 ≤ sizeLine; decide, fun t nt => qN hx t _ (((s1.trans (same_new nb)).trans s2).trans (same_new nt)) upd_same⟩
end
end Tg

set_option maxHeartbeats 2000000
namespace Tg
open PySem PySem.Spec PyProof.Rows L2 LamX
/-! ### _law_questions_right -/
abbrev sQr : Stmt := topS 45
abbrev NQr : List Str := ["_law_purse_here", "_law_grains", "_law_keeping", "_law_some_widths_here", "_law_word", "_law_a_time", "_law_a_width", "_law_other", "_law_due"]
theorem scQr : FnScope NQr ["_law_purse_here", "_law_grains", "_law_keeping", "_law_some_widths_here"] (defScope sQr) := ⟨rfl, rfl, rfl, by decide +kernel, rfl, by decide +kernel, by decide +kernel⟩
abbrev TT (PT : Addr) : List (Addr × Str) := [(PT, "_law_questions_right.<locals>.<lambda>")]
theorem onlyT {PT : Addr} : ∀ p ∈ TT PT, p.1 = PT → p.2 = ((Str.ofString "_law_questions_right" ++ ".<locals>.") ++ "<lambda>" : Str) := fun p hp _ => by
  rw [List.mem_singleton.mp hp]
  rfl
/-- all but p, dicts and tables stays -/
def KpD (p : Addr) (H H' : Hp) : Prop := ∀ b o, b ≠ p → (∀ ps, o ≠ .tbl ps) → (∀ kvs, o ≠ .dK kvs) → H b = some o → H' b = some o
theorem KpD.of {p : Addr} {H H' : Hp} (s : Same H H') : KpD p H H' := fun b o _ _ _ h => s b o h
theorem KpD.kp {p : Addr} {H H' : Hp} (s : Kp p H H') : KpD p H H' := fun b o n _ _ h => s b o n h
theorem KpD.ext {p : Addr} {H H' : Hp} (s : ExtN H H') : KpD p H H' := fun b o _ n _ h => s b o h n
theorem KpD.trans {p : Addr} {H H1 H2 : Hp} (a : KpD p H H1) (b : KpD p H1 H2) : KpD p H H2 := fun c o n1 n2 n3 h => b c o n1 n2 n3 (a c o n1 n2 n3 h)
theorem KpD.dk {p d : Addr} {H H' : Hp} {kvs : List (Key × V)} (s : Kp d H H') (h : H d = some (.dK kvs)) : KpD p H H' := fun b o _ _ n e => s b o (fun z => by
  rw [z, h] at e
  cases e
  exact n _ rfl) e
theorem KpD.kpl {p : Addr} {es : List Addr} {H H' : Hp} (s : KpL es H H') (h : ∀ e, e ∈ es → ∃ kvs, H e = some (.dK kvs)) : KpD p H H' := fun b o _ _ n e => s b o (fun z => by
  obtain ⟨kvs, y⟩ := h b z
  rw [y] at e
  cases e
  exact n _ rfl) e
/-- tables stand where all but lists and dicts does -/
theorem tabs_st {T : List (Addr × Str)} {H H' : Hp} (t : Tabs T H) (s : ∀ b o, (∀ xs, o ≠ .lst xs) → (∀ kvs, o ≠ .dK kvs) → H b = some o → H' b = some o) : Tabs T H' := fun p hp => by
  obtain ⟨ps, h1, h2, h3⟩ := t p hp
  refine ⟨ps, s _ _ (fun _ z => nomatch z) (fun _ z => nomatch z) h1, h2, fun pos cv hc => ?_⟩
  have ⟨c, e1, e2⟩ := h3 pos cv hc
  exact ⟨c, e1, s _ _ (fun _ z => by unfold CodeO at z; cases z) (fun _ z => by unfold CodeO at z; cases z) e2⟩
section
variable {P : Program} {w : World} {K : PySem.W.Frag} {mg : Str → Option Value} {base : Heap} {C C2 CF CB CD CG CK CL CO CN CP CT : Addr}
theorem Both.ext {H H' : Hp} {g e wa wb kd hd ka ha : Addr} {ws : List Int} {es : List Addr} {n : Nat} (s : ExtN H H') (h : Both K C C2 H g e wa wb kd hd ka ha ws es n) : Both K C C2 H' g e wa wb kd hd ka ha ws es n := by
  have st : ∀ b o, H b = some o → (∀ ps, o ≠ .tbl ps) → H' b = some o := fun b o h n => s b o h n
  obtain ⟨⟨⟨dg, h1⟩, h2, ⟨k1, k2, k3, k4, k5, k6⟩, hv, h4, h5⟩, ⟨dx, h6⟩, ⟨ob, h7, h8⟩, h9⟩ := h
  refine ⟨⟨⟨dg, st _ _ h1 (fun _ z => nomatch z)⟩, sqT_ext s h2, ⟨st _ _ k1 (fun _ z => nomatch z), k2, k3, k4, k5, fun e he => ?_⟩, hv, st _ _ h4 (fun _ z => nomatch z), h5⟩, ⟨dx, st _ _ h6 (fun _ z => nomatch z)⟩, ⟨ob, h7, st _ _ h8 (fun _ z => nomatch z)⟩, sqT_ext s h9⟩
  rcases k6 e he with z | ⟨e2, n1, n2, n3, z1, z2⟩
  · exact .inl (st _ _ z (fun _ z => nomatch z))
  · exact .inr ⟨e2, n1, n2, n3, st _ _ z1 (fun _ z => nomatch z), st _ _ z2 (fun _ z => nomatch z)⟩
/-- what the grains let go of leaves the rest -/
theorem Both.next {H H' : Hp} {g e wa wb kd hd ka ha : Addr} {ws : List Int} {es : List Addr} {n m : Nat} {p : Addr} (k : KpD p H H') (hp : ∃ xs, H p = some (.lst xs)) (h : Both K C C2 H g e wa wb kd hd ka ha ws es n) (gr : GrO K C H' g wa kd hd ws es m) : Both K C C2 H' g e wa wb kd hd ka ha ws es m := by
  obtain ⟨xs, hp⟩ := hp
  have kt : KT H H' := fun a o f e => k a o (fun z => by
    rw [z, hp] at e
    cases e
    exact f) (fun ps z => by rw [z] at f; exact f) (fun ps z => by rw [z] at f; exact f) e
  obtain ⟨_, ⟨dx, h2⟩, h3, h4⟩ := h
  exact ⟨gr, ⟨dx, k _ _ (fun z => by rw [z, hp] at h2; cases h2) (fun _ z => nomatch z) (fun _ z => nomatch z) h2⟩, h3.kt kt, sqT_kt kt h4⟩
theorem Both.dict {H : Hp} {g e wa wb kd hd ka ha : Addr} {ws : List Int} {es : List Addr} {n : Nat} (h : Both K C C2 H g e wa wb kd hd ka ha ws es n) : (∃ kvs, H hd = some (.dK kvs)) ∧ ∀ e, e ∈ es → ∃ kvs, H e = some (.dK kvs) := by
  obtain ⟨⟨_, _, ks, hv, h4, _⟩, _⟩ := h
  refine ⟨⟨_, h4⟩, fun e he => ?_⟩
  rcases ks.all e he with z | ⟨_, _, _, _, z, _⟩
  · exact ⟨_, z⟩
  · exact ⟨_, z⟩
theorem KpD.pu {H H' : Hp} {p : Addr} {n : Nat} (h : Pu H p n) (k : ∀ b xs, H b = some (.lst xs) → H' b = some (.lst xs)) : Pu H' p n := by
  obtain ⟨a, c, d, e, r⟩ := h
  exact ⟨a, c, d, k _ _ e, r⟩
def spGoneQ (K : PySem.W.Frag) (C CG : Addr) : Sp := fun vs H Q _ => spGoneX K C CG vs H Q fun _ _ _ => False
def CalMD (P : Program) (w : World) (K : PySem.W.Frag) (mg : Str → Option Value) (base : Heap) (k : Nat) (C : Addr) (m : Str) (ps : List Str) (dvs : List V) (sp : Sp) : Prop := ∃ f fd ds, FnOk P w K mg base CX0 k f fd ps sp ∧ Meth K C m f ∧ Binds K fd ps ds ∧ Vals dvs ds
theorem pe_calMD {X : Cx} {k : Nat} {ps : List Str} {dvs : List V} {sp : Sp} {m : Str} {C : Addr} {o : Expr} {pos apos : Pos} {to : TE} {pl : Sem Bool} (he : PE X o to) (cl : Cls X.K C) (c : CalMD X.prog X.w X.K X.mg X.base k C m ps dvs sp) (hr : Room k X.A)
    (ht : eval (.Call (.Attribute o m apos) [] [] pos) X.env = (do let ov ← eval o X.env; standAt apos.atName; let (f, first) ← holding [ov] (getMethod ov m pl); callWith pos f first (backTo pos (starEach [] X.env)) (backToKw pos (keywordEach [] X.env))) := by rfl) :
    PE X (.Call (.Attribute o m apos) [] [] pos) (tMeth C m sp dvs E0 to tNil) := by
  obtain ⟨f, fd, ds, F, hm, hb, hd⟩ := c
  exact pe_meth0 (pl := pl) he cl hm F hr hb hd pass0 ht
theorem sh_ref (x : Int) : SeqAt.shaped (.tuple [.str "refused", .int x]) = true ∧ PyData.eqv (.tuple [.str "refused", .int x]) (.tuple [.str "refused", .int x]) = true := by
  have lay : PyData.canLay0 (.tuple [.str "refused", .int x]) = true := by
    show (PyData.canLay0 (.str "refused") && (true && true)) = true
    decide +kernel
  exact ⟨shaped_of lay (by show 1 ≤ 64; decide), SeqAt.eqv_refl _ lay⟩
/-- the first that isn't behind the time: the points', where none is -/
theorem fin_nones (ws : List Int) (n : Nat) (t : Int) : fin (0 :: ws) (List.replicate (n + 1) none) t = some 0 := rfl
/-- what stands while they are asked -/
structure Iv (K : PySem.W.Frag) (C C2 PT : Addr) (H0 H : Hp) (p g e wa kd hd ka ha : Addr) (ws : List Int) (es : List Addr) (m n : Nat) : Prop where
  bo : Both K C C2 H g e wa wa kd hd ka ha ws es m
  pu : Pu H p n
  kp : KpD p H0 H
  tb : Tabs (TT PT) H
theorem Iv.same {H0 H H' : Hp} {p g e wa kd hd ka ha PT : Addr} {ws : List Int} {es : List Addr} {m n : Nat} (s : Same H H') (h : Iv K C C2 PT H0 H p g e wa kd hd ka ha ws es m n) : Iv K C C2 PT H0 H' p g e wa kd hd ka ha ws es m n :=
  ⟨h.bo.same s, h.pu.same s, h.kp.trans (.of s), h.tb.ext s⟩
theorem Iv.drawn {H0 H H' : Hp} {p g e wa kd hd ka ha PT : Addr} {ws : List Int} {es : List Addr} {m n n' : Nat} (k : Kp p H H') (d : Pu H' p n') (h : Iv K C C2 PT H0 H p g e wa kd hd ka ha ws es m n) : Iv K C C2 PT H0 H' p g e wa kd hd ka ha ws es m n' := by
  obtain ⟨_, _, _, z, _⟩ := h.pu
  have st : ∀ b o, (∀ xs, o ≠ .lst xs) → H b = some o → H' b = some o := fun b o n1 y => k b o (fun w => by
    rw [w, z] at y
    cases y
    exact n1 _ rfl) y
  refine ⟨?_, d, h.kp.trans (.kp k), tabs_st h.tb fun b o n1 _ y => st b o n1 y⟩
  obtain ⟨⟨dg, h1⟩, h2, ⟨k1, k2, k3, k4, k5, k6⟩, hv, h4, h5⟩ := h.bo.gr
  refine h.bo.next (.kp k) ⟨_, z⟩ ⟨⟨dg, st _ _ (fun _ z => nomatch z) h1⟩, sqT_kt (KT.kp k z nfix_lst) h2, ⟨st _ _ (fun _ z => nomatch z) k1, k2, k3, k4, k5, fun e he => ?_⟩, hv, st _ _ (fun _ z => nomatch z) h4, h5⟩
  rcases k6 e he with y | ⟨e2, n1, n2, n3, z1, z2⟩
  · exact .inl (st _ _ (fun _ z => nomatch z) y)
  · exact .inr ⟨e2, n1, n2, n3, st _ _ (fun _ z => nomatch z) z1, st _ _ (fun _ z => nomatch z) z2⟩
theorem Iv.gone {H0 H H' : Hp} {p g e wa kd hd ka ha PT : Addr} {ws : List Int} {es : List Addr} {m m' n : Nat} (k : Kp hd H H') (gr : GrO K C H' g wa kd hd ws es m') (h : Iv K C C2 PT H0 H p g e wa kd hd ka ha ws es m n) : Iv K C C2 PT H0 H' p g e wa kd hd ka ha ws es m' n := by
  obtain ⟨⟨kvs, z⟩, _⟩ := h.bo.dict
  have kd1 : KpD p H H' := .dk k z
  refine ⟨h.bo.next kd1 (let ⟨_, _, _, y, _⟩ := h.pu; ⟨_, y⟩) gr, KpD.pu h.pu fun b xs y => k b _ (fun w => by
    rw [w, z] at y
    cases y) y, h.kp.trans kd1, tabs_st h.tb fun b o _ n2 y => k b o (fun w => by
    rw [w, z] at y
    cases y
    exact n2 _ rfl) y⟩
/-- a list that stands stays -/
theorem Iv.lst {H0 H : Hp} {p g e wa kd hd ka ha PT b : Addr} {xs : List V} {ws : List Int} {es : List Addr} {m n : Nat} (h : Iv K C C2 PT H0 H p g e wa kd hd ka ha ws es m n) (nb : b ≠ p) (hb : H0 b = some (.lst xs)) : H b = some (.lst xs) := h.kp b _ nb (fun _ z => nomatch z) (fun _ z => nomatch z) hb
def spQr (K : PySem.W.Frag) (C C2 PT : Addr) : Sp := fun vs H Q _ => ∃ (p g e wa kd hd ka ha : Addr) (ws : List Int) (es : List Addr) (n : Nat), vs = [.ref p, .ref g, .ref e, .ref wa] ∧ Both K C C2 H g e wa wa kd hd ka ha ws es 0 ∧ WOk ws ∧ Pu H p n ∧ n < 2 ^ 37 ∧ Tabs (TT PT) H ∧ ∀ H', KpD p H H' → Tabs (TT PT) H' → Q (.bl true) H'
theorem ok_qr {f c PT : Addr} {fd : FuncData} {k : Nat} (F : FunC K "_law_questions_right" "_law_questions_right" sQr c f fd) (TB : TabB base mg c PT) (T : TGr K C) (T2 : TKeep K C2) (L_draw : Cal P w K mg base k "_law_draw" ["_law_purse_here", "_law_out_of"] spDraw) (L_told : Cal P w K mg base k "_law_told" PAk (spTl K C C2))
    (M_renew_k : CalMK P w K mg base k C "renew" ["self", "place", "times", "points_in", "number"] ["points_in", "number", "times", "place"] [3, 2, 0, 1] (spRn K C)) (M_finest_k : CalMK P w K mg base k C2 "finest" ["self", "time"] ["time"] [0] (spFin K C2)) (M_gone_before_0 : CalMD P w K mg base k C2 "gone_before" ["self", "width"] [.non] (spGoneQ K C2 CG)) (M_gone_before : CalM P w K mg base k C2 "gone_before" ["self", "width"] (spGoneQ K C2 CG)) (m_len : mg "len" = none) (m_int : mg "int" = none) :
    FnOk P w K mg base CX0 (k + 1) f fd ["_law_purse_here", "_law_grains", "_law_keeping", "_law_some_widths_here"] (spQr K C C2 PT) := by
  refine F.ok scQr (fun vs H Q E h => ?_) (fun A outer s H vs Q E hr h => ?_)
  · obtain ⟨p, g, e, wa, kd, hd, ka, ha, ws, es, n, rfl, _⟩ := h
    rfl
  · obtain ⟨p, g, e, wa, kd, hd, ka, ha, ws, es, n, rfl, bo, ok, pu, few, tb, q⟩ := h
    have hu : (A.deeper (envOfC (Str.ofString "_law_questions_right") (defScope sQr) s.heap.objs.size f (.ref c))).units + 64 < cLine := by have := hr.un; omega
    refine ⟨_, pss_cons (ps_if (PW.pt (pw_or (pt_cmpR (op_neD hu) (pe_calMK (pv 1) T.cl M_renew_k (hr.mono (by omega)) (pk_cons (pe_lamV (T := [(PT, "_law_questions_right.<locals>.<lambda>")]) TB rfl (.head _) onlyT) (pk_cons pe_int (pk_cons (pe_lst pa_nil) (pk_cons pe_int pk_nil))))) (pe_lst pa_nil) (nomark _)) (pw_or1 (pt_cmpR op_ne (pe_calMK (pv 2) T2.cl M_finest_k (hr.mono (by omega)) (pk_cons pe_int pk_nil)) pe_int (nomark _)))))
        (pss_one (ps_ret pe_bl))
        pss_nil)
      (pss_cons (ps_for PassesOwn.never rfl (pi_list (pe_lst (pa_cons pe_str (pa_cons pe_str (pa_cons pe_str (pa_cons pe_str (pa_cons pe_str pa_nil))))))) (pg_name (i := 4) scQr.nd rfl (.inl rfl))
        (pss_cons (ps_set (i := 5) scQr.nd rfl (.inl rfl) (pe_op op_sub (pe_cal L_draw (hr.mono (by omega)) (by rfl) (pa_cons (pv 0) (pa_cons (pe_op op_pow pe_int pe_int) pa_nil))) (pe_op op_pow pe_int pe_int)))
        (pss_cons (ps_set (i := 6) scQr.nd rfl (.inl rfl) (pe_ix ix_tup (pv 3) (pe_cal L_draw (hr.mono (by omega)) (by rfl) (pa_cons (pv 0) (pa_cons (pe_callB call_len_seq (by rfl) m_len (by decide +kernel) (pa_cons (pv 3) pa_nil)) pa_nil))) (fun _ _ => rfl)))
        (pss_one (ps_for PassesOwn.never rfl (pi_list (pe_lst (pa_cons (pv 6) (pa_cons (pe_op op_sub (pe_op op_add (pv 6) (pe_cal L_draw (hr.mono (by omega)) (by rfl) (pa_cons (pv 0) (pa_cons pe_int pa_nil)))) pe_int) (pa_cons (pe_op op_mul (pv 6) pe_int) (pa_cons pe_int (pa_cons (pe_op op_sub pe_int (pv 6)) pa_nil))))))) (pg_name (i := 7) scQr.nd rfl (.inl rfl))
          (pss_cons (ps_set (i := 8) scQr.nd rfl (.inl rfl) (pe_ix ix_list (pe_lst (pa_cons (pe_tup (pa_cons pe_str (pa_cons (pv 7) pa_nil))) (pa_cons pe_bl pa_nil))) (pe_callTy call_int1 (by rfl) m_int (by decide +kernel) (pa_cons (pe_cmpR op_in_seq (pv 7) (pv 3) (by with_unfolding_all rfl)) pa_nil)) (fun _ _ => rfl)))
          (pss_one (ps_if (pt_cmpR (op_neD hu) (pe_cal L_told (hr.mono (by omega)) (by rfl) (pa_cons (pv 1) (pa_cons (pv 2) (pa_cons (pv 4) (pa_cons (pv 7) (pa_cons (pv 5) pa_nil)))))) (pv 8) (nomark _))
            (pss_one (ps_ret pe_bl))
            pss_nil))))))))
      (pss_one (ps_ret (pe_and (pe_cmpR (op_eqD hu) (pe_fld (pv 1) rfl) (pv 3) (nomark _)) (pe_and (pe_cmpR op_isN (pe_calMD (pv 2) T2.cl M_gone_before_0 (hr.mono (by omega))) pe_non (nomark _)) (pe_one (pe_cmpR op_isN (pe_calM (pv 2) T2.cl M_gone_before (hr.mono (by omega)) (pa_cons pe_non pa_nil)) pe_non (nomark _)))))))), ?_⟩
    obtain ⟨⟨dx, hg⟩, _⟩ := id bo.gr
    refine ⟨_, rfl, g, dx, _, rfl, hg, rfl, tb, fun fl H1 e1 tb1 nf => ?_⟩
    have bo1 := bo.ext e1
    refine ⟨Nat.zero_le _, fun l nl => ?_⟩
    have s2 := same_new (o := .lst []) nl
    have bo2 := bo1.same s2
    refine ⟨rfl, g, wa, kd, hd, l, ws, es, 0, .ref fl, .int 1, rfl, bo2.gr, ok, upd_same, fun r H3 k3 gr3 hr3 => ?_⟩
    have kd3 : KpD p H H3 := ((KpD.ext e1).trans (.of s2)).trans (.kpl k3 bo2.dict.2)
    have st3 : ∀ b xs, H b = some (.lst xs) → H3 b = some (.lst xs) := fun b xs h => by
      have h2 := s2 _ _ (e1 _ _ h (fun _ z => nomatch z))
      exact k3 b _ (fun z => by
        obtain ⟨kvs, y⟩ := bo2.dict.2 b z
        rw [h2] at y
        cases y) h2
    have pu3 := KpD.pu pu st3
    have lp : ∃ xs, H p = some (.lst xs) := let ⟨_, _, _, z, _⟩ := pu; ⟨_, z⟩
    have bo3 := Both.next ((KpD.of s2).trans (.kpl k3 bo2.dict.2)) (let ⟨xs, z⟩ := lp; ⟨xs, e1 _ _ z (fun _ z => nomatch z)⟩) bo1 gr3
    have tb3 : Tabs (TT PT) H3 := tabs_st (tb1.ext s2) fun b o n1 n2 h => k3 b o (fun z => by
        obtain ⟨kvs, y⟩ := bo2.dict.2 b z
        rw [h] at y
        cases y
        exact n2 _ rfl) h
    refine ⟨Nat.zero_le _, fun l2 nl2 => ?_⟩
    have s4 := same_new (o := .lst []) nl2
    refine ⟨.list [], .list [], .lst (SqL.of (s4 _ _ hr3)) .nil, .lst (SqL.of upd_same) .nil, by decide, by decide, false, rfl, if_f ?_⟩
    obtain ⟨H4, e4⟩ : ∃ H4, upd H3 l2 (.lst []) = H4 := ⟨_, rfl⟩
    rw [e4] at s4
    rw [e4]
    have bo4 := bo3.same s4
    have pu4 := pu3.same s4
    have tb4 := tb3.ext s4
    have kd4 := kd3.trans (.of s4)
    obtain ⟨⟨dy, he⟩, _⟩ := And.intro bo4.ko trivial
    refine ⟨_, rfl, e, dy, _, rfl, he, rfl, rfl, e, wa, ka, ha, ws, List.replicate (ws.length + 1) none, 7, rfl, bo4.ko, bo4.gr.gw, ok.le, bo4.hs, List.length_replicate, fun H5 s5 => ?_⟩
    rw [fin_nones]
    refine ⟨rfl, false, congrArg V.bl (by decide), if_f ?_⟩
    have bo5 := bo4.same s5
    have pu5 := pu4.same s5
    have tb5 := tb4.ext s5
    have kd5 := kd4.trans (.of s5)
    have iv5 : Iv K C C2 PT H5 H5 p g e wa kd hd ka ha ws es 0 n := ⟨bo5, pu5, .of (Same.refl _), tb5⟩
    refine ⟨by show 5 ≤ sizeLine; decide, fun lw nlw => ?_⟩
    obtain ⟨H6, e6⟩ : ∃ H6, upd H5 lw (.lst [.str "fold", .str "since", .str "cells", .str "go", .str "gone"]) = H6 := ⟨_, rfl⟩
    have s6 : Same H5 H6 := by
      rw [← e6]
      exact same_new nlw
    have hlw : H6 lw = some (.lst [.str "fold", .str "since", .str "cells", .str "go", .str "gone"]) := by
      rw [← e6]
      exact upd_same
    have lwp : lw ≠ p := pu5.ne nlw
    rw [e6]
    have l0 := List.length_pos_iff.mpr ok.ne
    have l4 := ok.le
    have lm : (ws.map V.int).length = ws.length := List.length_map ..
    refine ⟨lw, rfl, ⟨_, SqL.of hlw⟩, for_list (K := K) (xs := [.str "fold", .str "since", .str "cells", .str "go", .str "gone"]) (fun i σ Hc => ∃ (z4 z5 z6 z7 z8 : Option V) (m N : Nat), σ = [some (.ref p), some (.ref g), some (.ref e), some (.ref wa), z4, z5, z6, z7, z8] ∧ Iv K C C2 PT H6 Hc p g e wa kd hd ka ha ws es m N ∧ m ≤ 5 * i ∧ N ≤ n + 6 * i)
      ⟨none, none, none, none, none, 0, n, rfl, ⟨bo5.same s6, pu5.same s6, .of (Same.refl _), tb5.ext s6⟩, Nat.zero_le _, by omega⟩ (fun i σ Hc _ z => ?_) (fun i v σ Hc hv z => ?_) ?_⟩
    · obtain ⟨_, _, _, _, _, _, _, _, iv, _⟩ := z
      exact SqL.of (iv.lst lwp hlw)
    · obtain ⟨z4, z5, z6, z7, z8, m, N, rfl, iv, lm1, ln1⟩ := z
      have il : i < 5 := (List.getElem?_eq_some_iff.mp hv).1
      obtain ⟨word, rfl, wd⟩ : ∃ word : Str, v = .str word ∧ Wd word := by
        match i, hv with
        | 0, hv => cases hv; exact ⟨_, rfl, .inl rfl⟩
        | 1, hv => cases hv; exact ⟨_, rfl, .inr (.inl rfl)⟩
        | 2, hv => cases hv; exact ⟨_, rfl, .inr (.inr (.inl rfl))⟩
        | 3, hv => cases hv; exact ⟨_, rfl, .inr (.inr (.inr (.inl rfl)))⟩
        | 4, hv => cases hv; exact ⟨_, rfl, .inr (.inr (.inr (.inr rfl)))⟩
      refine ⟨_, rfl, 10, 12, rfl, rfl, ⟨by decide, by decide, by decide⟩, p, N, _, rfl, iv.pu, by omega, by decide, by decide, fun v1 H7 k7 p7 _ _ => ?_⟩
      have iv7 := iv.drawn k7 p7
      refine ⟨10, 11, rfl, rfl, ⟨by decide, by decide, by decide⟩, _, _, rfl, rfl, ?_⟩
      refine ⟨_, rfl, _, rfl, _, rfl, wa, _, rfl, .inr iv7.bo.gr.gw, p, N + 2, _, rfl, p7, by omega, by rw [lm]; omega, by rw [lm]; omega, fun v2 H8 k8 p8 v20 v21 => ?_⟩
      have iv8 := iv7.drawn k8 p8
      rw [lm] at v21
      obtain ⟨j, rfl⟩ : ∃ j : Nat, v2 = (j : Int) := ⟨v2.toNat, by omega⟩
      have jl : j < ws.length := by omega
      obtain ⟨y, ey⟩ : ∃ y, ws[j]? = some y := ⟨_, List.getElem?_eq_getElem jl⟩
      refine ⟨wa, _, _, .int y, rfl, rfl, iv8.bo.gr.gw, atI_nat (by rw [List.getElem?_map, ey]; rfl), ?_⟩
      refine ⟨_, rfl, _, rfl, _, rfl, p, N + 4, 3, rfl, p8, by omega, by decide, by decide, fun v3 H9 k9 p9 v30 v31 => ?_⟩
      have iv9 := iv8.drawn k9 p9
      refine ⟨_, _, rfl, rfl, _, _, rfl, rfl, _, rfl, _, _, rfl, rfl, .inr ⟨by decide, by decide⟩, _, rfl, _, _, rfl, rfl, by show 5 ≤ sizeLine; decide, fun lo nlo => ?_⟩
      have tv : ∀ v, v ∈ ([.int y, .int (y + v3 - 1), .int (y * 2), .int 0, .int (0 - y)] : List V) → ∃ x : Int, v = .int x := fun v h => by
        rcases List.mem_cons.mp h with z | h
        · exact ⟨_, z⟩
        rcases List.mem_cons.mp h with z | h
        · exact ⟨_, z⟩
        rcases List.mem_cons.mp h with z | h
        · exact ⟨_, z⟩
        rcases List.mem_cons.mp h with z | h
        · exact ⟨_, z⟩
        · exact ⟨_, List.mem_singleton.mp h⟩
      have iv10 := iv9.same (same_new (o := .lst [.int y, .int (y + v3 - 1), .int (y * 2), .int 0, .int (0 - y)]) nlo)
      have lop : lo ≠ p := p9.ne nlo
      have hlo : (upd H9 lo (.lst [.int y, .int (y + v3 - 1), .int (y * 2), .int 0, .int (0 - y)])) lo = some (.lst [.int y, .int (y + v3 - 1), .int (y * 2), .int 0, .int (0 - y)]) := upd_same
      obtain ⟨H10, e10⟩ : ∃ H10, upd H9 lo (.lst [.int y, .int (y + v3 - 1), .int (y * 2), .int 0, .int (0 - y)]) = H10 := ⟨_, rfl⟩
      rw [e10] at iv10 hlo
      refine ⟨lo, rfl, ⟨_, SqL.of upd_same⟩, for_list (K := K) (xs := [.int y, .int (y + v3 - 1), .int (y * 2), .int 0, .int (0 - y)]) (fun j2 σ Hc => ∃ (z7 z8 : Option V) (m2 : Nat), σ = [some (.ref p), some (.ref g), some (.ref e), some (.ref wa), some (.str word), some (.int (v1 - 10 ^ (11 : Int).toNat)), some (.int y), z7, z8] ∧ Iv K C C2 PT H6 Hc p g e wa kd hd ka ha ws es m2 (N + 6) ∧ Hc lo = some (.lst [.int y, .int (y + v3 - 1), .int (y * 2), .int 0, .int (0 - y)]) ∧ m2 ≤ m + j2)
        ⟨_, _, m, rfl, e10 ▸ iv10, upd_same, Nat.le_refl _⟩ (fun j2 σ Hc _ z => ?_) (fun j2 v σ Hc hv z => ?_) ?_⟩
      · obtain ⟨_, _, _, _, _, z, _⟩ := z
        exact SqL.of z
      · obtain ⟨z7, z8, m2, rfl, ivc, hlc, lm2⟩ := z
        obtain ⟨x, rfl⟩ := tv v (List.mem_of_getElem? hv)
        have j5 : j2 < 5 := (List.getElem?_eq_some_iff.mp hv).1
        refine ⟨_, rfl, by show 2 ≤ sizeLine; decide, fun t1 nt1 => ⟨by show 2 ≤ sizeLine; decide, fun l1 nl1 => ?_⟩⟩
        have sL : Same Hc (upd (upd Hc t1 (.tup [.str "refused", .int x])) l1 (.lst [.ref t1, .bl true])) := (same_new nt1).trans (same_new nl1)
        have ht1 : (upd (upd Hc t1 (.tup [.str "refused", .int x])) l1 (.lst [.ref t1, .bl true])) t1 = some (.tup [.str "refused", .int x]) := same_new nl1 _ _ upd_same
        have ivL := ivc.same sL
        refine ⟨_, rfl, _, rfl, wa, _, rfl, .inr ivL.bo.gr.gw, rfl, flat_ints ws, .inr ⟨_, rfl, ?_⟩⟩
        have bad : ∀ (b : Bool) (v : V), inV (.int x) (ws.map V.int) = b → (b = true → v = .bl true) → (b = false → v = .ref t1) → atI [.ref t1, .bl true] (if b = true then 1 else 0) = some v := fun b v _ h1 h2 => by
          cases b with
          | true =>
            rw [h1 rfl]
            show atI _ ((1 : Nat) : Int) = _
            exact atI_nat rfl
          | false =>
            rw [h2 rfl]
            show atI _ ((0 : Nat) : Int) = _
            exact atI_nat rfl
        by_cases hx : x ∈ ws
        · rw [inV_mem hx]
          refine ⟨l1, _, _, .bl true, rfl, rfl, SqL.of upd_same, bad true (.bl true) (inV_mem hx) (fun _ => rfl) (fun z => nomatch z), ?_⟩
          refine ⟨_, rfl, _, rfl, _, rfl, _, rfl, _, rfl, g, e, wa, wa, kd, hd, ka, ha, ws, es, m2, word, x, _, rfl, ivL.bo, by omega, ok, wd, fun _ H' k' gr' => ?_, fun hn => absurd hx hn⟩
          have ivN := ivL.gone k' gr'
          obtain ⟨⟨kvs, z⟩, _⟩ := ivL.bo.dict
          refine ⟨_, rfl, .bool true, .bool true, .bl _, .bl _, by decide, by decide, false, rfl, if_f ⟨_, _, m2 + 1, rfl, ivN, ?_, by omega⟩⟩
          refine k' _ _ (fun w => ?_) (sL _ _ hlc)
          have y := sL _ _ hlc
          rw [w, z] at y
          cases y
        · rw [inV_not hx]
          refine ⟨l1, _, _, .ref t1, rfl, rfl, SqL.of upd_same, bad false (.ref t1) (inV_not hx) (fun z => nomatch z) (fun _ => rfl), ?_⟩
          refine ⟨_, rfl, _, rfl, _, rfl, _, rfl, _, rfl, g, e, wa, wa, kd, hd, ka, ha, ws, es, m2, word, x, _, rfl, ivL.bo, by omega, ok, wd, fun hy => absurd hy hx, fun _ r H' s' hr' => ?_⟩
          refine ⟨_, rfl, .tuple [.str "refused", .int x], .tuple [.str "refused", .int x], .tup (SqT.of hr') (.cons (.str _) (.cons (.int _) .nil)), .tup (SqT.of (s' _ _ ht1)) (.cons (.str _) (.cons (.int _) .nil)), (sh_ref x).1, (sh_ref x).1, false, congrArg V.bl (by rw [(sh_ref x).2]; rfl), if_f ⟨_, _, m2, rfl, ivL.same s', s' _ _ (sL _ _ hlc), by omega⟩⟩
      · rintro σ Hc ⟨z7, z8, m2, rfl, ivc, hlc, lm2⟩
        exact ⟨_, _, _, _, _, m2, N + 6, rfl, ivc, by have : ([.int y, .int (y + v3 - 1), .int (y * 2), .int 0, .int (0 - y)] : List V).length = 5 := rfl; omega, by omega⟩
    · rintro σ Hc ⟨z4, z5, z6, z7, z8, m, N, rfl, iv, _, _⟩
      have ktp := iv.bo.gr.gw
      obtain ⟨⟨dg, hgc⟩, _⟩ := id iv.bo.gr
      obtain ⟨dy2, hec⟩ := id iv.bo.ko
      have shw : SeqAt.shaped (.tuple (ws.map .int)) = true := shaped_of (lay_ints ws) (by show PyData.depthAll (ws.map .int) + 1 ≤ 64; have := depth_ints ws; omega)
      refine ⟨_, rfl, g, C, dg, _, .ref wa, rfl, hgc, T.cl, T.no _ (by decide), rfl, _, rfl, .tuple (ws.map .int), .tuple (ws.map .int), .tup ktp (dp_ints _), .tup ktp (dp_ints _), shw, shw, true, congrArg V.bl (eqv_ints ws), if_t ?_⟩
      refine ⟨_, rfl, e, dy2, _, rfl, hec, rfl, e, wa, ka, ha, ws, .non, rfl, iv.bo.ko, iv.bo.nw, wok_nd ok, iv.bo.hs, .inl ⟨rfl, rfl, true, rfl, if_t ?_⟩⟩
      refine ⟨_, rfl, e, dy2, _, rfl, hec, rfl, e, wa, ka, ha, ws, .non, rfl, iv.bo.ko, iv.bo.nw, wok_nd ok, iv.bo.hs, .inl ⟨rfl, rfl, ?_⟩⟩
      rw [decide_eq_true rfl]
      exact q Hc ((kd5.trans (.of s6)).trans iv.kp) iv.tb
end
end Tg

set_option maxHeartbeats 4000000
namespace Tg
open PySem PySem.Spec PyProof.Rows L2 LamX
/-! ### the law -/
abbrev sLaw : Stmt := topS 46
abbrev NLaw : List Str := ["_law_script", "_law_cell", "_law_purse_here", "_law_some_widths_here", "_law_wrong_here", "_law_some", "_law_word", "_law_made_here"]
theorem scLaw : FnScope NLaw ["_law_script"] (defScope sLaw) := ⟨rfl, rfl, rfl, by decide +kernel, rfl, by decide +kernel, by decide +kernel⟩
/-- all but lists stays -/
def NoL (H H' : Hp) : Prop := ∀ b o, (∀ xs, o ≠ .lst xs) → H b = some o → H' b = some o
theorem NoL.of {H H' : Hp} (s : Same H H') : NoL H H' := fun b o _ h => s b o h
theorem NoL.put {H : Hp} {D : Addr} {xs ys : List V} (h : H D = some (.lst xs)) : NoL H (upd H D (.lst ys)) := fun b o n e => (upd_ne fun z => by
  rw [z, h] at e
  cases e
  exact n _ rfl).trans e
theorem NoL.trans {H H1 H2 : Hp} (a : NoL H H1) (b : NoL H1 H2) : NoL H H2 := fun c o n h => b c o n (a c o n h)
section
variable {P : Program} {w : World} {K : PySem.W.Frag} {mg : Str → Option Value} {base : Heap} {C C2 CF CB CD CG CK CL CO CN CP CT : Addr}
theorem NoL.sqT {H H' : Hp} {a : Addr} {xs : List V} (s : NoL H H') (h : SqT K H a xs) : SqT K H' a xs := h.imp (fun r => r.imp (fun e => s _ _ (fun _ z => nomatch z) e) fun ⟨ob, e⟩ => ⟨ob, s _ _ (fun _ z => nomatch z) e⟩) id
theorem GrO.off {H H' : Hp} {g wa kd hd : Addr} {ws : List Int} {es : List Addr} {n : Nat} (s : NoL H H') (h : GrO K C H g wa kd hd ws es n) : GrO K C H' g wa kd hd ws es n := by
  obtain ⟨⟨dg, h1⟩, h2, ⟨k1, k2, k3, k4, k5, k6⟩, hv, h4, h5⟩ := h
  refine ⟨⟨dg, s _ _ (fun _ z => nomatch z) h1⟩, s.sqT h2, ⟨s _ _ (fun _ z => nomatch z) k1, k2, k3, k4, k5, fun e he => ?_⟩, hv, s _ _ (fun _ z => nomatch z) h4, h5⟩
  rcases k6 e he with z | ⟨e2, n1, n2, n3, z1, z2⟩
  · exact .inl (s _ _ (fun _ z => nomatch z) z)
  · exact .inr ⟨e2, n1, n2, n3, s _ _ (fun _ z => nomatch z) z1, s _ _ (fun _ z => nomatch z) z2⟩
/-- grains made, told in a pair at t -/
def Gt (K : PySem.W.Frag) (C wa : Addr) (ws : List Int) (H : Hp) (t : Addr) : Prop := ∃ a kd hd es, H t = some (.tup [.str "made", .ref a]) ∧ GrO K C H a wa kd hd ws es 0
/-- a keeping made -/
def Kt (K : PySem.W.Frag) (C2 wa : Addr) (ws : List Int) (H : Hp) (t : Addr) : Prop := ∃ a ka ha, H t = some (.tup [.str "made", .ref a]) ∧ KpO C2 H a wa ka ha ∧ SqT K H ha ((List.replicate (ws.length + 1) none).map vo)
theorem Gt.off {H H' : Hp} {wa t : Addr} {ws : List Int} (s : NoL H H') (h : Gt K C wa ws H t) : Gt K C wa ws H' t := by
  obtain ⟨a, kd, hd, es, h1, h2⟩ := h
  exact ⟨a, kd, hd, es, s _ _ (fun _ z => nomatch z) h1, h2.off s⟩
theorem Kt.off {H H' : Hp} {wa t : Addr} {ws : List Int} (s : NoL H H') (h : Kt K C2 wa ws H t) : Kt K C2 wa ws H' t := by
  obtain ⟨a, ka, ha, h1, ⟨dx, h2⟩, h3⟩ := h
  exact ⟨a, ka, ha, s _ _ (fun _ z => nomatch z) h1, ⟨dx, s _ _ (fun _ z => nomatch z) h2⟩, s.sqT h3⟩
theorem sh_refs (j : Int) : SeqAt.shaped (.list [.tuple [.str "refused", .int j], .tuple [.str "refused", .int j], .tuple [.str "refused", .int j]]) = true ∧ PyData.eqv (.list [.tuple [.str "refused", .int j], .tuple [.str "refused", .int j], .tuple [.str "refused", .int j]]) (.list [.tuple [.str "refused", .int j], .tuple [.str "refused", .int j], .tuple [.str "refused", .int j]]) = true := by
  have lay : PyData.canLay0 (.list [.tuple [.str "refused", .int j], .tuple [.str "refused", .int j], .tuple [.str "refused", .int j]]) = true := by
    show ((PyData.canLay0 (.str "refused") && (true && true)) && ((PyData.canLay0 (.str "refused") && (true && true)) && ((PyData.canLay0 (.str "refused") && (true && true)) && true))) = true
    decide +kernel
  exact ⟨shaped_of lay (by show 2 ≤ 64; decide), SeqAt.eqv_refl _ lay⟩
theorem sh_mades : SeqAt.shaped (.list [.str "made", .str "made", .str "made"]) = true ∧ PyData.eqv (.list [.str "made", .str "made", .str "made"]) (.list [.str "made", .str "made", .str "made"]) = true := by
  have lay : PyData.canLay0 (.list [.str "made", .str "made", .str "made"]) = true := by decide +kernel
  exact ⟨shaped_of lay (by show 1 ≤ 64; decide), SeqAt.eqv_refl _ lay⟩
theorem words3 {i : Nat} {x : V} (h : ([.str "grains", .str "name", .str "keeping"] : List V)[i]? = some x) : ∃ word : Str, x = .str word ∧ (word = "grains" ∨ word = "name" ∨ word = "keeping") := by
  match i, h with
  | 0, h => cases h; exact ⟨_, rfl, .inl rfl⟩
  | 1, h => cases h; exact ⟨_, rfl, .inr (.inl rfl)⟩
  | 2, h => cases h; exact ⟨_, rfl, .inr (.inr rfl)⟩
theorem three {α : Type} {l : List α} (h : l.length = 3) : ∃ a b c, l = [a, b, c] := by
  match l, h with
  | [a, b, c], _ => exact ⟨a, b, c, rfl⟩
def spLaw (K : PySem.W.Frag) (PT : Addr) : Sp := fun vs H Q _ => ∃ (a : Addr) (ns : List Int), vs = [.ref a] ∧ SqL K H a (ns.map V.int) ∧ ns.length ≤ 63 ∧ Tabs (TT PT) H ∧ ∀ H', Q (.bl true) H'
structure LawC (P : Program) (w : World) (K : PySem.W.Frag) (mg : Str → Option Value) (base : Heap) (C C2 PT : Addr) (k : Nat) : Prop where
  L_purse : Cal P w K mg base k "_law_purse" ["_law_script", "_law_at"] (spPurse K)
  L_some_widths : Cal P w K mg base k "_law_some_widths" ["_law_purse_here"] spSW
  L_wrong : Cal P w K mg base k "_law_wrong" ["_law_some_widths_here"] (spWr K)
  L_made : Cal P w K mg base k "_law_made" ["_law_some_widths_here", "_law_word"] (spMade K C C2)
  L_questions_right : Cal P w K mg base k "_law_questions_right" ["_law_purse_here", "_law_grains", "_law_keeping", "_law_some_widths_here"] (spQr K C C2 PT)
  T : TGr K C
  m_range : mg "range" = none
  m_len : mg "len" = none
  m_max : mg "max" = none
theorem ok_law {f PT : Addr} {fd : FuncData} {k : Nat} (F : Fun K "law" "law" sLaw f fd) (Z : LawC P w K mg base C C2 PT k) : FnOk P w K mg base CX0 (k + 1) f fd ["_law_script"] (spLaw K PT) := by
  obtain ⟨L_purse, L_some_widths, L_wrong, L_made, L_questions_right, T, m_range, m_len, m_max⟩ := Z
  refine F.ok scLaw (fun vs H Q E h => ?_) (fun cdv A outer s H vs Q E hr h => ?_)
  · obtain ⟨sa, ns, rfl, _⟩ := h
    rfl
  · obtain ⟨sa, ns, rfl, hS, hlen, tabs, q⟩ := h
    have hu : (A.deeper (envOfC (Str.ofString "law") (defScope sLaw) s.heap.objs.size f cdv)).units + 64 < cLine := by have := hr.un; omega
    refine ⟨_, pss_cons (ps_for PassesOwn.never rfl (pi_range1 (by rfl) m_range (pa_cons (pe_callB (call_max2 rfl) (by rfl) m_max (by decide +kernel) (pa_cons pe_int (pa_cons (pe_callB call_len_seq (by rfl) m_len (by decide +kernel) (pa_cons (pe_slice sl_list (pv 0) po_none (po_some pe_int)) pa_nil)) pa_nil))) pa_nil)) (pg_name (i := 1) scLaw.nd rfl (.inl rfl))
        (pss_cons (ps_set (i := 2) scLaw.nd rfl (.inl rfl) (pe_cal L_purse (hr.mono (by omega)) (by rfl) (pa_cons (pv 0) (pa_cons (pv 1) pa_nil))))
        (pss_cons (ps_set (i := 3) scLaw.nd rfl (.inr rfl) (pe_cal L_some_widths (hr.mono (by omega)) (by rfl) (pa_cons (pv 2) pa_nil)))
        (pss_cons (ps_set (i := 4) scLaw.nd rfl (.inl rfl) (pe_cal L_wrong (hr.mono (by omega)) (by rfl) (pa_cons (pv 3) pa_nil)))
        (pss_cons (ps_setLc (i := 5) (own := [("_law_word", 6)]) (g := (gName 6)) (tt := tYes) rfl scLaw.nd rfl rfl (sw_true rfl rfl rfl (by decide +kernel)) (pi_list (pe_lst (pa_cons pe_str (pa_cons pe_str (pa_cons pe_str pa_nil))))) (blkOk_by (own := [("_law_word", 6)]) (N := NLaw) (sc := defScope sLaw) (by decide +kernel)) (fun _ _ _ _ _ => (pg_name (i := 6) scLaw.nd rfl (.inl rfl))) (fun _ _ _ _ _ => pts_nil) (fun _ _ _ _ _ => (pe_cal L_made (hr.mono (by omega)) (by rfl) (pa_cons (pv 3) (pa_cons (pv 6) pa_nil)))))
        (pss_one (ps_if (pt_cmpR op_notN (pv 4) pe_non (nomark _))
          (pss_one (ps_if (pt_cmpR (op_neD hu) (pv 5) (pe_op op_rep (pe_lst (pa_cons (pe_tup (pa_cons pe_str (pa_cons (pv 4) pa_nil))) pa_nil)) pe_int) (nomark _))
            (pss_one (ps_ret pe_bl))
            pss_nil))
          (pss_one (ps_if (pt_cmpR (op_neD hu) (pe_lc (own := [("_law_word", 6), ("_law_made_here", 7)]) (g := (gTup K 2 (gCons (gName 6) (gCons (gName 7) gNil)))) (tt := tYes) rfl scLaw.nd (pi_list (pv 5)) (blkOk_by (own := [("_law_word", 6), ("_law_made_here", 7)]) (N := NLaw) (sc := defScope sLaw) (by decide +kernel)) (fun _ _ _ _ _ => (pg_tup rfl (pgs_cons (pg_name (i := 6) scLaw.nd rfl (.inl rfl)) (pgs_cons (pg_name (i := 7) scLaw.nd rfl (.inl rfl)) pgs_nil)))) (fun _ _ _ _ _ => pts_nil) (fun _ _ _ _ _ => (pv 6))) (pe_op op_rep (pe_lst (pa_cons pe_str pa_nil)) pe_int) (nomark _))
            (pss_one (ps_ret pe_bl))
            (pss_one (ps_if (PW.pt (pw_or (pt_cmpR (op_neD hu) (pe_fld (pe_ix ix_tup (pe_ix ix_list (pv 5) pe_int (fun _ _ => rfl)) pe_int (fun _ _ => rfl)) rfl) (pv 3) (nomark _)) (pw_or (pt_val (pe_fld (pe_ix ix_tup (pe_ix ix_list (pv 5) pe_int (fun _ _ => rfl)) pe_int (fun _ _ => rfl)) rfl)) (pw_or1 (pt_cmpR op_notN (pe_cal L_wrong (hr.mono (by omega)) (by rfl) (pa_cons (pe_fld (pe_ix ix_tup (pe_ix ix_list (pv 5) pe_int (fun _ _ => rfl)) pe_int (fun _ _ => rfl)) rfl) pa_nil)) pe_non (nomark _))))))
              (pss_one (ps_ret pe_bl))
              (pss_one (ps_if (pt_not (pt_val (pe_cal L_questions_right (hr.mono (by omega)) (by rfl) (pa_cons (pv 2) (pa_cons (pe_ix ix_tup (pe_ix ix_list (pv 5) pe_int (fun _ _ => rfl)) pe_int (fun _ _ => rfl)) (pa_cons (pe_ix ix_tup (pe_ix ix_list (pv 5) pe_int (fun _ _ => rfl)) pe_int (fun _ _ => rfl)) (pa_cons (pv 3) pa_nil)))))))
                (pss_one (ps_ret pe_bl))
                pss_nil)))))))))))))
      (pss_one (ps_ret pe_bl)), ?_⟩
    obtain ⟨ms, em, lm⟩ : ∃ ms : List Int, cutV (ns.map V.int) none (some 20) = ms.map V.int ∧ ms.length ≤ ns.length := cut_ints ns _ _
    refine ⟨_, rfl, 20, rfl, sa, _, rfl, hS, fun l0 n0 => ?_⟩
    rw [em]
    refine ⟨l0, _, rfl, .inl (SqL.of upd_same), _, _, rfl, _, rfl, ?_, ?_, ?_⟩
    · rw [List.length_map]
      split <;> omega
    · rw [List.length_map]
      split <;> omega
    obtain ⟨tn, et⟩ : ∃ tn : Nat, (if ((ms.map V.int).length : Int) > 4 then ((ms.map V.int).length : Int) else 4).toNat = tn := ⟨_, rfl⟩
    have tn6 : tn ≤ 63 := by
      rw [List.length_map] at et
      split at et <;> omega
    rw [et]
    refine for_range (n := tn) (fun i σ Hc => ∃ (z1 z2 z3 z4 z5 z6 z7 : Option V), σ = [some (.ref sa), z1, z2, z3, z4, z5, z6, z7] ∧ SqL K Hc sa (ns.map V.int) ∧ Tabs (TT PT) Hc) ?_ ?_ ?_
    · exact ⟨none, none, none, none, none, none, none, rfl, sqL_same (same_new n0) hS, tabs.ext (same_new n0)⟩
    · rintro i σ Hc hi ⟨z1, z2, z3, z4, z5, z6, z7, rfl, hSc, tbc⟩
      refine ⟨_, rfl, _, rfl, sa, ns, _, rfl, hSc, hlen, by omega, by omega, fun p H1 s1 np p1 => ?_⟩
      -- what the rest of a turn leaves
      have fin : ∀ (H' : Hp) (z1 z2 z3 z4 z5 z6 z7 : Option V), KpD p Hc H' → Tabs (TT PT) H' → ∃ (y1 y2 y3 y4 y5 y6 y7 : Option V), [some (V.ref sa), z1, z2, z3, z4, z5, z6, z7] = [some (.ref sa), y1, y2, y3, y4, y5, y6, y7] ∧ SqL K H' sa (ns.map V.int) ∧ Tabs (TT PT) H' := fun H' z1 z2 z3 z4 z5 z6 z7 k t =>
        ⟨_, _, _, _, _, _, _, rfl, hSc.imp (fun r => r.imp (fun e => k _ _ (ne_of_none e np) (fun _ z => nomatch z) (fun _ z => nomatch z) e) fun ⟨ob, e⟩ => ⟨ob, k _ _ (ne_of_none e np) (fun _ z => nomatch z) (fun _ z => nomatch z) e⟩) id, t⟩
      refine ⟨_, rfl, p, 1000000, rfl, p1, by decide, fun wa ob ws H2 k2 p2 nwa nob hwa few bd => ?_⟩
      have hw2 : SqT K H2 wa (ws.map V.int) := .inl (.inr ⟨ob, hwa⟩)
      have kd2 : KpD p Hc H2 := (KpD.of s1).trans (.kp k2)
      have tb2 : Tabs (TT PT) H2 := by
        obtain ⟨_, _, _, z, _⟩ := p1
        refine tabs_st (tbc.ext s1) fun b o n1 _ h => k2 b o (fun y => ?_) h
        rw [y, z] at h
        cases h
        exact n1 _ rfl
      refine ⟨_, rfl, wa, ws, rfl, hw2, by omega, fun H3 s3 => ?_⟩
      refine ⟨by show 3 ≤ sizeLine; decide, fun lw nlw => ⟨lw, rfl, ⟨_, SqL.of upd_same⟩, fun D nD => ?_⟩⟩
      obtain ⟨H4, e4⟩ : ∃ H4, upd H3 lw (.lst [.str "grains", .str "name", .str "keeping"]) = H4 := ⟨_, rfl⟩
      have hlw : H4 lw = some (.lst [.str "grains", .str "name", .str "keeping"]) := by
        rw [← e4]
        exact upd_same
      rw [e4] at nD
      rw [e4]
      have s4 : Same H2 H4 := by
        rw [← e4]
        exact s3.trans (same_new nlw)
      have hw4 := sqT_same s4 hw2
      cases ew : wrongW ws with
      | some j =>
        refine walked_w (walk_list (K := K) (a := lw) (xs := [.str "grains", .str "name", .str "keeping"])) (fun i Hc => Same H4 Hc ∧ ∃ ts : List Addr, ts.length = i ∧ Hc D = some (.lst (ts.map V.ref)) ∧ ∀ t, t ∈ ts → Hc t = some (.tup [.str "refused", .int (j : Nat)])) ⟨same_new nD, [], rfl, upd_same, fun _ z => nomatch z⟩ (fun i Hc _ h => SqL.of (h.1 _ _ hlw)) ?_ ?_
        · rintro i2 x Hx Hd hi2 ⟨sc, ts, lt, hD, ht⟩ ⟨rfl, ex⟩
          obtain ⟨word, rfl, one⟩ := words3 ex
          refine ⟨rfl, yes_b (if_t ⟨_, rfl, _, rfl, wa, ws, word, rfl, sqT_same sc hw4, few, bd, one, fun j2 e t H' s' h' => ?_, (fun g => by rw [ew] at g; cases g), (fun g => by rw [ew] at g; cases g)⟩)⟩
          rw [ew] at e
          cases e
          have hD' := s' _ _ hD
          refine ⟨_, hD', by rw [List.length_map, lt]; exact small1000 (by have : i2 < 3 := hi2; omega), same_put nD (sc.trans s'), ts ++ [t], by rw [List.length_append, lt]; rfl, by rw [upd_same, List.map_append]; rfl, fun u hu2 => ?_⟩
          have nu : ∀ {u : Addr}, H' u = some (.tup [.str "refused", .int (j : Nat)]) → u ≠ D := fun {u} h z => by
            rw [z, hD'] at h
            cases h
          rcases List.mem_append.mp hu2 with h | h
          · have y := s' _ _ (ht u h)
            exact (upd_ne (nu y)).trans y
          · rw [List.mem_singleton.mp h]
            exact (upd_ne (nu h')).trans h'
        · rintro H5 ⟨s5, ts, lt, hD, ht⟩
          obtain ⟨t0, t1, t2, rfl⟩ := three lt
          refine ⟨_, rfl, rfl, true, rfl, if_t ?_⟩
          refine ⟨_, rfl, _, rfl, by show 2 ≤ sizeLine; decide, fun t3 n3 => ⟨by show 1 ≤ sizeLine; decide, fun l1 nl1 => ?_⟩⟩
          refine ⟨l1, 3, _, rfl, rfl, upd_same, by decide, by decide, by show 1 * 3 ≤ sizeLine; decide, fun l2 nl2 => ?_⟩
          obtain ⟨H6, e6⟩ : ∃ H6, upd (upd (upd H5 t3 (.tup [.str "refused", wv (some j)])) l1 (.lst [.ref t3])) l2 (.lst (List.replicate (3 : Int).toNat [V.ref t3]).flatten) = H6 := ⟨_, rfl⟩
          have s6 : Same H5 H6 := by
            rw [← e6]
            exact ((same_new n3).trans (same_new nl1)).trans (same_new nl2)
          have h3 : H6 t3 = some (.tup [.str "refused", .int (j : Nat)]) := by
            rw [← e6]
            exact same_new nl2 _ _ (same_new nl1 _ _ upd_same)
          have hl2 : H6 l2 = some (.lst [.ref t3, .ref t3, .ref t3]) := by
            rw [← e6]
            exact upd_same
          have dpT : ∀ {t : Addr}, H6 t = some (.tup [.str "refused", .int (j : Nat)]) → Dp K H6 (.ref t) (.tuple [.str "refused", .int (j : Nat)]) := fun {t} h => .tup (SqT.of h) (.cons (.str _) (.cons (.int _) .nil))
          have dpO : ∀ {t : Addr}, t ∈ [t0, t1, t2] → Dp K H6 (.ref t) (.tuple [.str "refused", .int (j : Nat)]) := fun {t} h => dpT (s6 _ _ (ht t h))
          rw [e6]
          refine ⟨.list [.tuple [.str "refused", .int (j : Nat)], .tuple [.str "refused", .int (j : Nat)], .tuple [.str "refused", .int (j : Nat)]], .list [.tuple [.str "refused", .int (j : Nat)], .tuple [.str "refused", .int (j : Nat)], .tuple [.str "refused", .int (j : Nat)]], .lst (SqL.of (s6 _ _ hD)) (.cons (dpO (by simp)) (.cons (dpO (by simp)) (.cons (dpO (by simp)) .nil))),
            .lst (SqL.of hl2) (.cons (dpT h3) (.cons (dpT h3) (.cons (dpT h3) .nil))), (sh_refs _).1, (sh_refs _).1, false, congrArg V.bl (by rw [(sh_refs _).2]; rfl), if_f ?_⟩
          have sA : Same H2 H6 := (s4.trans s5).trans s6
          exact fin H6 _ _ _ _ _ _ _ (kd2.trans (.of sA)) (tb2.ext sA)
      | none =>
        have ok : WOk ws := wok_of ew bd
        refine walked_w (walk_list (K := K) (a := lw) (xs := [.str "grains", .str "name", .str "keeping"])) (fun i Hc => Same H4 Hc ∧ ∃ ts : List Addr, ts.length = i ∧ Hc D = some (.lst (ts.map V.ref)) ∧ (∀ (i : Nat) t, i < 2 → ts[i]? = some t → Gt K C wa ws Hc t) ∧ ∀ t, ts[2]? = some t → Kt K C2 wa ws Hc t) ⟨same_new nD, [], rfl, upd_same, fun i t _ z => by simp at z, fun t z => by simp at z⟩ (fun i Hc _ h => SqL.of (h.1 _ _ hlw)) ?_ ?_
        · rintro i2 x Hx Hd hi2 ⟨sc, ts, lt, hD, hg, hk⟩ ⟨rfl, ex⟩
          obtain ⟨word, rfl, one⟩ := words3 ex
          have more : ∀ (t : Addr) (H' : Hp), Same Hd H' → (i2 < 2 → Gt K C wa ws H' t) → (i2 = 2 → Kt K C2 wa ws H' t) → ∃ acc, H' D = some (.lst acc) ∧ acc.length < sizeLine ∧ Same H4 (upd H' D (.lst (acc ++ [.ref t]))) ∧ ∃ ts : List Addr, ts.length = i2 + 1 ∧ (upd H' D (.lst (acc ++ [.ref t]))) D = some (.lst (ts.map V.ref)) ∧ (∀ (i : Nat) t2, i < 2 → ts[i]? = some t2 → Gt K C wa ws (upd H' D (.lst (acc ++ [.ref t]))) t2) ∧ ∀ t2, ts[2]? = some t2 → Kt K C2 wa ws (upd H' D (.lst (acc ++ [.ref t]))) t2 := fun t H' s' g1 g2 => by
            have hD' := s' _ _ hD
            have st : NoL H' (upd H' D (.lst (ts.map V.ref ++ [.ref t]))) := NoL.put hD'
            have st2 := (NoL.of s').trans st
            refine ⟨_, hD', by rw [List.length_map, lt]; exact small1000 (by have : i2 < 3 := hi2; omega), same_put nD (sc.trans s'), ts ++ [t], by rw [List.length_append, lt]; rfl, by rw [upd_same, List.map_append]; rfl, fun i u l2 hu2 => ?_, fun u hu2 => ?_⟩
            · by_cases c : i < i2
              · rw [List.getElem?_append_left (by omega)] at hu2
                exact (hg i u l2 hu2).off st2
              · have il := (List.getElem?_eq_some_iff.mp hu2).1
                rw [List.length_append, lt] at il
                have ei : i = i2 := by
                  have : [t].length = 1 := rfl
                  omega
                rw [ei, ← lt, List.getElem?_append_right (Nat.le_refl _), Nat.sub_self] at hu2
                cases hu2
                exact (g1 (by omega)).off st
            · by_cases c : 2 < i2
              · have : i2 < 3 := hi2
                omega
              · have il := (List.getElem?_eq_some_iff.mp hu2).1
                rw [List.length_append, lt] at il
                have ei : 2 = i2 := by
                  have : [t].length = 1 := rfl
                  omega
                rw [ei, ← lt, List.getElem?_append_right (Nat.le_refl _), Nat.sub_self] at hu2
                cases hu2
                exact (g2 ei.symm).off st
          have w2 : i2 < 2 → word ≠ "keeping" := fun l z => by
            match i2, l, ex with
            | 0, _, ex => cases ex; exact absurd z (by decide)
            | 1, _, ex => cases ex; exact absurd z (by decide)
          have w3 : i2 = 2 → word = "keeping" := fun l => by
            subst l
            cases ex
            rfl
          refine ⟨rfl, yes_b (if_t ⟨_, rfl, _, rfl, wa, ws, word, rfl, sqT_same sc hw4, few, bd, one, (fun j2 e => by rw [ew] at e; cases e), fun _ nk t a kd hd es H' s' h' gr => more t H' s' (fun _ => ⟨a, kd, hd, es, h', gr⟩) (fun l => absurd (w3 l) nk), fun _ yk t a ka ha H' s' h' ko hs => more t H' s' (fun l => absurd yk (w2 l)) (fun _ => ⟨a, ka, ha, h', ko, hs⟩)⟩)⟩
        · rintro H5 ⟨s5, ts, lt, hD, hg, hk⟩
          obtain ⟨t0, t1, t2, rfl⟩ := three lt
          have G0 := hg 0 t0 (by omega) rfl
          have G1 := hg 1 t1 (by omega) rfl
          have K2 := hk t2 rfl
          refine ⟨_, rfl, rfl, false, rfl, if_f ?_⟩
          have pairs : ∀ t, t ∈ [t0, t1, t2] → ∃ a, H5 t = some (.tup [.str "made", .ref a]) := fun t h => by
            rcases List.mem_cons.mp h with z | h
            · obtain ⟨a, _, _, _, y, _⟩ := G0
              exact ⟨a, z ▸ y⟩
            rcases List.mem_cons.mp h with z | h
            · obtain ⟨a, _, _, _, y, _⟩ := G1
              exact ⟨a, z ▸ y⟩
            · obtain ⟨a, _, _, y, _⟩ := K2
              exact ⟨a, (List.mem_singleton.mp h) ▸ y⟩
          refine ⟨_, rfl, D, rfl, ⟨_, SqL.of hD⟩, fun D2 nD2 => ?_⟩
          refine walked_w (walk_list (K := K) (a := D) (xs := [t0, t1, t2].map V.ref)) (fun i Hc => Same H5 Hc ∧ Hc D2 = some (.lst (List.replicate i (.str "made")))) ⟨same_new nD2, upd_same⟩ (fun i Hc _ h => SqL.of (h.1 _ _ hD)) ?_ ?_
          · rintro i2 x Hx Hd hi2 ⟨sc, hD2⟩ ⟨rfl, ex⟩
            rw [List.getElem?_map] at ex
            obtain ⟨t, et2, rfl⟩ := Option.map_eq_some_iff.mp ex
            obtain ⟨a, ha⟩ := pairs t (List.mem_of_getElem? et2)
            refine ⟨t, _, rfl, SqT.of (sc _ _ ha), rfl, _, _, rfl, _, _, rfl, rfl, rfl, yes_b (if_t ⟨_, rfl, _, hD2, ?_, same_put nD2 sc, ?_⟩)⟩
            · rw [List.length_replicate]
              exact small1000 (by have : i2 < 3 := hi2; omega)
            · rw [upd_same, List.replicate_succ']
          · rintro H6 ⟨s6, hD2⟩
            refine ⟨by show 1 ≤ sizeLine; decide, fun l1 nl1 => ⟨l1, 3, _, rfl, rfl, upd_same, by decide, by decide, by show 1 * 3 ≤ sizeLine; decide, fun l2 nl2 => ?_⟩⟩
            obtain ⟨H7, e7⟩ : ∃ H7, upd (upd H6 l1 (.lst [.str "made"])) l2 (.lst (List.replicate (3 : Int).toNat [V.str "made"]).flatten) = H7 := ⟨_, rfl⟩
            have s7 : Same H6 H7 := by
              rw [← e7]
              exact (same_new nl1).trans (same_new nl2)
            have hl2 : H7 l2 = some (.lst [.str "made", .str "made", .str "made"]) := by
              rw [← e7]
              exact upd_same
            rw [e7]
            refine ⟨.list [.str "made", .str "made", .str "made"], .list [.str "made", .str "made", .str "made"], .lst (SqL.of (s7 _ _ hD2)) (.cons (.str _) (.cons (.str _) (.cons (.str _) .nil))), .lst (SqL.of hl2) (.cons (.str _) (.cons (.str _) (.cons (.str _) .nil))), sh_mades.1, sh_mades.1, false, congrArg V.bl (by rw [sh_mades.2]; rfl), if_f ?_⟩
            have s57 := s6.trans s7
            have hD7 := s57 _ _ hD
            obtain ⟨a0, kd0, hd0, es0, y0, gr0⟩ := G0.off (.of s57)
            obtain ⟨a1, kd1, hd1, es1, y1, gr1⟩ := G1.off (.of s57)
            obtain ⟨a2, ka2, ha2, y2, ko2, hs2⟩ := K2.off (.of s57)
            have at0 : atI ([t0, t1, t2].map V.ref) 0 = some (.ref t0) := by
              show atI _ ((0 : Nat) : Int) = _
              exact atI_nat rfl
            have at1 : atI ([t0, t1, t2].map V.ref) 1 = some (.ref t1) := by
              show atI _ ((1 : Nat) : Int) = _
              exact atI_nat rfl
            have at2 : atI ([t0, t1, t2].map V.ref) 2 = some (.ref t2) := by
              show atI _ ((2 : Nat) : Int) = _
              exact atI_nat rfl
            have in1 : ∀ a : Addr, atI ([V.str "made", V.ref a] : List V) 1 = some (V.ref a) := fun a => by
              show atI _ ((1 : Nat) : Int) = _
              exact atI_nat rfl
            have hw7 := sqT_same ((s5.trans s6).trans s7) hw4
            have shw : SeqAt.shaped (.tuple (ws.map .int)) = true := shaped_of (lay_ints ws) (by show PyData.depthAll (ws.map .int) + 1 ≤ 64; have := depth_ints ws; omega)
            obtain ⟨⟨dx0, g0⟩, _⟩ := id gr0
            obtain ⟨⟨dx1, g1⟩, _⟩ := id gr1
            refine ⟨_, rfl, D, _, 1, .ref t1, rfl, rfl, SqL.of hD7, at1, t1, _, 1, .ref a1, rfl, rfl, SqT.of y1, in1 a1, a1, C, dx1, _, .ref wa, rfl, g1, T.cl, T.no _ (by decide), rfl, _, rfl, .tuple (ws.map .int), .tuple (ws.map .int), .tup gr1.gw (dp_ints _), .tup hw7 (dp_ints _), shw, shw, false, congrArg V.bl (congrArg not (eqv_ints ws)), if_f ?_⟩
            refine ⟨_, rfl, D, _, 0, .ref t0, rfl, rfl, SqL.of hD7, at0, t0, _, 1, .ref a0, rfl, rfl, SqT.of y0, in1 a0, a0, C, dx0, _, .bl false, rfl, g0, T.cl, T.no _ (by decide), rfl, false, rfl, if_f ?_⟩
            refine ⟨_, rfl, D, _, 0, .ref t0, rfl, rfl, SqL.of hD7, at0, t0, _, 1, .ref a0, rfl, rfl, SqT.of y0, in1 a0, a0, C, dx0, _, .ref wa, rfl, g0, T.cl, T.no _ (by decide), rfl, wa, ws, rfl, hw7, by omega, fun H8 s8 => ?_⟩
            rw [ew]
            refine ⟨rfl, false, rfl, if_f ?_⟩
            have hD8 := s8 _ _ hD7
            have sA : Same H2 H8 := ((s4.trans s5).trans s57).trans s8
            refine ⟨_, rfl, _, rfl, D, _, 0, .ref t0, rfl, rfl, SqL.of hD8, at0, t0, _, 1, .ref a0, rfl, rfl, SqT.of (s8 _ _ y0), in1 a0, _, rfl, D, _, 2, .ref t2, rfl, rfl, SqL.of hD8, at2, t2, _, 1, .ref a2, rfl, rfl, SqT.of (s8 _ _ y2), in1 a2, _, rfl, ?_⟩
            obtain ⟨dy, ko⟩ := ko2
            refine ⟨p, a0, a2, wa, kd0, hd0, ka2, ha2, ws, es0, _, rfl, ⟨gr0.same s8, ⟨dy, s8 _ _ ko⟩, ⟨ob, nob, sA _ _ hwa⟩, sqT_same s8 hs2⟩, ok, p2.same sA, by decide, tb2.ext sA, fun H' k' tb' => ⟨true, rfl, if_f ?_⟩⟩
            exact fin H' _ _ _ _ _ _ _ ((kd2.trans (.of sA)).trans k') tb'
    · rintro σ Hc ⟨z1, z2, z3, z4, z5, z6, z7, rfl, _⟩
      exact q _
end
end Tg

namespace Tg
open PySem PySem.Spec PyProof.Rows L2 LamX
theorem gd_at {vs : Array Value} {i : Nat} {v : Value} (h : vs[i]? = some v) : vs.getD i .none = v := by
  rw [Array.getD_eq_getD_getElem?, h]
  rfl
section
variable {K : PySem.W.Frag} {f : Addr} {fd : FuncData}
theorem kk_gi (F : Fun K "__init__" "Grains.__init__" sGI f fd) : KBn K fd ["self", "widths"] 1 ["widths"] (fun us ws => us ++ prm [0] ws) (fun vs zs => vs ++ prm [0] zs) := by
  obtain ⟨_, _, kV, doc, pm, an, cdv, ct, _, rfl, _, _⟩ := F.ex
  exact ⟨fun s us ws _ h0 h2 => match us, ws, h0, h2 with | [_], [_], _, _ => .of_eq rfl, fun r1 r => r1.append (prm_rel r _)⟩
theorem kk_fa (F : Fun K "fold_at" "Grains.fold_at" sFA f fd) : KBn K fd ["self", "place", "width", "time"] 1 ["time", "width", "place"] (fun us ws => us ++ prm [2, 1, 0] ws) (fun vs zs => vs ++ prm [2, 1, 0] zs) := by
  obtain ⟨_, _, kV, doc, pm, an, cdv, ct, _, rfl, _, _⟩ := F.ex
  exact ⟨fun s us ws _ h0 h2 => match us, ws, h0, h2 with | [_], [_, _, _], _, _ => .of_eq rfl, fun r1 r => r1.append (prm_rel r _)⟩
theorem kk_sa (F : Fun K "since_at" "Grains.since_at" sSA f fd) : KBn K fd ["self", "place", "width", "time"] 1 ["place", "time", "width"] (fun us ws => us ++ prm [0, 2, 1] ws) (fun vs zs => vs ++ prm [0, 2, 1] zs) := by
  obtain ⟨_, _, kV, doc, pm, an, cdv, ct, _, rfl, _, _⟩ := F.ex
  exact ⟨fun s us ws _ h0 h2 => match us, ws, h0, h2 with | [_], [_, _, _], _, _ => .of_eq rfl, fun r1 r => r1.append (prm_rel r _)⟩
theorem kk_co (F : Fun K "cells_of" "Grains.cells_of" sCO f fd) : KBn K fd ["self", "place", "width"] 1 ["width", "place"] (fun us ws => us ++ prm [1, 0] ws) (fun vs zs => vs ++ prm [1, 0] zs) := by
  obtain ⟨_, _, kV, doc, pm, an, cdv, ct, _, rfl, _, _⟩ := F.ex
  exact ⟨fun s us ws _ h0 h2 => match us, ws, h0, h2 with | [_], [_, _], _, _ => .of_eq rfl, fun r1 r => r1.append (prm_rel r _)⟩
theorem kk_lg (F : Fun K "let_go" "Grains.let_go" sLG f fd) : KBn K fd ["self", "width", "time"] 1 ["time", "width"] (fun us ws => us ++ prm [1, 0] ws) (fun vs zs => vs ++ prm [1, 0] zs) := by
  obtain ⟨_, _, kV, doc, pm, an, cdv, ct, _, rfl, _, _⟩ := F.ex
  exact ⟨fun s us ws _ h0 h2 => match us, ws, h0, h2 with | [_], [_, _], _, _ => .of_eq rfl, fun r1 r => r1.append (prm_rel r _)⟩
theorem kk_fin (F : Fun K "finest" "Keeping.finest" sFin f fd) : KBn K fd ["self", "time"] 1 ["time"] (fun us ws => us ++ prm [0] ws) (fun vs zs => vs ++ prm [0] zs) := by
  obtain ⟨_, _, kV, doc, pm, an, cdv, ct, _, rfl, _, _⟩ := F.ex
  exact ⟨fun s us ws _ h0 h2 => match us, ws, h0, h2 with | [_], [_], _, _ => .of_eq rfl, fun r1 r => r1.append (prm_rel r _)⟩
theorem kk_rn (F : Fun K "renew" "Grains.renew" sRn f fd) : KBn K fd ["self", "place", "times", "points_in", "number"] 1 ["points_in", "number", "times", "place"] (fun us ws => us ++ prm [3, 2, 0, 1] ws) (fun vs zs => vs ++ prm [3, 2, 0, 1] zs) := by
  obtain ⟨_, _, kV, doc, pm, an, cdv, ct, _, rfl, _, _⟩ := F.ex
  exact ⟨fun s us ws _ h0 h2 => match us, ws, h0, h2 with | [_], [_, _, _, _], _, _ => .of_eq rfl, fun r1 r => r1.append (prm_rel r _)⟩
abbrev FGone (K : PySem.W.Frag) (f : Addr) (fd : FuncData) : Prop := FunD K "gone_before" "Keeping.gone_before" (defArgs sGone) (defBody sGone) (defScope sGone) [.non] [] f fd
theorem kk_gb (F : FGone K f fd) : KBn K fd ["self", "width"] 1 ["width"] (fun us ws => us ++ prm [0] ws) (fun vs zs => vs ++ prm [0] zs) := by
  obtain ⟨its, h⟩ := F.kbindsD (ps := ["self", "width"]) 1 ["width"] (fun us _ ws => us ++ prm [0] ws) (fun z => nomatch z) (fun r1 _ r => r1.append (prm_rel r _)) (fun T kV doc pm an cdv ct us its ws h1 h2 h3 => match us, its, ws, h1, h2, h3 with | [_], [_], [_], _, _, _ => ⟨_, rfl, rfl⟩)
  exact h
theorem b_gone0 (F : FGone K f fd) : ∃ ds, Vals [.non] ds ∧ Binds K fd ["self", "width"] ds := F.binds1 1 0 (fun z => nomatch z) rfl (fun T kV doc pm an cdv ct us its h1 h2 => match us, its, h1, h2 with | [_], [_], _, _ => ⟨_, rfl, rfl⟩)
theorem b_gone (F : FGone K f fd) : Binds K fd ["self", "width"] [] := by
  obtain ⟨ds, h1, h2⟩ := F.binds1 (ps := ["self", "width"]) 2 1 (fun z => nomatch z) rfl (fun T kV doc pm an cdv ct us its h1 h2 => match us, its, h1, h2 with | [_, _], [_], _, _ => ⟨_, rfl, rfl⟩)
  cases h1
  exact h2
end
/-! ### what the top has written; the law's own head -/
set_option maxHeartbeats 0 in
theorem all_mk {l : PySem.W.OpenLaw} {w : World} {K : PySem.W.Frag} {h : Heap} {mg : Str → Option Value} {fa CG CK C1 C2 C3 CB CD CL CO CN CP CT f1 f2 f3 f4 f5 f6 f7 f8 f9 f10 f11 f12 f13 f14 f15 f16 f17 f18 f19 f20 f21 f22 f23 f24 f25 f26 f27 f28 f29 f30 f31 f32 f33 f34 f35 f36 f37 f38 f39 f40 : Addr} {nmCG qCG : Str} {NCG : Addr} {bsCG : List Value} {snCG : List Str} {subCG : List Value} {abCG : Bool} {colCG : Option Bool} {ddCG : Option Addr} {v0CG v1CG v2CG v3CG v5CG : Option Value} {nmCK qCK : Str} {NCK : Addr} {bsCK : List Value} {snCK : List Str} {subCK : List Value} {abCK : Bool} {colCK : Option Bool} {ddCK : Option Addr} {v0CK v1CK v2CK v3CK v5CK : Option Value} {KD NF : Addr} {nmF qF : Str} {bsF subF : List Value} {hdF abF : Bool} {snF : List Str} {colF : Option Bool} {ddF : Option Addr} {v0F v1F v2F v3F v5F : Option Value} {idF : String} {cN : Value} {dN : Option Addr} {esN : Array DictEntry} {epN : Nat} {slN : Array (Option Value)} {tk_count : Tok} {tk_total : Tok} {tk_squares : Tok} {tk_rise : Tok} {tk_held : Tok} {TD : Addr} {zMW : Tok} {nT : Nat} {cT : Value} {dT : Option Addr} {sT : Array (Option Value)} {cc39 PT39 : Addr} {vv39 : Array Value} {dd39 : Option Addr} {sl_39 : Array (Option Value)} {fi39 : Str} {tf39 tg39 tx39 : Tok} {fl39 te39 : Int} {inF39 : Bool} (X : K.In h) (G : h.Ns mainGlobals mg) (hfa : mg "law" = some (.ref fa))
    {od1 an1 od2 an2 od3 an3 od4 an4 od5 an5 od6 an6 od7 an7 od8 an8 od9 an9 od10 an10 od11 an11 od12 an12 od13 an13 od14 an14 od15 an15 od16 an16 od17 an17 od18 an18 od19 an19 od20 an20 od21 an21 od22 an22 od23 an23 od24 an24 od25 an25 od26 an26 od27 an27 od28 an28 od29 an29 od30 an30 od31 an31 od32 an32 od33 an33 od34 an34 od35 an35 od36 an36 od37 an37 od38 an38 od39 an39 od40 an40 : Option Addr} {sl1 sl2 sl3 sl4 sl5 sl6 sl7 sl8 sl9 sl10 sl11 sl12 sl13 sl14 sl15 sl16 sl17 sl18 sl19 sl20 sl21 sl22 sl23 sl24 sl25 sl26 sl27 sl28 sl29 sl30 sl31 sl32 sl33 sl34 sl35 sl36 sl37 sl38 sl39 sl40 : Array (Option Value)} {oc1 kV1 dc1 pm1 cd1 ct1 oc2 kV2 dc2 pm2 cd2 ct2 oc3 dc3 pm3 cd3 ct3 oc4 kV4 dc4 pm4 cd4 ct4 oc5 kV5 dc5 pm5 cd5 ct5 oc6 kV6 dc6 pm6 cd6 ct6 oc7 kV7 dc7 pm7 cd7 ct7 oc8 kV8 dc8 pm8 cd8 ct8 oc9 kV9 dc9 pm9 cd9 ct9 oc10 kV10 dc10 pm10 cd10 ct10 oc11 kV11 dc11 pm11 cd11 ct11 oc12 kV12 dc12 pm12 cd12 ct12 oc13 kV13 dc13 pm13 cd13 ct13 oc14 kV14 dc14 pm14 cd14 ct14 oc15 kV15 dc15 pm15 cd15 ct15 oc16 kV16 dc16 pm16 cd16 ct16 oc17 kV17 dc17 pm17 cd17 ct17 oc18 kV18 dc18 pm18 cd18 ct18 oc19 kV19 dc19 pm19 cd19 ct19 oc20 kV20 dc20 pm20 cd20 ct20 oc21 kV21 dc21 pm21 cd21 ct21 oc22 kV22 dc22 pm22 cd22 ct22 oc23 kV23 dc23 pm23 cd23 ct23 oc24 kV24 dc24 pm24 cd24 ct24 oc25 kV25 dc25 pm25 cd25 ct25 oc26 kV26 dc26 pm26 cd26 ct26 oc27 kV27 dc27 pm27 cd27 ct27 oc28 kV28 dc28 pm28 cd28 ct28 oc29 kV29 dc29 pm29 cd29 ct29 oc30 kV30 dc30 pm30 cd30 ct30 oc31 kV31 dc31 pm31 cd31 ct31 oc32 kV32 dc32 pm32 cd32 ct32 oc33 kV33 dc33 pm33 cd33 ct33 oc34 kV34 dc34 pm34 cd34 ct34 oc35 kV35 dc35 pm35 cd35 ct35 oc36 kV36 dc36 pm36 cd36 ct36 oc37 kV37 dc37 pm37 cd37 ct37 oc38 kV38 dc38 pm38 cd38 ct38 oc39 kV39 dc39 pm39 ct39 oc40 kV40 dc40 pm40 cd40 ct40 : Value}
    (aCG : PySem.W.nsIn K mainGlobals "NoGrain" = some (some (.ref CG)))
    (xCG : K.lookup CG = some (excClassObj nmCG qCG CG NCG bsCG [.type "ValueError", .type "Exception", .type "BaseException", .type "object"] true snCG subCG abCG colCG ddCG v0CG v1CG v2CG v3CG v5CG "ValueError.__new__"))
    (saCG : PySem.W.findIn K (.ref CG) "__setattr__" = some (some (.builtin "object.__setattr__")))
    (gaCG : PySem.W.findIn K (.ref CG) "__getattribute__" = some (some (.builtin "BaseException.__getattribute__")))
    (ggCG : PySem.W.findIn K (.ref CG) "__getattr__" = some none)
    (noCG : PySem.W.findIn K (.ref CG) "at" = some none)
    (kcCG : PySem.W.keepIn K (.ref CG) = true)
    (ecCG : PySem.W.subIn K (.ref CG) (.type "BaseException") = some true)
    (tcCG : PySem.W.typeIn K (.ref CG) = some (.type "type"))
    (hcCG : PySem.W.hasDictIn K CG = true)
    (ccCG : PySem.W.findIn K (.ref CG) "__class__" = some (some (.builtin "object.__class__")))
    (moCG : PySem.W.mroIn K CG (.type "object") = some true)
    (xmCG : PySem.W.exmOne K (.ref CG) (.ref CG) = some true)
    (aCK : PySem.W.nsIn K mainGlobals "NoKeep" = some (some (.ref CK)))
    (xCK : K.lookup CK = some (excClassObj nmCK qCK CK NCK bsCK [.type "ValueError", .type "Exception", .type "BaseException", .type "object"] true snCK subCK abCK colCK ddCK v0CK v1CK v2CK v3CK v5CK "ValueError.__new__"))
    (saCK : PySem.W.findIn K (.ref CK) "__setattr__" = some (some (.builtin "object.__setattr__")))
    (gaCK : PySem.W.findIn K (.ref CK) "__getattribute__" = some (some (.builtin "BaseException.__getattribute__")))
    (ggCK : PySem.W.findIn K (.ref CK) "__getattr__" = some none)
    (noCK : PySem.W.findIn K (.ref CK) "at" = some none)
    (kcCK : PySem.W.keepIn K (.ref CK) = true)
    (ecCK : PySem.W.subIn K (.ref CK) (.type "BaseException") = some true)
    (tcCK : PySem.W.typeIn K (.ref CK) = some (.type "type"))
    (hcCK : PySem.W.hasDictIn K CK = true)
    (ccCK : PySem.W.findIn K (.ref CK) "__class__" = some (some (.builtin "object.__class__")))
    (moCK : PySem.W.mroIn K CK (.type "object") = some true)
    (xmCK : PySem.W.exmOne K (.ref CK) (.ref CK) = some true)
    (hnC : PySem.W.specialIn K (.builtin "object.__class__") "__get__" = some (some (.builtin "getset_descriptor.__get__")))
    (htC : PySem.W.takesIn K (.builtin "object.__class__") = some true)
    (vV : PySem.W.findCls K (.type "ValueError") (.type "type") "__init__" = some (.val (.builtin "ValueError.__init__")))
    (aCB : PySem.W.nsIn K mainGlobals "NoBody" = some (some (.ref CB)))
    (aCD : PySem.W.nsIn K mainGlobals "NoDeed" = some (some (.ref CD)))
    (aCL : PySem.W.nsIn K mainGlobals "NoLog" = some (some (.ref CL)))
    (aCO : PySem.W.nsIn K mainGlobals "NoOrder" = some (some (.ref CO)))
    (aCN : PySem.W.nsIn K mainGlobals "NoNumber" = some (some (.ref CN)))
    (aCP : PySem.W.nsIn K mainGlobals "NoPlace" = some (some (.ref CP)))
    (aCT : PySem.W.nsIn K mainGlobals "NoText" = some (some (.ref CT)))
    (aC1 : PySem.W.nsIn K mainGlobals "Fold" = some (some (.ref C1)))
    (pgC1 : PySem.W.plainGet K C1 Str.empty = true)
    (hdC1 : PySem.W.hasDictIn K C1 = true)
    (poC1 : PySem.W.plainOver K C1 = true)
    (saC1 : PySem.W.findIn K (.ref C1) "__setattr__" = some (some (.builtin "object.__setattr__")))
    (mkC1 : PySem.W.makesIn K C1 = true)
    (kcC1 : PySem.W.keepIn K (.ref C1) = true)
    (noC1_count : PySem.W.findIn K (.ref C1) "count" = some none)
    (noC1_total : PySem.W.findIn K (.ref C1) "total" = some none)
    (noC1_squares : PySem.W.findIn K (.ref C1) "squares" = some none)
    (noC1_least : PySem.W.findIn K (.ref C1) "least" = some none)
    (noC1_greatest : PySem.W.findIn K (.ref C1) "greatest" = some none)
    (noC1_first : PySem.W.findIn K (.ref C1) "first" = some none)
    (noC1_last : PySem.W.findIn K (.ref C1) "last" = some none)
    (noC1_rise : PySem.W.findIn K (.ref C1) "rise" = some none)
    (noC1_held : PySem.W.findIn K (.ref C1) "held" = some none)
    (aC2 : PySem.W.nsIn K mainGlobals "Grains" = some (some (.ref C2)))
    (pgC2 : PySem.W.plainGet K C2 Str.empty = true)
    (hdC2 : PySem.W.hasDictIn K C2 = true)
    (poC2 : PySem.W.plainOver K C2 = true)
    (saC2 : PySem.W.findIn K (.ref C2) "__setattr__" = some (some (.builtin "object.__setattr__")))
    (mkC2 : PySem.W.makesIn K C2 = true)
    (kcC2 : PySem.W.keepIn K (.ref C2) = true)
    (noC2_widths : PySem.W.findIn K (.ref C2) "widths" = some none)
    (noC2_busy : PySem.W.findIn K (.ref C2) "busy" = some none)
    (noC2_kept : PySem.W.findIn K (.ref C2) "kept" = some none)
    (noC2_horizons : PySem.W.findIn K (.ref C2) "horizons" = some none)
    (aC3 : PySem.W.nsIn K mainGlobals "Keeping" = some (some (.ref C3)))
    (pgC3 : PySem.W.plainGet K C3 Str.empty = true)
    (hdC3 : PySem.W.hasDictIn K C3 = true)
    (poC3 : PySem.W.plainOver K C3 = true)
    (saC3 : PySem.W.findIn K (.ref C3) "__setattr__" = some (some (.builtin "object.__setattr__")))
    (mkC3 : PySem.W.makesIn K C3 = true)
    (kcC3 : PySem.W.keepIn K (.ref C3) = true)
    (noC3_widths : PySem.W.findIn K (.ref C3) "widths" = some none)
    (noC3_keeps : PySem.W.findIn K (.ref C3) "keeps" = some none)
    (noC3_horizons : PySem.W.findIn K (.ref C3) "horizons" = some none)
    (a1 : PySem.W.findIn K (.ref CG) "__init__" = some (some (.ref f1)))
    (t1 : PySem.W.typeIn K (.ref f1) = some (.type "function"))
    (l1 : K.lookup f1 = some ⟨oc1, od1, .func (PySem.W.fnOf "__init__" "NoGrain.__init__" (defArgs sErrG) (defBody sErrG) (defScope sErrG) .none kV1 dc1 pm1 an1 cd1 ct1), sl1⟩)
    (c1 : PySem.W.codeIn K cd1 "NoGrain.__init__" = true)
    (k1 : PySem.W.keepIn K (.ref f1) = true)
    (a2 : PySem.W.findIn K (.ref CK) "__init__" = some (some (.ref f2)))
    (t2 : PySem.W.typeIn K (.ref f2) = some (.type "function"))
    (l2 : K.lookup f2 = some ⟨oc2, od2, .func (PySem.W.fnOf "__init__" "NoKeep.__init__" (defArgs sErrK) (defBody sErrK) (defScope sErrK) .none kV2 dc2 pm2 an2 cd2 ct2), sl2⟩)
    (c2 : PySem.W.codeIn K cd2 "NoKeep.__init__" = true)
    (k2 : PySem.W.keepIn K (.ref f2) = true)
    (a3 : PySem.W.findIn K (.ref C1) "__init__" = some (some (.ref f3)))
    (i3 : PySem.W.isFn K (.ref f3) = true)
    (l3 : K.lookup f3 = some ⟨oc3, od3, .func (PySem.W.fnOf "__init__" "Fold.__init__" (defArgs sFI) (defBody sFI) (defScope sFI) .none (.ref KD) dc3 pm3 an3 cd3 ct3), sl3⟩)
    (d_count : PySem.W.nsIn K KD "count" = some (some (.int 0 tk_count)))
    (d_total : PySem.W.nsIn K KD "total" = some (some (.int 0 tk_total)))
    (d_squares : PySem.W.nsIn K KD "squares" = some (some (.int 0 tk_squares)))
    (d_least : PySem.W.nsIn K KD "least" = some (some (.none)))
    (d_greatest : PySem.W.nsIn K KD "greatest" = some (some (.none)))
    (d_first : PySem.W.nsIn K KD "first" = some (some (.none)))
    (d_last : PySem.W.nsIn K KD "last" = some (some (.none)))
    (d_rise : PySem.W.nsIn K KD "rise" = some (some (.int 0 tk_rise)))
    (d_held : PySem.W.nsIn K KD "held" = some (some (.int 0 tk_held)))
    (c3 : PySem.W.codeIn K cd3 "Fold.__init__" = true)
    (k3 : PySem.W.keepIn K (.ref f3) = true)
    (a4 : PySem.W.findIn K (.ref C1) "__eq__" = some (some (.ref f4)))
    (i4 : PySem.W.isFn K (.ref f4) = true)
    (l4 : K.lookup f4 = some ⟨oc4, od4, .func (PySem.W.fnOf "__eq__" "Fold.__eq__" (defArgs sEq) (defBody sEq) (defScope sEq) .none kV4 dc4 pm4 an4 cd4 ct4), sl4⟩)
    (c4 : PySem.W.codeIn K cd4 "Fold.__eq__" = true)
    (k4 : PySem.W.keepIn K (.ref f4) = true)
    (a5 : PySem.W.findIn K (.ref C2) "__init__" = some (some (.ref f5)))
    (i5 : PySem.W.isFn K (.ref f5) = true)
    (l5 : K.lookup f5 = some ⟨oc5, od5, .func (PySem.W.fnOf "__init__" "Grains.__init__" (defArgs sGI) (defBody sGI) (defScope sGI) .none kV5 dc5 pm5 an5 cd5 ct5), sl5⟩)
    (c5 : PySem.W.codeIn K cd5 "Grains.__init__" = true)
    (k5 : PySem.W.keepIn K (.ref f5) = true)
    (a6 : PySem.W.findIn K (.ref C2) "renew" = some (some (.ref f6)))
    (i6 : PySem.W.isFn K (.ref f6) = true)
    (l6 : K.lookup f6 = some ⟨oc6, od6, .func (PySem.W.fnOf "renew" "Grains.renew" (defArgs sRn) (defBody sRn) (defScope sRn) .none kV6 dc6 pm6 an6 cd6 ct6), sl6⟩)
    (c6 : PySem.W.codeIn K cd6 "Grains.renew" = true)
    (k6 : PySem.W.keepIn K (.ref f6) = true)
    (a7 : PySem.W.findIn K (.ref C2) "fold_at" = some (some (.ref f7)))
    (i7 : PySem.W.isFn K (.ref f7) = true)
    (l7 : K.lookup f7 = some ⟨oc7, od7, .func (PySem.W.fnOf "fold_at" "Grains.fold_at" (defArgs sFA) (defBody sFA) (defScope sFA) .none kV7 dc7 pm7 an7 cd7 ct7), sl7⟩)
    (c7 : PySem.W.codeIn K cd7 "Grains.fold_at" = true)
    (k7 : PySem.W.keepIn K (.ref f7) = true)
    (a8 : PySem.W.findIn K (.ref C2) "since_at" = some (some (.ref f8)))
    (i8 : PySem.W.isFn K (.ref f8) = true)
    (l8 : K.lookup f8 = some ⟨oc8, od8, .func (PySem.W.fnOf "since_at" "Grains.since_at" (defArgs sSA) (defBody sSA) (defScope sSA) .none kV8 dc8 pm8 an8 cd8 ct8), sl8⟩)
    (c8 : PySem.W.codeIn K cd8 "Grains.since_at" = true)
    (k8 : PySem.W.keepIn K (.ref f8) = true)
    (a9 : PySem.W.findIn K (.ref C2) "cells_of" = some (some (.ref f9)))
    (i9 : PySem.W.isFn K (.ref f9) = true)
    (l9 : K.lookup f9 = some ⟨oc9, od9, .func (PySem.W.fnOf "cells_of" "Grains.cells_of" (defArgs sCO) (defBody sCO) (defScope sCO) .none kV9 dc9 pm9 an9 cd9 ct9), sl9⟩)
    (c9 : PySem.W.codeIn K cd9 "Grains.cells_of" = true)
    (k9 : PySem.W.keepIn K (.ref f9) = true)
    (a10 : PySem.W.findIn K (.ref C2) "let_go" = some (some (.ref f10)))
    (i10 : PySem.W.isFn K (.ref f10) = true)
    (l10 : K.lookup f10 = some ⟨oc10, od10, .func (PySem.W.fnOf "let_go" "Grains.let_go" (defArgs sLG) (defBody sLG) (defScope sLG) .none kV10 dc10 pm10 an10 cd10 ct10), sl10⟩)
    (c10 : PySem.W.codeIn K cd10 "Grains.let_go" = true)
    (k10 : PySem.W.keepIn K (.ref f10) = true)
    (a11 : PySem.W.findIn K (.ref C2) "check_idle" = some (some (.ref f11)))
    (i11 : PySem.W.isFn K (.ref f11) = true)
    (l11 : K.lookup f11 = some ⟨oc11, od11, .func (PySem.W.fnOf "check_idle" "Grains.check_idle" (defArgs sCIx) (defBody sCIx) (defScope sCIx) .none kV11 dc11 pm11 an11 cd11 ct11), sl11⟩)
    (c11 : PySem.W.codeIn K cd11 "Grains.check_idle" = true)
    (k11 : PySem.W.keepIn K (.ref f11) = true)
    (a12 : PySem.W.findIn K (.ref C2) "cell_at" = some (some (.ref f12)))
    (i12 : PySem.W.isFn K (.ref f12) = true)
    (l12 : K.lookup f12 = some ⟨oc12, od12, .func (PySem.W.fnOf "cell_at" "Grains.cell_at" (defArgs sCA) (defBody sCA) (defScope sCA) .none kV12 dc12 pm12 an12 cd12 ct12), sl12⟩)
    (c12 : PySem.W.codeIn K cd12 "Grains.cell_at" = true)
    (k12 : PySem.W.keepIn K (.ref f12) = true)
    (a13 : PySem.W.findIn K (.ref C2) "kept_cells" = some (some (.ref f13)))
    (i13 : PySem.W.isFn K (.ref f13) = true)
    (l13 : K.lookup f13 = some ⟨oc13, od13, .func (PySem.W.fnOf "kept_cells" "Grains.kept_cells" (defArgs sKC) (defBody sKC) (defScope sKC) .none kV13 dc13 pm13 an13 cd13 ct13), sl13⟩)
    (c13 : PySem.W.codeIn K cd13 "Grains.kept_cells" = true)
    (k13 : PySem.W.keepIn K (.ref f13) = true)
    (a14 : PySem.W.findIn K (.ref C2) "full_folds" = some (some (.ref f14)))
    (i14 : PySem.W.isFn K (.ref f14) = true)
    (l14 : K.lookup f14 = some ⟨oc14, od14, .func (PySem.W.fnOf "full_folds" "Grains.full_folds" (defArgs sFF) (defBody sFF) (defScope sFF) .none kV14 dc14 pm14 an14 cd14 ct14), sl14⟩)
    (c14 : PySem.W.codeIn K cd14 "Grains.full_folds" = true)
    (k14 : PySem.W.keepIn K (.ref f14) = true)
    (a15 : PySem.W.findIn K (.ref C2) "cells_with" = some (some (.ref f15)))
    (i15 : PySem.W.isFn K (.ref f15) = true)
    (l15 : K.lookup f15 = some ⟨oc15, od15, .func (PySem.W.fnOf "cells_with" "Grains.cells_with" (defArgs sCW) (defBody sCW) (defScope sCW) .none kV15 dc15 pm15 an15 cd15 ct15), sl15⟩)
    (c15 : PySem.W.codeIn K cd15 "Grains.cells_with" = true)
    (k15 : PySem.W.keepIn K (.ref f15) = true)
    (a16 : PySem.W.findIn K (.ref C2) "asked_anew" = some (some (.ref f16)))
    (i16 : PySem.W.isFn K (.ref f16) = true)
    (l16 : K.lookup f16 = some ⟨oc16, od16, .func (PySem.W.fnOf "asked_anew" "Grains.asked_anew" (defArgs sAA) (defBody sAA) (defScope sAA) .none kV16 dc16 pm16 an16 cd16 ct16), sl16⟩)
    (c16 : PySem.W.codeIn K cd16 "Grains.asked_anew" = true)
    (k16 : PySem.W.keepIn K (.ref f16) = true)
    (a17 : PySem.W.findIn K (.ref C2) "joined_anew" = some (some (.ref f17)))
    (i17 : PySem.W.isFn K (.ref f17) = true)
    (l17 : K.lookup f17 = some ⟨oc17, od17, .func (PySem.W.fnOf "joined_anew" "Grains.joined_anew" (defArgs sJA) (defBody sJA) (defScope sJA) .none kV17 dc17 pm17 an17 cd17 ct17), sl17⟩)
    (c17 : PySem.W.codeIn K cd17 "Grains.joined_anew" = true)
    (k17 : PySem.W.keepIn K (.ref f17) = true)
    (a18 : PySem.W.findIn K (.ref C2) "settled" = some (some (.ref f18)))
    (i18 : PySem.W.isFn K (.ref f18) = true)
    (l18 : K.lookup f18 = some ⟨oc18, od18, .func (PySem.W.fnOf "settled" "Grains.settled" (defArgs sSt) (defBody sSt) (defScope sSt) .none kV18 dc18 pm18 an18 cd18 ct18), sl18⟩)
    (c18 : PySem.W.codeIn K cd18 "Grains.settled" = true)
    (k18 : PySem.W.keepIn K (.ref f18) = true)
    (a19 : PySem.W.findIn K (.ref C3) "__init__" = some (some (.ref f19)))
    (i19 : PySem.W.isFn K (.ref f19) = true)
    (l19 : K.lookup f19 = some ⟨oc19, od19, .func (PySem.W.fnOf "__init__" "Keeping.__init__" (defArgs sInit) (defBody sInit) (defScope sInit) .none kV19 dc19 pm19 an19 cd19 ct19), sl19⟩)
    (c19 : PySem.W.codeIn K cd19 "Keeping.__init__" = true)
    (k19 : PySem.W.keepIn K (.ref f19) = true)
    (a20 : PySem.W.findIn K (.ref C3) "gone_before" = some (some (.ref f20)))
    (i20 : PySem.W.isFn K (.ref f20) = true)
    (l20 : K.lookup f20 = some ⟨oc20, od20, .func (PySem.W.fnOf "gone_before" "Keeping.gone_before" (defArgs sGone) (defBody sGone) (defScope sGone) (.ref TD) kV20 dc20 pm20 an20 cd20 ct20), sl20⟩)
    (lT : K.lookup TD = some ⟨cT, dT, .seq #[.none] nT, sT⟩)
    (c20 : PySem.W.codeIn K cd20 "Keeping.gone_before" = true)
    (k20 : PySem.W.keepIn K (.ref f20) = true)
    (a21 : PySem.W.findIn K (.ref C3) "finest" = some (some (.ref f21)))
    (i21 : PySem.W.isFn K (.ref f21) = true)
    (l21 : K.lookup f21 = some ⟨oc21, od21, .func (PySem.W.fnOf "finest" "Keeping.finest" (defArgs sFin) (defBody sFin) (defScope sFin) .none kV21 dc21 pm21 an21 cd21 ct21), sl21⟩)
    (c21 : PySem.W.codeIn K cd21 "Keeping.finest" = true)
    (k21 : PySem.W.keepIn K (.ref f21) = true)
    (a22 : PySem.W.nsIn K mainGlobals "cell_of" = some (some (.ref f22)))
    (l22 : K.lookup f22 = some ⟨oc22, od22, .func (PySem.W.fnOf "cell_of" "cell_of" (defArgs sCellOf) (defBody sCellOf) (defScope sCellOf) .none kV22 dc22 pm22 an22 cd22 ct22), sl22⟩)
    (c22 : PySem.W.codeIn K cd22 "cell_of" = true)
    (k22 : PySem.W.keepIn K (.ref f22) = true)
    (a23 : PySem.W.nsIn K mainGlobals "is_whole" = some (some (.ref f23)))
    (l23 : K.lookup f23 = some ⟨oc23, od23, .func (PySem.W.fnOf "is_whole" "is_whole" (defArgs sWhole) (defBody sWhole) (defScope sWhole) .none kV23 dc23 pm23 an23 cd23 ct23), sl23⟩)
    (c23 : PySem.W.codeIn K cd23 "is_whole" = true)
    (k23 : PySem.W.keepIn K (.ref f23) = true)
    (a24 : PySem.W.nsIn K mainGlobals "check_widths" = some (some (.ref f24)))
    (l24 : K.lookup f24 = some ⟨oc24, od24, .func (PySem.W.fnOf "check_widths" "check_widths" (defArgs sCkW) (defBody sCkW) (defScope sCkW) .none kV24 dc24 pm24 an24 cd24 ct24), sl24⟩)
    (c24 : PySem.W.codeIn K cd24 "check_widths" = true)
    (k24 : PySem.W.keepIn K (.ref f24) = true)
    (a25 : PySem.W.nsIn K mainGlobals "check_width" = some (some (.ref f25)))
    (l25 : K.lookup f25 = some ⟨oc25, od25, .func (PySem.W.fnOf "check_width" "check_width" (defArgs sCkw) (defBody sCkw) (defScope sCkw) .none kV25 dc25 pm25 an25 cd25 ct25), sl25⟩)
    (c25 : PySem.W.codeIn K cd25 "check_width" = true)
    (k25 : PySem.W.keepIn K (.ref f25) = true)
    (a26 : PySem.W.nsIn K mainGlobals "is_keep" = some (some (.ref f26)))
    (l26 : K.lookup f26 = some ⟨oc26, od26, .func (PySem.W.fnOf "is_keep" "is_keep" (defArgs sKeep) (defBody sKeep) (defScope sKeep) .none kV26 dc26 pm26 an26 cd26 ct26), sl26⟩)
    (c26 : PySem.W.codeIn K cd26 "is_keep" = true)
    (k26 : PySem.W.keepIn K (.ref f26) = true)
    (a27 : PySem.W.nsIn K mainGlobals "check_keeps" = some (some (.ref f27)))
    (l27 : K.lookup f27 = some ⟨oc27, od27, .func (PySem.W.fnOf "check_keeps" "check_keeps" (defArgs sCkK) (defBody sCkK) (defScope sCkK) .none kV27 dc27 pm27 an27 cd27 ct27), sl27⟩)
    (c27 : PySem.W.codeIn K cd27 "check_keeps" = true)
    (k27 : PySem.W.keepIn K (.ref f27) = true)
    (a28 : PySem.W.nsIn K mainGlobals "joined_folds" = some (some (.ref f28)))
    (l28 : K.lookup f28 = some ⟨oc28, od28, .func (PySem.W.fnOf "joined_folds" "joined_folds" (defArgs sJF) (defBody sJF) (defScope sJF) .none kV28 dc28 pm28 an28 cd28 ct28), sl28⟩)
    (c28 : PySem.W.codeIn K cd28 "joined_folds" = true)
    (k28 : PySem.W.keepIn K (.ref f28) = true)
    (a29 : PySem.W.nsIn K mainGlobals "drop_cells" = some (some (.ref f29)))
    (l29 : K.lookup f29 = some ⟨oc29, od29, .func (PySem.W.fnOf "drop_cells" "drop_cells" (defArgs sDr) (defBody sDr) (defScope sDr) .none kV29 dc29 pm29 an29 cd29 ct29), sl29⟩)
    (c29 : PySem.W.codeIn K cd29 "drop_cells" = true)
    (k29 : PySem.W.keepIn K (.ref f29) = true)
    (a30 : PySem.W.nsIn K mainGlobals "_law_mixed" = some (some (.ref f30)))
    (l30 : K.lookup f30 = some ⟨oc30, od30, .func (PySem.W.fnOf "_law_mixed" "_law_mixed" (defArgs sMixed) (defBody sMixed) (defScope sMixed) .none kV30 dc30 pm30 an30 cd30 ct30), sl30⟩)
    (c30 : PySem.W.codeIn K cd30 "_law_mixed" = true)
    (k30 : PySem.W.keepIn K (.ref f30) = true)
    (a31 : PySem.W.nsIn K mainGlobals "_law_purse" = some (some (.ref f31)))
    (l31 : K.lookup f31 = some ⟨oc31, od31, .func (PySem.W.fnOf "_law_purse" "_law_purse" (defArgs sPurse) (defBody sPurse) (defScope sPurse) .none kV31 dc31 pm31 an31 cd31 ct31), sl31⟩)
    (c31 : PySem.W.codeIn K cd31 "_law_purse" = true)
    (k31 : PySem.W.keepIn K (.ref f31) = true)
    (a32 : PySem.W.nsIn K mainGlobals "_law_draw" = some (some (.ref f32)))
    (l32 : K.lookup f32 = some ⟨oc32, od32, .func (PySem.W.fnOf "_law_draw" "_law_draw" (defArgs sDraw) (defBody sDraw) (defScope sDraw) .none kV32 dc32 pm32 an32 cd32 ct32), sl32⟩)
    (c32 : PySem.W.codeIn K cd32 "_law_draw" = true)
    (k32 : PySem.W.keepIn K (.ref f32) = true)
    (a33 : PySem.W.nsIn K mainGlobals "_law_class" = some (some (.ref f33)))
    (l33 : K.lookup f33 = some ⟨oc33, od33, .func (PySem.W.fnOf "_law_class" "_law_class" (defArgs sClass) (defBody sClass) (defScope sClass) .none kV33 dc33 pm33 an33 cd33 ct33), sl33⟩)
    (c33 : PySem.W.codeIn K cd33 "_law_class" = true)
    (k33 : PySem.W.keepIn K (.ref f33) = true)
    (a34 : PySem.W.nsIn K mainGlobals "_law_some_widths" = some (some (.ref f34)))
    (l34 : K.lookup f34 = some ⟨oc34, od34, .func (PySem.W.fnOf "_law_some_widths" "_law_some_widths" (defArgs sSW) (defBody sSW) (defScope sSW) .none kV34 dc34 pm34 an34 cd34 ct34), sl34⟩)
    (c34 : PySem.W.codeIn K cd34 "_law_some_widths" = true)
    (k34 : PySem.W.keepIn K (.ref f34) = true)
    (a35 : PySem.W.nsIn K mainGlobals "_law_wrong" = some (some (.ref f35)))
    (l35 : K.lookup f35 = some ⟨oc35, od35, .func (PySem.W.fnOf "_law_wrong" "_law_wrong" (defArgs sWr) (defBody sWr) (defScope sWr) .none kV35 dc35 pm35 an35 cd35 ct35), sl35⟩)
    (c35 : PySem.W.codeIn K cd35 "_law_wrong" = true)
    (k35 : PySem.W.keepIn K (.ref f35) = true)
    (a36 : PySem.W.nsIn K mainGlobals "_law_made" = some (some (.ref f36)))
    (l36 : K.lookup f36 = some ⟨oc36, od36, .func (PySem.W.fnOf "_law_made" "_law_made" (defArgs sMd) (defBody sMd) (defScope sMd) .none kV36 dc36 pm36 an36 cd36 ct36), sl36⟩)
    (c36 : PySem.W.codeIn K cd36 "_law_made" = true)
    (k36 : PySem.W.keepIn K (.ref f36) = true)
    (a37 : PySem.W.nsIn K mainGlobals "_law_asked" = some (some (.ref f37)))
    (l37 : K.lookup f37 = some ⟨oc37, od37, .func (PySem.W.fnOf "_law_asked" "_law_asked" (defArgs sAk) (defBody sAk) (defScope sAk) .none kV37 dc37 pm37 an37 cd37 ct37), sl37⟩)
    (c37 : PySem.W.codeIn K cd37 "_law_asked" = true)
    (k37 : PySem.W.keepIn K (.ref f37) = true)
    (a38 : PySem.W.nsIn K mainGlobals "_law_told" = some (some (.ref f38)))
    (l38 : K.lookup f38 = some ⟨oc38, od38, .func (PySem.W.fnOf "_law_told" "_law_told" (defArgs sTl) (defBody sTl) (defScope sTl) .none kV38 dc38 pm38 an38 cd38 ct38), sl38⟩)
    (c38 : PySem.W.codeIn K cd38 "_law_told" = true)
    (k38 : PySem.W.keepIn K (.ref f38) = true)
    (a39 : PySem.W.nsIn K mainGlobals "_law_questions_right" = some (some (.ref f39)))
    (l39 : K.lookup f39 = some ⟨oc39, od39, .func (PySem.W.fnOf "_law_questions_right" "_law_questions_right" (defArgs sQr) (defBody sQr) (defScope sQr) .none kV39 dc39 pm39 an39 (.ref cc39) ct39), sl39⟩)
    (lc39 : K.lookup cc39 = some ⟨.type "code", dd39, .fields vv39, sl_39⟩)
    (v11_39 : vv39[11]? = some (.ref PT39))
    (v18_39 : vv39.getD 18 .none = .str fi39 tf39)
    (v7_39 : vv39.getD 7 .none = .int fl39 tg39)
    (v9_39 : vv39.getD 9 .none = .bool inF39)
    (v10_39 : vv39.getD 10 .none = .int te39 tx39)
    (ne39 : cc39 ≠ PT39)
    (nP39 : K.lookup PT39 = none)
    (tb39 : h.get? PT39 = some { cls := .none, data := .fields #[] })
    (c39 : PySem.W.codeIn K (.ref cc39) "_law_questions_right" = true)
    (k39 : PySem.W.keepIn K (.ref f39) = true)
    (a40 : PySem.W.nsIn K mainGlobals "law" = some (some (.ref f40)))
    (l40 : K.lookup f40 = some ⟨oc40, od40, .func (PySem.W.fnOf "law" "law" (defArgs sLaw) (defBody sLaw) (defScope sLaw) .none kV40 dc40 pm40 an40 cd40 ct40), sl40⟩)
    (c40 : PySem.W.codeIn K cd40 "law" = true)
    (k40 : PySem.W.keepIn K (.ref f40) = true)
    (z_range : PySem.W.nsIn K mainGlobals "range" = some none)
    (z_len : PySem.W.nsIn K mainGlobals "len" = some none)
    (z_max : PySem.W.nsIn K mainGlobals "max" = some none)
    (z_isinstance : PySem.W.nsIn K mainGlobals "isinstance" = some none)
    (z_tuple : PySem.W.nsIn K mainGlobals "tuple" = some none)
    (z_enumerate : PySem.W.nsIn K mainGlobals "enumerate" = some none)
    (z_zip : PySem.W.nsIn K mainGlobals "zip" = some none)
    (z_int : PySem.W.nsIn K mainGlobals "int" = some none)
    (z_bool : PySem.W.nsIn K mainGlobals "bool" = some none)
    (z_ValueError : PySem.W.nsIn K mainGlobals "ValueError" = some none)
    (z_list : PySem.W.nsIn K mainGlobals "list" = some none)
    (z_sorted : PySem.W.nsIn K mainGlobals "sorted" = some none)
    (v_MOST_WIDTHS : PySem.W.nsIn K mainGlobals "MOST_WIDTHS" = some (some (.int 4 zMW)))
    (kitCB : PySem.W.kitOne K (.ref CG) (.ref CB) = some false)
    (kitCD : PySem.W.kitOne K (.ref CG) (.ref CD) = some false)
    (kitCK : PySem.W.kitOne K (.ref CG) (.ref CK) = some false)
    (kitCL : PySem.W.kitOne K (.ref CG) (.ref CL) = some false)
    (kitCO : PySem.W.kitOne K (.ref CG) (.ref CO) = some false)
    (kitCN : PySem.W.kitOne K (.ref CG) (.ref CN) = some false)
    (kitCP : PySem.W.kitOne K (.ref CG) (.ref CP) = some false)
    (kitCT : PySem.W.kitOne K (.ref CG) (.ref CT) = some false)
    (kitG : PySem.W.kitOne K (.ref CG) (.ref CG) = some true)
    (kitV : PySem.W.kitOne K (.ref CG) (.type "ValueError") = some true)
    (xF : K.lookup C1 = some (excClassObj nmF qF C1 NF bsF [.type "object"] hdF snF subF abF colF ddF v0F v1F v2F v3F v5F idF))
    (lNF : K.lookup NF = some ⟨cN, dN, .dict esN epN, slN⟩)
    (okE : (esN.toList.all fun e => match e.key with | .str _ _ => true | _ => false) = true)
    (eqF : PySem.W.nsIn K NF "__eq__" = some (some (.ref f4)))
    (neF : PySem.W.nsIn K NF "__ne__" = some none)
    (ocE : oc4 = .type "function")
    (ccF : PySem.W.findIn K (.ref C1) "__class__" = some (some (.builtin "object.__class__")))
    (hnF : PySem.W.specialIn K (.builtin "object.__class__") "__get__" = some (some (.builtin "getset_descriptor.__get__")))
    (htF : PySem.W.takesIn K (.builtin "object.__class__") = some true)
    (hmF : PySem.W.mroIn K C1 (.type "object") = some true)
    (kitF : PySem.W.kitOne K (.ref C1) (.ref C1) = some true)
    : LamX.LawAtS l w K L2.CX0 11 63 "_law_script" mg fa h := by
  have e := hfa.symm.trans (PySem.W.mg_of X G a40)
  cases e
  have F1 := fun_mk (st := sErrG) l1 c1 k1
  have F2 := fun_mk (st := sErrK) l2 c2 k2
  have F3 : FFold K f3 _ := ⟨⟨oc3, od3, .none, .ref KD, dc3, pm3, an3, cd3, ct3, sl3, rfl, l3, c3, .inl ⟨rfl, rfl⟩, .inr ⟨KD, rfl, fun q lack => by
    rcases List.mem_cons.mp lack with rfl | lack
    · exact ⟨_, d_count, ⟨_, rfl⟩⟩
    rcases List.mem_cons.mp lack with rfl | lack
    · exact ⟨_, d_total, ⟨_, rfl⟩⟩
    rcases List.mem_cons.mp lack with rfl | lack
    · exact ⟨_, d_squares, ⟨_, rfl⟩⟩
    rcases List.mem_cons.mp lack with rfl | lack
    · exact ⟨_, d_least, rfl⟩
    rcases List.mem_cons.mp lack with rfl | lack
    · exact ⟨_, d_greatest, rfl⟩
    rcases List.mem_cons.mp lack with rfl | lack
    · exact ⟨_, d_first, rfl⟩
    rcases List.mem_cons.mp lack with rfl | lack
    · exact ⟨_, d_last, rfl⟩
    rcases List.mem_cons.mp lack with rfl | lack
    · exact ⟨_, d_rise, ⟨_, rfl⟩⟩
    rcases List.mem_cons.mp lack with rfl | lack
    · exact ⟨_, d_held, ⟨_, rfl⟩⟩
    cases lack⟩⟩, k3⟩
  have F4 := fun_mk (st := sEq) l4 c4 k4
  have F5 := fun_mk (st := sGI) l5 c5 k5
  have F6 := fun_mk (st := sRn) l6 c6 k6
  have F7 := fun_mk (st := sFA) l7 c7 k7
  have F8 := fun_mk (st := sSA) l8 c8 k8
  have F9 := fun_mk (st := sCO) l9 c9 k9
  have F10 := fun_mk (st := sLG) l10 c10 k10
  have F11 := fun_mk (st := sCIx) l11 c11 k11
  have F12 := fun_mk (st := sCA) l12 c12 k12
  have F13 := fun_mk (st := sKC) l13 c13 k13
  have F14 := fun_mk (st := sFF) l14 c14 k14
  have F15 := fun_mk (st := sCW) l15 c15 k15
  have F16 := fun_mk (st := sAA) l16 c16 k16
  have F17 := fun_mk (st := sJA) l17 c17 k17
  have F18 := fun_mk (st := sSt) l18 c18 k18
  have F19 := fun_mk (st := sInit) l19 c19 k19
  have F20 : FGone K f20 _ := ⟨⟨oc20, od20, .ref TD, kV20, dc20, pm20, an20, cd20, ct20, sl20, rfl, l20, c20, .inr ⟨(fun z => nomatch z), TD, _, [.none], nT, rfl, lT, rfl, .cons rfl .nil⟩, .inl rfl⟩, k20⟩
  have F21 := fun_mk (st := sFin) l21 c21 k21
  have F22 := fun_mk (st := sCellOf) l22 c22 k22
  have F23 := fun_mk (st := sWhole) l23 c23 k23
  have F24 := fun_mk (st := sCkW) l24 c24 k24
  have F25 := fun_mk (st := sCkw) l25 c25 k25
  have F26 := fun_mk (st := sKeep) l26 c26 k26
  have F27 := fun_mk (st := sCkK) l27 c27 k27
  have F28 := fun_mk (st := sJF) l28 c28 k28
  have F29 := fun_mk (st := sDr) l29 c29 k29
  have F30 := fun_mk (st := sMixed) l30 c30 k30
  have F31 := fun_mk (st := sPurse) l31 c31 k31
  have F32 := fun_mk (st := sDraw) l32 c32 k32
  have F33 := fun_mk (st := sClass) l33 c33 k33
  have F34 := fun_mk (st := sSW) l34 c34 k34
  have F35 := fun_mk (st := sWr) l35 c35 k35
  have F36 := fun_mk (st := sMd) l36 c36 k36
  have F37 := fun_mk (st := sAk) l37 c37 k37
  have F38 := fun_mk (st := sTl) l38 c38 k38
  have FC39 := func_mk (st := sQr) l39 c39 k39
  have F39 := FC39.fn
  have F40 := fun_mk (st := sLaw) l40 c40 k40
  have b1 := F1.binds (ps := ["self", "at"]) fun _ _ _ _ _ _ us hl => match us, hl with | [_, _], _ => rfl
  have b2 := F2.binds (ps := ["self", "at"]) fun _ _ _ _ _ _ us hl => match us, hl with | [_, _], _ => rfl
  have b4 := F4.binds (ps := ["self", "other"]) fun _ _ _ _ _ _ us hl => match us, hl with | [_, _], _ => rfl
  have b5 := F5.binds (ps := ["self", "widths"]) fun _ _ _ _ _ _ us hl => match us, hl with | [_, _], _ => rfl
  have b7 := F7.binds (ps := ["self", "place", "width", "time"]) fun _ _ _ _ _ _ us hl => match us, hl with | [_, _, _, _], _ => rfl
  have b8 := F8.binds (ps := ["self", "place", "width", "time"]) fun _ _ _ _ _ _ us hl => match us, hl with | [_, _, _, _], _ => rfl
  have b9 := F9.binds (ps := ["self", "place", "width"]) fun _ _ _ _ _ _ us hl => match us, hl with | [_, _, _], _ => rfl
  have b10 := F10.binds (ps := ["self", "width", "time"]) fun _ _ _ _ _ _ us hl => match us, hl with | [_, _, _], _ => rfl
  have b11 := F11.binds (ps := ["self"]) fun _ _ _ _ _ _ us hl => match us, hl with | [_], _ => rfl
  have b12 := F12.binds (ps := ["self", "place", "width", "time"]) fun _ _ _ _ _ _ us hl => match us, hl with | [_, _, _, _], _ => rfl
  have b13 := F13.binds (ps := ["self", "place", "width"]) fun _ _ _ _ _ _ us hl => match us, hl with | [_, _, _], _ => rfl
  have b14 := F14.binds (ps := ["self", "place", "width"]) fun _ _ _ _ _ _ us hl => match us, hl with | [_, _, _], _ => rfl
  have b15 := F15.binds (ps := ["self", "times", "width"]) fun _ _ _ _ _ _ us hl => match us, hl with | [_, _, _], _ => rfl
  have b16 := F16.binds (ps := ["self", "times", "points_in"]) fun _ _ _ _ _ _ us hl => match us, hl with | [_, _, _], _ => rfl
  have b17 := F17.binds (ps := ["self", "place", "finer", "anew", "width", "starts"]) fun _ _ _ _ _ _ us hl => match us, hl with | [_, _, _, _, _, _], _ => rfl
  have b18 := F18.binds (ps := ["self", "place", "folds_by_width", "number"]) fun _ _ _ _ _ _ us hl => match us, hl with | [_, _, _, _], _ => rfl
  have b19 := F19.binds (ps := ["self", "widths", "keeps"]) fun _ _ _ _ _ _ us hl => match us, hl with | [_, _, _], _ => rfl
  have b21 := F21.binds (ps := ["self", "time"]) fun _ _ _ _ _ _ us hl => match us, hl with | [_, _], _ => rfl
  have b22 := F22.binds (ps := ["time", "width"]) fun _ _ _ _ _ _ us hl => match us, hl with | [_, _], _ => rfl
  have b23 := F23.binds (ps := ["thing"]) fun _ _ _ _ _ _ us hl => match us, hl with | [_], _ => rfl
  have b24 := F24.binds (ps := ["widths"]) fun _ _ _ _ _ _ us hl => match us, hl with | [_], _ => rfl
  have b25 := F25.binds (ps := ["widths", "width"]) fun _ _ _ _ _ _ us hl => match us, hl with | [_, _], _ => rfl
  have b26 := F26.binds (ps := ["keep", "ahead"]) fun _ _ _ _ _ _ us hl => match us, hl with | [_, _], _ => rfl
  have b27 := F27.binds (ps := ["keeps", "many"]) fun _ _ _ _ _ _ us hl => match us, hl with | [_, _], _ => rfl
  have b28 := F28.binds (ps := ["folds", "width"]) fun _ _ _ _ _ _ us hl => match us, hl with | [_, _], _ => rfl
  have b29 := F29.binds (ps := ["kept", "horizon"]) fun _ _ _ _ _ _ us hl => match us, hl with | [_, _], _ => rfl
  have b30 := F30.binds (ps := ["_law_cell", "_law_k"]) fun _ _ _ _ _ _ us hl => match us, hl with | [_, _], _ => rfl
  have b31 := F31.binds (ps := ["_law_script", "_law_at"]) fun _ _ _ _ _ _ us hl => match us, hl with | [_, _], _ => rfl
  have b32 := F32.binds (ps := ["_law_purse_here", "_law_out_of"]) fun _ _ _ _ _ _ us hl => match us, hl with | [_, _], _ => rfl
  have b33 := F33.binds (ps := ["_law_caught"]) fun _ _ _ _ _ _ us hl => match us, hl with | [_], _ => rfl
  have b34 := F34.binds (ps := ["_law_purse_here"]) fun _ _ _ _ _ _ us hl => match us, hl with | [_], _ => rfl
  have b35 := F35.binds (ps := ["_law_some_widths_here"]) fun _ _ _ _ _ _ us hl => match us, hl with | [_], _ => rfl
  have b36 := F36.binds (ps := ["_law_some_widths_here", "_law_word"]) fun _ _ _ _ _ _ us hl => match us, hl with | [_, _], _ => rfl
  have b37 := F37.binds (ps := ["_law_grains", "_law_keeping", "_law_word", "_law_a_width", "_law_a_time"]) fun _ _ _ _ _ _ us hl => match us, hl with | [_, _, _, _, _], _ => rfl
  have b38 := F38.binds (ps := ["_law_grains", "_law_keeping", "_law_word", "_law_a_width", "_law_a_time"]) fun _ _ _ _ _ _ us hl => match us, hl with | [_, _, _, _, _], _ => rfl
  have b39 := F39.binds (ps := ["_law_purse_here", "_law_grains", "_law_keeping", "_law_some_widths_here"]) fun _ _ _ _ _ _ us hl => match us, hl with | [_, _, _, _], _ => rfl
  have g22 := PySem.W.mg_of X G a22
  have g23 := PySem.W.mg_of X G a23
  have g24 := PySem.W.mg_of X G a24
  have g25 := PySem.W.mg_of X G a25
  have g26 := PySem.W.mg_of X G a26
  have g27 := PySem.W.mg_of X G a27
  have g28 := PySem.W.mg_of X G a28
  have g29 := PySem.W.mg_of X G a29
  have g30 := PySem.W.mg_of X G a30
  have g31 := PySem.W.mg_of X G a31
  have g32 := PySem.W.mg_of X G a32
  have g33 := PySem.W.mg_of X G a33
  have g34 := PySem.W.mg_of X G a34
  have g35 := PySem.W.mg_of X G a35
  have g36 := PySem.W.mg_of X G a36
  have g37 := PySem.W.mg_of X G a37
  have g38 := PySem.W.mg_of X G a38
  have g39 := PySem.W.mg_of X G a39
  have gC1 := PySem.W.mg_of X G aC1
  have gC2 := PySem.W.mg_of X G aC2
  have gC3 := PySem.W.mg_of X G aC3
  have gCB := PySem.W.mg_of X G aCB
  have gCD := PySem.W.mg_of X G aCD
  have gCL := PySem.W.mg_of X G aCL
  have gCO := PySem.W.mg_of X G aCO
  have gCN := PySem.W.mg_of X G aCN
  have gCP := PySem.W.mg_of X G aCP
  have gCT := PySem.W.mg_of X G aCT
  have gCG := PySem.W.mg_of X G aCG
  have OCG : OexC K CG := ⟨⟨nmCG, qCG, NCG, bsCG, _, snCG, subCG, abCG, colCG, ddCG, v0CG, v1CG, v2CG, v3CG, v5CG, xCG, by decide +kernel⟩, saCG, ecCG, tcCG, kcCG⟩
  have ECG : ExcC K CG := ⟨gaCG, ggCG, ecCG, hcCG, ccCG, hnC, htC, moCG⟩
  have XCG : XfC K CG := ⟨gaCG, ggCG, ecCG, hcCG⟩
  have gCK := PySem.W.mg_of X G aCK
  have OCK : OexC K CK := ⟨⟨nmCK, qCK, NCK, bsCK, _, snCK, subCK, abCK, colCK, ddCK, v0CK, v1CK, v2CK, v3CK, v5CK, xCK, by decide +kernel⟩, saCK, ecCK, tcCK, kcCK⟩
  have ECK : ExcC K CK := ⟨gaCK, ggCK, ecCK, hcCK, ccCK, hnC, htC, moCK⟩
  have XCK : XfC K CK := ⟨gaCK, ggCK, ecCK, hcCK⟩
  have m_range := PySem.W.mg_none_of X G z_range
  have m_len := PySem.W.mg_none_of X G z_len
  have m_max := PySem.W.mg_none_of X G z_max
  have m_isinstance := PySem.W.mg_none_of X G z_isinstance
  have m_tuple := PySem.W.mg_none_of X G z_tuple
  have m_enumerate := PySem.W.mg_none_of X G z_enumerate
  have m_zip := PySem.W.mg_none_of X G z_zip
  have m_int := PySem.W.mg_none_of X G z_int
  have m_bool := PySem.W.mg_none_of X G z_bool
  have m_ValueError := PySem.W.mg_none_of X G z_ValueError
  have m_list := PySem.W.mg_none_of X G z_list
  have m_sorted := PySem.W.mg_none_of X G z_sorted
  have g_MOST_WIDTHS := PySem.W.mg_of X G v_MOST_WIDTHS
  refine ⟨PySem.W.fnOf "law" "law" (defArgs sLaw) (defBody sLaw) (defScope sLaw) .none kV40 dc40 pm40 an40 cd40 ct40, [(cc39, PT39)], (spLaw K PT39), ?_, ?_, ?_, fun s v => .of_eq rfl, ?_, fun base _ _ TBs => ?_⟩
  · exact (fun p mem => by
      obtain rfl := List.mem_singleton.mp mem
      exact tb39)
  · exact (fun p mem => by
      obtain rfl := List.mem_singleton.mp mem
      exact nP39)
  · exact (fun p mem => by
      obtain rfl := List.mem_singleton.mp mem
      exact ⟨_, vv39, fi39, tf39, fl39, tg39, inF39, te39, tx39, X _ _ lc39, rfl, rfl, v11_39, gd_at v11_39, v18_39, v7_39, v9_39, v10_39, ne39⟩)
  · intro H a ns hl _ hP hS
    exact ⟨a, ns, rfl, hS, hl, (fun r hr => by rw [List.mem_singleton.mp hr]; exact LamX.TabS.nil (hP (cc39, PT39) (.head _))), fun _ => rfl⟩
  have TB39 := TBs (cc39, PT39) (.head _)
  have T : TFold K C1 := ⟨⟨pgC1, hdC1, poC1, saC1⟩, fun n hn => by
    rcases List.mem_cons.mp hn with rfl | hn
    · exact noC1_count
    rcases List.mem_cons.mp hn with rfl | hn
    · exact noC1_total
    rcases List.mem_cons.mp hn with rfl | hn
    · exact noC1_squares
    rcases List.mem_cons.mp hn with rfl | hn
    · exact noC1_least
    rcases List.mem_cons.mp hn with rfl | hn
    · exact noC1_greatest
    rcases List.mem_cons.mp hn with rfl | hn
    · exact noC1_first
    rcases List.mem_cons.mp hn with rfl | hn
    · exact noC1_last
    rcases List.mem_cons.mp hn with rfl | hn
    · exact noC1_rise
    obtain rfl := List.mem_singleton.mp hn
    exact noC1_held⟩
  have okF : PySem.W.nsOkIn K NF = true := by
    unfold PySem.W.nsOkIn
    rw [lNF]
    dsimp only
    rw [← Array.all_toList]
    exact okE
  have TI : TIns K C1 := ⟨ccF, hnF, htF, hmF, kitF⟩
  have OE : ∀ j, OwnE l.prog w K mg base C1 (j + 1) f4 _ := fun j => ⟨ok_eq F4 T TI gC1 m_isinstance, a4, i4, b4, ⟨⟨nmF, qF, NF, bsF, hdF, snF, subF, abF, colF, ddF, v0F, v1F, v2F, v3F, v5F, idF, xF, okF, eqF, neF⟩, _, l4, ocE⟩⟩
  have OI : ∀ j, FnOk l.prog w K mg base CX0 (j + 1) f3 _ NFI (spFI C1) := fun j => ok_fi F3 T
  have MK : Mk K C1 f3 := ⟨mkC1, a3, i3, kcC1⟩
  obtain ⟨q0, z0⟩ := kb_0 F3
  have K0 : ∀ j, KF0 l.prog w K mg base C1 (j + 1) := fun j => ⟨f3, _, q0, OI j, gC1, MK, z0⟩
  have TG : TGr K C2 := ⟨⟨pgC2, hdC2, poC2, saC2⟩, fun n hn => by
    rcases List.mem_cons.mp hn with rfl | hn
    · exact noC2_widths
    rcases List.mem_cons.mp hn with rfl | hn
    · exact noC2_busy
    rcases List.mem_cons.mp hn with rfl | hn
    · exact noC2_kept
    obtain rfl := List.mem_singleton.mp hn
    exact noC2_horizons⟩
  have TK : TKeep K C3 := ⟨⟨pgC3, hdC3, poC3, saC3⟩, noC3_widths, noC3_keeps, noC3_horizons⟩
  have N9 : Nine K mg CB CD CG CK CL CO CN CP CT := ⟨gCB, gCD, gCG, gCK, gCL, gCO, gCN, gCP, gCT, m_isinstance, m_ValueError, kitCB, kitCD, kitG, kitCK, kitCL, kitCO, kitCN, kitCP, kitCT, kitV, ECG, XCG, noCG, xmCG⟩
  have EG : ∀ j, CalE l.prog w K mg base (j + 1) "NoGrain" CG "at" := fun j => ⟨f1, _, OCG, a1, t1, ok_errG (k := j) F1 OCG noCG m_ValueError vV, b1, gCG⟩
  have EK : ∀ j, CalE l.prog w K mg base (j + 1) "NoKeep" CK "at" := fun j => ⟨f2, _, OCK, a2, t2, ok_errK (k := j) F2 OCK noCK m_ValueError vV, b2, gCK⟩
  have WH : ∀ j, Cal l.prog w K mg base (j + 1) "is_whole" ["thing"] spWhole := fun j => ⟨f23, _, ok_whole F23 m_isinstance m_int m_bool, g23, k23, b23⟩
  have CE : ∀ j, Cal l.prog w K mg base (j + 1) "cell_of" ["time", "width"] spCell := fun j => ⟨f22, _, ok_cell F22, g22, k22, b22⟩
  have CKWS : ∀ j, CalR l.prog w K mg base (j + 3) "check_widths" ["widths"] (spCkWX K CG) := fun j => ⟨f24, _, ok_ckWX (k := j + 1) F24 (WH j) (EG j) g_MOST_WIDTHS m_len m_enumerate, g24, k24, b24⟩
  have CKW : ∀ j, CalR l.prog w K mg base (j + 3) "check_width" ["widths", "width"] (spCkwX K CG) := fun j => ⟨f25, _, ok_ckwX (k := j + 1) F25 (EG j), g25, k25, b25⟩
  have IK : ∀ j, Cal l.prog w K mg base (j + 2) "is_keep" ["keep", "ahead"] spKeep := fun j => ⟨f26, _, ok_keep (k := j + 1) F26 (WH j), g26, k26, b26⟩
  have CKK : ∀ j, CalR l.prog w K mg base (j + 4) "check_keeps" ["keeps", "many"] (spCkK K CK) := fun j => ⟨f27, _, ok_ckK (k := j + 2) F27 (IK j) (EK (j + 1)) m_len m_enumerate, g27, k27, b27⟩
  have GI : ∀ j, FnOk l.prog w K mg base (L2.CX l.prog w) (j + 4) f5 _ ["self", "widths"] (spGI K C2 CG) := fun j => ok_gi (k := j + 3) F5 TG (CKWS j) m_tuple
  have KI : ∀ j, FnOk l.prog w K mg base (L2.CX l.prog w) (j + 5) f19 _ ["self", "widths", "keeps"] (spInitX K C3 CG) := fun j => ok_initX (k := j + 4) F19 TK (CKWS (j + 1)) (CKK j) m_len m_tuple
  have CI : ∀ j, CalM l.prog w K mg base (j + 1) C2 "check_idle" ["self"] (spCIx K C2) := fun j => ⟨f11, _, ok_ci F11 TG, ⟨a11, i11, k11⟩, b11⟩
  have KC : ∀ j, CalM l.prog w K mg base (j + 1) C2 "kept_cells" ["self", "place", "width"] (spKC K C2) := fun j => ⟨f13, _, ok_kc F13 TG, ⟨a13, i13, k13⟩, b13⟩
  have CA : ∀ j, CalMR l.prog w K mg base (j + 4) C2 "cell_at" ["self", "place", "width", "time"] (NoCell K C2 CG .non) := fun j => ⟨f12, _, ok_ca (k := j + 3) F12 TG (CKW j) (KC (j + 2)) (CE (j + 2)), ⟨a12, i12, k12⟩, b12⟩
  have SA : ∀ j, FnOk l.prog w K mg base (L2.CX l.prog w) (j + 5) f8 _ ["self", "place", "width", "time"] (NoCell K C2 CG (.int 0)) := fun j => ok_sa (k := j + 4) F8 TG (CA j)
  have FA : ∀ j, FnOk l.prog w K mg base (L2.CX l.prog w) (j + 6) f7 _ ["self", "place", "width", "time"] (spFA K C2 CG C1) := fun j => ok_fa (k := j + 4) F7 TG (CA j) (K0 (j + 3))
  have FF : ∀ j, CalM l.prog w K mg base (j + 2) C2 "full_folds" ["self", "place", "width"] (spFF K C2) := fun j => ⟨f14, _, ok_ff (k := j + 1) F14 TG (KC j), ⟨a14, i14, k14⟩, b14⟩
  have CO_ : ∀ j, FnOk l.prog w K mg base (L2.CX l.prog w) (j + 4) f9 _ ["self", "place", "width"] (spCO K C2 CG) := fun j => ok_co (k := j + 3) F9 TG (CKW j) (FF (j + 1)) m_sorted
  have DR : ∀ j, Cal l.prog w K mg base (j + 1) "drop_cells" ["kept", "horizon"] spDr := fun j => ⟨f29, _, ok_dr F29 m_len, g29, k29, b29⟩
  have LG : ∀ j, FnOk l.prog w K mg base (L2.CX l.prog w) (j + 4) f10 _ ["self", "width", "time"] (spLG K C2 CG) := fun j => ok_lg (k := j + 3) F10 TG (CKW j) (CI (j + 2)) (CE (j + 2)) (DR (j + 2)) m_max m_list
  have CW : ∀ j, CalM l.prog w K mg base (j + 1) C2 "cells_with" ["self", "times", "width"] spCW := fun j => ⟨f15, _, ok_cw F15 m_sorted, ⟨a15, i15, k15⟩, b15⟩
  have AA : ∀ j, CalM l.prog w K mg base (j + 2) C2 "asked_anew" ["self", "times", "points_in"] (spAA K C2) := fun j => ⟨f16, _, ok_aa (k := j + 1) F16 TG (CW j), ⟨a16, i16, k16⟩, b16⟩
  have JF : ∀ j, Cal l.prog w K mg base (j + 1) "joined_folds" ["folds", "width"] spJF := fun j => ⟨f28, _, ok_jf F28 m_sorted, g28, k28, b28⟩
  have JA : ∀ j, CalM l.prog w K mg base (j + 2) C2 "joined_anew" ["self", "place", "finer", "anew", "width", "starts"] (spJA K C2) := fun j => ⟨f17, _, ok_ja (k := j + 1) F17 TG (KC j) (JF j), ⟨a17, i17, k17⟩, b17⟩
  have ST : ∀ j, CalM l.prog w K mg base (j + 1) C2 "settled" ["self", "place", "folds_by_width", "number"] (spSt K C2) := fun j => ⟨f18, _, ok_st F18 TG, ⟨a18, i18, k18⟩, b18⟩
  have RN : ∀ j, FnOk l.prog w K mg base CX0 (j + 3) f6 _ ["self", "place", "times", "points_in", "number"] (spRn K C2) := fun j => ok_rn (k := j + 2) F6 TG (CI (j + 1)) (AA j) (CW (j + 1)) (JA j) (ST (j + 1)) m_list m_zip
  have FI : ∀ j, FnOk l.prog w K mg base CX0 (j + 1) f21 _ ["self", "time"] (spFin K C3) := fun j => ok_fin F21 TK m_zip
  have GB : ∀ j, FnOk l.prog w K mg base (L2.CX l.prog w) (j + 4) f20 _ ["self", "width"] (spGoneX K C3 CG) := fun j => ok_goneX (k := j + 3) F20 TK (CKW j)
  have MX : ∀ j, Cal l.prog w K mg base (j + 1) "_law_mixed" ["_law_cell", "_law_k"] spMixed := fun j => ⟨f30, _, ok_mixed F30, g30, k30, b30⟩
  have DW : ∀ j, Cal l.prog w K mg base (j + 2) "_law_draw" ["_law_purse_here", "_law_out_of"] spDraw := fun j => ⟨f32, _, ok_draw (k := j + 1) F32 (MX j) m_range, g32, k32, b32⟩
  have PU : ∀ j, Cal l.prog w K mg base (j + 1) "_law_purse" ["_law_script", "_law_at"] (spPurse K) := fun j => ⟨f31, _, ok_purse F31 m_range m_max, g31, k31, b31⟩
  have CL_ : ∀ j, Cal l.prog w K mg base (j + 1) "_law_class" ["_law_caught"] (spClass CG) := fun j => ⟨f33, _, ok_class F33 N9 m_zip m_len, g33, k33, b33⟩
  have SW : ∀ j, Cal l.prog w K mg base (j + 3) "_law_some_widths" ["_law_purse_here"] spSW := fun j => ⟨f34, _, ok_sw (k := j + 2) F34 (DW j) m_range m_max m_tuple, g34, k34, b34⟩
  have WR : ∀ j, Cal l.prog w K mg base (j + 1) "_law_wrong" ["_law_some_widths_here"] (spWr K) := fun j => ⟨f35, _, ok_wr F35 m_list m_enumerate, g35, k35, b35⟩
  have MA : ∀ j, Cal l.prog w K mg base (j + 7) "_law_made" ["_law_some_widths_here", "_law_word"] (spMade K C2 C3) := fun j => ⟨f36, _, ok_made (k := j + 5) F36 N9 ⟨f5, _, GI (j + 1), gC2, ⟨mkC2, a5, i5, kcC2⟩, b5⟩ ⟨f5, _, GI (j + 1), gC2, ⟨mkC2, a5, i5, kcC2⟩, kk_gi F5⟩ ⟨f19, _, KI j, gC3, ⟨mkC3, a19, i19, kcC3⟩, b19⟩ (CL_ (j + 4)) m_tuple m_range m_len, g36, k36, b36⟩
  have AK : ∀ j, CalR l.prog w K mg base (j + 8) "_law_asked" ["_law_grains", "_law_keeping", "_law_word", "_law_a_width", "_law_a_time"] (spAk K C2 C3 CG) := fun j => ⟨f37, _, ok_ak (k := j + 6) F37 TG TK (OE (j + 5)).1 (OE (j + 5)).2.1 (OE (j + 5)).2.2.1 (OE (j + 5)).2.2.2.1 ⟨f7, _, FA j, ⟨a7, i7, k7⟩, kk_fa F7⟩ ⟨f8, _, SA (j + 1), ⟨a8, i8, k8⟩, kk_sa F8⟩ ⟨f9, _, CO_ (j + 2), ⟨a9, i9, k9⟩, kk_co F9⟩ ⟨f10, _, LG (j + 2), ⟨a10, i10, k10⟩, kk_lg F10⟩ ⟨f20, _, GB (j + 2), ⟨a20, i20, k20⟩, b_gone F20⟩ ⟨f20, _, GB (j + 2), ⟨a20, i20, k20⟩, kk_gb F20⟩ (K0 (j + 5)), g37, k37, b37⟩
  have TL : ∀ j, Cal l.prog w K mg base (j + 9) "_law_told" ["_law_grains", "_law_keeping", "_law_word", "_law_a_width", "_law_a_time"] (spTl K C2 C3) := fun j => ⟨f38, _, ok_tl (k := j + 8) F38 N9 (AK j) (CL_ (j + 7)), g38, k38, b38⟩
  obtain ⟨ds, v0, bd0⟩ := b_gone0 F20
  have QR : ∀ j, Cal l.prog w K mg base (j + 10) "_law_questions_right" ["_law_purse_here", "_law_grains", "_law_keeping", "_law_some_widths_here"] (spQr K C2 C3 PT39) := fun j => ⟨f39, _, ok_qr (k := j + 9) FC39 TB39 TG TK (DW (j + 7)) (TL j) ⟨f6, _, RN (j + 6), ⟨a6, i6, k6⟩, kk_rn F6⟩ ⟨f21, _, FI (j + 8), ⟨a21, i21, k21⟩, kk_fin F21⟩ ⟨f20, _, ds, fn_quiet (GB (j + 5)), ⟨a20, i20, k20⟩, bd0, v0⟩ ⟨f20, _, fn_quiet (GB (j + 5)), ⟨a20, i20, k20⟩, b_gone F20⟩ m_len m_int, g39, k39, b39⟩
  exact ok_law (k := 10) F40 ⟨PU 9, SW 7, WR 9, MA 3, QR 0, TG, m_range, m_len, m_max⟩
end Tg
open PySem PySem.W PyProof.Rows
set_option maxRecDepth 100000 in
set_option maxHeartbeats 0 in
theorem PySem.Challenge.cw_timegranary_k54_widths_holds : PySem.Challenge.rw_timegranary_k54_widths.Holds := by
  w_on; o_law; k_head; (case hw => w_witness2)
  k_fill
  refine LamX.walk_ofTs (l := PySem.Challenge.rw_timegranary_k54_widths) (n := 63) (k := 11) (x := "_law_script") (CX := fun _ => L2.CX0) rfl (by decide) rfl ⟨rfl, by decide, by decide⟩ (fun w h Y => PySem.W.km_in_of Y) ?F (fun _ _ _ _ _ h => h)
  case F =>
    intro w mg fa h Y KX G hmg
    refine' Tg.all_mk KX G hmg ?aCG ?xCG ?saCG ?gaCG ?ggCG ?noCG ?kcCG ?ecCG ?tcCG ?hcCG ?ccCG ?moCG ?xmCG ?aCK ?xCK ?saCK ?gaCK ?ggCK ?noCK ?kcCK ?ecCK ?tcCK ?hcCK ?ccCK ?moCK ?xmCK ?hnC ?htC ?vV ?aCB ?aCD ?aCL ?aCO ?aCN ?aCP ?aCT ?aC1 ?pgC1 ?hdC1 ?poC1 ?saC1 ?mkC1 ?kcC1 ?noC1_count ?noC1_total ?noC1_squares ?noC1_least ?noC1_greatest ?noC1_first ?noC1_last ?noC1_rise ?noC1_held ?aC2 ?pgC2 ?hdC2 ?poC2 ?saC2 ?mkC2 ?kcC2 ?noC2_widths ?noC2_busy ?noC2_kept ?noC2_horizons ?aC3 ?pgC3 ?hdC3 ?poC3 ?saC3 ?mkC3 ?kcC3 ?noC3_widths ?noC3_keeps ?noC3_horizons ?a1 ?t1 ?l1 ?c1 ?k1 ?a2 ?t2 ?l2 ?c2 ?k2 ?a3 ?i3 ?l3 ?d_count ?d_total ?d_squares ?d_least ?d_greatest ?d_first ?d_last ?d_rise ?d_held ?c3 ?k3 ?a4 ?i4 ?l4 ?c4 ?k4 ?a5 ?i5 ?l5 ?c5 ?k5 ?a6 ?i6 ?l6 ?c6 ?k6 ?a7 ?i7 ?l7 ?c7 ?k7 ?a8 ?i8 ?l8 ?c8 ?k8 ?a9 ?i9 ?l9 ?c9 ?k9 ?a10 ?i10 ?l10 ?c10 ?k10 ?a11 ?i11 ?l11 ?c11 ?k11 ?a12 ?i12 ?l12 ?c12 ?k12 ?a13 ?i13 ?l13 ?c13 ?k13 ?a14 ?i14 ?l14 ?c14 ?k14 ?a15 ?i15 ?l15 ?c15 ?k15 ?a16 ?i16 ?l16 ?c16 ?k16 ?a17 ?i17 ?l17 ?c17 ?k17 ?a18 ?i18 ?l18 ?c18 ?k18 ?a19 ?i19 ?l19 ?c19 ?k19 ?a20 ?i20 ?l20 ?lT ?c20 ?k20 ?a21 ?i21 ?l21 ?c21 ?k21 ?a22 ?l22 ?c22 ?k22 ?a23 ?l23 ?c23 ?k23 ?a24 ?l24 ?c24 ?k24 ?a25 ?l25 ?c25 ?k25 ?a26 ?l26 ?c26 ?k26 ?a27 ?l27 ?c27 ?k27 ?a28 ?l28 ?c28 ?k28 ?a29 ?l29 ?c29 ?k29 ?a30 ?l30 ?c30 ?k30 ?a31 ?l31 ?c31 ?k31 ?a32 ?l32 ?c32 ?k32 ?a33 ?l33 ?c33 ?k33 ?a34 ?l34 ?c34 ?k34 ?a35 ?l35 ?c35 ?k35 ?a36 ?l36 ?c36 ?k36 ?a37 ?l37 ?c37 ?k37 ?a38 ?l38 ?c38 ?k38 ?a39 ?l39 ?lc39 ?v11_39 ?v18_39 ?v7_39 ?v9_39 ?v10_39 ?ne39 ?nP39 ?tb39 ?c39 ?k39 ?a40 ?l40 ?c40 ?k40 ?z_range ?z_len ?z_max ?z_isinstance ?z_tuple ?z_enumerate ?z_zip ?z_int ?z_bool ?z_ValueError ?z_list ?z_sorted ?v_MOST_WIDTHS ?kitCB ?kitCD ?kitCK ?kitCL ?kitCO ?kitCN ?kitCP ?kitCT ?kitG ?kitV ?xF ?lNF ?okE ?eqF ?neF ?ocE ?ccF ?hnF ?htF ?hmF ?kitF
    (case aCG => k_is); (case xCG => k_is); (case saCG => k_is); (case gaCG => k_is); (case ggCG => k_is); (case noCG => k_is)
    (case kcCG => k_is); (case ecCG => k_is); (case tcCG => k_is); (case hcCG => k_is); (case ccCG => k_is); (case moCG => k_is)
    (case xmCG => first | k_is | rfl); (case aCK => k_is); (case xCK => k_is); (case saCK => k_is); (case gaCK => k_is); (case ggCK => k_is)
    (case noCK => k_is); (case kcCK => k_is); (case ecCK => k_is); (case tcCK => k_is); (case hcCK => k_is); (case ccCK => k_is)
    (case moCK => k_is); (case xmCK => first | k_is | rfl); (case hnC => k_is); (case htC => k_is); (case vV => first | k_is | rfl); (case aCB => k_is)
    (case aCD => k_is); (case aCL => k_is); (case aCO => k_is); (case aCN => k_is); (case aCP => k_is); (case aCT => k_is)
    (case aC1 => k_is); (case pgC1 => k_is); (case hdC1 => k_is); (case poC1 => k_is); (case saC1 => k_is); (case mkC1 => k_is)
    (case kcC1 => k_is); (case noC1_count => k_is); (case noC1_total => k_is); (case noC1_squares => k_is); (case noC1_least => k_is); (case noC1_greatest => k_is)
    (case noC1_first => k_is); (case noC1_last => k_is); (case noC1_rise => k_is); (case noC1_held => k_is); (case aC2 => k_is); (case pgC2 => k_is)
    (case hdC2 => k_is); (case poC2 => k_is); (case saC2 => k_is); (case mkC2 => k_is); (case kcC2 => k_is); (case noC2_widths => k_is)
    (case noC2_busy => k_is); (case noC2_kept => k_is); (case noC2_horizons => k_is); (case aC3 => k_is); (case pgC3 => k_is); (case hdC3 => k_is)
    (case poC3 => k_is); (case saC3 => k_is); (case mkC3 => k_is); (case kcC3 => k_is); (case noC3_widths => k_is); (case noC3_keeps => k_is)
    (case noC3_horizons => k_is); (case a1 => k_is); (case t1 => k_is); (case l1 => k_is); (case c1 => k_is); (case k1 => k_is)
    (case a2 => k_is); (case t2 => k_is); (case l2 => k_is); (case c2 => k_is); (case k2 => k_is); (case a3 => k_is)
    (case i3 => k_is); (case l3 => k_is); (case d_count => k_is); (case d_total => k_is); (case d_squares => k_is); (case d_least => k_is); (case d_greatest => k_is); (case d_first => k_is); (case d_last => k_is); (case d_rise => k_is); (case d_held => k_is); (case c3 => k_is); (case k3 => k_is); (case a4 => k_is); (case i4 => k_is)
    (case l4 => k_is); (case c4 => k_is); (case k4 => k_is); (case a5 => k_is); (case i5 => k_is); (case l5 => k_is)
    (case c5 => k_is); (case k5 => k_is); (case a6 => k_is); (case i6 => k_is); (case l6 => k_is); (case c6 => k_is)
    (case k6 => k_is); (case a7 => k_is); (case i7 => k_is); (case l7 => k_is); (case c7 => k_is); (case k7 => k_is)
    (case a8 => k_is); (case i8 => k_is); (case l8 => k_is); (case c8 => k_is); (case k8 => k_is); (case a9 => k_is)
    (case i9 => k_is); (case l9 => k_is); (case c9 => k_is); (case k9 => k_is); (case a10 => k_is); (case i10 => k_is)
    (case l10 => k_is); (case c10 => k_is); (case k10 => k_is); (case a11 => k_is); (case i11 => k_is); (case l11 => k_is)
    (case c11 => k_is); (case k11 => k_is); (case a12 => k_is); (case i12 => k_is); (case l12 => k_is); (case c12 => k_is)
    (case k12 => k_is); (case a13 => k_is); (case i13 => k_is); (case l13 => k_is); (case c13 => k_is); (case k13 => k_is)
    (case a14 => k_is); (case i14 => k_is); (case l14 => k_is); (case c14 => k_is); (case k14 => k_is); (case a15 => k_is)
    (case i15 => k_is); (case l15 => k_is); (case c15 => k_is); (case k15 => k_is); (case a16 => k_is); (case i16 => k_is)
    (case l16 => k_is); (case c16 => k_is); (case k16 => k_is); (case a17 => k_is); (case i17 => k_is); (case l17 => k_is)
    (case c17 => k_is); (case k17 => k_is); (case a18 => k_is); (case i18 => k_is); (case l18 => k_is); (case c18 => k_is)
    (case k18 => k_is); (case a19 => k_is); (case i19 => k_is); (case l19 => k_is); (case c19 => k_is); (case k19 => k_is)
    (case a20 => k_is); (case i20 => k_is); (case l20 => k_is); (case lT => k_is); (case c20 => k_is); (case k20 => k_is); (case a21 => k_is)
    (case i21 => k_is); (case l21 => k_is); (case c21 => k_is); (case k21 => k_is); (case a22 => k_is); (case l22 => k_is)
    (case c22 => k_is); (case k22 => k_is); (case a23 => k_is); (case l23 => k_is); (case c23 => k_is); (case k23 => k_is)
    (case a24 => k_is); (case l24 => k_is); (case c24 => k_is); (case k24 => k_is); (case a25 => k_is); (case l25 => k_is)
    (case c25 => k_is); (case k25 => k_is); (case a26 => k_is); (case l26 => k_is); (case c26 => k_is); (case k26 => k_is)
    (case a27 => k_is); (case l27 => k_is); (case c27 => k_is); (case k27 => k_is); (case a28 => k_is); (case l28 => k_is)
    (case c28 => k_is); (case k28 => k_is); (case a29 => k_is); (case l29 => k_is); (case c29 => k_is); (case k29 => k_is)
    (case a30 => k_is); (case l30 => k_is); (case c30 => k_is); (case k30 => k_is); (case a31 => k_is); (case l31 => k_is)
    (case c31 => k_is); (case k31 => k_is); (case a32 => k_is); (case l32 => k_is); (case c32 => k_is); (case k32 => k_is)
    (case a33 => k_is); (case l33 => k_is); (case c33 => k_is); (case k33 => k_is); (case a34 => k_is); (case l34 => k_is)
    (case c34 => k_is); (case k34 => k_is); (case a35 => k_is); (case l35 => k_is); (case c35 => k_is); (case k35 => k_is)
    (case a36 => k_is); (case l36 => k_is); (case c36 => k_is); (case k36 => k_is); (case a37 => k_is); (case l37 => k_is)
    (case c37 => k_is); (case k37 => k_is); (case a38 => k_is); (case l38 => k_is); (case c38 => k_is); (case k38 => k_is)
    (case a39 => k_is); (case l39 => k_is); (case lc39 => k_is); (case v11_39 => rfl); (case v18_39 => rfl); (case v7_39 => rfl); (case v9_39 => rfl); (case v10_39 => rfl); (case ne39 => decide); (case nP39 => first | k_is | rfl); (case tb39 => exact PySem.W.km_tabs_of Y _ (by decide)); (case c39 => k_is); (case k39 => k_is); (case a40 => k_is); (case l40 => k_is)
    (case c40 => k_is); (case k40 => k_is); (case z_range => k_is); (case z_len => k_is); (case z_max => k_is); (case z_isinstance => k_is)
    (case z_tuple => k_is); (case z_enumerate => k_is); (case z_zip => k_is); (case z_int => k_is); (case z_bool => k_is); (case z_ValueError => k_is)
    (case z_list => k_is); (case z_sorted => k_is); (case v_MOST_WIDTHS => k_is); (case kitCB => first | k_is | rfl); (case kitCD => first | k_is | rfl); (case kitCK => first | k_is | rfl)
    (case kitCL => first | k_is | rfl); (case kitCO => first | k_is | rfl); (case kitCN => first | k_is | rfl); (case kitCP => first | k_is | rfl); (case kitCT => first | k_is | rfl); (case kitG => first | k_is | rfl)
    (case kitV => first | k_is | rfl); (case xF => k_is); (case lNF => k_is); (case okE => rfl); (case eqF => k_is); (case neF => k_is)
    (case ocE => rfl); (case ccF => k_is); (case hnF => k_is); (case htF => k_is); (case hmF => k_is); (case kitF => first | k_is | rfl)

