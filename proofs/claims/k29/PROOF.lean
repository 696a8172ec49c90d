import PyProof.Rows.All
import Wide.All
import OpenK.AllK
import Wide.FinOn
import HandS.ForMost
import HandS.Conv
import HandS.Wide
import HandS.IsInst
import HandS.Defaults
import HandS.Dict
import HandS.Iter
import HandS.Walk
import HandS.Exc
import HandS.ExcInit
import HandS.ExcIs
import HandS.ExcField
import HandS.ExcValue
import KE.KExcIs
import KE.KTryMore
import HandS.WordsExc
import HandS.ExcOwn
import HandS.FStr
import HandS.IntHex
import PyProof.FString3
import PyProof.Rows.StrIntSpec
import HandS.Codes
import HandS.StrMore
import PyProof.StrLawsFrom
import HandS.DictComp
import HandS.SetFor
import HandS.Strs
import HandS.SortInts
import HandS.WrittenGet
import HandS.OwnEq
import PyProof.EqKinds
import PyProof.InstNe
import OpenK.KOwn
import PyProof.ReprRoads
import PyProof.InstSpecial
import HandS.Lambda
import KE.KLam
import KE.SortKeyHeap
import HandS.New
import HandS.EndOwn
import KE.DataMinKey
import PyProof.SeqI3
import KE.KAssignIn
import HandS.More
import HandS.SortOrd
import KE.KDictSum
import PyProof.TupleOfSeq
import KE.KEqDict
import KE.KDictPairs
import PyProof.NeKinds
import KE.KDictList
import HandS.Deep
import HandS.WideBits
import PySem.Challenge.RW_timegranary_k29_blocks
import HandS.CallLocal
import HandS.WordsDict
import HandS.Finally
import HandS.MakeKwOnly
set_option Elab.async false
set_option linter.all false
set_option maxRecDepth 100000
namespace Tg
open PySem PySem.Spec PyProof.Rows L2

/-! ### rules of my own: a call by keywords alone; list(range(a, b, c)) -/
section
variable {X : Cx} {CX : CXT} {k : Nat} {f : Addr} {fd : FuncData} {ps ks : List Str} {sp : Sp} {E : XK} {x : Str} {p pos : Pos} {kws : List Keyword} {tk : TA}
  {g : List Value → List Value → List Value} {gV : List V → List V → List V}
def tKw0 (n : Nat) (sp : Sp) (gV : List V → List V → List V) (E : XK) (tk : TA) : TE :=
  fun σ H Q => tk σ H fun zs H2 => zs.length = n ∧ sp (gV [] zs) H2 Q E
theorem pe_kw0 (F : FnOk X.prog X.w X.K X.mg X.base CX k f fd ps sp) (room : Room k X.A) (gl : Gl X x) (at_x : X.mg x = some (.ref f)) (kept : PySem.W.keepIn X.K (.ref f) = true) (binds : KBn X.K fd ps 0 ks g gV) (lets : Passes CX X E) (vals : PK X kws tk)
    (named : (backToKw pos (keywordEach kws X.env)).all (·.1.isSome) = true := by rfl) (names : (backToKw pos (keywordEach kws X.env)).filterMap (·.1) = ks := by rfl) (nodebug : (x == ("__debug__" : Str)) = false := by decide)
    (nostar : ((backTo pos (starEach [] X.env)).any (·.1) || (backToKw pos (keywordEach kws X.env)).any (·.1.isNone)) = false := by rfl) : PE X (.Call (.Name x p) [] kws pos) (tKw0 ks.length sp gV E tk) := by
  constructor
  intro pins s σ H Q I read
  refine wpAny_Call_Name_kw (ld_glob I gl at_x (PySem.W.callWith_KW0 (h₀ := X.base) I.ok.mod.kin kept named (thn (vals.run pos pins s σ H _ I read) fun ws s2 y => ?_) nostar) nodebug)
  obtain ⟨zs, H2, J, rel, many, h⟩ := y
  rw [names]
  exact ⟨J.kIn, run_fnN (us := []) (vs := []) F room binds lets J .nil rel rfl many h⟩
end

/-- two keywords, the second parameter's first -/
def sw2 {α : Type} : List α → List α
  | [y, x] => [x, y]
  | _ => []
/-- three keywords, the parameters' from the last on -/
def sw3 {α : Type} : List α → List α
  | [z, y, x] => [x, y, z]
  | _ => []
theorem sw2_rel : ∀ {zs : List V} {ws : List Value}, Vals zs ws → Vals (sw2 zs) (sw2 ws)
  | _, _, .nil => .nil
  | _, _, .cons _ .nil => .nil
  | _, _, .cons a (.cons b .nil) => .cons b (.cons a .nil)
  | _, _, .cons _ (.cons _ (.cons _ _)) => .nil
theorem sw3_rel : ∀ {zs : List V} {ws : List Value}, Vals zs ws → Vals (sw3 zs) (sw3 ws)
  | _, _, .nil => .nil
  | _, _, .cons _ .nil => .nil
  | _, _, .cons _ (.cons _ .nil) => .nil
  | _, _, .cons a (.cons b (.cons c .nil)) => .cons c (.cons b (.cons a .nil))
  | _, _, .cons _ (.cons _ (.cons _ (.cons _ _))) => .nil

section
variable {X : Cx} {a b c : Expr} {ta : TA}
def rg3 (a c : Int) (n : Nat) : List V := (List.range n).map fun i => V.int (a + (i : Nat) * c)
theorem rg3_length (a c : Int) (n : Nat) : (rg3 a c n).length = n := by
  simp [rg3]
def R3 (a b c : Int) (n : Nat) : Prop :=
  c ≠ 0 ∧ c.natAbs.log2 < 9000 ∧ Builtin.Range.small a b c = true ∧ Builtin.Range.rangeSize a b c = n ∧ n ≤ 2 ^ 24
def tLst3 (ta : TA) : TE := fun σ H Q => ta σ H fun vs H1 => ∃ (a b c : Int) (n : Nat), vs = [.int a, .int b, .int c] ∧ R3 a b c n ∧
  ∀ q, H1 q = none → Q (.ref q) (upd H1 q (.lst (rg3 a c n)))
theorem pe_lst3 {p p2 pos pos2 : Pos} (calm : X.calm = true) (gl : Gl X "list") (nl : X.mg "list" = none) (gr : Gl X "range") (nr : X.mg "range" = none) (args : PA X [a, b, c] ta)
    (one : starEach [a, b, c] X.env = (false, eval a X.env) :: starEach [b, c] X.env := by rfl) (nostar : (backTo pos2 (starEach [b, c] X.env)).any (·.1) = false := by rfl)
    (whole : starEach [.Call (.Name "range" p2) [a, b, c] [] pos2] X.env = (false, eval (.Call (.Name "range" p2) [a, b, c] [] pos2) X.env) :: starEach [] X.env := by rfl) :
    PE X (.Call (.Name "list" p) [.Call (.Name "range" p2) [a, b, c] [] pos2] [] pos) (tLst3 ta) := by
  constructor
  intro pins s σ H Q I read
  refine Call_ (ld_blt I gl nl boot_list (PyProof.Rows.callWith_type1 (args_cons (Call_ (ld_blt I gr nr boot_range (PyProof.Rows.callWith_type1 (thn (args.run pos2 pins s σ H _ I read) fun us s1 y => ?_) one nostar))) whole) whole))
  obtain ⟨zs, H1, J, rel, i, j, k, n, e, ⟨c0, c1, c2, c3, c4⟩, h⟩ := y
  subst e
  match us, rel with
  | [_, _, _], .cons ⟨t, ei⟩ (.cons ⟨u, ej⟩ (.cons ⟨v, ek⟩ .nil)) =>
    subst ei
    subst ej
    subst ek
    refine call_range_3 c0 (args_nil ?_) (.inl (PyProof.noPylong_of_log2 c1))
    obtain ⟨hx, ehx⟩ : ∃ hx, hx = s1.heap.push { cls := .type "range", data := .fields #[.int i t, .int j u, .int k v] } := ⟨_, rfl⟩
    have J2 : Inv X pins σ H1 { s1 with heap := hx } := by
      rw [ehx]
      exact J.kept (t' := s1.toks) fun _ _ z => Heap.get?_push_of_some _ z
    rw [← ehx]
    refine call_list_range (s := { s1 with heap := hx }) (n := n) (J2.ok.hd calm) (by rw [ehx]; exact IsRange.new ..) c2 c3 c4 fun h' tk acc cc kp made items => ?_
    have len : acc.toList.length = n := Array.length_toList.trans items.1
    have vals : Vals (rg3 i k n) acc.toList := by
      have z := vals_of_get acc.toList (fun m : Nat => V.int (i + m * k)) fun m w hw => by
        obtain ⟨tw, ew⟩ := items.2 m w (by rw [← hw, Array.getElem?_toList])
        exact ⟨tw, ew⟩
      rw [len] at z
      exact z
    refine ⟨.ref hx.objs.size, upd H1 hx.objs.size (.lst (rg3 i k n)), J2.laid kp (Nat.le_refl _) (show ObjOk X.prog X.w _ _ _ (.lst (rg3 i k n)) from ⟨?_, acc.toList, cc, vals, ?_⟩), rfl, h _ (J2.hok.fresh (Nat.le_refl _))⟩
    · rw [rg3_length, sizeLine_eq]
      omega
    · rw [Array.toArray_toList]
      exact made
end

/-! ### lists of ints, compared -/
theorem dp_ints {K : PySem.W.Frag} {H : Hp} : ∀ ns : List Int, DpAll K H (ns.map V.int) (ns.map PyData.int)
  | [] => .nil
  | n :: r => .cons (.int n) (dp_ints r)
theorem lay_ints : ∀ ns : List Int, PyData.canLayAll0 (ns.map PyData.int) = true
  | [] => rfl
  | n :: r => by
    show (true && PyData.canLayAll0 (r.map PyData.int)) = true
    rw [lay_ints r]
    rfl
theorem depth_ints : ∀ ns : List Int, PyData.depthAll (ns.map PyData.int) = 0
  | [] => rfl
  | n :: r => by
    show max 0 (PyData.depthAll (r.map PyData.int)) = 0
    rw [depth_ints r]
    rfl
theorem shaped_ints (ns : List Int) : SeqAt.shaped (.list (ns.map PyData.int)) = true := by
  unfold SeqAt.shaped
  have h1 : PyData.canLay0 (.list (ns.map PyData.int)) = true := lay_ints ns
  have h2 : PyData.depth (.list (ns.map PyData.int)) = 1 := by
    show PyData.depthAll (ns.map PyData.int) + 1 = 1
    rw [depth_ints]
  rw [h1, h2]
  rfl
theorem eqv_ints : ∀ ns : List Int, PyData.eqvAll (ns.map PyData.int) (ns.map PyData.int) = true
  | [] => rfl
  | n :: r => by
    show ((n == n) && PyData.eqvAll (r.map PyData.int) (r.map PyData.int)) = true
    rw [eqv_ints r, beq_self_eq_true]
    rfl
theorem dp_lst {K : PySem.W.Frag} {H : Hp} {a : Addr} {ns : List Int} (h : SqL K H a (ns.map V.int)) : Dp K H (.ref a) (.list (ns.map PyData.int)) := .lst h (dp_ints ns)
end Tg

namespace Tg
open PySem PySem.Spec PyProof.Rows L2
/-! ### defs, methods and classes as a caller needs them -/
section
variable (P : Program) (w : World) (K : PySem.W.Frag) (mg : Str → Option Value) (base : Heap)
/-- the def x is there, and keeps sp by level k -/
def Cal (k : Nat) (x : Str) (ps : List Str) (sp : Sp) : Prop := ∃ f fd, FnOk P w K mg base CX0 k f fd ps sp ∧ mg x = some (.ref f) ∧ PySem.W.keepIn K (.ref f) = true ∧ Binds K fd ps []
/-- the places that is tells, out of a list -/
def prm {α : Type} (is : List Nat) (zs : List α) : List α := is.filterMap fun i => zs[i]?
/-- the same with keywords alone, ks in this order; is: the places of the parameters among them -/
def CalK (k : Nat) (x : Str) (ps ks : List Str) (is : List Nat) (sp : Sp) : Prop := ∃ f fd, FnOk P w K mg base CX0 k f fd ps sp ∧ mg x = some (.ref f) ∧ PySem.W.keepIn K (.ref f) = true ∧ KBn K fd ps 0 ks (fun _ ws => prm is ws) (fun _ zs => prm is zs)
/-- a method of the class C -/
def CalM (k : Nat) (C : Addr) (m : Str) (ps : List Str) (sp : Sp) : Prop := ∃ f fd, FnOk P w K mg base CX0 k f fd ps sp ∧ Meth K C m f ∧ Binds K fd ps []
def CalMK (k : Nat) (C : Addr) (m : Str) (ps ks : List Str) (is : List Nat) (sp : Sp) : Prop := ∃ f fd, FnOk P w K mg base CX0 k f fd ps sp ∧ Meth K C m f ∧ KBn K fd ps 1 ks (fun us ws => us ++ prm is ws) (fun vs zs => vs ++ prm is zs)
/-- a class, by its __init__ -/
def CalC (k : Nat) (x : Str) (C : Addr) (ps : List Str) (sp : Sp) : Prop := ∃ f fd, FnOk P w K mg base CX0 k f fd ps sp ∧ mg x = some (.ref C) ∧ Mk K C f ∧ Binds K fd ps []
end
theorem vals_at : ∀ {zs : List V} {ws : List Value}, Vals zs ws → ∀ i : Nat, (zs[i]? = none ∧ ws[i]? = none) ∨ ∃ z w, zs[i]? = some z ∧ ws[i]? = some w ∧ RelV z w
  | _, _, .nil, i => .inl ⟨by simp, by simp⟩
  | _, _, .cons a b, i => by
    cases i with
    | zero => exact .inr ⟨_, _, rfl, rfl, a⟩
    | succ i => exact vals_at b i
theorem prm_rel {zs : List V} {ws : List Value} (h : Vals zs ws) : ∀ is : List Nat, Vals (prm is zs) (prm is ws)
  | [] => .nil
  | i :: r => by
    have ih := prm_rel h r
    unfold prm at ih ⊢
    rcases vals_at h i with ⟨h1, h2⟩ | ⟨z, w, h1, h2, h3⟩
    · rw [List.filterMap_cons_none h1, List.filterMap_cons_none h2]
      exact ih
    · rw [List.filterMap_cons_some h1, List.filterMap_cons_some h2]
      exact .cons h3 ih
section
variable {X : Cx} {k : Nat} {ps ks : List Str} {is : List Nat} {sp : Sp} {x m : Str} {C : Addr} {o e : Expr} {es : List Expr} {p pos apos : Pos} {kws : List Keyword} {ta t tk : TA} {to : TE}
theorem pe_cal (c : Cal X.prog X.w X.K X.mg X.base k x ps sp) (hr : Room k X.A) (gl : Gl X x) (ha : PA X (e :: es) t) (hdb : (x == ("__debug__" : Str)) = false := by decide)
    (he : starEach (e :: es) X.env = (false, eval e X.env) :: starEach es X.env := by rfl) (hpl : (backTo pos (starEach es X.env)).any (·.1) = false := by rfl) : PE X (.Call (.Name x p) (e :: es) [] pos) (tCall sp [] E0 t) := by
  obtain ⟨f, fd, F, hm, hk, hb⟩ := c
  exact pe_call F hr gl hm hk hb .nil pass0 ha hdb he hpl
theorem pe_calK (c : CalK X.prog X.w X.K X.mg X.base k x ps ks is sp) (hr : Room k X.A) (gl : Gl X x) (vals : PK X kws tk)
    (named : (backToKw pos (keywordEach kws X.env)).all (·.1.isSome) = true := by rfl) (names : (backToKw pos (keywordEach kws X.env)).filterMap (·.1) = ks := by rfl) (nodebug : (x == ("__debug__" : Str)) = false := by decide)
    (nostar : ((backTo pos (starEach [] X.env)).any (·.1) || (backToKw pos (keywordEach kws X.env)).any (·.1.isNone)) = false := by rfl) :
    PE X (.Call (.Name x p) [] kws pos) (tKw0 ks.length sp (fun _ zs => prm is zs) E0 tk) := by
  obtain ⟨f, fd, F, hm, hk, hb⟩ := c
  exact pe_kw0 F hr gl hm hk hb pass0 vals named names nodebug nostar
theorem pe_calM {pl : Sem Bool} (he : PE X o to) (cl : Cls X.K C) (c : CalM X.prog X.w X.K X.mg X.base k C m ps sp) (hr : Room k X.A) (ha : PA X (e :: es) t)
    (hst : starEach (e :: es) X.env = (false, eval e X.env) :: starEach es X.env := by rfl) (hpl : (backTo pos (starEach es X.env)).any (·.1) = false := by rfl) (ht : eval (.Call (.Attribute o m apos) (e :: es) [] pos) X.env = (do let ov ← eval o X.env; standAt apos.atName; let (f, first) ← holding [ov] (getMethod ov m pl); callWith pos f first (backTo pos (starEach (e :: es) X.env)) (backToKw pos (keywordEach [] X.env))) := by rfl) :
    PE X (.Call (.Attribute o m apos) (e :: es) [] pos) (tMeth C m sp [] E0 to t) := by
  obtain ⟨f, fd, F, hm, hb⟩ := c
  exact pe_meth (pl := pl) he cl hm F hr hb .nil pass0 ha hst hpl ht
theorem pe_calM0 {pl : Sem Bool} (he : PE X o to) (cl : Cls X.K C) (c : CalM X.prog X.w X.K X.mg X.base k C m ps sp) (hr : Room k X.A)
    (ht : eval (.Call (.Attribute o m apos) [] [] pos) X.env = (do let ov ← eval o X.env; standAt apos.atName; let (f, first) ← holding [ov] (getMethod ov m pl); callWith pos f first (backTo pos (starEach [] X.env)) (backToKw pos (keywordEach [] X.env))) := by rfl) :
    PE X (.Call (.Attribute o m apos) [] [] pos) (tMeth C m sp [] E0 to tNil) := by
  obtain ⟨f, fd, F, hm, hb⟩ := c
  exact pe_meth0 (pl := pl) he cl hm F hr hb .nil pass0 ht
/-- o.m(k = v, ..) -/
def tMethK (C : Addr) (m : Str) (n : Nat) (sp : Sp) (is : List Nat) (E : XK) (to : TE) (tk : TA) : TE := fun σ H Q => to σ H fun x H1 => ∃ a dx fs, x = .ref a ∧ H1 a = some (.ins C dx fs) ∧ fs.lookup m = none ∧ tk σ H1 fun zs H2 => zs.length = n ∧ sp (x :: prm is zs) H2 Q E
theorem pe_calMK {pl : Sem Bool} (he : PE X o to) (cl : Cls X.K C) (c : CalMK X.prog X.w X.K X.mg X.base k C m ps ks is sp) (hr : Room k X.A) (vals : PK X kws tk)
    (named : (backToKw pos (keywordEach kws X.env)).all (·.1.isSome) = true := by rfl) (names : (backToKw pos (keywordEach kws X.env)).filterMap (·.1) = ks := by rfl)
    (nostar : ((backTo pos (starEach [] X.env)).any (·.1) || (backToKw pos (keywordEach kws X.env)).any (·.1.isNone)) = false := by rfl)
    (ht : eval (.Call (.Attribute o m apos) [] kws pos) X.env = (do let ov ← eval o X.env; standAt apos.atName; let (f, first) ← holding [ov] (getMethod ov m pl); callWith pos f first (backTo pos (starEach [] X.env)) (backToKw pos (keywordEach kws X.env))) := by rfl) :
    PE X (.Call (.Attribute o m apos) [] kws pos) (tMethK C m ks.length sp is E0 to tk) := by
  obtain ⟨f, fd, F, hm, hb⟩ := c
  constructor
  intro pins s σ H Q I read
  refine PySem.W.methodCall_KW (pl := pl) (thn (he.run pins s σ H _ I read) fun u s1 ⟨x, H1, I1, rx, a, dx, fs, ex, ea, l, q⟩ => ?_) ht
  subst ex
  obtain rfl : u = .ref a := rx
  refine getmeth_ok I1 ea cl hm l ?_
  refine PySem.W.callWith_KW0 (first := [.ref a]) (h₀ := X.base) I.ok.mod.kin hm.kp named (thn (vals.run pos pins s1 σ H1 _ I1 q) fun ws s2 y => ?_) nostar
  obtain ⟨zs, H2, J, rel, many, h⟩ := y
  rw [names]
  exact ⟨J.kIn, run_fnN (E := E0) (us := [.ref a]) (vs := [.ref a]) F hr hb pass0 J (.cons rfl .nil) rel rfl many h⟩
theorem pe_calC0 (c : CalC X.prog X.w X.K X.mg X.base k x C ps sp) (hr : Room (k + 1) X.A) (gl : Gl X x) (hdb : (x == ("__debug__" : Str)) = false := by decide) : PE X (.Call (.Name x p) [] [] pos) (tMake C sp [] E0 tNil) := by
  obtain ⟨f, fd, F, hm, M, hb⟩ := c
  exact pe_make0 M F hr gl hm hb .nil pass0 hdb
theorem pe_calC (c : CalC X.prog X.w X.K X.mg X.base k x C ps sp) (hr : Room (k + 1) X.A) (gl : Gl X x) (ha : PA X (e :: es) t) (hdb : (x == ("__debug__" : Str)) = false := by decide)
    (he : starEach (e :: es) X.env = (false, eval e X.env) :: starEach es X.env := by rfl) (hpl : (backTo pos (starEach es X.env)).any (·.1) = false := by rfl) : PE X (.Call (.Name x p) (e :: es) [] pos) (tMake C sp [] E0 t) := by
  obtain ⟨f, fd, F, hm, M, hb⟩ := c
  exact pe_make M F hr gl hm hb .nil pass0 ha hdb he hpl
end
end Tg

namespace Tg
open PySem PySem.Spec PyProof.Rows L2
/-! ### the heap: what stands -/
/-- all but p stands as it stood -/
def Kp (p : Addr) (H H' : Hp) : Prop := ∀ b o, b ≠ p → H b = some o → H' b = some o
theorem Kp.refl (p : Addr) (H : Hp) : Kp p H H := fun _ _ _ h => h
theorem Kp.trans {p : Addr} {H H1 H2 : Hp} (a : Kp p H H1) (b : Kp p H1 H2) : Kp p H H2 := fun c o hc h => b c o hc (a c o hc h)
theorem Kp.of {p : Addr} {H H' : Hp} (s : Same H H') : Kp p H H' := fun c o _ h => s c o h
theorem Kp.put {p : Addr} {H : Hp} {o : HO} : Kp p H (upd H p o) := fun c u hc h => by
  rw [upd_ne hc]
  exact h
/-- what is new stays apart -/
theorem Kp.same {p : Addr} {H H1 H2 : Hp} (s : Same H H1) (n : H p = none) (k : Kp p H1 H2) : Same H H2 := fun b o h => k b o (ne_of_none h n) (s b o h)
theorem same_new {H : Hp} {p : Addr} {o : HO} (h : H p = none) : Same H (upd H p o) := fun b x e => by
  rw [upd_ne (ne_of_none e h)]
  exact e
theorem same_put {H H' : Hp} {D : Addr} {o : HO} (n : H D = none) (s : Same H H') : Same H (upd H' D o) := fun b x e => by
  rw [upd_ne (ne_of_none e n)]
  exact s _ _ e
/-- what can't be changed: tuples, and what is locked -/
def Fix : HO → Prop
  | .tup _ => True
  | .frz _ _ => True
  | _ => False
/-- all that can't be changed stands -/
def KT (H H' : Hp) : Prop := ∀ a o, Fix o → H a = some o → H' a = some o
theorem KT.refl (H : Hp) : KT H H := fun _ _ _ h => h
theorem KT.trans {H H1 H2 : Hp} (a : KT H H1) (b : KT H1 H2) : KT H H2 := fun c o f h => b c o f (a c o f h)
theorem KT.of {H H' : Hp} (s : Same H H') : KT H H' := fun c o _ h => s c o h
theorem KT.kp {p : Addr} {H H' : Hp} {o : HO} (k : Kp p H H') (h : H p = some o) (n : ¬ Fix o) : KT H H' := fun a u f e => k a u (fun z => n (by
  rw [z, h] at e
  cases e
  exact f)) e
theorem KT.put {p : Addr} {H : Hp} {o u : HO} (h : H p = some o) (n : ¬ Fix o) : KT H (upd H p u) := KT.kp Kp.put h n
theorem KT.new {p : Addr} {H : Hp} {u : HO} (h : H p = none) : KT H (upd H p u) := KT.of (same_new h)
theorem nfix_lst {xs : List V} : ¬ Fix (.lst xs) := fun z => z
theorem nfix_dK {xs : List (Key × V)} : ¬ Fix (.dK xs) := fun z => z
theorem nfix_ins {C dx : Addr} {fs : List (Str × V)} : ¬ Fix (.ins C dx fs) := fun z => z
/-! ### data -/
theorem rd_same {H H' : Hp} {a : Addr} {o : HO} (s : Same H H') (h : Rd H a o) : Rd H' a o := by
  rcases h with h | ⟨ob, h⟩
  · exact .inl (s _ _ h)
  · exact .inr ⟨ob, s _ _ h⟩
theorem sqL_same {K : PySem.W.Frag} {H H' : Hp} {a : Addr} {xs : List V} (s : Same H H') (h : SqL K H a xs) : SqL K H' a xs := h.imp (rd_same s) id
theorem sqT_same {K : PySem.W.Frag} {H H' : Hp} {a : Addr} {xs : List V} (s : Same H H') (h : SqT K H a xs) : SqT K H' a xs := h.imp (rd_same s) id
theorem sqT_kt {K : PySem.W.Frag} {H H' : Hp} {a : Addr} {xs : List V} (s : KT H H') (h : SqT K H a xs) : SqT K H' a xs := by
  refine h.imp (fun h => ?_) id
  rcases h with h | ⟨ob, h⟩
  · exact .inl (s _ _ trivial h)
  · exact .inr ⟨ob, s _ _ trivial h⟩
mutual
theorem dp_same {K : PySem.W.Frag} {H H' : Hp} (s : Same H H') : ∀ {x : V} {d : PyData}, Dp K H x d → Dp K H' x d
  | _, _, .non => .non
  | _, _, .bl b => .bl b
  | _, _, .int i => .int i
  | _, _, .str z => .str z
  | _, _, .lst a b => .lst (sqL_same s a) (dpAll_same s b)
  | _, _, .tup a b => .tup (sqT_same s a) (dpAll_same s b)
theorem dpAll_same {K : PySem.W.Frag} {H H' : Hp} (s : Same H H') : ∀ {xs : List V} {ds : List PyData}, DpAll K H xs ds → DpAll K H' xs ds
  | _, _, .nil => .nil
  | _, _, .cons a b => .cons (dp_same s a) (dpAll_same s b)
end
/-- no list and no dict in it -/
inductive TD : PyData → Prop
  | non : TD .none
  | bl (b : Bool) : TD (.bool b)
  | int (i : Int) : TD (.int i)
  | str (z : Str) : TD (.str z)
  | tup {ds : List PyData} : (∀ d, d ∈ ds → TD d) → TD (.tuple ds)
mutual
theorem dp_kt {K : PySem.W.Frag} {H H' : Hp} (s : KT H H') : ∀ {x : V} {d : PyData}, Dp K H x d → TD d → Dp K H' x d
  | _, _, .non, _ => .non
  | _, _, .bl b, _ => .bl b
  | _, _, .int i, _ => .int i
  | _, _, .str z, _ => .str z
  | _, _, .lst _ _, t => nomatch t
  | _, _, .tup a b, .tup t => .tup (sqT_kt s a) (dpAll_kt s b t)
theorem dpAll_kt {K : PySem.W.Frag} {H H' : Hp} (s : KT H H') : ∀ {xs : List V} {ds : List PyData}, DpAll K H xs ds → (∀ d, d ∈ ds → TD d) → DpAll K H' xs ds
  | _, _, .nil, _ => .nil
  | _, _, .cons a b, t => .cons (dp_kt s a (t _ List.mem_cons_self)) (dpAll_kt s b fun d hd => t d (List.mem_cons_of_mem _ hd))
end
theorem dpAll_len {K : PySem.W.Frag} {H : Hp} : ∀ {xs : List V} {ds : List PyData}, DpAll K H xs ds → xs.length = ds.length
  | _, _, .nil => rfl
  | _, _, .cons _ b => congrArg Nat.succ (dpAll_len b)
theorem dpAll_at {K : PySem.W.Frag} {H : Hp} : ∀ {xs : List V} {ds : List PyData}, DpAll K H xs ds → ∀ (i : Nat) (x : V), xs[i]? = some x → ∃ d, ds[i]? = some d ∧ Dp K H x d
  | _, _, .nil => fun i x h => by simp at h
  | _, _, .cons a b => fun i x h => by
    cases i with
    | zero =>
      simp only [Option.some.injEq, List.getElem?_cons_zero] at h
      subst h
      exact ⟨_, rfl, a⟩
    | succ i =>
      rw [List.getElem?_cons_succ] at h ⊢
      exact dpAll_at b i x h
theorem dpAll_tk {K : PySem.W.Frag} {H : Hp} : ∀ {xs : List V} {ds : List PyData}, DpAll K H xs ds → ∀ (i : Nat) (d : PyData), ds[i]? = some d → ∃ x, xs[i]? = some x ∧ Dp K H x d
  | _, _, .nil => fun i x h => by simp at h
  | _, _, .cons a b => fun i x h => by
    cases i with
    | zero =>
      simp only [Option.some.injEq, List.getElem?_cons_zero] at h
      subst h
      exact ⟨_, rfl, a⟩
    | succ i =>
      rw [List.getElem?_cons_succ] at h ⊢
      exact dpAll_tk b i x h
theorem dpAll_app {K : PySem.W.Frag} {H : Hp} : ∀ {xs ys : List V} {ds es : List PyData}, DpAll K H xs ds → DpAll K H ys es → DpAll K H (xs ++ ys) (ds ++ es)
  | _, _, _, _, .nil, h => h
  | _, _, _, _, .cons a b, h => .cons a (dpAll_app b h)
theorem dpAll_snoc {K : PySem.W.Frag} {H : Hp} {xs : List V} {ds : List PyData} {y : V} {e : PyData} (h : DpAll K H xs ds) (a : Dp K H y e) : DpAll K H (xs ++ [y]) (ds ++ [e]) := dpAll_app h (.cons a .nil)
/-- a list of data that can't be changed itself -/
def LD (K : PySem.W.Frag) (H : Hp) (a : Addr) (ds : List PyData) : Prop := ∃ xs, H a = some (.lst xs) ∧ DpAll K H xs ds
theorem LD.dp {K : PySem.W.Frag} {H : Hp} {a : Addr} {ds : List PyData} (h : LD K H a ds) : Dp K H (.ref a) (.list ds) := by
  obtain ⟨xs, h1, h2⟩ := h
  exact .lst (SqL.of h1) h2
theorem LD.same {K : PySem.W.Frag} {H H' : Hp} {a : Addr} {ds : List PyData} (s : Same H H') (h : LD K H a ds) : LD K H' a ds := by
  obtain ⟨xs, h1, h2⟩ := h
  exact ⟨xs, s _ _ h1, dpAll_same s h2⟩
/-- where the list itself stands and all tuples do -/
theorem LD.kt {K : PySem.W.Frag} {H H' : Hp} {a : Addr} {ds : List PyData} (s : KT H H') (e : ∀ o, H a = some o → H' a = some o) (t : ∀ d, d ∈ ds → TD d) (h : LD K H a ds) : LD K H' a ds := by
  obtain ⟨xs, h1, h2⟩ := h
  exact ⟨xs, e _ h1, dpAll_kt s h2 t⟩
theorem LD.kp {K : PySem.W.Frag} {H H' : Hp} {a p : Addr} {o : HO} {ds : List PyData} (k : Kp p H H') (hp : H p = some o) (n : ¬ Fix o) (ne : a ≠ p) (t : ∀ d, d ∈ ds → TD d) (h : LD K H a ds) : LD K H' a ds :=
  h.kt (KT.kp k hp n) (fun u e => k _ _ ne e) t
/-- one more at the end -/
theorem LD.snoc {K : PySem.W.Frag} {H H1 : Hp} {a : Addr} {xs : List V} {ds : List PyData} {y : V} {e : PyData} (k : KT H H1) (h1 : H1 a = some (.lst xs)) (hd : DpAll K H xs ds) (t : ∀ d, d ∈ ds → TD d) (hy : Dp K H1 y e) (te : TD e) :
    LD K (upd H1 a (.lst (xs ++ [y]))) a (ds ++ [e]) :=
  ⟨_, upd_same, dpAll_snoc (dpAll_kt (k.trans (KT.put h1 nfix_lst)) hd t) (dp_kt (KT.put h1 nfix_lst) hy te)⟩
theorem shaped_of {d : PyData} (h1 : d.canLay0 = true) (h2 : d.depth ≤ 64) : SeqAt.shaped d = true := by
  unfold SeqAt.shaped
  rw [h1, decide_eq_true h2]
  rfl
theorem if_f {A B : Prop} (h : B) : if false = true then A else B := by
  rw [if_neg (by decide)]
  exact h
theorem if_t {A B : Prop} (h : A) : if true = true then A else B := by
  rw [if_pos rfl]
  exact h
theorem atI_mem {xs : List Int} {i : Int} (h0 : 0 ≤ i) (h1 : i < xs.length) : ∃ v, v ∈ xs ∧ atI (xs.map V.int) i = some (.int v) := by
  have hn : i.toNat < xs.length := by omega
  obtain ⟨j, rfl⟩ : ∃ j : Nat, i = (j : Int) := ⟨i.toNat, by omega⟩
  have hj : j < xs.length := by omega
  refine ⟨xs[j], List.getElem_mem hj, atI_nat ?_⟩
  rw [List.getElem?_map, List.getElem?_eq_getElem hj]
  rfl
end Tg

namespace Tg
open PySem L2
/-! ### rows: time, number, worth or none -/
abbrev Rw := Int × Int × Option Int
def Lt (x y : Rw) : Prop := x.1 < y.1 ∨ (x.1 = y.1 ∧ x.2.1 < y.2.1)
def Srt (rs : List Rw) : Prop := rs.Pairwise Lt
theorem Lt.irr (x : Rw) : ¬ Lt x x := fun h => by
  rcases h with h | h
  · omega
  · omega
theorem Srt.sub {rs : List Rw} (h : Srt rs) (p : Rw → Bool) : Srt (rs.filter p) := List.Pairwise.filter p h
/-- r is the last row of its time with a number up to n -/
def IsLast (rs : List Rw) (n : Int) (r : Rw) : Prop := r ∈ rs ∧ r.2.1 ≤ n ∧ ∀ q, q ∈ rs → q.1 = r.1 → q.2.1 ≤ n → q.2.1 ≤ r.2.1
theorem srt_tri {rs : List Rw} (h : Srt rs) {a b : Rw} (ha : a ∈ rs) (hb : b ∈ rs) : a = b ∨ Lt a b ∨ Lt b a := by
  induction rs with
  | nil => cases ha
  | cons x r ih =>
    have ⟨h1, h2⟩ := List.pairwise_cons.mp (show (x :: r).Pairwise Lt from h)
    rcases List.mem_cons.mp ha with e1 | a1
    · rcases List.mem_cons.mp hb with e2 | b1
      · exact .inl (e1.trans e2.symm)
      · rw [e1]
        exact .inr (.inl (h1 b b1))
    · rcases List.mem_cons.mp hb with e2 | b1
      · rw [e2]
        exact .inr (.inr (h1 a a1))
      · exact ih h2 a1 b1
theorem srt_same {rs : List Rw} (h : Srt rs) {a b : Rw} (ha : a ∈ rs) (hb : b ∈ rs) (e1 : a.1 = b.1) (e2 : a.2.1 = b.2.1) : a = b := by
  rcases srt_tri h ha hb with e | (e | e) | (e | e)
  · exact e
  · omega
  · omega
  · omega
  · omega
theorem last_uniq {rs : List Rw} (h : Srt rs) {n : Int} {a b : Rw} (ha : IsLast rs n a) (hb : IsLast rs n b) (e : a.1 = b.1) : a = b := by
  have h1 := ha.2.2 b hb.1 e.symm hb.2.1
  have h2 := hb.2.2 a ha.1 e ha.2.1
  exact srt_same h ha.1 hb.1 e (by omega)
theorem Srt.nodup {rs : List Rw} (h : Srt rs) : rs.Nodup := by
  unfold List.Nodup
  refine List.Pairwise.imp (fun {a b} (l : Lt a b) => ?_) h
  intro e
  rw [← e] at l
  exact Lt.irr a l
/-! ### tables by times -/
def putL {α : Type} (m : List (Int × α)) (t : Int) (a : α) : List (Int × α) := if (m.any fun p => decide (p.1 = t)) = true then m.map (fun p => if p.1 = t then (p.1, a) else p) else m ++ [(t, a)]
theorem mem_putL {α : Type} {m : List (Int × α)} {t : Int} {a : α} {p : Int × α} : p ∈ putL m t a ↔ p = (t, a) ∨ (p ∈ m ∧ ¬ p.1 = t) := by
  unfold putL
  by_cases c : (m.any fun p => decide (p.1 = t)) = true
  · rw [if_pos c]
    obtain ⟨q, hq, eq⟩ := List.any_eq_true.mp c
    have eq := of_decide_eq_true eq
    constructor
    · intro h
      obtain ⟨x, hx, e⟩ := List.mem_map.mp h
      by_cases d : x.1 = t
      · rw [if_pos d, d] at e
        exact .inl e.symm
      · rw [if_neg d] at e
        subst e
        exact .inr ⟨hx, d⟩
    · rintro (rfl | ⟨h1, h2⟩)
      · exact List.mem_map.mpr ⟨q, hq, by rw [if_pos eq, eq]⟩
      · exact List.mem_map.mpr ⟨p, h1, by rw [if_neg h2]⟩
  · rw [if_neg c]
    constructor
    · intro there
      rcases List.mem_append.mp there with old | new
      · exact .inr ⟨old, fun z => c (List.any_eq_true.mpr ⟨p, old, decide_eq_true z⟩)⟩
      · exact .inl (List.mem_singleton.mp new)
    · rintro (rfl | ⟨h1, h2⟩)
      · exact List.mem_append_right _ (List.mem_singleton.mpr rfl)
      · exact List.mem_append_left _ h1
theorem putL_keys {α : Type} {m : List (Int × α)} {t : Int} {a : α} (h : m.Pairwise fun x y => x.1 < y.1) (le : ∀ p, p ∈ m → p.1 ≤ t) : (putL m t a).Pairwise fun x y => x.1 < y.1 := by
  unfold putL
  by_cases c : (m.any fun p => decide (p.1 = t)) = true
  · rw [if_pos c, List.pairwise_map]
    refine h.imp fun {x y} l => ?_
    by_cases d : x.1 = t
    · by_cases e : y.1 = t
      · rw [if_pos d, if_pos e]
        exact l
      · rw [if_pos d, if_neg e]
        exact l
    · by_cases e : y.1 = t
      · rw [if_neg d, if_pos e]
        exact l
      · rw [if_neg d, if_neg e]
        exact l
  · rw [if_neg c, List.pairwise_append]
    refine ⟨h, List.pairwise_singleton _ _, fun x hx y hy => ?_⟩
    rw [List.mem_singleton.mp hy]
    have h1 := le x hx
    have h2 : ¬ x.1 = t := fun z => c (List.any_eq_true.mpr ⟨x, hx, decide_eq_true z⟩)
    show x.1 < t
    omega
theorem putL_len {α : Type} {m : List (Int × α)} {t : Int} {a : α} : (putL m t a).length ≤ m.length + 1 := by
  unfold putL
  split
  · rw [List.length_map]
    omega
  · rw [List.length_append]
    exact Nat.le_refl _
/-- of each time the last row up to a number -/
def lwR (rs : List Rw) (n : Int) : List (Int × Rw) := rs.foldl (fun m r => if r.2.1 ≤ n then putL m r.1 r else m) []
theorem lwR_snoc (rs : List Rw) (n : Int) (r : Rw) : lwR (rs ++ [r]) n = if r.2.1 ≤ n then putL (lwR rs n) r.1 r else lwR rs n := by
  unfold lwR
  rw [List.foldl_append]
  rfl
theorem lwR_len (rs : List Rw) (n : Int) : (lwR rs n).length ≤ rs.length := by
  obtain ⟨k, hk⟩ : ∃ k, rs.length = k := ⟨_, rfl⟩
  induction k generalizing rs with
  | zero =>
    rw [List.length_eq_zero_iff.mp hk]
    exact Nat.le_refl _
  | succ k ih =>
    rcases List.eq_nil_or_concat rs with rfl | ⟨q, x, e⟩
    · exact Nat.zero_le _
    · rw [List.concat_eq_append] at e
      subst e
      rw [List.length_append] at hk ⊢
      have i1 := ih q (by simp at hk; exact hk)
      rw [lwR_snoc]
      have := putL_len (m := lwR q n) (t := x.1) (a := x)
      show _ ≤ q.length + 1
      split <;> omega
theorem lwR_is {n : Int} (rs : List Rw) (h : Srt rs) : ((lwR rs n).Pairwise fun x y => x.1 < y.1) ∧ ∀ p : Int × Rw, p ∈ lwR rs n ↔ p.1 = p.2.1 ∧ IsLast rs n p.2 := by
  obtain ⟨k, hk⟩ : ∃ k, rs.length = k := ⟨_, rfl⟩
  induction k generalizing rs with
  | zero =>
    rw [List.length_eq_zero_iff.mp hk]
    exact ⟨.nil, fun p => ⟨(fun z => absurd z List.not_mem_nil), (fun z => absurd z.2.1 List.not_mem_nil)⟩⟩
  | succ k ih =>
    rcases List.eq_nil_or_concat rs with rfl | ⟨q, x, e⟩
    · exact ⟨.nil, fun p => ⟨(fun z => absurd z List.not_mem_nil), (fun z => absurd z.2.1 List.not_mem_nil)⟩⟩
    · rw [List.concat_eq_append] at e
      subst e
      rw [List.length_append] at hk
      obtain ⟨h1, _, h3⟩ := List.pairwise_append.mp h
      have hx : ∀ y, y ∈ q → Lt y x := fun y hy => h3 y hy x (List.mem_singleton.mpr rfl)
      obtain ⟨i1, i2⟩ := ih q h1 (by simp at hk; exact hk)
      rw [lwR_snoc]
      by_cases c : x.2.1 ≤ n
      · rw [if_pos c]
        constructor
        · refine putL_keys i1 fun p hp => ?_
          obtain ⟨e1, e2⟩ := (i2 p).mp hp
          rcases hx p.2 e2.1 with l | l <;> omega
        · intro p
          rw [mem_putL]
          constructor
          · rintro (rfl | ⟨h4, h5⟩)
            · refine ⟨rfl, List.mem_append_right _ (List.mem_singleton.mpr rfl), c, fun y hy e4 _ => ?_⟩
              rcases List.mem_append.mp hy with h | h
              · rcases hx y h with l | l
                · have e4' : y.1 = x.1 := e4
                  omega
                · show y.2.1 ≤ x.2.1
                  omega
              · rw [List.mem_singleton.mp h]
                exact Int.le_refl _
            · obtain ⟨e1, e2, e3, e4⟩ := (i2 p).mp h4
              refine ⟨e1, List.mem_append_left _ e2, e3, fun y hy e5 e6 => ?_⟩
              rcases List.mem_append.mp hy with h | h
              · exact e4 y h e5 e6
              · rw [List.mem_singleton.mp h] at e5
                omega
          · rintro ⟨e1, e2, e3, e4⟩
            rcases List.mem_append.mp e2 with h | h
            · by_cases d : p.1 = x.1
              · exfalso
                have := e4 x (List.mem_append_right _ (List.mem_singleton.mpr rfl)) (by omega) c
                rcases hx p.2 h with l | l <;> omega
              · exact .inr ⟨(i2 p).mpr ⟨e1, h, e3, fun y hy => e4 y (List.mem_append_left _ hy)⟩, d⟩
            · left
              have e := List.mem_singleton.mp h
              obtain ⟨p1, p2⟩ := p
              have e' : p2 = x := e
              rw [e'] at e1 ⊢
              exact congrArg (fun z => (z, x)) e1
      · rw [if_neg c]
        refine ⟨i1, fun p => ?_⟩
        rw [i2 p]
        constructor
        · rintro ⟨e1, e2, e3, e4⟩
          refine ⟨e1, List.mem_append_left _ e2, e3, fun y hy e5 e6 => ?_⟩
          rcases List.mem_append.mp hy with h | h
          · exact e4 y h e5 e6
          · rw [List.mem_singleton.mp h] at e6
            exact absurd e6 c
        · rintro ⟨e1, e2, e3, e4⟩
          rcases List.mem_append.mp e2 with h | h
          · exact ⟨e1, h, e3, fun y hy => e4 y (List.mem_append_left _ hy)⟩
          · rw [List.mem_singleton.mp h] at e3
            exact absurd e3 c
/-- there is a last one -/
theorem last_of {rs : List Rw} (h : Srt rs) {n t : Int} {l : Rw} (e : (rs.filter fun q => decide (q.1 = t ∧ q.2.1 ≤ n)).getLast? = some l) : IsLast rs n l ∧ l.1 = t := by
  have ml := List.mem_of_getLast? e
  obtain ⟨m1, m2⟩ := List.mem_filter.mp ml
  obtain ⟨m3, m4⟩ := of_decide_eq_true m2
  refine ⟨⟨m1, m4, fun q hq e1 e2 => ?_⟩, m3⟩
  have mq : q ∈ rs.filter fun q => decide (q.1 = t ∧ q.2.1 ≤ n) := List.mem_filter.mpr ⟨hq, decide_eq_true ⟨by omega, e2⟩⟩
  have hs := h.sub fun q => decide (q.1 = t ∧ q.2.1 ≤ n)
  revert e mq hs
  generalize rs.filter (fun q => decide (q.1 = t ∧ q.2.1 ≤ n)) = fs
  intro e mq hs
  rcases List.eq_nil_or_concat fs with rfl | ⟨g, x, eg⟩
  · cases mq
  · rw [List.concat_eq_append] at eg
    subst eg
    rw [List.getLast?_concat] at e
    cases e
    rcases List.mem_append.mp mq with hg | hg
    · rcases (List.pairwise_append.mp hs).2.2 q hg l (List.mem_singleton.mpr rfl) with z | z <;> omega
    · rw [List.mem_singleton.mp hg]
      exact Int.le_refl _
theorem last_there {rs : List Rw} (h : Srt rs) {n : Int} {r : Rw} (hr : r ∈ rs) (hn : r.2.1 ≤ n) : ∃ l, IsLast rs n l ∧ l.1 = r.1 := by
  cases e : (rs.filter fun q => decide (q.1 = r.1 ∧ q.2.1 ≤ n)).getLast? with
  | some l => exact ⟨l, last_of h e⟩
  | none =>
    rw [List.getLast?_eq_none_iff] at e
    have : r ∈ rs.filter fun q => decide (q.1 = r.1 ∧ q.2.1 ≤ n) := List.mem_filter.mpr ⟨hr, decide_eq_true ⟨rfl, hn⟩⟩
    rw [e] at this
    cases this
/-! ### rising lists are told by their members -/
theorem ext_sorted {α : Type} {lt : α → α → Prop} (irr : ∀ a, ¬ lt a a) (tr : ∀ a b c, lt a b → lt b c → lt a c) : ∀ {xs ys : List α}, xs.Pairwise lt → ys.Pairwise lt → (∀ a, a ∈ xs ↔ a ∈ ys) → xs = ys
  | [], [], _, _, _ => rfl
  | [], y :: ys, _, _, h => nomatch (h y).mpr List.mem_cons_self
  | x :: xs, [], _, _, h => nomatch (h x).mp List.mem_cons_self
  | x :: xs, y :: ys, h1, h2, h => by
    obtain ⟨a1, a2⟩ := List.pairwise_cons.mp h1
    obtain ⟨b1, b2⟩ := List.pairwise_cons.mp h2
    have e : x = y := by
      rcases List.mem_cons.mp ((h x).mp List.mem_cons_self) with z | z
      · exact z
      · rcases List.mem_cons.mp ((h y).mpr List.mem_cons_self) with u | u
        · exact u.symm
        · exact absurd (tr _ _ _ (a1 y u) (b1 x z)) (irr x)
    subst e
    refine congrArg (x :: ·) (ext_sorted irr tr a2 b2 fun a => ?_)
    constructor
    · intro ha
      rcases List.mem_cons.mp ((h a).mp (List.mem_cons_of_mem _ ha)) with z | z
      · rw [z] at ha
        exact absurd (a1 x ha) (irr x)
      · exact z
    · intro ha
      rcases List.mem_cons.mp ((h a).mpr (List.mem_cons_of_mem _ ha)) with z | z
      · rw [z] at ha
        exact absurd (b1 x ha) (irr x)
      · exact z
/-! ### what is known -/
def kn (rs : List Rw) (n : Int) : List (Int × Int) := (lwR rs n).filterMap fun p => p.2.2.2.map fun w => (p.1, w)
theorem mem_kn {rs : List Rw} (h : Srt rs) {n : Int} {x : Int × Int} : x ∈ kn rs n ↔ ∃ r, IsLast rs n r ∧ r.1 = x.1 ∧ r.2.2 = some x.2 := by
  unfold kn
  rw [List.mem_filterMap]
  constructor
  · rintro ⟨p, hp, e⟩
    obtain ⟨e1, e2⟩ := ((lwR_is rs h).2 p).mp hp
    obtain ⟨w, e3, rfl⟩ := Option.map_eq_some_iff.mp e
    exact ⟨p.2, e2, e1.symm, e3⟩
  · rintro ⟨r, h1, h2, h3⟩
    refine ⟨(r.1, r), ((lwR_is rs h).2 _).mpr ⟨rfl, h1⟩, ?_⟩
    rw [h3, h2]
    rfl
theorem kn_srt {rs : List Rw} (h : Srt rs) (n : Int) : (kn rs n).Pairwise fun x y => x.1 < y.1 := by
  unfold kn
  rw [List.pairwise_filterMap]
  refine (lwR_is rs h).1.imp fun {a b} l x hx y hy => ?_
  obtain ⟨w, _, rfl⟩ := Option.map_eq_some_iff.mp hx
  obtain ⟨u, _, rfl⟩ := Option.map_eq_some_iff.mp hy
  exact l
theorem kn_len (rs : List Rw) (n : Int) : (kn rs n).length ≤ rs.length := Nat.le_trans (List.length_filterMap_le _ _) (lwR_len rs n)
theorem kn_ext {rs qs : List Rw} (h1 : Srt rs) (h2 : Srt qs) {n m : Int} (h : ∀ r, r.2.2 ≠ none → (IsLast rs n r ↔ IsLast qs m r)) : kn rs n = kn qs m := by
  refine ext_sorted (lt := fun x y => x.1 < y.1) (fun a => Int.lt_irrefl _) (fun a b c => Int.lt_trans) (kn_srt h1 n) (kn_srt h2 m) fun x => ?_
  rw [mem_kn h1, mem_kn h2]
  constructor
  · rintro ⟨r, a, b, c⟩
    exact ⟨r, (h r (by rw [c]; simp)).mp a, b, c⟩
  · rintro ⟨r, a, b, c⟩
    exact ⟨r, (h r (by rw [c]; simp)).mpr a, b, c⟩
/-! ### what is needed -/
instance (rs : List Rw) (n : Int) (r : Rw) : Decidable (IsLast rs n r) := by
  unfold IsLast
  exact inferInstance
def Need (rs : List Rw) (n : Int) (r : Rw) : Prop := n < r.2.1 ∨ (IsLast rs n r ∧ ¬ r.2.2 = none)
instance (rs : List Rw) (n : Int) (r : Rw) : Decidable (Need rs n r) := by
  unfold Need
  exact inferInstance
def fl (rs : List Rw) (n : Int) (r : Rw) : Bool := decide (Need rs n r)
def thin (rs : List Rw) (n : Int) : List Rw := rs.filter (fl rs n)
def ndl (rs : List Rw) (n : Int) : List Rw := rs.filter fun r => !fl rs n r
theorem thin_known {rs : List Rw} (h : Srt rs) {n m : Int} (le : n ≤ m) : kn (thin rs n) m = kn rs m := by
  refine kn_ext (h.sub _) h fun r hr => ?_
  constructor
  · rintro ⟨a1, a2, a3⟩
    obtain ⟨b1, b2⟩ := List.mem_filter.mp a1
    have b3 : Need rs n r := of_decide_eq_true b2
    refine ⟨b1, a2, fun q hq e1 e2 => ?_⟩
    by_cases c : n < q.2.1
    · exact a3 q (List.mem_filter.mpr ⟨hq, decide_eq_true (.inl c)⟩) e1 e2
    · rcases b3 with z | z
      · omega
      · exact z.1.2.2 q hq e1 (by omega)
  · rintro ⟨a1, a2, a3⟩
    refine ⟨List.mem_filter.mpr ⟨a1, decide_eq_true ?_⟩, a2, fun q hq e1 e2 => a3 q (List.mem_filter.mp hq).1 e1 e2⟩
    by_cases c : n < r.2.1
    · exact .inl c
    · exact .inr ⟨⟨a1, by omega, fun q hq e1 e2 => a3 q hq e1 (by omega)⟩, hr⟩
/-- a row left out is missed -/
theorem missed {rs : List Rw} (h : Srt rs) {n : Int} {row : Rw} (hm : row ∈ thin rs n) (hw : ¬ row.2.2 = none) {b : Int} (eb : b = max n row.2.1)
    (he : (((thin rs n).filter fun q => !decide (q = row)).filter fun q => decide (q.1 = row.1 ∧ q.2.1 ≤ b)).getLast?.map (·.2.2) ≠ some row.2.2) :
    kn ((thin rs n).filter fun q => !decide (q = row)) b ≠ kn (thin rs n) b := fun z => by
  have hl : Srt (thin rs n) := h.sub _
  have hf : Srt ((thin rs n).filter fun q => !decide (q = row)) := hl.sub _
  obtain ⟨w, ew⟩ : ∃ w, row.2.2 = some w := by
    cases e : row.2.2 with
    | none => exact absurd e hw
    | some w => exact ⟨w, rfl⟩
  have last : IsLast (thin rs n) b row := by
    refine ⟨hm, by omega, fun q hq e1 e2 => ?_⟩
    obtain ⟨m1, m2⟩ := List.mem_filter.mp hm
    have nd : Need rs n row := of_decide_eq_true m2
    rcases nd with c | c
    · omega
    · have := c.1.2.1
      exact c.1.2.2 q (List.mem_filter.mp hq).1 e1 (by omega)
  have m1 : (row.1, w) ∈ kn (thin rs n) b := (mem_kn hl).mpr ⟨row, last, rfl, ew⟩
  rw [← z, mem_kn hf] at m1
  obtain ⟨r, r1, r2, r3⟩ := m1
  cases e : (((thin rs n).filter fun q => !decide (q = row)).filter fun q => decide (q.1 = row.1 ∧ q.2.1 ≤ b)).getLast? with
  | none =>
    rw [List.getLast?_eq_none_iff] at e
    have : r ∈ ((thin rs n).filter fun q => !decide (q = row)).filter fun q => decide (q.1 = row.1 ∧ q.2.1 ≤ b) := List.mem_filter.mpr ⟨r1.1, decide_eq_true ⟨r2, r1.2.1⟩⟩
    rw [e] at this
    cases this
  | some l =>
    obtain ⟨l1, l2⟩ := last_of hf e
    have el := last_uniq hf r1 l1 (by rw [l2]; exact r2)
    refine he ?_
    rw [e, ← el, ew]
    exact congrArg some r3
/-! ### the tables as dicts -/
def lwV (f : Rw → V) (rs : List Rw) (n : Int) : List (Key × V) := rs.foldl (fun m r => if r.2.1 ≤ n then putK m (Sum.inl r.1) (f r) else m) []
theorem lwV_snoc (f : Rw → V) (rs : List Rw) (n : Int) (r : Rw) : lwV f (rs ++ [r]) n = if r.2.1 ≤ n then putK (lwV f rs n) (Sum.inl r.1) (f r) else lwV f rs n := by
  unfold lwV
  rw [List.foldl_append]
  rfl
theorem putK_map (f : Rw → V) (m : List (Int × Rw)) (t : Int) (r : Rw) : putK (m.map fun p => ((Sum.inl p.1 : Key), f p.2)) (Sum.inl t) (f r) = (putL m t r).map fun p => ((Sum.inl p.1 : Key), f p.2) := by
  unfold putK putL
  have e : ((m.map fun p => ((Sum.inl p.1 : Key), f p.2)).any fun kv => decide (kv.1 = Sum.inl t)) = m.any fun p => decide (p.1 = t) := by
    rw [List.any_map]
    refine List.any_congr rfl fun p => ?_
    simp only [Function.comp_apply, Sum.inl.injEq]
  rw [e]
  by_cases c : (m.any fun p => decide (p.1 = t)) = true
  · rw [if_pos c, if_pos c, List.map_map, List.map_map]
    refine List.map_congr_left fun p _ => ?_
    simp only [Function.comp_apply]
    by_cases d : p.1 = t
    · rw [if_pos (congrArg Sum.inl d), if_pos d]
    · rw [if_neg (fun z => d (Sum.inl.inj z)), if_neg d]
  · rw [if_neg c, if_neg c, List.map_append]
    rfl
theorem lwV_eq (f : Rw → V) (rs : List Rw) (n : Int) : lwV f rs n = (lwR rs n).map fun p => ((Sum.inl p.1 : Key), f p.2) := by
  obtain ⟨k, hk⟩ : ∃ k, rs.length = k := ⟨_, rfl⟩
  induction k generalizing rs with
  | zero =>
    rw [List.length_eq_zero_iff.mp hk]
    rfl
  | succ k ih =>
    rcases List.eq_nil_or_concat rs with rfl | ⟨q, x, e⟩
    · rfl
    · rw [List.concat_eq_append] at e
      subst e
      rw [List.length_append] at hk
      have i1 := ih q (by simp at hk; exact hk)
      rw [lwV_snoc, lwR_snoc, i1]
      by_cases c : x.2.1 ≤ n
      · rw [if_pos c, if_pos c, putK_map]
      · rw [if_neg c, if_neg c]
theorem lwV_len (f : Rw → V) (rs : List Rw) (n : Int) : (lwV f rs n).length ≤ rs.length := by
  rw [lwV_eq, List.length_map]
  exact lwR_len rs n
theorem valV_of {f : Rw → V} : ∀ {m : List (Int × Rw)} {p : Int × Rw}, (m.Pairwise fun x y => x.1 < y.1) → p ∈ m → valV (m.map fun p => ((Sum.inl p.1 : Key), f p.2)) (Sum.inl p.1) = some (f p.2)
  | [], p, _, h => nomatch h
  | q :: m, p, .cons h1 h2, there => by
    rcases List.mem_cons.mp there with rfl | h
    · exact valV_pos rfl
    · rw [List.map_cons, valV_neg (fun z => by
        have := h1 p h
        have : q.1 = p.1 := Sum.inl.inj z
        omega)]
      exact valV_of h2 h
theorem lwV_last {f : Rw → V} {rs : List Rw} (h : Srt rs) {n : Int} {r : Rw} (hl : IsLast rs n r) : valV (lwV f rs n) (Sum.inl r.1 : Key) = some (f r) := by
  rw [lwV_eq]
  exact valV_of (p := (r.1, r)) (lwR_is rs h).1 (((lwR_is rs h).2 _).mpr ⟨rfl, hl⟩)
/-- the values of a list of unlike rows, as a function -/
theorem val_fun : ∀ (rs : List Rw) (xs : List V), rs.Nodup → ∃ f : Rw → V, ∀ (i : Nat) (r : Rw) (v : V), rs[i]? = some r → xs[i]? = some v → f r = v
  | [], xs, _ => ⟨fun _ => .non, fun i r v h => by simp at h⟩
  | r0 :: rs, [], _ => ⟨fun _ => .non, fun i r v _ h => by simp at h⟩
  | r0 :: rs, x :: xs, nd => by
    have n1 := (List.nodup_cons.mp nd).1
    obtain ⟨f, hf⟩ := val_fun rs xs (List.nodup_cons.mp nd).2
    refine ⟨fun r => if r = r0 then x else f r, fun i r v h1 h2 => ?_⟩
    cases i with
    | zero =>
      simp only [List.getElem?_cons_zero, Option.some.injEq] at h1 h2
      show (if r = r0 then x else f r) = v
      rw [if_pos h1.symm, h2]
    | succ i =>
      rw [List.getElem?_cons_succ] at h1 h2
      have ne : ¬ r = r0 := fun z => n1 (z ▸ List.mem_of_getElem? h1)
      show (if r = r0 then x else f r) = v
      rw [if_neg ne]
      exact hf i r v h1 h2
end Tg

namespace Tg
open PySem PySem.Spec PyProof.Rows L2
/-! ### rows and points as data -/
def dw : Option Int → PyData
  | none => .none
  | some i => .int i
def vw : Option Int → V
  | none => .non
  | some i => .int i
theorem dp_vw {K : PySem.W.Frag} {H : Hp} : ∀ o : Option Int, Dp K H (vw o) (dw o)
  | none => .non
  | some i => .int i
theorem dp_dw {K : PySem.W.Frag} {H : Hp} {v : V} : ∀ {o : Option Int}, Dp K H v (dw o) → v = vw o
  | none, h => by
    cases h
    rfl
  | some i, h => by
    cases h
    rfl
theorem vw_non (o : Option Int) : decide (vw o = .non) = o.isNone := by
  cases o with
  | none => rfl
  | some i => rfl
theorem td_dw : ∀ o : Option Int, TD (dw o)
  | none => .non
  | some i => .int i
theorem eq_dw (a b : Option Int) : PyData.eqv (dw a) (dw b) = decide (a = b) := by
  cases a with
  | none =>
    cases b with
    | none => rfl
    | some j => rfl
  | some i =>
    cases b with
    | none => rfl
    | some j =>
      show (i == j) = _
      by_cases c : i = j
      · rw [c, beq_self_eq_true, decide_eq_true rfl]
      · rw [beq_eq_false_iff_ne.mpr c, decide_eq_false fun z => c (Option.some.inj z)]
def rd (r : Rw) : PyData := .tuple [.int r.1, .int r.2.1, dw r.2.2]
def pd (x : Int × Int) : PyData := .tuple [.int x.1, .int x.2]
theorem td_rd (r : Rw) : TD (rd r) := .tup fun d hd => by
  simp only [List.mem_cons, List.not_mem_nil, or_false] at hd
  rcases hd with rfl | rfl | rfl
  · exact .int _
  · exact .int _
  · exact td_dw _
theorem td_rds (rs : List Rw) : ∀ d, d ∈ rs.map rd → TD d := fun d hd => by
  obtain ⟨x, _, rfl⟩ := List.mem_map.mp hd
  exact td_rd x
theorem td_pd (x : Int × Int) : TD (pd x) := .tup fun d hd => by
  simp only [List.mem_cons, List.not_mem_nil, or_false] at hd
  rcases hd with rfl | rfl
  · exact .int _
  · exact .int _
theorem td_pds (ps : List (Int × Int)) : ∀ d, d ∈ ps.map pd → TD d := fun d hd => by
  obtain ⟨x, _, rfl⟩ := List.mem_map.mp hd
  exact td_pd x
theorem dp_rd {K : PySem.W.Frag} {H : Hp} {v : V} {r : Rw} (h : Dp K H v (rd r)) : ∃ a, v = .ref a ∧ SqT K H a [.int r.1, .int r.2.1, vw r.2.2] := by
  cases h with
  | tup a b =>
    cases b with
    | cons h1 b =>
      cases b with
      | cons h2 b =>
        cases b with
        | cons h3 b =>
          cases b
          cases h1
          cases h2
          rw [dp_dw h3] at a
          exact ⟨_, rfl, a⟩
theorem rd_new {K : PySem.W.Frag} {H : Hp} {a : Addr} {r : Rw} (h : SqT K H a [.int r.1, .int r.2.1, vw r.2.2]) : Dp K H (.ref a) (rd r) := .tup h (.cons (.int _) (.cons (.int _) (.cons (dp_vw _) .nil)))
theorem pd_new {K : PySem.W.Frag} {H : Hp} {a : Addr} {x : Int × Int} (h : H a = some (.tup [.int x.1, .int x.2])) : Dp K H (.ref a) (pd x) := .tup (SqT.of h) (.cons (.int _) (.cons (.int _) .nil))
theorem lay_dw : ∀ o : Option Int, (dw o).canLay0 = true
  | none => rfl
  | some i => rfl
theorem dep_dw : ∀ o : Option Int, (dw o).depth = 0
  | none => rfl
  | some i => rfl
theorem lay_rd (r : Rw) : (rd r).canLay0 = true := by
  show (true && (true && ((dw r.2.2).canLay0 && true))) = true
  rw [lay_dw]
  rfl
theorem dep_rd (r : Rw) : (rd r).depth = 1 := by
  show max 0 (max 0 (max (dw r.2.2).depth 0)) + 1 = 1
  rw [dep_dw]
  rfl
theorem eq_rd (a b : Rw) : PyData.eqv (rd a) (rd b) = decide (a = b) := by
  show ((a.1 == b.1) && ((a.2.1 == b.2.1) && (PyData.eqv (dw a.2.2) (dw b.2.2) && true))) = _
  rw [eq_dw]
  by_cases c : a = b
  · subst c
    rw [beq_self_eq_true, beq_self_eq_true, decide_eq_true rfl, decide_eq_true rfl]
    rfl
  · rw [decide_eq_false c]
    by_cases c1 : a.1 = b.1
    · by_cases c2 : a.2.1 = b.2.1
      · by_cases c3 : a.2.2 = b.2.2
        · exact absurd (Prod.ext c1 (Prod.ext c2 c3)) c
        · rw [decide_eq_false c3]
          simp
      · rw [beq_eq_false_iff_ne.mpr c2]
        simp
    · rw [beq_eq_false_iff_ne.mpr c1]
      rfl
/-- lists of things of such a form -/
theorem form_all {α : Type} {f : α → PyData} (h1 : ∀ x, (f x).canLay0 = true) (h2 : ∀ x, (f x).depth ≤ 1) (h3 : ∀ x, PyData.eqv (f x) (f x) = true) (xs : List α) :
    PyData.canLayAll0 (xs.map f) = true ∧ PyData.depthAll (xs.map f) ≤ 1 ∧ PyData.eqvAll (xs.map f) (xs.map f) = true := by
  induction xs with
  | nil => exact ⟨rfl, Nat.zero_le _, rfl⟩
  | cons x r ih =>
    obtain ⟨i1, i2, i3⟩ := ih
    refine ⟨?_, ?_, ?_⟩
    · show ((f x).canLay0 && PyData.canLayAll0 (r.map f)) = true
      rw [h1, i1]
      rfl
    · show max (f x).depth (PyData.depthAll (r.map f)) ≤ 1
      have := h2 x
      omega
    · show (PyData.eqv (f x) (f x) && PyData.eqvAll (r.map f) (r.map f)) = true
      rw [h3, i3]
      rfl
theorem form_list {α : Type} {f : α → PyData} (h1 : ∀ x, (f x).canLay0 = true) (h2 : ∀ x, (f x).depth ≤ 1) (h3 : ∀ x, PyData.eqv (f x) (f x) = true) (xs : List α) : SeqAt.shaped (.list (xs.map f)) = true ∧ PyData.eqv (.list (xs.map f)) (.list (xs.map f)) = true := by
  obtain ⟨a, b, c⟩ := form_all h1 h2 h3 xs
  refine ⟨shaped_of a ?_, c⟩
  show PyData.depthAll (xs.map f) + 1 ≤ 64
  omega
theorem ref_rd (r : Rw) : PyData.eqv (rd r) (rd r) = true := by
  rw [eq_rd]
  exact decide_eq_true rfl
theorem rds_form (rs : List Rw) : SeqAt.shaped (.list (rs.map rd)) = true ∧ PyData.eqv (.list (rs.map rd)) (.list (rs.map rd)) = true := form_list lay_rd (fun r => Nat.le_of_eq (dep_rd r)) ref_rd rs
theorem ref_pd (x : Int × Int) : PyData.eqv (pd x) (pd x) = true := by
  show ((x.1 == x.1) && ((x.2 == x.2) && true)) = true
  rw [beq_self_eq_true, beq_self_eq_true]
  rfl
theorem pds_form (ps : List (Int × Int)) : SeqAt.shaped (.list (ps.map pd)) = true ∧ PyData.eqv (.list (ps.map pd)) (.list (ps.map pd)) = true := form_list (f := pd) (fun _ => rfl) (fun _ => Nat.le_refl 1) ref_pd ps
theorem sh_rd (r : Rw) : SeqAt.shaped (rd r) = true := shaped_of (lay_rd r) (by rw [dep_rd]; decide)
theorem dl_at {α : Type} {f : α → PyData} {K : PySem.W.Frag} {H : Hp} {xs : List V} {ps : List α} (h : DpAll K H xs (ps.map f)) {i : Nat} {v : V} (e : xs[i]? = some v) : ∃ x, ps[i]? = some x ∧ Dp K H v (f x) := by
  obtain ⟨d, h1, h2⟩ := dpAll_at h i v e
  rw [List.getElem?_map] at h1
  obtain ⟨x, h3, rfl⟩ := Option.map_eq_some_iff.mp h1
  exact ⟨x, h3, h2⟩
theorem dl_get {α : Type} {f : α → PyData} {K : PySem.W.Frag} {H : Hp} {xs : List V} {ps : List α} (h : DpAll K H xs (ps.map f)) {i : Nat} {x : α} (e : ps[i]? = some x) : ∃ v, xs[i]? = some v ∧ Dp K H v (f x) := dpAll_tk h i (f x) (by rw [List.getElem?_map, e]; rfl)
theorem dl_len {α : Type} {f : α → PyData} {K : PySem.W.Frag} {H : Hp} {xs : List V} {ps : List α} (h : DpAll K H xs (ps.map f)) : xs.length = ps.length := by
  have := dpAll_len h
  rw [List.length_map] at this
  exact this
theorem nodup_len {α : Type} [DecidableEq α] : ∀ {rs L : List α}, rs.Nodup → (∀ r, r ∈ rs → r ∈ L) → rs.length ≤ L.length
  | [], L, _, _ => Nat.zero_le _
  | r :: rs, L, nd, h => by
    have n1 := (List.nodup_cons.mp nd).1
    have n2 := (List.nodup_cons.mp nd).2
    have hr : r ∈ L := h r List.mem_cons_self
    have i := nodup_len (rs := rs) (L := L.erase r) n2 fun q hq => (List.mem_erase_of_ne (fun z : q = r => n1 (by rw [← z]; exact hq))).mpr (h q (List.mem_cons_of_mem _ hq))
    rw [List.length_erase_of_mem hr] at i
    have := List.length_pos_of_mem hr
    show rs.length + 1 ≤ L.length
    omega
theorem take_snoc {α : Type} {L : List α} {i : Nat} {x : α} (h : L[i]? = some x) : L.take (i + 1) = L.take i ++ [x] := by
  rw [List.take_add_one, h]
  rfl
end Tg

namespace Tg
open PySem PySem.Spec PyProof.Rows L2
/-! ### a new thing that is only read from now on -/
section
variable {X : Cx} {e : Expr} {t : TE}
def tFrz (t : TE) : TE := fun σ H Q => t σ H fun x H1 => ∃ d u, x = .ref d ∧ H1 d = some u ∧ Mut (some u) ∧ ∀ od, Q x (upd H1 d (.frz od u))
theorem pe_frz (h : PE X e t) : PE X e (tFrz t) := by
  constructor
  intro pins s σ H Q I read
  refine thn (h.run pins s σ H _ I read) fun v s1 y => ?_
  obtain ⟨x, H1, J, r, d, u, ex, hd, mu, q⟩ := y
  obtain ⟨od, J2⟩ := J.lock hd mu
  exact ⟨x, _, J2, r, q od⟩
/-- a statement that is never reached -/
theorem ps_dead {st : Stmt} : PS X st (fun _ _ _ => False) := ⟨fun _ _ _ _ _ _ h => h.elim⟩
end
end Tg

set_option maxHeartbeats 2000000
namespace Tg
open PySem PySem.Spec PyProof.Rows L2
/-! ### a caught exception that is kept in a name: try: .. except T as e: kept = e -/
/-- the exception of the class cls, its dict at d, at a -/
def ExV (cls : Value) (d : Option Addr) (a : Addr) : HO := .ext fun h => ∃ (oe : Obj) (vs : Array Value), h.get? a = some oe ∧ Zc cls d oe ∧ oe.data = .fields vs
theorem exV_ok {P : Program} {w : World} {H : Hp} {h : Heap} {a : Addr} {cls : Value} {d : Option Addr} {oe : Obj} {vs : Array Value} (e : h.get? a = some oe) (z : Zc cls d oe) (q : oe.data = .fields vs) : ObjOk P w H h a (ExV cls d a) := by
  refine ⟨⟨oe, vs, e, z, q⟩, ⟨oe, e⟩, fun h1 h2 y st => ?_⟩
  obtain ⟨o1, v1, e1, z1, q1⟩ := y
  exact ⟨o1, v1, st _ e1, z1, q1⟩
section
variable {X : Cx} {s : Shared} {H : Hp} {σ : L2.St} {pins : List (Addr × Obj)}
theorem track {a : Addr} {oe : Obj} {vs : Array Value} {o : HO} (I : Inv X pins σ H s) (h0 : X.s_0.heap.get? a = none) (he : s.heap.get? a = some oe) (hd : oe.data = .fields vs) (na : H a = none)
    (nL : a ≠ X.env.locals) (np : ∀ p, p ∈ X.pn ++ pins → p.1 ≠ a) (new : ObjOk X.prog X.w (upd H a o) s.heap a o) : Inv X pins σ (upd H a o) s where
  ok := I.ok
  os := I.os
  bare := I.bare
  base := {
    keep := I.base.keep
    slot := I.base.slot
    free := fun b u q n x => by
      rw [upd_ne (fun z => by rw [z, h0] at q; cases q)]
      exact I.base.free b u q n x
    there := I.base.there
    tups := fun b xs q => by
      have y := I.base.tups b xs q
      rw [upd_ne (ne_of_none y na)]
      exact y
    frzs := fun b u xs q => by
      have y := I.base.frzs b u xs q
      rw [upd_ne (ne_of_none y na)]
      exact y
    tbls := fun b ps q => by
      obtain ⟨m, y⟩ := I.base.tbls b ps q
      refine ⟨m, ?_⟩
      rw [upd_ne (ne_of_none y na)]
      exact y }
  loc := I.loc
  cell := I.cell
  free := by
    rw [upd_ne nL.symm]
    exact I.free
  freeC := fun x c e => by
    have nc : c ≠ a := fun z => by
      obtain ⟨v, y⟩ := I.cell x c e
      obtain ⟨oc, y1, y2⟩ := y
      rw [z, he] at y1
      cases y1
      rw [hd] at y2
      cases y2
    rw [upd_ne nc]
    exact I.freeC x c e
  pin := fun p hp => by
    obtain ⟨y1, y2, y3⟩ := I.pin p hp
    refine ⟨y1, ?_, y3⟩
    rw [upd_ne (np p hp)]
    exact y2
  hok := I.hok.laidN (fun _ _ z => z) na new
  len := I.len
/-- what is wanted of an exception of the body: its class is one that the clause takes; it is kept in slot j -/
def wKeep (Mt : Value → Prop) (i j : Nat) (D : Ends) : WX := fun cls d σ H => Mt cls ∧ ∀ a, H a = none → D.nx (((σ.set i (some (.ref a))).set j (some (.ref a))).set i none) (upd H a (ExV cls d a))
/-- the clause's test: its value takes each exception of such a class -/
def Tests (X : Cx) (test : Expr) (Mt : Value → Prop) : Prop := ∀ (a : Addr) (oe : Obj) (pn : List (Addr × Obj)) (s : Shared) (σ : L2.St) (H : Hp) (Q : Value → Shared → Prop) (E : Value → Shared → Prop),
  Inv (X.suite a ((a, oe) :: pn)) [] σ H s → s.heap.get? a = some oe → Mt oe.cls →
  (∀ (c : Value) (s' : Shared), (∀ b o, s.heap.get? b = some o → s'.heap.get? b = some o) → s'.os = s.os → s'.gens = s.gens → PySem.W.Looks (model X.prog X.w) s'.heap (excMatches (.ref a) c) true → Q c s') →
    wpAny (model X.prog X.w) (X.A.mark (some (.ref a))) (eval test X.env) Q E s
theorem flying_keeps {B : Heap} {l : List Env} {a : Addr} {Z : Obj → Prop} {h h' : Heap} (k : ∀ b o, h.get? b = some o → h'.get? b = some o) (f : HandSPX.FlyingZ B l a Z h) : HandSPX.FlyingZ B l a Z h' := by
  obtain ⟨f1, f2, f3, oe, vs, T, oT, ts, y1, y2, y3, y4, y5, y6, y7, y8, y9⟩ := f
  exact ⟨fun b o e => k _ _ (f1 b o e), f2, Heap.FunFrames.of_keeps (fun b o e _ => ⟨o, k _ _ e, rfl⟩) f3, oe, vs, T, oT, ts, k _ _ y1, y2, y3, y4, y5, y6, k _ _ y7, y8, y9⟩
variable {n y : Str} {i j : Nat} {body : List Stmt} {test : Expr} {py pn' ps' pos pos' : Pos} {tb : WX → TS} {Mt : Value → Prop}
/-- a try's body, whatever is wished of the exceptions that leave it -/
def Bodies (X : Cx) (body : List Stmt) (tb : WX → TS) : Prop := ∀ W pn xe, Takes (X.tr pn xe) W → PassesOwn (model X.prog X.w) X.A X.env xe → PSs (X.tr pn xe) body (tb W)
/-- the same state, one thing more (or less) pinned -/
theorem repin {Y Z : Cx} {p q : List (Addr × Obj)} (I : Inv Y p σ H s) (ok : Z.Ok) (e : Z = { Y with A := Z.A, calm := Z.calm, pn := Z.pn, xe := Z.xe }) (sub : ∀ r, r ∈ Z.pn ++ q → r ∈ Y.pn ++ p) : Inv Z q σ H s := by
  obtain ⟨_, f2, f3, f4, f5, f6, f7, f8, f9, f10, f11⟩ := I
  rw [e] at ok sub ⊢
  exact ⟨ok, f2, f3, f4, f5, f6, f7, f8, fun r hr => f9 r (sub r hr), f10, f11⟩
theorem ps_try_keep (top : X.stack = X.env :: X.outer) (own : X.env.frame = some X.env.locals) (noex : X.ex = []) (nd : X.N.Nodup) (at_i : X.N[i]? = some n) (at_j : X.N[j]? = some y) (loc_n : X.env.scope.names.lookup n = some .local)
    (loc_y : X.env.scope.names.lookup y = some .local) (takes : Tests X test Mt) (bodies : Bodies X body tb) (nodebug : (n == ("__debug__" : Str)) = false := by decide) (noclass : (n == ("__classdict__" : Str)) = false := by decide) :
    PS X (.Try body [.ExceptHandler (some test) (some n) [.Assign [.Name y py] (.Name n pn') ps'] pos'] [] [] pos) (fun D σ H => tb (wKeep Mt i j D) D σ H) := by
  constructor
  intro pins s σ H D I read
  have frames := I.ok.frames.trans (congrArg some top)
  refine wpAny_Try_except (wpAny_mono ((bodies (wKeep Mt i j D) (X.pn ++ pins) _ (fun u s' air => ?_) PassesOwn.looking).run [] s σ H D (I.toTry _) read) (fun f s1 z => ?_) (fun _ _ z => z))
  · obtain ⟨a, B, s0, _, σ0, H0, cls, d, rfl, J0, ground, up, sky, na, os, gens, takes_it, wish⟩ := air
    have J : Inv X pins σ0 H0 s0 := J0.ofTry I.ok
    rw [show (X.tr (X.pn ++ pins) _).stack = X.env :: X.outer from top] at sky ground
    refine Sky.land Zc.steady frames own sky fun h3 fly3 up3 => ?_
    have J3 := J.landed (s' := { s' with heap := h3 }) (B := B) (by rw [top]; exact ground) fly3.1 (up.trans up3) os gens
    obtain ⟨o3, v3, get3, kind3, data3⟩ := fly3.there
    -- it is none of the frames, and it wasn't there ahead of the try
    have noframe : a ∉ frs (X.env :: X.outer) := fun m => by
      obtain ⟨_, _, e, nofields⟩ := fly3.2.2.1.mem m
      cases get3.symm.trans e
      exact nofields _ data3
    have noloc : a ≠ X.env.locals := fun z => noframe (by
      rw [z]
      exact List.mem_filterMap.mpr ⟨X.env, List.mem_cons_self, own⟩)
    have noouter : a ∉ X.fs := fun m => noframe (by
      obtain ⟨env, h1, h2⟩ := List.mem_filterMap.mp m
      exact List.mem_filterMap.mpr ⟨env, .tail _ h1, h2⟩)
    have new0 : s0.heap.get? a = none := by
      rcases q : s0.heap.get? a with _ | o
      · rfl
      · exact nomatch (ground a o q noframe).symm.trans fly3.2.1
    have new : X.s_0.heap.get? a = none := by
      rcases q : X.s_0.heap.get? a with _ | o
      · rfl
      · exact (J.base.there a o q (by rw [noex]; exact List.not_mem_nil)).elim fun _ z => nomatch z.symm.trans new0
    have nopin : ∀ p, p ∈ X.pn ++ pins → p.1 ≠ a := fun p m z => by
      have there := (J.pin p m).1
      rw [z, new0] at there
      cases there
    refine wpAny_handleBy_cons (codeAny_handlers_test (takes a o3 _ _ σ0 H0 _ _ (J3.suite get3 data3 na noloc noouter) get3 (by rw [kind3.1]; exact takes_it) fun c s4 kp4 os4 gens4 match4 => match4.here ?_)) (fun z => nomatch z)
    refine codeAny_handlers_suite_as (HandSPX.lands_againZ (flying_keeps kp4 fly3) fun h5 fly5 up5 => ?_)
    have up4 : h3.UpToSlots s4.heap := fun b o z _ => ⟨o.slots, kp4 _ _ z⟩
    have J5 := J.landed (s' := { s4 with heap := h5 }) (B := B) (by rw [top]; exact ground) fly5.1 (((up.trans up3).trans up4).trans up5) (os4.trans os) (by rw [show ({ s4 with heap := h5 } : Shared).gens = s4.gens from rfl, gens4]; exact gens)
    obtain ⟨o5, v5, get5, kind5, data5⟩ := fly5.there
    refine store_ok (X := X.suite a ((a, o5) :: (X.pn ++ pins))) (v := .ref a) (J5.suite get5 data5 na noloc noouter) nd at_i (.inl loc_n) rfl (fun s6 J6 => ?_) (.inr loc_n)
    -- kept = e
    have keep : PSs (X.suite a ((a, o5) :: (X.pn ++ pins))) [.Assign [.Name y py] (.Name n pn') ps'] (tAsg (tVar i) (gName j)) := pss_one (ps_set nd at_j (.inl loc_y) (pe_var at_i (.inl loc_n) nodebug noclass) (by rfl) (.inr loc_y))
    have short : i < σ0.length := by
      rw [J.len]
      exact (List.getElem?_eq_some_iff.mp at_i).1
    refine wpAny_mono (keep.run [] s6 _ H0 { nx := fun σ7 H7 => σ7 = (σ0.set i (some (.ref a))).set j (some (.ref a)) ∧ H0 = H7, rt := fun _ _ => False, bk := fun _ _ => False, ct := fun _ _ => False } J6 ⟨.ref a, by rw [List.getElem?_set_self short], rfl, rfl⟩) (fun f s7 z => ?_) (fun _ _ z => z.elim)
    match f, z with
    | .next, ⟨_, _, J7, e7, eH⟩ =>
      subst e7
      subst eH
      refine gone_ok (repin (q := (a, o5) :: pins) J7 I.ok rfl fun r m => ?_) nd at_i loc_n fun s8 J8 => ?_
      · refine List.mem_append_left _ ?_
        rcases List.mem_append.mp m with m | m
        · exact .tail _ (List.mem_append_left _ m)
        · cases m with
          | head => exact .head _
          | tail _ m => exact .tail _ (List.mem_append_right _ m)
      · have get8 := (J8.pin (a, o5) (List.mem_append_right _ (.head _))).1
        have J9 : Inv X pins (((σ0.set i (some (.ref a))).set j (some (.ref a))).set i none) H0 s8 := repin J8 I.ok rfl fun r m => by
          rcases List.mem_append.mp m with m | m
          · exact List.mem_append_left _ m
          · exact List.mem_append_right _ (.tail _ m)
        exact ⟨_, _, track J9 new get8 data5 na noloc nopin (exV_ok get8 kind5 data5), wish a na⟩
    | .brk, ⟨_, _, _, z⟩ => exact z.elim
    | .cont, ⟨_, _, _, z⟩ => exact z.elim
    | .ret _, ⟨_, _, _, _, _, z⟩ => exact z.elim
  · match f, z with
    | .next, ⟨σ1, H1, J1, z⟩ => exact wpAny_execs_nil ⟨σ1, H1, J1.ofTry I.ok, z⟩
    | .brk, ⟨σ1, H1, J1, z⟩ => exact ⟨σ1, H1, J1.ofTry I.ok, z⟩
    | .cont, ⟨σ1, H1, J1, z⟩ => exact ⟨σ1, H1, J1.ofTry I.ok, z⟩
    | .ret _, ⟨v, σ1, H1, J1, rel, z⟩ => exact ⟨v, σ1, H1, J1.ofTry I.ok, rel, z⟩
end
end Tg

set_option maxHeartbeats 2000000
namespace Tg
open PySem PySem.Spec PyProof.Rows L2
section
variable {X : Cx} {x1 x2 x3 x4 : Str} {c1 c2 c3 c4 : Value} {p1 p2 p3 p4 pos : Pos}
theorem tests_one (hc : Names X x1 c1) : Tests X (.Name x1 p1) (fun cls => PySem.W.exmOne X.K cls c1 = some true) := by
  intro a oe pn s σ H Q E I he mt h
  have LT : PySem.W.Looks (model X.prog X.w) s.heap (typeOf (.ref a)) oe.cls := fun A Q E s k q => wpAny_typeOf_ref (k _ _ he) q
  have LM := PySem.W.exm_one (M := model X.prog X.w) I.kIn LT mt
  have told := h c1 s (fun _ _ z => z) rfl rfl LM
  rcases hc with ⟨gl, nodebug, own | ⟨none_, boot, noname⟩⟩
  · exact ld_glob (X := X.suite a ((a, oe) :: pn)) I gl own told nodebug
  · exact ld_blt (X := X.suite a ((a, oe) :: pn)) I gl none_ boot told noname nodebug
/-- own classes named one after the other -/
structure Glb (X : Cx) (x : Str) (c : Value) : Prop where
  gl : Gl X x
  mg : X.mg x = some c
  db : (x == ("__debug__" : Str)) = false := by decide
theorem glb_args {a : Addr} {oe : Obj} {pn : List (Addr × Obj)} {s : Shared} {σ : L2.St} {H : Hp} {E : Value → Shared → Prop} {pos : Pos} (I : Inv (X.suite a ((a, oe) :: pn)) [] σ H s) :
    ∀ {xs : List (Str × Pos)} {cs : List Value} {Q : List Value → Shared → Prop}, Paired (fun x c => Glb X x.1 c) xs cs → Q cs s →
      wpAny (model X.prog X.w) (X.A.mark (some (.ref a))) (spliced (backTo pos (starEach (xs.map fun x => .Name x.1 x.2) X.env))) Q E s
  | _, _, Q, .nil, q => args_nil q
  | (x, p) :: xs, c :: cs, Q, .cons g r, q => by
    refine args_cons (ld_glob (X := X.suite a ((a, oe) :: pn)) I g.gl g.mg (glb_args I r q) g.db) rfl
theorem tests_tup {xs : List (Str × Pos)} {cs : List Value} {kt : Nat} (hp : Paired (fun x c => Glb X x.1 c) xs cs) (hl : cs.length ≤ sizeLine)
    (hm : ∀ {h : Heap} {a tp : Addr} {cls : Value}, X.K.In h → PySem.W.Looks (model X.prog X.w) h (typeOf (.ref a)) cls → h.get? tp = some { cls := .type "tuple", data := .seq cs.toArray } → PySem.W.exmAny X.K cls cs = some true → PySem.W.Looks (model X.prog X.w) h (excMatches (.ref a) (.ref tp)) true) :
    Tests X (.Tuple (xs.map fun x => .Name x.1 x.2) kt pos) (fun cls => PySem.W.exmAny X.K cls cs = some true) := by
  intro a oe pn s σ H Q E I he mt h
  refine wpAny_Tuple_spliced (glb_args I hp ⟨hl, ?_⟩)
  have kk : ∀ b o, s.heap.get? b = some o → (s.heap.push { cls := .type "tuple", data := .seq cs.toArray }).get? b = some o := fun b o e => Heap.get?_push_of_some _ e
  have LT : PySem.W.Looks (model X.prog X.w) (s.heap.push { cls := .type "tuple", data := .seq cs.toArray }) (typeOf (.ref a)) oe.cls := fun A Q E s k q => wpAny_typeOf_ref (k _ _ (kk _ _ he)) q
  exact h _ _ kk rfl rfl (hm (I.kIn.keeps kk) LT (Heap.get?_push_size _ rfl) mt)
theorem tests_2 {kt : Nat} (h1 : Glb X x1 c1) (h2 : Glb X x2 c2) : Tests X (.Tuple [.Name x1 p1, .Name x2 p2] kt pos) (fun cls => PySem.W.exmAny X.K cls [c1, c2] = some true) :=
  tests_tup (xs := [(x1, p1), (x2, p2)]) (.cons h1 (.cons h2 .nil)) (by show 2 ≤ sizeLine; decide) fun X LT hp mt => PySem.W.exm_tup2 X LT hp mt
theorem tests_3 {kt : Nat} (h1 : Glb X x1 c1) (h2 : Glb X x2 c2) (h3 : Glb X x3 c3) : Tests X (.Tuple [.Name x1 p1, .Name x2 p2, .Name x3 p3] kt pos) (fun cls => PySem.W.exmAny X.K cls [c1, c2, c3] = some true) :=
  tests_tup (xs := [(x1, p1), (x2, p2), (x3, p3)]) (.cons h1 (.cons h2 (.cons h3 .nil))) (by show 3 ≤ sizeLine; decide) fun X LT hp mt => PySem.W.exm_tup3 X LT hp mt
theorem tests_4 {kt : Nat} (h1 : Glb X x1 c1) (h2 : Glb X x2 c2) (h3 : Glb X x3 c3) (h4 : Glb X x4 c4) : Tests X (.Tuple [.Name x1 p1, .Name x2 p2, .Name x3 p3, .Name x4 p4] kt pos) (fun cls => PySem.W.exmAny X.K cls [c1, c2, c3, c4] = some true) :=
  tests_tup (xs := [(x1, p1), (x2, p2), (x3, p3), (x4, p4)]) (.cons h1 (.cons h2 (.cons h3 (.cons h4 .nil)))) (by show 4 ≤ sizeLine; decide) fun X LT hp mt => PySem.W.exm_tup4 X LT hp mt
end
/-! ### what is asked of it later: a field, isinstance -/
section
variable {X : Cx} {e : Expr} {te : TE} {pos : Pos} {n : Str}
/-- kept.f -/
def tExf (K : PySem.W.Frag) (f : Str) (te : TE) : TE := fun σ H Q => te σ H fun x H1 => ∃ (a C dd : Addr) (fs : List (Str × V)) (v : V), x = .ref a ∧ H1 a = some (ExV (.ref C) (some dd) a) ∧ XfC K C ∧ PySem.W.findIn K (.ref C) f = some none ∧ H1 dd = some (.xd fs) ∧ fs.lookup f = some v ∧ Q v H1
theorem exV_inst {a C dd : Addr} {fs : List (Str × V)} {pins : List (Addr × Obj)} {σ : L2.St} {H : Hp} {s : Shared} (I : Inv X pins σ H s) (ea : H a = some (ExV (.ref C) (some dd) a)) (ed : H dd = some (.xd fs)) :
    ∃ (oe od : Obj) (m : Str → Option Value), PySem.W.InstAt s.heap a oe C (some od) ∧ (∀ f, RelO (fs.lookup f) (m f)) ∧ ∀ x, PySem.W.lookIn x od = some (m x) := by
  obtain ⟨⟨oe, vs, he, hz, hd⟩, _, _⟩ := (show ObjOk X.prog X.w H s.heap a (ExV (.ref C) (some dd) a) from I.hok a _ ea)
  obtain ⟨m, ns, rel⟩ := (show ObjOk X.prog X.w H s.heap dd (.xd fs) from I.hok dd _ ed)
  obtain ⟨od, get, look⟩ := lookIn_ns ns
  exact ⟨oe, od, m, ⟨he, hz.1, by unfold PySem.W.notCls; rw [hd] <;> rfl, by rw [hz.2]; exact get⟩, rel, look⟩
theorem pe_exf (he : PE X e te) (base : attributeBase e n X.env (eval e X.env) = eval e X.env := by rfl) : PE X (.Attribute e n pos) (tExf X.K n te) := by
  constructor
  intro pins s σ H Q I read
  refine attr_of base (thn (he.run pins s σ H _ I read) fun u s1 z => ?_)
  obtain ⟨_, H1, J, ru, a, C, dd, fs, v, rfl, ea, T, none_, ed, is_v, told⟩ := z
  obtain rfl : u = .ref a := ru
  obtain ⟨oe, od, m, inst, rel, look⟩ := exV_inst J ea ed
  have there := rel n
  rw [is_v] at there
  obtain ⟨w, mw, rw_⟩ := RelO.some_of there
  exact HandSPX.exc_get J.kIn inst T.ga T.gg T.exC (PySem.W.findObj_own T.hdC none_ rfl ((look n).trans (congrArg some mw))) (handed_of rw_) ⟨v, H1, J.tok _, rw_, told⟩
theorem cls_some {K : PySem.W.Frag} {D : Addr} (h : PySem.W.hasDictIn K D = true) : (PySem.W.clsIn K D).isSome = true := by
  obtain ⟨cd, hc, _⟩ := PySem.W.any_some h
  rw [hc]
  rfl
/-- isinstance(kept, c) -/
def rIsV (K : PySem.W.Frag) : List V → Hp → VK → Prop := fun xs H Q => ∃ (a D dd : Addr) (fs : List (Str × V)) (c : V) (cv : Value) (b : Bool), xs = [.ref a, c] ∧ H a = some (ExV (.ref D) (some dd) a) ∧ H dd = some (.xd fs) ∧ ExcC K D ∧ ClsV c cv ∧ PySem.W.kitOne K (.ref D) cv = some b ∧ Q (.bl b) H
theorem call_isV : CallR X (.builtin "isinstance") (rIsV X.K) := by
  rintro pins s σ H _ us Q I rel ⟨a, D, dd, fs, c, cv, b, rfl, ea, ed, C, cls, kit, told⟩
  match us, rel with
  | [_, _], .cons ra (.cons rc .nil) =>
    cases ra
    cases cls.eq rc
    obtain ⟨_, _, _, inst, _⟩ := exV_inst I ea ed
    exact PySem.W.kia_one (PySem.W.kitx_exc (cls_some C.hd) C.hg C.hk C.hs C.ha C.hn C.ht C.hm) I.kIn inst kit (fun z => nomatch z) fun tk => ⟨.bl b, H, I.tok tk, rfl, told⟩
/-- isinstance(kept, (c1, c2, ..)) -/
def rIsVT (K : PySem.W.Frag) : List V → Hp → VK → Prop := fun xs H Q => ∃ (a D dd tp : Addr) (fs : List (Str × V)) (cs : List V) (us : List Value) (b : Bool), xs = [.ref a, .ref tp] ∧ H a = some (ExV (.ref D) (some dd) a) ∧ H dd = some (.xd fs) ∧ ExcC K D ∧
  H tp = some (.tup cs) ∧ Paired ClsV cs us ∧ PySem.W.kitAny K (.ref D) us = some b ∧ Q (.bl b) H
theorem call_isVT : CallR X (.builtin "isinstance") (rIsVT X.K) := by
  rintro pins s σ H _ us Q I rel ⟨a, D, dd, tp, fs, cs, ws, b, rfl, ea, ed, C, tup, cls, kit, told⟩
  match us, rel with
  | [_, _], .cons ra (.cons rt .nil) =>
    cases ra
    cases rt
    obtain ⟨_, _, _, inst, _⟩ := exV_inst I ea ed
    obtain ⟨_, items, ri, ⟨oc, od, dt, sl⟩, get, is_tup, m, is_seq⟩ := (show ObjOk X.prog X.w H s.heap tp (.tup cs) from I.hok tp _ tup)
    cases ClsV.all cls ri
    cases is_tup
    cases is_seq
    exact PySem.W.kia_tup (PySem.W.kitx_exc (cls_some C.hd) C.hg C.hk C.hs C.ha C.hn C.ht C.hm) I.kIn inst get kit (fun z => nomatch z) fun tk => ⟨.bl b, H, I.tok tk, rfl, told⟩
end
end Tg

set_option maxHeartbeats 2000000
namespace Tg
open PySem PySem.Spec PyProof.Rows L2
/-! ### class X(ValueError): def __init__(self, at): ValueError.__init__(self, "..") ; self.at = at -/
def inCls (s : Stmt) (i : Nat) : Stmt := match s with
  | .ClassDef _ _ _ body _ _ _ _ _ _ _ => body.getD i (.Pass ⟨0, 0, 0, 0⟩)
  | _ => .Pass ⟨0, 0, 0, 0⟩
/-- what __init__ leaves: the field in a new dict -/
def spErr (C : Addr) (f : Str) : Sp := fun vs H Q _ => ∃ (a : Addr) (v : V), vs = [.ref a, v] ∧ H a = some (exo a C none) ∧ ∀ dx, H dx = none → dx ≠ a → Q .non (upd (upd H dx (exd dx [(f, v)])) a (exo a C (some dx)))
/-- what raise X(v) then leads to -/
theorem err_read {C : Addr} {f : Str} {ta : TE} {σ : L2.St} {H : Hp} {Q : XK} (h : ta σ H fun v H1 => ∀ (d : Addr) (H' : Hp), Same H1 H' → H1 d = none → H' d = some (.xd [(f, v)]) → Q (.ref C) (some d) H')
    (mono : ∀ {Q Q' : VK}, (∀ v H1, Q v H1 → Q' v H1) → ta σ H Q → ta σ H Q') : tMkO C (spErr C f) [] (tCons ta tNil) σ H Q := by
  refine mono (fun v H1 q => ⟨by show 1 ≤ 1000; decide, fun a na => ?_⟩) h
  refine ⟨a, v, rfl, upd_same, fun dx nd da => ⟨rfl, dx, [(f, v)], upd_same, ?_, ?_, ?_⟩⟩
  · rw [upd_ne da, upd_same]
  · rw [upd_ne da] at nd
    exact nd
  · have nd' : H1 dx = none := by
      rw [upd_ne da] at nd
      exact nd
    refine q dx _ (fun b o e => ?_) nd' upd_same
    have nb : b ≠ dx := ne_of_none e nd'
    have nba : b ≠ a := ne_of_none e na
    rw [upd_ne nb, del_ne nba, upd_ne nba, upd_ne nb, upd_ne nba]
    exact e
end Tg

set_option maxHeartbeats 2000000
namespace Tg
open PySem PySem.Spec PyProof.Rows L2
/-! ### a call by keywords that may raise, in a try -/
section
variable {X : Cx} {CX : CXT} {k : Nat} {f : Addr} {fd : FuncData} {ps ks : List Str} {sp : Sp} {E : L2.St → XK} {x : Str} {p pos : Pos} {kws : List Keyword} {tk : TA} {g : List Value → List Value → List Value} {gV : List V → List V → List V}
theorem pe_kwS (F : FnOk X.prog X.w X.K X.mg X.base CX k f fd ps sp) (room : Room k X.A) (gl : Gl X x) (at_x : X.mg x = some (.ref f)) (kept : PySem.W.keepIn X.K (.ref f) = true) (binds : KBn X.K fd ps 0 ks g gV) (lets : ∀ σ, PassesAt CX X σ (E σ)) (vals : PK X kws tk)
    (named : (backToKw pos (keywordEach kws X.env)).all (·.1.isSome) = true := by rfl) (names : (backToKw pos (keywordEach kws X.env)).filterMap (·.1) = ks := by rfl) (nodebug : (x == ("__debug__" : Str)) = false := by decide)
    (nostar : ((backTo pos (starEach [] X.env)).any (·.1) || (backToKw pos (keywordEach kws X.env)).any (·.1.isNone)) = false := by rfl) : PE X (.Call (.Name x p) [] kws pos) (fun σ H Q => tk σ H fun zs H2 => zs.length = ks.length ∧ sp (gV [] zs) H2 Q (E σ)) := by
  constructor
  intro pins s σ H Q I read
  refine wpAny_Call_Name_kw (ld_glob I gl at_x (PySem.W.callWith_KW0 (h₀ := X.base) I.ok.mod.kin kept named (thn (vals.run pos pins s σ H _ I read) fun ws s2 y => ?_) nostar) nodebug)
  obtain ⟨zs, H2, J, rel, many, told⟩ := y
  rw [names]
  refine ⟨J.kIn, wpAny_call (codeAny_mono (F.run X.A X.stack s2 H2 ⟨[], ks.zip ws⟩ (g [] ws) (gV [] zs) Q (E σ) room J.env0 (binds.to s2 [] ws J.kIn rfl (rel.length.symm.trans many)) (binds.rel (vs := []) (us := []) .nil rel) told) fun a s' z => ?_)⟩
  match a, z with
  | .error e, z => exact lets σ pins H2 s2 e s' J z
  | .ok (.ret u), z => exact J.after z
end
end Tg

set_option maxHeartbeats 2000000
namespace Tg
open PySem PySem.Spec PyProof.Rows L2
/-! ### own errors, and classes whose __init__ may raise, as a caller needs them -/
section
variable (P : Program) (w : World) (K : PySem.W.Frag) (mg : Str → Option Value) (base : Heap)
/-- the error x, of the class C over ValueError, made of one thing that is its field fld -/
def CalE (k : Nat) (x : Str) (C : Addr) (fld : Str) : Prop := ∃ fI fdI, OexC K C ∧ PySem.W.findIn K (.ref C) "__init__" = some (some (.ref fI)) ∧ PySem.W.typeIn K (.ref fI) = some (.type "function") ∧
  FnOk P w K mg base CX0 k fI fdI ["self", fld] (spErr C fld) ∧ Binds K fdI ["self", fld] [] ∧ mg x = some (.ref C)
/-- a def that may raise -/
def CalR (k : Nat) (x : Str) (ps : List Str) (sp : Sp) : Prop := ∃ f fd, FnOk P w K mg base (L2.CX P w) k f fd ps sp ∧ mg x = some (.ref f) ∧ PySem.W.keepIn K (.ref f) = true ∧ Binds K fd ps []
def CalRK (k : Nat) (x : Str) (ps ks : List Str) (is : List Nat) (sp : Sp) : Prop := ∃ f fd, FnOk P w K mg base (L2.CX P w) k f fd ps sp ∧ mg x = some (.ref f) ∧ PySem.W.keepIn K (.ref f) = true ∧ KBn K fd ps 0 ks (fun _ ws => prm is ws) (fun _ zs => prm is zs)
/-- a class whose __init__ may raise -/
def CalRC (k : Nat) (x : Str) (C : Addr) (ps : List Str) (sp : Sp) : Prop := ∃ f fd, FnOk P w K mg base (L2.CX P w) k f fd ps sp ∧ mg x = some (.ref C) ∧ Mk K C f ∧ Binds K fd ps []
def CalRCK (k : Nat) (x : Str) (C : Addr) (ps ks : List Str) (is : List Nat) (sp : Sp) : Prop := ∃ f fd, FnOk P w K mg base (L2.CX P w) k f fd ps sp ∧ mg x = some (.ref C) ∧ Mk K C f ∧ KBn K fd ps 1 ks (fun us ws => us ++ prm is ws) (fun vs zs => vs ++ prm is zs)
end
section
variable {X : Cx} {k : Nat} {ps ks : List Str} {is : List Nat} {sp : Sp} {x fld : Str} {C : Addr} {e : Expr} {es : List Expr} {p pos : Pos} {kws : List Keyword} {ta : TE} {t tk : TA} {W : WX}
theorem pm_err (c : CalE X.prog X.w X.K X.mg X.base k x C fld) (room : Room (k + 1) X.A) (gl : Gl X x) (he : PE X e ta) (nodebug : (x == ("__debug__" : Str)) = false := by decide)
    (star : starEach [e] X.env = (false, eval e X.env) :: starEach [] X.env := by rfl) : PMk X (.Call (.Name x p) [e] [] pos) (tMkO C (spErr C fld) [] (tCons ta tNil)) := by
  obtain ⟨fI, fdI, T, iC, tI, F, b, m⟩ := c
  exact pmk_oex T iC tI F room b .nil (fun _ _ _ _ _ _ _ z => z.elim) gl m (pa_cons he pa_nil star) nodebug star
/-- raise x(e), out of the def -/
def tErr (C : Addr) (fld : Str) (ta : TE) (E : XK) : TS := fun _ σ H => ta σ H fun v H1 => ∀ (d : Addr) (H' : Hp), Same H1 H' → H1 d = none → H' d = some (.xd [(fld, v)]) → E (.ref C) (some d) H'
/-- a call that may raise, in a def that lets it out -/
def tCalR (sp : Sp) (E : XK) (t : TA) : TE := fun σ H Q => t σ H fun vs H1 => sp vs H1 Q E
theorem pe_calR {E : XK} (c : CalR X.prog X.w X.K X.mg X.base k x ps sp) (hr : Room k X.A) (gl : Gl X x) (lets : Passes (L2.CX X.prog X.w) X E) (ha : PA X (e :: es) t) (nodebug : (x == ("__debug__" : Str)) = false := by decide)
    (star : starEach (e :: es) X.env = (false, eval e X.env) :: starEach es X.env := by rfl) (plain : (backTo pos (starEach es X.env)).any (·.1) = false := by rfl) : PE X (.Call (.Name x p) (e :: es) [] pos) (tCall sp [] E t) := by
  obtain ⟨f, fd, F, m, kp, b⟩ := c
  exact pe_call F hr gl m kp b .nil lets ha nodebug star plain
/-- the same in a try -/
theorem pe_calT (c : CalR X.prog X.w X.K X.mg X.base k x ps sp) (hr : Room k X.A) (gl : Gl X x) (tks : Takes X W) (ha : PA X (e :: es) t) (nodebug : (x == ("__debug__" : Str)) = false := by decide)
    (star : starEach (e :: es) X.env = (false, eval e X.env) :: starEach es X.env := by rfl) (plain : (backTo pos (starEach es X.env)).any (·.1) = false := by rfl) : PE X (.Call (.Name x p) (e :: es) [] pos) (tCallS sp (WE W) t) := by
  obtain ⟨f, fd, F, m, kp, b⟩ := c
  exact pe_callS F hr gl m kp b (fun σ => passAt tks σ) ha nodebug star plain
def tKwT (n : Nat) (sp : Sp) (is : List Nat) (W : WX) (tk : TA) : TE := fun σ H Q => tk σ H fun zs H2 => zs.length = n ∧ sp (prm is zs) H2 Q (WE W σ)
theorem pe_calKT (c : CalRK X.prog X.w X.K X.mg X.base k x ps ks is sp) (hr : Room k X.A) (gl : Gl X x) (tks : Takes X W) (vals : PK X kws tk)
    (named : (backToKw pos (keywordEach kws X.env)).all (·.1.isSome) = true := by rfl) (names : (backToKw pos (keywordEach kws X.env)).filterMap (·.1) = ks := by rfl) (nodebug : (x == ("__debug__" : Str)) = false := by decide)
    (nostar : ((backTo pos (starEach [] X.env)).any (·.1) || (backToKw pos (keywordEach kws X.env)).any (·.1.isNone)) = false := by rfl) : PE X (.Call (.Name x p) [] kws pos) (tKwT ks.length sp is W tk) := by
  obtain ⟨f, fd, F, m, kp, b⟩ := c
  exact pe_kwS (E := WE W) F hr gl m kp b (fun σ => passAt tks σ) vals named names nodebug nostar
/-! ### C(..), whose __init__ may raise, in a try -/
theorem made_or_raised {CX : CXT} {f : Addr} {fd : FuncData} {pins : List (Addr × Obj)} {σ : L2.St} {H : Hp} {s : Shared} {Q : VK} {E : L2.St → XK} {us zs : List Value} {kwv : List (Str × Value)} {vs : List V} (M : Mk X.K C f) (F : FnOk X.prog X.w X.K X.mg X.base CX k f fd ps sp)
    (room : Room (k + 1) X.A) (lets : PassesAt CX X σ (E σ)) (I : Inv X pins σ H s) (bound : ∀ s2 : Shared, X.K.In s2.heap → BindsTo s2 fd ⟨.ref (s.heap.objs.size + 1) :: us, kwv⟩ (ps.zip zs)) (rel : Vals (.ref (s.heap.objs.size + 1) :: vs) zs)
    (told : ∀ a d, H a = none → H d = none → d ≠ a → sp (.ref a :: vs) (upd (upd H d (.own a)) a (.ins C d [])) (fun v H2 => v = .non ∧ Q (.ref a) H2) (E σ)) : wpAny (model X.prog X.w) X.A (call (.ref C) us kwv) (EP X pins σ Q) X.xe s := by
  have new := I.made (C := C)
  have now := told _ _ (I.hok.fresh (Nat.le_succ s.heap.objs.size)) (I.hok.fresh (Nat.le_refl s.heap.objs.size)) (Nat.ne_of_lt (Nat.lt_succ_self _))
  have ran := F.run _ X.stack _ _ _ zs _ _ (E σ) (room.make C us kwv) (new.env0.make C us kwv) (bound _ new.kIn) rel now
  refine wpAny_call (make_map (f := f) I.kIn M.makes M.init (beq_iff_eq.mp M.fn) (codeAny_mono ran fun out s' z => ?_))
  match out, z with
  | .error err, z => exact lets pins _ _ err s' new z
  | .ok (.ret u), z =>
    obtain ⟨_, H3, J, r, rfl, q⟩ := new.after z
    exact ⟨r, .ref (s.heap.objs.size + 1), H3, J, rfl, q⟩
def tMkT (C : Addr) (sp : Sp) (W : WX) (t : TA) : TE := fun σ H Q => t σ H fun vs H1 => ∀ a d, H1 a = none → H1 d = none → d ≠ a → sp (.ref a :: vs) (upd (upd H1 d (.own a)) a (.ins C d [])) (fun v H2 => v = .non ∧ Q (.ref a) H2) (WE W σ)
theorem pe_mkT (c : CalRC X.prog X.w X.K X.mg X.base k x C ps sp) (room : Room (k + 1) X.A) (gl : Gl X x) (tks : Takes X W) (ha : PA X (e :: es) t) (nodebug : (x == ("__debug__" : Str)) = false := by decide)
    (star : starEach (e :: es) X.env = (false, eval e X.env) :: starEach es X.env := by rfl) (plain : (backTo pos (starEach es X.env)).any (·.1) = false := by rfl) : PE X (.Call (.Name x p) (e :: es) [] pos) (tMkT C sp W t) := by
  obtain ⟨f, fd, F, m, M, b⟩ := c
  constructor
  intro pins s σ H Q I read
  refine wpAny_Call_Name_kw (ld_glob I gl m (PySem.W.callWith_K (h₀ := X.base) I.ok.mod.kin M.kp (thn (ha.run pos pins s σ H _ I read) fun us s1 y => ?_) star plain) nodebug)
  obtain ⟨vs, H1, J, rel, told⟩ := y
  refine ⟨J.kIn, made_or_raised (E := WE W) (zs := .ref (s1.heap.objs.size + 1) :: us) M F room (passAt tks σ) J (fun s2 kin => ?_) (.cons rfl rel) told⟩
  have many : (V.ref (s1.heap.objs.size + 1) :: vs).length = ps.length := F.len _ _ _ _ (told _ _ (J.hok.fresh (Nat.le_succ s1.heap.objs.size)) (J.hok.fresh (Nat.le_refl s1.heap.objs.size)) (Nat.ne_of_lt (Nat.lt_succ_self _)))
  have z := b s2 (.ref (s1.heap.objs.size + 1) :: us) kin (by rw [List.append_nil, List.length_cons, ← rel.length]; exact many)
  rw [List.append_nil] at z
  exact z
def tMkKT (C : Addr) (n : Nat) (sp : Sp) (is : List Nat) (W : WX) (tk : TA) : TE := fun σ H Q => tk σ H fun zs H1 => zs.length = n ∧ ∀ a d, H1 a = none → H1 d = none → d ≠ a → sp (.ref a :: prm is zs) (upd (upd H1 d (.own a)) a (.ins C d [])) (fun v H2 => v = .non ∧ Q (.ref a) H2) (WE W σ)
theorem pe_mkKT (c : CalRCK X.prog X.w X.K X.mg X.base k x C ps ks is sp) (room : Room (k + 1) X.A) (gl : Gl X x) (tks : Takes X W) (vals : PK X kws tk)
    (named : (backToKw pos (keywordEach kws X.env)).all (·.1.isSome) = true := by rfl) (names : (backToKw pos (keywordEach kws X.env)).filterMap (·.1) = ks := by rfl) (nodebug : (x == ("__debug__" : Str)) = false := by decide)
    (nostar : ((backTo pos (starEach [] X.env)).any (·.1) || (backToKw pos (keywordEach kws X.env)).any (·.1.isNone)) = false := by rfl) : PE X (.Call (.Name x p) [] kws pos) (tMkKT C ks.length sp is W tk) := by
  obtain ⟨f, fd, F, m, M, b⟩ := c
  constructor
  intro pins s σ H Q I read
  refine wpAny_Call_Name_kw (ld_glob I gl m (PySem.W.callWith_KW0 (h₀ := X.base) I.ok.mod.kin M.kp named (thn (vals.run pos pins s σ H _ I read) fun ws s1 y => ?_) nostar) nodebug)
  obtain ⟨zs, H1, J, rel, many, told⟩ := y
  rw [names]
  exact ⟨J.kIn, made_or_raised (E := WE W) (us := []) (zs := .ref (s1.heap.objs.size + 1) :: prm is ws) M F room (passAt tks σ) J (fun s2 kin => b.to s2 [.ref (s1.heap.objs.size + 1)] ws kin rfl (rel.length.symm.trans many)) (.cons rfl (prm_rel rel is)) told⟩
end
end Tg

/-! a derivation with a told precondition in the place of the one that is read off -/
namespace Tg
open PySem PySem.Spec PyProof.Rows L2
theorem pss_by {X : Cx} {rest : List Stmt} {u R : TS} (h : PSs X rest u) (hr : ∀ D σ H, R D σ H → u D σ H) : PSs X rest R := ⟨fun pins s σ H D I hw => h.run pins s σ H D I (hr D σ H hw)⟩
theorem pe_by {X : Cx} {e : Expr} {u R : TE} (h : PE X e u) (hr : ∀ σ H Q, R σ H Q → u σ H Q) : PE X e R := ⟨fun pins s σ H Q I hw => h.run pins s σ H Q I (hr σ H Q hw)⟩
theorem pt_by {X : Cx} {e : Expr} {u R : TT} (h : PT X e u) (hr : ∀ σ H Q, R σ H Q → u σ H Q) : PT X e R := ⟨fun pins s σ H Q I hw => h.run pins s σ H Q I (hr σ H Q hw)⟩
end Tg

/-! f'{n:b}' and int(text, 2) -/
namespace Tg
open PySem PySem.Spec PyProof.Rows L2
/-- the signs of a number by twos -/
def binC (n : Nat) : List Nat := (Nat.toDigits 2 n).map Char.toNat
def fB : Builtin.Float.FormatSpec := { fill := 32, align := 62, type := some 98 }
theorem parse_b : Builtin.Float.parseFormatSpec (Str.ofString "b").cps.toList "int" 62 = .ok fB := by with_unfolding_all rfl
theorem ret_to {M : Model} {A : Around} {txt T : Str} {Q : PySem.Fin → Shared → Prop} {E : Value → Shared → Prop} {s : Shared} (e : txt = T) (h : wpAny M A (retStr T) Q E s) : wpAny M A (retStr txt) Q E s := by
  rw [e]
  exact h
section
variable {prog : Program} {w : World} {A : Around} {E : Value → Shared → Prop} {s : Shared}
theorem field_b {a : Int} {t : Tok} {Q : Value → Shared → Prop} (a0 : 0 ≤ a) (fits : (binC a.natAbs).length ≤ sizeLine) (h : ∀ (u k : Nat), Q (.str ⟨(binC a.natAbs).toArray⟩ u) { s with toks := k }) : wpAny (model prog w) A (formatField (.int a t) "b") Q E s := by
  show wpAny _ _ (holding [.int a t] (pyFormat (.int a t) "b")) Q E s
  refine wpAny_holding ?_
  unfold pyFormat
  refine wpAny_bind (wpAny_mkStr ?_ (by decide +kernel))
  refine wpAny_bind (m := callSpecial? (.int a t) (Str.ofString "__format__") [.str "b" s.toks]) (wpAny_callSpecial?_slot (name := Str.ofString "__format__") (typeIs_int _ a t) PySem.F.slot_int_format ?_)
  refine wpAny_call (codeAny_call_builtin PySem.F.slot_int_format.plain PySem.F.entry_int_format (PySem.F.slot_int_format.check _ _ _ _ _ _ _ _ (typeIs_int _ a t) (PySem.F.args_int_format_2 _ _) ?_))
  have e1 : ((Str.ofString "b").length == 0) = false := by decide +kernel
  have e2 : (((Str.ofString "b").cps.toList.drop 1).any (· ≥ 128) || ((Str.ofString "b").cps.getD 0 0 ≥ 128 && !([60, 62, 61, 94] : List Nat).contains ((Str.ofString "b").cps.getD 1 0))) = false := by decide +kernel
  simp only [Builtin.«int.__format__», selfAndOne, noKeywords, Builtin.Int.intOfSelf, asInt?, asStr?, List.isEmpty_nil, if_true, pure_bind, bind_pure, bind_assoc, e1, e2, Bool.false_eq_true, if_false, show (Value.str (Str.ofString "b") s.toks == Value.none) = false from rfl]
  refine wpAny_bind (wpAny_typeNameOf (T := "str") (typeIs_str _ _ _) (by decide) fun _ => wpAny_bind (wpAny_typeNameOfCut_int ?_))
  simp only [parse_b]
  have t98 : fB.type.getD (if ((Str.ofString "b").cps.back? == some 0) = true then 0 else 100) = 98 := rfl
  simp only [t98]
  rw [if_pos (by decide)]
  have neg : decide (a < 0) = false := decide_eq_false (by omega)
  refine ret_to (T := ⟨(binC a.natAbs).toArray⟩) ?_ ?_
  · rw [neg]
    obtain ⟨ds, eds⟩ : ∃ ds, (Nat.toDigits 2 a.natAbs).map (fun c => (if ((98 : Nat) == 88) = true then c.toUpper else c).toNat) = ds := ⟨_, rfl⟩
    have eb : binC a.natAbs = ds := eds
    rw [eb]
    show PyProof.Rows.intField' fB false [] _ [] 4 = _
    rw [eds]
    unfold PyProof.Rows.intField' fB
    cases ds with
    | nil => rfl
    | cons d r =>
      have p0 : ((-1 : Int) - 0 - ((d :: r).length : Nat)).toNat = 0 := by omega
      simp [p0]
      omega
  · unfold retStr
    refine wpAny_bind (wpAny_mkStr (wpAny_pure ?_) ?_)
    · exact wpAny_bind (wpAny_isInstance (T := "str") (typeIs_str _ _ _) isSubtype_str_str (wpAny_pure (h _ _)))
    · exact fits
end
section
variable {X : Cx}
/-- {n:b} -/
def tFmtB (te : TE) : TE := fun σ H Q => te σ H fun x H1 => ∃ n : Nat, x = .int (n : Nat) ∧ (binC n).length ≤ sizeLine ∧ Q (.str (SX.S (binC n))) H1
theorem pe_fmtB {e spec : Expr} {te : TE} {pos : Pos} (he : PE X e te) (hs : PE X spec (tC (.str "b"))) : PE X (.FormattedValue e (-1) (some spec) pos) (tFmtB te) := by
  refine ⟨fun pins s σ H Q I h => ?_⟩
  refine wpAny_FormattedValue_spec (thn (he.run pins s σ H _ I h) fun v s1 ⟨x, H1, I1, r1, n, ex, fits, q⟩ => ?_)
  subst ex
  obtain ⟨t, rfl⟩ := r1
  refine thn (hs.run pins s1 σ H1 (fun y H2 => y = .str "b" ∧ H2 = H1) I1 ⟨rfl, rfl⟩) fun r s2 ⟨y, H2, I2, r2, ey, eH⟩ => ?_
  subst ey eH
  obtain ⟨u, rfl⟩ := r2
  refine ⟨_, u, rfl, field_b (by omega) (by rw [Int.natAbs_natCast]; exact fits) fun u k => ⟨.str (SX.S (binC n)), H2, I2.tok k, ⟨u, by rw [Int.natAbs_natCast]⟩, q⟩⟩
end
/-! ### int(text, 2) -/
def IsBin (c : Nat) : Prop := c = 48 ∨ c = 49
theorem IsBin.hex {c : Nat} (h : IsBin c) : Hx.IsHex c := .inl (by unfold IsBin at h; omega)
def binNum (l : List Nat) : Nat := l.foldl (fun a c => a * 2 + (c - 48)) 0
theorem bin_step {ds : Array Nat} {b : Bool} {c : Nat} (h : IsBin c) : PySem.NumText.step 2 (ds, b) c = some (ds.push (c - 48), true) := by
  have e : PySem.NumText.digit? c = some (c - 48) := by
    rw [Hx.digit_hex h.hex]
    unfold Hx.hv
    rw [if_pos (by unfold IsBin at h; omega)]
  have n95 : ¬ (c == 95) = true := by
    rw [beq_iff_eq]
    unfold IsBin at h
    omega
  unfold PySem.NumText.step
  rw [if_neg n95, e]
  exact if_pos (by unfold IsBin at h; omega)
theorem bin_fold : ∀ (cs : List Nat) (ds : Array Nat), (∀ c ∈ cs, IsBin c) → cs.foldlM (PySem.NumText.step 2) (ds, true) = some (cs.foldl (fun acc c => acc.push (c - 48)) ds, true)
  | [], _, _ => rfl
  | c :: cs, ds, h => by
    rw [List.foldlM_cons, bin_step (h c List.mem_cons_self)]
    exact bin_fold cs (ds.push (c - 48)) fun d hd => h d (List.mem_cons_of_mem _ hd)
theorem bin_digits {c : Nat} {cs : List Nat} (h : ∀ d ∈ c :: cs, IsBin d) : PySem.NumText.digits? 2 (c :: cs) = some ((c :: cs).foldl (fun acc c => acc.push (c - 48)) #[]) := by
  have z := bin_fold cs ((#[] : Array Nat).push (c - 48)) fun d hd => h d (List.mem_cons_of_mem _ hd)
  unfold PySem.NumText.digits?
  rw [List.foldlM_cons, bin_step (h c List.mem_cons_self)]
  show (cs.foldlM (PySem.NumText.step 2) ((#[] : Array Nat).push (c - 48), true)).bind _ = _
  rw [z]
  rfl
theorem bin_value : ∀ (cs : List Nat) (ds : Array Nat), (cs.foldl (fun acc c => acc.push (c - 48)) ds).foldl (fun acc d => acc * 2 + d) 0 = cs.foldl (fun a c => a * 2 + (c - 48)) (ds.foldl (fun acc d => acc * 2 + d) 0)
  | [], _ => rfl
  | c :: cs, ds => by
    rw [List.foldl_cons, bin_value cs (ds.push (c - 48)), List.foldl_cons, Array.foldl_push]
theorem bin_pref {cs : List Nat} (h : ∀ c ∈ cs, IsBin c) : PySem.NumText.prefix? cs = none := by
  match cs, h with
  | [], _ => rfl
  | [a], _ =>
    unfold PySem.NumText.prefix?
    split
    · rename_i e
      cases e
    · rfl
  | a :: c :: r, h =>
    have hc := h c (List.mem_cons_of_mem _ List.mem_cons_self)
    unfold IsBin at hc
    by_cases ha : a = 48
    · subst ha
      have n : ∀ k : Nat, 60 ≤ k → ¬ (c == k) = true := fun k hk z => by
        have := beq_iff_eq.mp z
        omega
      show (if (c == 120 || c == 88) = true then some 16 else if (c == 111 || c == 79) = true then some 8 else if (c == 98 || c == 66) = true then some 2 else none) = none
      have o : ∀ k l : Nat, 60 ≤ k → 60 ≤ l → ¬ (c == k || c == l) = true := fun k l hk hl z => (Bool.or_eq_true _ _ ▸ z).elim (n k hk) (n l hl)
      rw [if_neg (o _ _ (by decide) (by decide)), if_neg (o _ _ (by decide) (by decide)), if_neg (o _ _ (by decide) (by decide))]
    · unfold PySem.NumText.prefix?
      split
      · rename_i e
        exact (ha (List.cons.inj e).1).elim
      · rfl
theorem bin_based {cs : List Nat} (h : ∀ c ∈ cs, IsBin c) : PySem.NumText.based 2 cs = (2, false, cs) := by
  unfold PySem.NumText.based
  rw [bin_pref h]
  rfl
open PySem.NumText PySem.Calls in
theorem bin_read {cs : List Nat} (h : ∀ c ∈ cs, IsBin c) (ne : cs ≠ []) : (int_private% "readNumeral") 0 2 cs = (int_private% "Numeral.value") ((binNum cs : Nat) : Int) := by
  have hx : ∀ c ∈ cs, Hx.IsHex c := fun c hc => (h c hc).hex
  have hr : ∀ c ∈ cs.reverse, Hx.IsHex c := fun c hc => hx c (List.mem_reverse.mp hc)
  obtain ⟨c, r, rfl⟩ := List.exists_cons_of_ne_nil ne
  have dg := bin_digits h
  have vl := bin_value (c :: r) #[]
  refine (readNumeral_eq 0 2 (c :: r)).trans ?_
  rw [Hx.dropB hx, Hx.signH hx]
  show judge 0 false (based 2 (c :: r)).1 (based 2 (c :: r)).2.1 (digits? (based 2 (c :: r)).1 (((based 2 (c :: r)).2.2.reverse.dropWhile blank).reverse)) = _
  rw [bin_based h]
  show judge 0 false 2 false (digits? 2 (((c :: r).reverse.dropWhile blank).reverse)) = _
  rw [Hx.dropB hr, List.reverse_reverse, dg]
  show (int_private% "Numeral.value") ((((c :: r).foldl (fun acc c => acc.push (c - 48)) (#[] : Array Nat)).foldl (fun acc d => acc * 2 + d) 0 : Nat) : Int) = _
  rw [vl]
  rfl
set_option maxHeartbeats 4000000 in
open PySem.NumText PySem.Calls in
theorem gives_bin {x : Str} {u t : Tok} (hl : x.length ≤ 640) (h : ∀ c ∈ x.cps.toList, IsBin c) (ne : x.cps.toList ≠ []) : Gives (Builtin.«int.__new__» ⟨[.type "int", .str x u, .int 2 t], []⟩) (.int ((binNum x.cps.toList : Nat) : Int)) :=
  .of_wp fun M A E s Q hQ => by
    obtain ⟨heap, gens, drawn, toks, out⟩ := s
    have f1 := PySem.F.conv_sub_int
    have f2 := PySem.F.madeHere_int
    have strT : typeOf (.str x u) = pure (.type "str") := rfl
    obtain ⟨same1, same2⟩ := Hx.seen_hex fun c hc => (h c hc).hex
    have few : (numSeenOf x).length ≤ 640 := by
      rw [same2, Array.length_toList]
      exact hl
    have told : (int_private% "readNumeral") 0 2 (numSeenOf x) = (int_private% "Numeral.value") ((binNum x.cps.toList : Nat) : Int) := by
      rw [same2]
      exact bin_read h ne
    have whole : ((numSeenOf x).length == (numTextOf x).length) = true := by
      rw [same1, same2]
      exact beq_self_eq_true _
    have hk := Hx.Hid.mk (And.intro few (And.intro told whole))
    clear few told whole same1 same2 hl ne h
    repeat (any_goals (first
      | assumption
      | ((with_reducible show wpAny _ _ ((int_private% "intFromText") _ _ _) _ _ _); refine Hx.wp_textB hk.out.1 hk.out.2.1 hk.out.2.2 ?_)
      | wp_step))
    all_goals (try exact ⟨_, rfl, hQ⟩)
def rIntBin : List V → Hp → VK → Prop := fun xs H Q => ∃ l : List Nat, xs = [.str (SX.S l), .int 2] ∧ l ≠ [] ∧ l.length ≤ 640 ∧ (∀ c ∈ l, IsBin c) ∧ Q (.int ((binNum l : Nat) : Int)) H
theorem call_int_bin {X : Cx} : CallR X (.type "int") rIntBin := by
  rintro pins s σ H _ us Q I r ⟨l, rfl, ne, few, bin, q⟩
  obtain ⟨u, v, rfl, r1, r2⟩ := vals2 r
  obtain ⟨t1, rfl⟩ := r1
  obtain ⟨t2, rfl⟩ := r2
  have g := gives_bin (x := SX.S l) (u := t1) (t := t2) (by rw [SX.S_len]; exact few) bin ne
  exact callType_new PySem.F.called_int PySem.F.newNe_int (Hx.typeCall_int_2 _ _) (Hx.newCall_int_2 _ _) (fun obj => PySem.F.initArgs_range_2 obj _ _) PySem.F.entry_int_new g.meets (show (Made.int ((binNum l : Nat) : Int)).post _ s from ⟨rfl, .int ((binNum l : Nat) : Int), H, I.tok _, ⟨_, rfl⟩, q⟩)
end Tg

namespace Tg
open PySem PySem.Spec PyProof.Rows L2
/-! ### a sign many times -/
def rTimes (c : Nat) : R2 := fun x y H Q => ∃ n : Nat, x = .str (SX.S [c]) ∧ y = .int (n : Nat) ∧ n ≤ 1000 ∧ Q (.str (SX.S (List.replicate n c))) H
theorem op_times {X : Cx} {c : Nat} : OpR X (binaryOp .Mult) (rTimes c) := by
  rintro pins s σ H _ _ v u Q I rx ry ⟨n, rfl, rfl, few, q⟩
  obtain ⟨t, rfl⟩ := rx
  obtain ⟨t2, rfl⟩ := ry
  have l1 : (SX.S [c]).length = 1 := rfl
  have rep : ∀ (m : Nat) (acc : Array Nat), (List.replicate m (SX.S [c]).cps).foldl (· ++ ·) acc = acc ++ (List.replicate m c).toArray := fun m => by
    induction m with
    | zero =>
      intro acc
      show acc = acc ++ #[]
      simp
    | succ m ih =>
      intro acc
      rw [List.replicate_succ, List.foldl_cons, ih]
      apply Array.ext'
      simp [List.replicate_succ]
  refine PySem.P.mul_str ?_ (fun _ _ => ?_) (fun _ _ => ?_) ?_
  · rw [decide_eq_false (by omega), decide_eq_false (by omega)]
    rfl
  · rw [l1]
    intro z
    have : (1 : Int) ≤ (2 ^ 63 - 1) / (n : Int) := by
      by_cases n0 : n = 0
      · subst n0
        omega
      · exact (Int.le_ediv_iff_mul_le (by omega)).mpr (by omega)
    omega
  · rw [l1]
    unfold Builtin.Str.tooLong
    exact decide_eq_false (by rw [sizeLine_eq]; omega)
  · by_cases c0 : (n : Int) < 1
    · obtain rfl : n = 0 := by omega
      rw [if_pos c0]
      exact ⟨by decide, .str (SX.S []), H, I.tok _, ⟨_, rfl⟩, q⟩
    · rw [if_neg c0]
      by_cases c1 : ((n : Int) == 1 || (SX.S [c]).length == 0) = true
      · rw [if_pos c1]
        have n1 : n = 1 := by
          rw [l1] at c1
          have : ((n : Int) == 1) = true := by
            cases e : (n : Int) == 1 with
            | true => rfl
            | false =>
              rw [e] at c1
              cases c1
          have := beq_iff_eq.mp this
          omega
        subst n1
        exact ⟨.str (SX.S [c]), H, I, ⟨t, rfl⟩, q⟩
      · rw [if_neg c1]
        have e : (List.replicate (n : Int).toNat (SX.S [c]).cps).foldl (· ++ ·) #[] = (List.replicate n c).toArray := by
          rw [show (n : Int).toNat = n from rfl, rep]
          simp
        rw [e]
        refine ⟨?_, .str (SX.S (List.replicate n c)), H, I.tok _, ⟨_, rfl⟩, q⟩
        rw [SX.S_len, List.length_replicate, sizeLine_eq]
        omega
end Tg

namespace Tg
open PySem PySem.Spec PyProof.Rows L2
/-! ### numbers by twos -/
/-- the last w signs of n by twos -/
def bt : Nat → Nat → List Nat
  | 0, _ => []
  | w + 1, n => bt w (n / 2) ++ [48 + n % 2]
theorem bt_len : ∀ w n, (bt w n).length = w
  | 0, _ => rfl
  | w + 1, n => by
    show (bt w (n / 2) ++ [48 + n % 2]).length = w + 1
    rw [List.length_append, bt_len w]
    rfl
theorem bt_bin : ∀ w n c, c ∈ bt w n → IsBin c
  | 0, _, _, h => nomatch h
  | w + 1, n, c, h => by
    rcases List.mem_append.mp (show c ∈ bt w (n / 2) ++ [48 + n % 2] from h) with h | h
    · exact bt_bin w _ c h
    · rw [List.mem_singleton.mp h]
      unfold IsBin
      omega
theorem num_snoc (l : List Nat) (c : Nat) : binNum (l ++ [c]) = binNum l * 2 + (c - 48) := by
  unfold binNum
  rw [List.foldl_append]
  rfl
theorem num_bt : ∀ w n, binNum (bt w n) = n % 2 ^ w
  | 0, n => by
    show 0 = n % 1
    omega
  | w + 1, n => by
    show binNum (bt w (n / 2) ++ [48 + n % 2]) = _
    rw [num_snoc, num_bt w, Nat.pow_succ, Nat.mul_comm (2 ^ w) 2, Nat.mod_mul]
    omega
theorem bt_split (d : Nat) : ∀ w n, bt (d + w) n = bt d (n / 2 ^ w) ++ bt w n
  | 0, n => by
    rw [Nat.pow_zero]
    rw [Nat.div_one]
    exact (List.append_nil _).symm
  | w + 1, n => by
    show bt (d + w) (n / 2) ++ [48 + n % 2] = _ ++ (bt w (n / 2) ++ [48 + n % 2])
    rw [bt_split d w (n / 2), Nat.div_div_eq_div_mul, Nat.mul_comm 2, ← Nat.pow_succ, List.append_assoc]
theorem bt_zero : ∀ d, bt d 0 = List.replicate d 48
  | 0 => rfl
  | d + 1 => by
    show bt d (0 / 2) ++ [48 + 0 % 2] = _
    rw [Nat.zero_div, bt_zero d, List.replicate_succ']
/-- how many signs n has by twos -/
def blen (n : Nat) : Nat := if n = 0 then 0 else n.log2 + 1
theorem blen_pos {n : Nat} (h : 0 < n) : blen n = n.log2 + 1 := if_neg (by omega)
theorem blen_half {n : Nat} (h : 0 < n) : blen n = blen (n / 2) + 1 := by
  rw [blen_pos h, Nat.log2_def]
  by_cases c : 2 ≤ n
  · rw [if_pos c, blen_pos (show 0 < n / 2 by omega)]
  · rw [if_neg c, show n / 2 = 0 by omega]
    rfl
theorem lt_blen (n : Nat) : n < 2 ^ blen n := by
  by_cases h : n = 0
  · subst h
    decide
  · rw [blen_pos (by omega)]
    exact Nat.lt_log2_self
theorem bin_zero : binC 0 = [48] := by
  unfold binC
  rw [Nat.toDigits_zero]
  rfl
theorem bin_digit {n : Nat} : (n % 2).digitChar.toNat = 48 + n % 2 := by
  rcases Nat.mod_two_eq_zero_or_one n with e | e <;> rw [e] <;> rfl
theorem bin_is {n : Nat} : 0 < n → binC n = bt (blen n) n := by
  refine Nat.strongRecOn n fun n ih h => ?_
  · skip
    rw [blen_half h]
    show binC n = bt (blen (n / 2)) (n / 2) ++ [48 + n % 2]
    unfold binC
    by_cases c : 2 ≤ n
    · rw [Nat.toDigits_of_base_le (by decide) c, List.map_append, ← ih (n / 2) (by omega) (by omega)]
      show _ ++ [(n % 2).digitChar.toNat] = _
      rw [bin_digit]
      rfl
    · have : n = 1 := by omega
      subst this
      rfl
theorem bt_pad {w n : Nat} (h : blen n ≤ w) : bt w n = List.replicate (w - blen n) 48 ++ bt (blen n) n := by
  have e := bt_split (w - blen n) (blen n) n
  rw [show w - blen n + blen n = w by omega, Nat.div_eq_of_lt (lt_blen n), bt_zero] at e
  exact e
/-- a number's own code -/
def ownL (n : Nat) : List Nat := List.replicate (n + 1).log2 48 ++ 49 :: bt (n + 1).log2 (n + 1)
theorem own_is (n : Nat) : List.replicate (blen (n + 1) - 1) 48 ++ bt (blen (n + 1)) (n + 1) = ownL n := by
  have b := blen_pos (Nat.succ_pos n)
  have one : (n + 1) / 2 ^ (n + 1).log2 = 1 := by
    have h1 := Nat.log2_self_le (n := n + 1) (by omega)
    have h2 := Nat.lt_log2_self (n := n + 1)
    refine Nat.div_eq_of_lt_le (by rw [Nat.one_mul]; exact h1) ?_
    rw [Nat.pow_succ] at h2
    omega
  have e := bt_split 1 (n + 1).log2 (n + 1)
  rw [one] at e
  unfold ownL
  rw [b, Nat.add_sub_cancel, Nat.add_comm _ 1, e]
  rfl
theorem own_len (n : Nat) : (ownL n).length = 2 * (n + 1).log2 + 1 := by
  unfold ownL
  rw [List.length_append, List.length_replicate, List.length_cons, bt_len]
  omega
theorem own_lo {n v : Nat} (h : v < (n + 1).log2) : (ownL n)[v]? = some 48 := by
  unfold ownL
  rw [List.getElem?_append_left (by rw [List.length_replicate]; exact h), List.getElem?_replicate, if_pos h]
theorem own_one (n : Nat) : (ownL n)[(n + 1).log2]? = some 49 := by
  unfold ownL
  rw [List.getElem?_append_right (by rw [List.length_replicate]; exact Nat.le_refl _), List.length_replicate, Nat.sub_self]
  rfl
theorem own_tail (n : Nat) : (ownL n).drop (n + 1).log2 = bt (blen (n + 1)) (n + 1) := by
  rw [← own_is, List.drop_append_of_le_length (by rw [List.length_replicate, blen_pos (show 0 < n + 1 by omega)]; omega), List.drop_of_length_le (by rw [List.length_replicate, blen_pos (show 0 < n + 1 by omega)]; omega)]
  rfl
theorem own_num (n : Nat) : binNum (bt (blen (n + 1)) (n + 1)) = n + 1 := by
  rw [num_bt, Nat.mod_eq_of_lt (lt_blen _)]
/-! ### find -/
theorem from_nat (m a : Nat) : fromIndex m (a : Int) = a := by
  unfold fromIndex
  rw [if_neg (by omega)]
  omega
theorem getD_S (l : List Nat) (v : Nat) : (SX.S l).cps.getD v 0 = l.getD v 0 := by
  show l.toArray.getD v 0 = l.getD v 0
  rw [Array.getD_eq_getD_getElem?, List.getElem?_toArray, List.getD_eq_getElem?_getD]
theorem find_at {l : List Nat} {a j : Nat} (hj : l[j]? = some 49) (aj : a ≤ j) (no : ∀ v, a ≤ v → v < j → l[v]? ≠ some 49) : Txt.find3 (SX.S l) ⟨#[49]⟩ (a : Int) = (j : Nat) := by
  have lj := (List.getElem?_eq_some_iff.mp hj).1
  have gj : l.getD j 0 = 49 := by rw [List.getD_eq_getElem?_getD, hj]; rfl
  rcases StrLaws.find3_spec (SX.S l) 49 (a : Int) with ⟨_, h⟩ | ⟨k, e, h1, h2, h3, h4⟩
  · rw [from_nat, SX.S_len] at h
    exact absurd (by rw [getD_S]; exact gj) (h j aj lj)
  · rw [from_nat] at h1 h4
    rw [SX.S_len] at h2
    rw [getD_S] at h3
    rw [e]
    rcases Nat.lt_trichotomy k j with lt | rfl | gt
    · refine absurd ?_ (no k h1 lt)
      rw [List.getElem?_eq_getElem h2]
      rw [List.getD_eq_getElem?_getD, List.getElem?_eq_getElem h2] at h3
      exact congrArg some h3
    · rfl
    · exact absurd (by rw [getD_S]; exact gj) (h4 j aj gt)
theorem find_no {l : List Nat} {a : Nat} (no : ∀ v, a ≤ v → l[v]? ≠ some 49) : Txt.find3 (SX.S l) ⟨#[49]⟩ (a : Int) = -1 := by
  rcases StrLaws.find3_spec (SX.S l) 49 (a : Int) with ⟨e, _⟩ | ⟨k, e, h1, h2, h3, _⟩
  · exact e
  · rw [from_nat] at h1
    rw [SX.S_len] at h2
    rw [getD_S, List.getD_eq_getElem?_getD, List.getElem?_eq_getElem h2] at h3
    exact absurd (by rw [List.getElem?_eq_getElem h2]; exact congrArg some h3) (no k h1)
/-! ### zfill -/
theorem zfill_is {l : List Nat} {w : Nat} (bin : ∀ c ∈ l, IsBin c) : Txt.zfill (SX.S l) (w : Int) = SX.S (List.replicate (w - l.length) 48 ++ l) := by
  unfold Txt.zfill
  by_cases c : (w : Int) ≤ (SX.S l).length
  · rw [if_pos c]
    rw [SX.S_len] at c
    rw [show w - l.length = 0 by omega]
    rfl
  · rw [if_neg c, SX.S_len]
    have e : zfilled (SX.S l) ((w : Int).toNat - l.length) = Builtin.Str.padded (SX.S l) ((w : Int).toNat - l.length) 0 48 := by
      unfold zfilled
      cases l with
      | nil => rfl
      | cons d r =>
        have := bin d List.mem_cons_self
        unfold IsBin at this
        rcases this with rfl | rfl <;> rfl
    rw [e]
    unfold Builtin.Str.padded
    rw [show (w : Int).toNat = w from rfl]
    show (⟨Array.replicate (w - l.length) 48 ++ l.toArray ++ Array.replicate 0 48⟩ : Str) = ⟨(List.replicate (w - l.length) 48 ++ l).toArray⟩
    congr 1
    apply Array.ext'
    simp
end Tg

namespace Tg
/-! ### columns: numbers turned, codes, gaps, runs -/
def tn (n : Int) : Int := if 0 ≤ n then 2 * n else -2 * n - 1
def bk (m : Int) : Int := if m % 2 = 0 then m / 2 else -(m / 2) - 1
theorem bk_tn (n : Int) : bk (tn n) = n := by
  unfold tn bk
  split
  · rw [if_pos (by omega)]
    omega
  · rw [if_neg (by omega)]
    omega
def tN (n : Int) : Nat := (tn n).toNat
theorem tn_nat (n : Int) : tn n = (tN n : Nat) := by
  unfold tN
  unfold tn
  split <;> omega
theorem tN_lt {n : Int} {b : Nat} (h : n.natAbs < 2 ^ b) : tN n < 2 ^ (b + 1) := by
  unfold tN tn
  rw [Nat.pow_succ]
  split <;> omega
theorem tN_inj {a b : Int} (h : tN a = tN b) : a = b := by
  have e : tn a = tn b := by rw [tn_nat, tn_nat, h]
  rw [← bk_tn a, ← bk_tn b, e]
def cd (n : Int) : List Nat := ownL (tN n)
def cds (xs : List Int) : List Nat := (xs.map cd).flatten
theorem cds_app (a b : List Int) : cds (a ++ b) = cds a ++ cds b := by
  unfold cds
  rw [List.map_append, List.flatten_append]
theorem cds_cons (a : Int) (b : List Int) : cds (a :: b) = cd a ++ cds b := rfl
/-- the code at the i-th place -/
theorem cds_at {cs : List Int} {i : Nat} {c : Int} (h : cs[i]? = some c) : cds cs = cds (cs.take i) ++ (cd c ++ cds (cs.drop (i + 1))) := by
  obtain ⟨lt, e⟩ := List.getElem?_eq_some_iff.mp h
  have z : cs = cs.take i ++ c :: cs.drop (i + 1) := by
    rw [← e, List.getElem_cons_drop, List.take_append_drop]
  calc cds cs = cds (cs.take i ++ c :: cs.drop (i + 1)) := by rw [← z]
    _ = _ := by rw [cds_app, cds_cons]
theorem cds_next {cs : List Int} {i : Nat} {c : Int} (h : cs[i]? = some c) : (cds (cs.take (i + 1))).length = (cds (cs.take i)).length + (cd c).length := by
  rw [List.take_add_one, h, Option.toList_some, cds_app, List.length_append]
  congr 1
  unfold cds
  simp
def difs : List Int → List Int
  | a :: b :: r => (b - a) :: difs (b :: r)
  | _ => []
theorem difs_len : ∀ xs : List Int, (difs xs).length = xs.length - 1
  | [] => rfl
  | [_] => rfl
  | a :: b :: r => by
    have := difs_len (b :: r)
    show (difs (b :: r)).length + 1 = _
    rw [this]
    rfl
theorem difs_at : ∀ (xs : List Int) (i : Nat) (a b : Int), xs[i]? = some a → xs[i + 1]? = some b → (difs xs)[i]? = some (b - a)
  | [], _, _, _, h, _ => by simp at h
  | [_], 0, _, _, _, h => by simp at h
  | [_], _ + 1, _, _, h, _ => by simp at h
  | x :: y :: r, 0, a, b, h1, h2 => by
    cases h1
    cases h2
    rfl
  | x :: y :: r, i + 1, a, b, h1, h2 => difs_at (y :: r) i a b h1 h2
def stp (xs : List Int) : List Int := xs.take 1 ++ difs xs
theorem stp_len (xs : List Int) : (stp xs).length = xs.length := by
  unfold stp
  rw [List.length_append, List.length_take, difs_len]
  omega
theorem stp_0 {xs : List Int} {a : Int} (h : xs[0]? = some a) : (stp xs)[0]? = some a := by
  cases xs with
  | nil => simp at h
  | cons x r =>
    cases h
    rfl
theorem stp_at {xs : List Int} {i : Nat} {a b : Int} (h1 : xs[i]? = some a) (h2 : xs[i + 1]? = some b) : (stp xs)[i + 1]? = some (b - a) := by
  unfold stp
  have := (List.getElem?_eq_some_iff.mp h1).1
  rw [List.getElem?_append_right (by rw [List.length_take]; omega), List.length_take, show i + 1 - min 1 xs.length = i by omega]
  exact difs_at xs i a b h1 h2
/-- the codes of turns -/
def trn (xs : List Int) : List Int := xs.take 1 ++ stp (difs xs)
theorem trn_len (xs : List Int) : (trn xs).length = xs.length := by
  unfold trn
  rw [List.length_append, List.length_take, stp_len, difs_len]
  omega
theorem trn_0 {xs : List Int} {a : Int} (h : xs[0]? = some a) : (trn xs)[0]? = some a := by
  cases xs with
  | nil => simp at h
  | cons x r =>
    cases h
    rfl
theorem trn_1 {xs : List Int} {a b : Int} (h1 : xs[0]? = some a) (h2 : xs[1]? = some b) : (trn xs)[1]? = some (b - a) := by
  unfold trn
  have := (List.getElem?_eq_some_iff.mp h1).1
  rw [List.getElem?_append_right (by rw [List.length_take]; omega), List.length_take, show 1 - min 1 xs.length = 0 by omega]
  exact stp_0 (difs_at xs 0 a b h1 h2)
theorem trn_at {xs : List Int} {i : Nat} {a b c : Int} (h1 : xs[i]? = some a) (h2 : xs[i + 1]? = some b) (h3 : xs[i + 2]? = some c) : (trn xs)[i + 2]? = some ((c - b) - (b - a)) := by
  unfold trn
  have := (List.getElem?_eq_some_iff.mp h1).1
  rw [List.getElem?_append_right (by rw [List.length_take]; omega), List.length_take, show i + 2 - min 1 xs.length = i + 1 by omega]
  exact stp_at (difs_at xs i a b h1 h2) (difs_at xs (i + 1) b c h2 h3)
/-! runs -/
abbrev Run := Int × Nat
def rnA (rs : List Run) (x : Int) : List Run := match rs.getLast? with
  | some (y, n) => if y = x then rs.dropLast ++ [(y, n + 1)] else rs ++ [(x, 1)]
  | none => [(x, 1)]
def rn (xs : List Int) : List Run := xs.foldl rnA []
theorem rn_snoc (xs : List Int) (x : Int) : rn (xs ++ [x]) = rnA (rn xs) x := by
  unfold rn
  rw [List.foldl_append]
  rfl
def unr (rs : List Run) : List Int := (rs.map fun r => List.replicate r.2 r.1).flatten
theorem unr_app (a b : List Run) : unr (a ++ b) = unr a ++ unr b := by
  unfold unr
  rw [List.map_append, List.flatten_append]
theorem unr_one (r : Run) : unr [r] = List.replicate r.2 r.1 := by
  unfold unr
  simp
theorem last_split {α : Type} {l : List α} {a : α} (h : l.getLast? = some a) : l = l.dropLast ++ [a] := by
  have ne : l ≠ [] := fun z => by
    rw [z] at h
    cases h
  rw [List.getLast?_eq_some_getLast ne] at h
  cases h
  exact (List.dropLast_concat_getLast ne).symm
theorem rnA_un (rs : List Run) (x : Int) : unr (rnA rs x) = unr rs ++ [x] := by
  unfold rnA
  split
  · rename_i y n h
    split
    · rename_i e
      have z := last_split h
      rw [unr_app, unr_one]
      conv => rhs; rw [z, unr_app, unr_one]
      show _ ++ List.replicate (n + 1) y = _ ++ List.replicate n y ++ [x]
      rw [List.replicate_succ', e, List.append_assoc]
    · rw [unr_app, unr_one]
      rfl
  · rename_i h
    rw [List.getLast?_eq_none_iff.mp h, unr_one]
    rfl
theorem rnA_pos {rs : List Run} (h : ∀ r, r ∈ rs → 1 ≤ r.2) (x : Int) : ∀ r, r ∈ rnA rs x → 1 ≤ r.2 := by
  unfold rnA
  split
  · split
    · intro r hr
      rcases List.mem_append.mp hr with old | new
      · exact h r ((List.dropLast_sublist _).subset old)
      · rw [List.mem_singleton.mp new]
        exact Nat.le_add_left _ _
    · intro r hr
      rcases List.mem_append.mp hr with old | new
      · exact h r old
      · rw [List.mem_singleton.mp new]
        exact Nat.le_refl 1
  · intro r hr
    rw [List.mem_singleton.mp hr]
    exact Nat.le_refl 1
theorem rn_all : ∀ xs : List Int, unr (rn xs) = xs ∧ ∀ r, r ∈ rn xs → 1 ≤ r.2 := by
  have go : ∀ (ys : List Int) (rs : List Run) (done : List Int), unr rs = done → (∀ r, r ∈ rs → 1 ≤ r.2) → unr (ys.foldl rnA rs) = done ++ ys ∧ ∀ r, r ∈ ys.foldl rnA rs → 1 ≤ r.2 := by
    intro ys
    induction ys with
    | nil => exact fun rs done h1 h2 => ⟨by rw [List.append_nil]; exact h1, h2⟩
    | cons y ys ih =>
      intro rs done h1 h2
      have z := ih (rnA rs y) (done ++ [y]) (by rw [rnA_un, h1]) (rnA_pos h2 y)
      rw [List.append_assoc] at z
      exact z
  exact fun xs => go xs [] [] rfl (fun r hr => nomatch hr)
def rcd (r : Run) : List Nat := cd r.1 ++ ownL (r.2 - 1)
def rcds (rs : List Run) : List Nat := (rs.map rcd).flatten
theorem rcds_app (a b : List Run) : rcds (a ++ b) = rcds a ++ rcds b := by
  unfold rcds
  rw [List.map_append, List.flatten_append]
theorem rcds_one (r : Run) : rcds [r] = rcd r := by
  unfold rcds
  simp
/-! ### ways that are read from code to code -/
inductive Way where
  | steps
  | turns
  | runs
/-- a mark: the place of the next code, the number ahead, what is kept beside -/
abbrev Mrk := Nat × Int × Option Int
def enc : Way → List Int → List Nat
  | .steps, xs => cds (stp xs)
  | .turns, xs => cds (trn xs)
  | .runs, xs => rcds (rn xs)
def ahd (xs : List Int) (i : Nat) : Int := if i = 0 then 0 else xs.getD (i - 1) 0
theorem ahd_next {xs : List Int} {i : Nat} {a : Int} (h : xs[i]? = some a) : ahd xs (i + 1) = a := by
  unfold ahd
  rw [if_neg (by omega), Nat.add_sub_cancel, List.getD_eq_getElem?_getD, h]
  rfl
def bsd (xs : List Int) (i : Nat) : Option Int := if i = 0 then none else if i = 1 then some 0 else some (ahd xs i - ahd xs (i - 1))
/-- the mark behind i numbers -/
def MkA : Way → List Int → Nat → Mrk → Prop
  | .steps, xs, i, m => m = ((cds ((stp xs).take i)).length, ahd xs i, none)
  | .turns, xs, i, m => m = ((cds ((trn xs).take i)).length, ahd xs i, bsd xs i)
  | .runs, xs, i, m => (i = 0 ∧ m = (0, 0, none)) ∨ ∃ (pre suf : List Run) (r : Run) (o : Nat), rn xs = pre ++ r :: suf ∧ 1 ≤ o ∧ o ≤ r.2 ∧ i = (unr pre).length + o ∧ m = ((rcds (pre ++ [r])).length, r.1, some ((r.2 - o : Nat) : Int))
theorem mk_begin (W : Way) (xs : List Int) : MkA W xs 0 (0, 0, none) := by
  cases W with
  | steps => rfl
  | turns => rfl
  | runs => exact .inl ⟨rfl, rfl⟩
theorem mk_end {W : Way} {xs : List Int} {m : Mrk} (h : MkA W xs xs.length m) : m.1 = (enc W xs).length := by
  cases W with
  | steps =>
    rw [show m = _ from h, ← stp_len, List.take_length]
    rfl
  | turns =>
    rw [show m = _ from h, ← trn_len, List.take_length]
    rfl
  | runs =>
    obtain ⟨u, pos⟩ := rn_all xs
    rcases h with ⟨e, rfl⟩ | ⟨pre, suf, r, o, er, o1, o2, ei, rfl⟩
    · rw [List.length_eq_zero_iff.mp e]
      rfl
    · have l : (unr (rn xs)).length = xs.length := by rw [u]
      rw [er, show pre ++ r :: suf = pre ++ [r] ++ suf by simp, unr_app, unr_app, unr_one, List.length_append, List.length_append, List.length_replicate] at l
      have z : suf = [] := by
        cases suf with
        | nil => rfl
        | cons q s =>
          have p := pos q (by rw [er]; simp)
          rw [show q :: s = [q] ++ s from rfl, unr_app, unr_one, List.length_append, List.length_replicate] at l
          omega
      subst z
      show (rcds (pre ++ [r])).length = (rcds (rn xs)).length
      rw [er]
end Tg

namespace Tg
open PySem PySem.Spec PyProof.Rows L2
/-! ### rules whose reading names K, said for a comprehension -/
theorem call_lenK {X : Cx} {K : PySem.W.Frag} (hK : X.K = K := by rfl) : CallR X (.builtin "len") (fun xs H Q => ∃ p ys, xs = [V.ref p] ∧ (SqL K H p ys ∨ SqT K H p ys) ∧ Q (V.int (ys.length : Nat)) H) := by
  subst hK
  exact call_len_seq
theorem mt_indexK {X : Cx} {K : PySem.W.Frag} (hK : X.K = K := by rfl) : MtR X "list.index" (rIndex K) := by
  subst hK
  exact mt_index
/-- a rule over X.K is one over K -/
theorem pe_overK {X : Cx} {K : PySem.W.Frag} {e : Expr} (t : PySem.W.Frag → TE) (h : PE X e (t X.K)) (hK : X.K = K := by rfl) : PE X e (t K) := hK ▸ h
theorem yes_i {σ : L2.St} {H : Hp} {Q : Bool → Hp → Prop} (h : Q true H) : tYes σ H Q := h
end Tg

namespace Tg
open PySem PySem.Spec PyProof.Rows L2
/-- the walk of enumerate(xs), xs a list -/
theorem for_enumL {K : PySem.W.Frag} {a : Addr} {xs : List V} {g : TG} {tb : TS} {D : Ends} {σ : L2.St} {H : Hp} (Pv : Nat → L2.St → Hp → Prop) (h0 : Pv 0 σ H) (hl : ∀ i σ H, i ≤ xs.length → Pv i σ H → SqL K H a xs)
    (hs : ∀ (i : Nat) (x : V) (T : Addr) σ H, xs[i]? = some x → Pv i σ H → H T = none → g (.ref T) σ (upd H T (.tup [.int (i : Nat), x])) fun σ2 H2 => tb { D with nx := Pv (i + 1), ct := Pv (i + 1), bk := D.nx } σ2 H2) (hd : ∀ σ H, Pv xs.length σ H → D.nx σ H) :
    ∃ Wk : Nat → Nat → L2.St → Hp → Prop, (∃ m, Wk 0 m σ H) ∧ ∀ i m σ H, Wk i m σ H →
      ((Ite K a).stop i H ∧ D.nx σ H) ∨ ((Ite K a).go i H ∧ ∃ N : L2.St → Hp → Prop, (∀ σ' H', N σ' H' → ∃ m', m' < m ∧ Wk (i + 1) m' σ' H') ∧ ∀ x H', (Ite K a).yld i H x H' → g x σ H' fun σ2 H2 => tb { D with nx := N, ct := N, bk := D.nx } σ2 H2) := by
  refine ⟨fun i m σ H => m = xs.length - i ∧ i ≤ xs.length ∧ Pv i σ H, ⟨xs.length - 0, rfl, Nat.zero_le _, h0⟩, ?_⟩
  rintro i m σ H ⟨rfl, hi, p⟩
  have q := hl i σ H hi p
  by_cases lt : i < xs.length
  · refine .inr ⟨⟨xs, xs[i], q, by simp [lt]⟩, Pv (i + 1), fun σ' H' p' => ⟨xs.length - (i + 1), by omega, rfl, lt, p'⟩, fun x H' y => ?_⟩
    obtain ⟨T, v, rfl, nT, rfl, fT⟩ := y
    exact hs i v T σ H (fT xs q) p nT
  · obtain rfl : i = xs.length := by omega
    exact Or.inl ⟨⟨xs, q, Nat.le_refl xs.length⟩, hd σ H p⟩
end Tg

namespace Tg
open PySem PySem.Spec PyProof.Rows L2
/-! ### a comprehension without a test whose items are known beforehand -/
/-- the new list at D takes y -/
abbrev Grows (D : Addr) (Nx : Hp → Prop) (y : V) (H : Hp) : Prop := ∃ acc, H D = some (.lst acc) ∧ acc.length < sizeLine ∧ Nx (upd H D (.lst (acc ++ [y])))
/-- the new dict at D takes y: z -/
abbrev Holds2 (D : Addr) (Nx : Hp → Prop) (y z : V) (H : Hp) : Prop := ∃ kvs k, y = kV k ∧ H D = some (.dK kvs) ∧ kvs.length < sizeLine ∧ Nx (upd H D (.dK (putK kvs k z)))
/-- a turn that takes x in, and goes on by fin -/
abbrev Turn1 (g : TG) (vs : List Nat) (σ : L2.St) (fin : L2.St → Hp → Prop) (Nx : Hp → Prop) (x : V) (H' : Hp) : Prop :=
  g x (wipe σ vs) H' fun σ2 H2 => wipe σ2 vs = wipe σ vs ∧ tYes σ2 H2 fun b H3 => if b = true then fin σ2 H3 else Nx H3
abbrev TurnL (g : TG) (te : TE) (vs : List Nat) (σ : L2.St) (D : Addr) (Nx : Hp → Prop) : V → Hp → Prop := Turn1 g vs σ (fun σ2 H3 => te σ2 H3 fun y H4 => Grows D Nx y H4) Nx
abbrev TurnD (g : TG) (tk tv : TE) (vs : List Nat) (σ : L2.St) (D : Addr) (Nx : Hp → Prop) : V → Hp → Prop := Turn1 g vs σ (fun σ2 H3 => tk σ2 H3 fun y H4 => tv σ2 H4 fun z H5 => Holds2 D Nx y z H5) Nx
/-- a walk of J from Z on, each turn by turn, what is wanted behind it Qd -/
abbrev Walked (J : It) (Z : Hp) (turn : (Hp → Prop) → V → Hp → Prop) (Qd : Hp → Prop) : Prop :=
  ∃ Wk : Nat → Nat → Hp → Prop, (∃ m, Wk 0 m Z) ∧ ∀ (i m : Nat) (Hc : Hp), Wk i m Hc →
    (J.stop i Hc ∧ Qd Hc) ∨ (J.go i Hc ∧ ∃ Nx : Hp → Prop, (∀ Hn, Nx Hn → ∃ m', m' < m ∧ Wk (i + 1) m' Hn) ∧ ∀ x Hn, J.yld i Hc x Hn → turn Nx x Hn)
section
variable {K : PySem.W.Frag} {g : TG} {te : TE} {vs : List Nat} {σ : L2.St} {H1 : Hp} {D : Addr} {Qd : Hp → Prop} {J : It}
/-- the walk J, of n turns; x: what it hands out at i (behind it the heap is told by R) -/
theorem lc_walk (n : Nat) (ys : List V) (ly : ys.length = n) (nD : H1 D = none) (small : n < sizeLine)
    (stop : ∀ Hc, Same H1 Hc → J.stop n Hc) (go : ∀ i Hc, i < n → Same H1 Hc → J.go i Hc)
    (hs : ∀ i x y Hc H' (Q : VK), i < n → ys[i]? = some y → Same H1 Hc → J.yld i Hc x H' → (∀ H4, Same H' H4 → Q y H4) → g x (wipe σ vs) H' fun σ2 H2 => wipe σ2 vs = wipe σ vs ∧ te σ2 H2 Q)
    (grow : ∀ i x Hc H', i < n → Same H1 Hc → J.yld i Hc x H' → Same Hc H')
    (hd : ∀ H', Same H1 H' → H' D = some (.lst ys) → Qd H') :
    Walked J (upd H1 D (.lst [])) (TurnL g te vs σ D) Qd := by
  refine ⟨fun i m H => m = n - i ∧ i ≤ n ∧ Same H1 H ∧ H D = some (.lst (ys.take i)), ⟨n, by omega, Nat.zero_le _, fun b o e => ?_, upd_same⟩, ?_⟩
  · rw [upd_ne (ne_of_none e nD)]
    exact e
  rintro i m H ⟨rfl, hi, sm, hD⟩
  by_cases lt : i < n
  · refine .inr ⟨go i H lt sm, fun H' => Same H1 H' ∧ H' D = some (.lst (ys.take (i + 1))), fun H' h => ⟨n - (i + 1), by omega, rfl, lt, h.1, h.2⟩, fun x H' yl => ?_⟩
    obtain ⟨y, ey⟩ : ∃ y, ys[i]? = some y := ⟨_, List.getElem?_eq_getElem (by omega)⟩
    have s2 := grow i x H H' lt sm yl
    have z := hs i x y H H' (fun y H4 => Grows D (fun H' => Same H1 H' ∧ H' D = some (.lst (ys.take (i + 1)))) y H4) lt ey sm yl fun H4 s4 => by
      refine ⟨ys.take i, s4 _ _ (s2 _ _ hD), ?_, fun b o e => ?_, ?_⟩
      · rw [List.length_take]
        omega
      · rw [upd_ne (ne_of_none e nD)]
        exact s4 _ _ (s2 _ _ (sm _ _ e))
      · rw [upd_same, List.take_add_one, ey]
        rfl
    refine cast (congrArg (g x (wipe σ vs) H') (funext fun σ2 => funext fun H2 => ?_)) z
    unfold tYes
    exact congrArg _ (if_pos rfl).symm
  · obtain rfl : i = n := by omega
    refine .inl ⟨stop H sm, hd H sm ?_⟩
    rw [hD, List.take_of_length_le (by omega)]
/-- [.. for x in xs] -/
theorem lc_mapL {a : Addr} {xs : List V} (ys : List V) (ly : ys.length = xs.length) (nD : H1 D = none) (hx : SqL K H1 a xs) (small : xs.length < sizeLine)
    (hs : ∀ (i : Nat) (x y : V) (Hc : Hp) (Q : VK), xs[i]? = some x → ys[i]? = some y → Same H1 Hc → (∀ H4, Same Hc H4 → Q y H4) → g x (wipe σ vs) Hc fun σ2 H2 => wipe σ2 vs = wipe σ vs ∧ te σ2 H2 Q)
    (hd : ∀ H', Same H1 H' → H' D = some (.lst ys) → Qd H') :
    Walked (Itl K a) (upd H1 D (.lst [])) (TurnL g te vs σ D) Qd :=
  lc_walk (J := Itl K a) xs.length ys ly nD small (fun Hc sm => ⟨xs, sm.seq hx, Nat.le_refl _⟩) (fun i Hc lt sm => ⟨xs, xs[i], sm.seq hx, List.getElem?_eq_getElem lt⟩)
    (fun i x y Hc H' Q lt ey sm yl q => by
      obtain ⟨rfl, h⟩ := yl
      exact hs i x y _ Q (h xs (sm.seq hx)) ey sm q) (fun i x Hc H' _ _ yl => by rw [yl.1]; exact Same.refl _) hd
/-- [.. for x, y in zip(xs, ys)] -/
theorem lc_mapZ {a b : Addr} {xs zs : List V} (ys : List V) (n : Nat) (en : n = min xs.length zs.length) (ly : ys.length = n) (nD : H1 D = none) (hx : SqL K H1 a xs) (hz : SqL K H1 b zs) (small : n < sizeLine)
    (hs : ∀ (i : Nat) (x z y : V) (T : Addr) (Hc : Hp) (Q : VK), xs[i]? = some x → zs[i]? = some z → ys[i]? = some y → Same H1 Hc → Hc T = some (.tup [x, z]) → (∀ H4, Same Hc H4 → Q y H4) → g (.ref T) (wipe σ vs) Hc fun σ2 H2 => wipe σ2 vs = wipe σ vs ∧ te σ2 H2 Q)
    (hd : ∀ H', Same H1 H' → H' D = some (.lst ys) → Qd H') :
    Walked (Itz K a b) (upd H1 D (.lst [])) (TurnL g te vs σ D) Qd :=
  lc_walk (J := Itz K a b) n ys ly nD small (fun Hc sm => ⟨xs, zs, sm.seq hx, sm.seq hz, by omega⟩) (fun i Hc lt sm => ⟨xs, zs, xs[i]'(by omega), zs[i]'(by omega), sm.seq hx, sm.seq hz, List.getElem?_eq_getElem (by omega), List.getElem?_eq_getElem (by omega)⟩)
    (fun i x y Hc H' Q lt ey sm yl q => by
      obtain ⟨T, u, v, rfl, nT, rfl, h1, h2⟩ := yl
      exact hs i u v y T _ Q (h1 xs (sm.seq hx)) (h2 zs (sm.seq hz)) ey (sm.trans (fun b o e => by rw [upd_ne (ne_of_none e nT)]; exact e)) upd_same q)
    (fun i x Hc H' _ _ yl => by
      obtain ⟨T, u, v, rfl, nT, rfl, _, _⟩ := yl
      exact fun b o e => by rw [upd_ne (ne_of_none e nT)]; exact e) hd
/-- [.. for i in range(lo, ..)] -/
theorem lc_mapR {lo : Int} {n : Nat} (ys : List V) (ly : ys.length = n) (nD : H1 D = none) (small : n < sizeLine)
    (hs : ∀ (i : Nat) (y : V) (Hc : Hp) (Q : VK), i < n → ys[i]? = some y → Same H1 Hc → (∀ H4, Same Hc H4 → Q y H4) → g (.int (lo + i)) (wipe σ vs) Hc fun σ2 H2 => wipe σ2 vs = wipe σ vs ∧ te σ2 H2 Q)
    (hd : ∀ H', Same H1 H' → H' D = some (.lst ys) → Qd H') :
    Walked (Itr lo n) (upd H1 D (.lst [])) (TurnL g te vs σ D) Qd :=
  lc_walk (J := Itr lo n) n ys ly nD small (fun Hc sm => Nat.le_refl _) (fun i Hc lt sm => lt)
    (fun i x y Hc H' Q lt ey sm yl q => by
      obtain ⟨rfl, rfl⟩ := yl
      exact hs i y _ Q lt ey sm q) (fun i x Hc H' _ _ yl => by rw [yl.1]; exact Same.refl _) hd
/-- [.. for i in range(lo, .., c)] -/
theorem lc_mapC {lo c : Int} {n : Nat} (ys : List V) (ly : ys.length = n) (nD : H1 D = none) (small : n < sizeLine)
    (hs : ∀ (i : Nat) (y : V) (Hc : Hp) (Q : VK), i < n → ys[i]? = some y → Same H1 Hc → (∀ H4, Same Hc H4 → Q y H4) → g (.int (lo + (i : Nat) * c)) (wipe σ vs) Hc fun σ2 H2 => wipe σ2 vs = wipe σ vs ∧ te σ2 H2 Q)
    (hd : ∀ H', Same H1 H' → H' D = some (.lst ys) → Qd H') :
    Walked (Itc lo c n) (upd H1 D (.lst [])) (TurnL g te vs σ D) Qd :=
  lc_walk (J := Itc lo c n) n ys ly nD small (fun Hc sm => Nat.le_refl _) (fun i Hc lt sm => lt)
    (fun i x y Hc H' Q lt ey sm yl q => by
      obtain ⟨rfl, rfl⟩ := yl
      exact hs i y _ Q lt ey sm q) (fun i x Hc H' _ _ yl => by rw [yl.1]; exact Same.refl _) hd
/-! ### a dict comprehension whose entries are known, each key once -/
theorem putK_new {kvs : List (Key × V)} {k : Key} {z : V} (h : k ∉ kvs.map (·.1)) : putK kvs k z = kvs ++ [(k, z)] := by
  have new : (kvs.any fun y => decide (y.1 = k)) = false := by
    rw [List.any_eq_false]
    intro y hy e
    exact h (List.mem_map.mpr ⟨y, hy, of_decide_eq_true e⟩)
  unfold putK
  rw [new, if_neg (by decide)]
theorem dc_walk {tk tv : TE} (n : Nat) (es : List (Key × V)) (le : es.length = n) (nd : (es.map (·.1)).Nodup) (nD : H1 D = none) (small : n < sizeLine)
    (stop : ∀ Hc, Same H1 Hc → J.stop n Hc) (go : ∀ i Hc, i < n → Same H1 Hc → J.go i Hc)
    (hs : ∀ i x k y Hc H' (Q : VK), i < n → es[i]? = some (k, y) → Same H1 Hc → J.yld i Hc x H' → (∀ H4, Same H' H4 → Q y H4) → g x (wipe σ vs) H' fun σ2 H2 => wipe σ2 vs = wipe σ vs ∧ tk σ2 H2 fun u H3 => tv σ2 H3 fun v H4 => u = kV k ∧ v = y ∧ Same H' H4)
    (mono : ∀ σ2 H2 (A B : V → V → Hp → Prop), (∀ u v H', A u v H' → B u v H') → (tk σ2 H2 fun u H3 => tv σ2 H3 fun v H4 => A u v H4) → tk σ2 H2 fun u H3 => tv σ2 H3 fun v H4 => B u v H4)
    (gm : ∀ x σ2 H2 (A B : L2.St → Hp → Prop), (∀ σ3 H3, A σ3 H3 → B σ3 H3) → g x σ2 H2 A → g x σ2 H2 B)
    (grow : ∀ i x Hc H', i < n → Same H1 Hc → J.yld i Hc x H' → Same Hc H')
    (hd : ∀ H', Same H1 H' → H' D = some (.dK es) → Qd H') :
    Walked J (upd H1 D (.dK [])) (TurnD g tk tv vs σ D) Qd := by
  refine ⟨fun i m H => m = n - i ∧ i ≤ n ∧ Same H1 H ∧ H D = some (.dK (es.take i)), ⟨n, by omega, Nat.zero_le _, fun b o e => ?_, upd_same⟩, ?_⟩
  · rw [upd_ne (ne_of_none e nD)]
    exact e
  rintro i m H ⟨rfl, hi, sm, hD⟩
  by_cases lt : i < n
  · refine .inr ⟨go i H lt sm, fun H' => Same H1 H' ∧ H' D = some (.dK (es.take (i + 1))), fun H' h => ⟨n - (i + 1), by omega, rfl, lt, h.1, h.2⟩, fun x H' yl => ?_⟩
    obtain ⟨⟨k, y⟩, ey⟩ : ∃ y, es[i]? = some y := ⟨_, List.getElem?_eq_getElem (by omega)⟩
    have s2 := grow i x H H' lt sm yl
    have z := hs i x k y H H' (fun _ _ => True) lt ey sm yl fun _ _ => trivial
    refine gm _ _ _ _ _ (fun σ2 H2 h => ⟨h.1, ?_⟩) z
    unfold tYes
    dsimp only
    rw [if_pos rfl]
    refine mono _ _ _ _ (fun u v H4 h => ?_) h.2
    obtain ⟨rfl, rfl, s4⟩ := h
    refine ⟨es.take i, k, rfl, s4 _ _ (s2 _ _ hD), ?_, fun b o e => ?_, ?_⟩
    · rw [List.length_take]
      omega
    · rw [upd_ne (ne_of_none e nD)]
      exact s4 _ _ (s2 _ _ (sm _ _ e))
    · rw [upd_same, putK_new, List.take_add_one, ey]
      · rfl
      · intro hk
        rw [List.map_take] at hk
        obtain ⟨j, hj, ej⟩ := List.mem_iff_getElem.mp hk
        rw [List.length_take] at hj
        rw [List.getElem_take] at ej
        have e1 : (es.map (·.1))[j]? = some k := by rw [List.getElem?_eq_getElem (by omega), ej]
        have e2 : (es.map (·.1))[i]? = some k := by rw [List.getElem?_map, ey]; rfl
        have := (List.getElem?_inj (by omega) nd).mp (e1.trans e2.symm)
        omega
  · obtain rfl : i = n := by omega
    refine .inl ⟨stop H sm, hd H sm ?_⟩
    rw [hD, List.take_of_length_le (by omega)]
end
end Tg

namespace Tg
open PySem PySem.Spec PyProof.Rows L2
open SX (S)
/-! ### long texts as lists of signs -/
section
variable {X : Cx}
theorem fit60 {n : Nat} (h : n ≤ 60000) : n ≤ sizeLine := Nat.le_trans h (by decide)
theorem op_addB : OpR X (binaryOp .Add) (fun x y H Q => ∃ a b : List Nat, x = .str (S a) ∧ y = .str (S b) ∧ a.length + b.length ≤ 60000 ∧ Q (.str (S (a ++ b))) H) := by
  rintro pins s σ H x y v u Q I rx ry ⟨a, b, rfl, rfl, few, q⟩
  refine op_add_str pins s σ H _ _ v u Q I rx ry ⟨S a, S b, rfl, rfl, ?_, ?_⟩
  · rw [SX.S_len, SX.S_len]
    exact fit60 few
  · rw [SX.S_cat]
    exact q
theorem call_lenB : CallR X (.builtin "len") (fun xs H Q => ∃ a : List Nat, xs = [.str (S a)] ∧ a.length ≤ 60000 ∧ Q (.int (a.length : Nat)) H) := by
  rintro pins s σ H xs us Q I r ⟨a, rfl, few, q⟩
  refine call_len_str pins s σ H _ us Q I r ⟨S a, rfl, ?_, ?_⟩
  · rw [SX.S_len]
    exact fit60 few
  · rw [SX.S_len]
    exact q
theorem flat_len : ∀ ys : List (List Nat), (ys.map List.length).sum = ys.flatten.length
  | [] => rfl
  | y :: r => by
    rw [List.map_cons, List.sum_cons, flat_len r, List.flatten_cons, List.length_append]
theorem joinL_none : ∀ ys : List (List Nat), TL.joinL [] ys = ys.flatten
  | [] => rfl
  | [y] => by simp [TL.joinL]
  | y :: u :: r => by
    show y ++ ([] ++ TL.joinL [] (u :: r)) = y ++ (u :: r).flatten
    rw [List.nil_append, joinL_none (u :: r)]
theorem join_none (ys : List (List Nat)) : Txt.join (S []) (ys.map S) = S ys.flatten := by
  rw [show Txt.join (S []) (ys.map S) = _ from SX.join_S [] ys, joinL_none]
/-- "".join(a list of texts) -/
theorem mt_joinB : MtR X "str.join" (fun x xs H Q => ∃ (p : Addr) (ys : List (List Nat)), x = .str (S []) ∧ xs = [.ref p] ∧ SqL X.K H p (ys.map fun y => V.str (S y)) ∧ ys.flatten.length ≤ 60000 ∧ Q (.str (S ys.flatten)) H) := by
  rintro pins s σ H x xs v us Q I rx rs ⟨p, ys, rfl, rfl, hp, few, q⟩
  refine mt_join pins s σ H _ _ v us Q I rx rs ⟨S [], p, ys.map S, rfl, rfl, .inl ?_, ?_, ?_⟩
  · rw [List.map_map]
    exact hp
  · rw [List.map_map, show (fun x : Str => x.length) ∘ S = List.length from funext fun l => SX.S_len l, flat_len]
    show _ + _ * 0 ≤ 16777216
    omega
  · rw [join_none]
    exact q
end
end Tg

namespace Tg
open PySem PySem.Spec PyProof.Rows L2
/-! ### set(xs), xs a list of ints; sorted of it -/
section
variable {w : World} {P : Program} {s : Shared} {A : Around} {E : Value → Shared → Prop}
/-- a set without members, as it is laid -/
def emp (w : World) : Obj := { cls := .type "set", dict := none, data := .set #[] 0 (.fresh 0 0 (!w.params.followText "set-order")) }
/-- what has to come of it -/
def Came (w : World) (s : Shared) (ns : List Int) (h' : Heap) (c : Nat) : Prop := SetR w h' s.heap.objs.size (fun j => decide (j ∈ ns)) c ∧ c ≤ ns.length ∧ ∀ b o, s.heap.get? b = some o → h'.get? b = some o
theorem isl_plain {l : Addr} {items : Array Value} {hp : Heap} (h : hp.IsList l items) : ∃ o, hp.get? l = some o ∧ o.cls = .type "list" ∧ ∃ n, o.data = .seq items n := by
  exact h
set_option maxHeartbeats 3200000 in
theorem call_setL {l : Addr} {items : Array Value} (ns : List Int) {Q : Value → Shared → Prop} (calm : A.handled = none) (hl : s.heap.IsList l items) (are : IntsAre items.toList ns) (few : ns.length + 1 < scanBound)
    (out : ∀ (h' : Heap) (tk c : Nat), Came w s ns h' c → Q (.ref s.heap.objs.size) { s with heap := h', toks := tk }) : wpAny (model P w) A (call (.type "set") [.ref l]) Q E s := by
  have many : items.size = ns.length := by
    have z := IntsAre.length are
    rwa [Array.length_toList] at z
  obtain ⟨cc, rest, line⟩ := F.called_set.mro
  have f1 := F.called_set.made
  have f2 := F.called_set.sub
  refine wpAny_call (codeAny_of_tree (show wpAny _ _ (callAny (.type "set") _) _ _ _ from wpAny_pure ⟨Code.quiet_builtin _ (by decide +kernel), codeAny_builtin F.entry_type_call ?_⟩))
  rw [Around.under_plain (weight_type_call_type "set" [.ref l] []) rfl]; have f3 := F.called_set.notType
  have f4 := F.called_set.canCreate
  have f5 := F.typeCall_set_1 (.ref l); repeat (any_goals (first | assumption | wp_step))
  refine codeAny_mono (code_set_led1 (.ref l) (E := E) (Q₁ := fun obj s₁ => obj = .ref s.heap.objs.size ∧ s₁ = { s with heap := s.heap.push (emp w) }) ⟨rfl, rfl⟩) fun r s₁ hr => ?_
  match r, hr with
  | .error e, hr => exact hr
  | .ok .next, hr => exact hr.elim
  | .ok .brk, hr => exact hr.elim
  | .ok .cont, hr => exact hr.elim
  | .ok (.ret obj), ⟨eo, es⟩ =>
    subst eo
    subst es
    have at0 : (s.heap.push (emp w)).get? s.heap.objs.size = some (emp w) := Heap.get?_push_size _ rfl
    have ty0 : Shared.TypeIs { s with heap := s.heap.push (emp w) } (.ref s.heap.objs.size) "set" := ⟨_, at0, rfl⟩
    have f6 := F.called_set.init.lookup
    have f7 := F.called_set.init.bind (.ref s.heap.objs.size); repeat (any_goals (first | assumption | wp_step))
    refine codeAny_mono (codeAny_call_builtin (R := wants (fun r s₂ => r = .none ∧ ∃ h' tk c, s₂ = { s with heap := h', toks := tk } ∧ Came w s ns h' c) E) F.called_set.init.plain F.entry_set_init (check_set_init_1 ty0 ?_)) fun r₂ s₂ hr₂ => ?_
    · obtain ⟨⟨ocls, odict, odata, oslots⟩, hol, hcl, nl, hdl⟩ := isl_plain hl
      simp only at hcl hdl
      subst hcl
      subst hdl
      have below : l < s.heap.objs.size := Heap.lt_size hol
      have at1 : (s.heap.push (emp w)).get? l = some { cls := .type "list", dict := odict, data := .seq items nl, slots := oslots } := Heap.get?_push_of_some _ hol
      have g1 := F.sub_list_set
      have g2 := F.sub_list_frozenset
      have g3 : (Value.type "list" == Value.type "dict") = false := by decide
      have hl1 : (s.heap.push (emp w)).IsList l items := hl.push _
      unfold Builtin.«set.__init__» noKeywords Builtin.Frozenset.updateFrom; generalize hPI : pyIter = PI
      wp_walk
      subst hPI
      refine wpAny_pyIter_list hl1 (wpAny_bind (wpAny_runValue ?_))
      have hh3 : A.in1.in1.in1.handled = none := by simp [calm]
      have apart : l ≠ (s.heap.push (emp w)).objs.size := by
        rw [Heap.size_push]
        exact Nat.ne_of_lt (Nat.lt_succ_of_lt below)
      have off : s.heap.objs.size ∉ [(s.heap.push (emp w)).objs.size, l] := by
        rw [Heap.size_push]
        simp only [List.mem_cons, List.mem_singleton, List.not_mem_nil, or_false, not_or]
        exact ⟨Nat.ne_of_lt (Nat.lt_succ_self _), Nat.ne_of_gt below⟩
      have vals : ∀ (i : Nat) (v : Value), items[i]? = some v → ∃ k t, ns[i]? = some k ∧ v = .int k t := fun i v hv => by
        have hi : i < ns.length := many ▸ (Array.getElem?_eq_some_iff.mp hv).1
        obtain ⟨t, e⟩ := PyProof.Rows.IntsAre.int_at are i v (by rw [Array.getElem?_toList]; exact hv)
        rw [List.getD_eq_getElem?_getD, List.getElem?_eq_getElem hi] at e
        exact ⟨ns[i], t, List.getElem?_eq_getElem hi, e⟩
      refine set_update_ints ((Walks.list hh3 _ l apart items).toS) s.heap.objs.size off ns many few vals (items.size - 0) 0 _ (by omega) (Nat.zero_le _) ⟨⟨_, Heap.get?_push_size _ rfl, rfl, rfl⟩, hl1.push _⟩ ?_ ?_
      · exact ⟨0, Nat.le_refl 0, setR_new_at (Heap.get?_push_of_some _ at0)⟩
      · intro s' c' hm hc' hS'
        obtain ⟨h', g2', d', tk', os'⟩ := s'
        obtain rfl : g2' = s.gens := hm.gens
        obtain rfl : d' = s.drawn := hm.drawn
        obtain rfl : os' = s.os := hm.os
        show wpAny _ _ _ _ _ _
        refine wpAny_pure (show wpAny _ _ (ret Value.none) _ _ _ from wpAny_pure ⟨rfl, h', tk', c', rfl, hS', many ▸ hc', fun b o e => ?_⟩)
        have lt := Heap.lt_size e
        refine hm.heap b o ?_ (Heap.get?_push_of_some _ (Heap.get?_push_of_some _ e))
        simp only [List.mem_cons, List.mem_singleton, List.not_mem_nil, or_false, not_or]
        rw [Heap.size_push]
        exact ⟨Nat.ne_of_lt lt, Nat.ne_of_lt (Nat.lt_succ_of_lt lt)⟩
    · match r₂, hr₂ with
      | .error e, hr₂ => exact hr₂
      | .ok .next, hr₂ => exact hr₂.elim
      | .ok .brk, hr₂ => exact hr₂.elim
      | .ok .cont, hr₂ => exact hr₂.elim
      | .ok (.ret r), ⟨e1, h', tk, c', e2, come⟩ =>
        subst e1
        subst e2; repeat (any_goals (first | assumption | wp_step))
        exact out _ _ _ come
end
section
variable {X : Cx}
theorem few_of : ∀ {rs L : List Int}, rs.Nodup → (∀ r, r ∈ rs → r ∈ L) → rs.length ≤ L.length
  | [], L, _, _ => Nat.zero_le _
  | r :: rs, L, nd, h => by
    have n1 := (List.nodup_cons.mp nd).1
    have hr : r ∈ L := h r List.mem_cons_self
    have i := few_of (rs := rs) (L := L.erase r) (List.nodup_cons.mp nd).2 fun q hq => (List.mem_erase_of_ne (fun z : q = r => n1 (by rw [← z]; exact hq))).mpr (h q (List.mem_cons_of_mem _ hq))
    rw [List.length_erase_of_mem hr] at i
    have := List.length_pos_of_mem hr
    show rs.length + 1 ≤ L.length
    omega
/-- a set has no more members than any list that has them -/
theorem setR_few {w : World} {h : Heap} {a : Addr} {S : Int → Bool} {n : Nat} (R : SetR w h a S n) {L : List Int} (all : ∀ k, S k = true → k ∈ L) : n ≤ L.length := by
  obtain ⟨o, es, ep, t, _, _, _, _, nd, mem, _, _, size, _⟩ := R
  have z := few_of nd fun r hr => all r ((mem r).mpr hr)
  rw [List.length_map, Array.length_toList, size] at z
  exact z
/-- set(xs) -/
def rSetL (K : PySem.W.Frag) (w : World) : List V → Hp → VK → Prop := fun vs H Q => ∃ (l : Addr) (ns : List Int), vs = [V.ref l] ∧ SqL K H l (ns.map V.int) ∧ ns.length ≤ 1000 ∧ ∀ (a : Addr) (c : Nat), H a = none → (∀ L : List Int, (∀ k, k ∈ ns → k ∈ L) → c ≤ L.length) → Q (.ref a) (upd H a (SetO w a (fun j => decide (j ∈ ns)) c))
theorem cr_setL (hc : X.calm = true) : CallR X (.type "set") (rSetL X.K X.w) := by
  intro pins s σ H vs us Q I r want
  obtain ⟨l, ns, rfl, hl, few, q⟩ := want
  rw [Vals.ref1 r]
  obtain ⟨its, rv, isl, _⟩ := I.list hl
  refine call_setL ns (I.ok.hd hc) isl.isList ?_ (by unfold scanBound; omega) fun h' tk c come => ?_
  · exact intsAre_of rv
  · obtain ⟨R, le, kp⟩ := come
    exact ⟨.ref s.heap.objs.size, _, I.laid (t' := tk) kp (Nat.le_refl _) (setO_new R), rfl, q _ c (I.hok.fresh (Nat.le_refl _)) fun L hL => setR_few R fun k hk => hL k (of_decide_eq_true hk)⟩
end
end Tg

namespace Tg
open PySem PySem.Spec PyProof.Rows L2
/-! ### sorted of a set of numbers, however many (the library's own rule ends at 63) -/
/-- a set's members, handed out in some order: whole numbers, the set's keys -/
theorem keys_out {es : Array (Int × Value)} {vs : List Value} (good : ∀ e ∈ es.toList, GoodE e) (pm : vs.Perm (es.toList.map (·.2))) :
    IntsAre vs (vs.map Builtin.Re.reRawOf) ∧ (vs.map Builtin.Re.reRawOf).Perm (es.toList.map keyOf) := by
  refine ⟨ints_of vs fun v hv => ?_, ?_⟩
  · have there := pm.mem_iff.mp hv
    rw [List.mem_map] at there
    obtain ⟨e, he, rfl⟩ := there
    have ⟨k, tk, h1, _⟩ := good e he
    exact ⟨k, tk, h1⟩
  · exact List.map_map (f := (·.2)) (g := Builtin.Re.reRawOf) (l := es.toList) ▸ pm.map Builtin.Re.reRawOf
/-- the rising list of just the n numbers of S -/
def Rising (S : Int → Bool) (n : Nat) (ns : List Int) : Prop := ns.Pairwise (· < ·) ∧ (∀ k : Int, k ∈ ns ↔ S k = true) ∧ ns.length = n
/-- what stood before a list was made and sorted stands behind it -/
theorem sorted_keeps {h : Heap} {o u : Obj} {vs : List Value} {out : Array Value} {b : Addr} (q : h.get? b = some u) : (sortedHeap (h.push o) h.objs.size vs out).get? b = some u := by
  have lt := Heap.lt_size q
  exact (sortedHeap_old (Nat.ne_of_lt lt) (size_push' h o ▸ Nat.lt_succ_of_lt lt)).trans (Heap.get?_push_of_some o q)
section
variable {P : Program} {w : World} {A : Around} {s : Shared} {E : Value → Shared → Prop} {a : Addr}
theorem sorted_setA {S : Int → Bool} {n : Nat} {Q : Value → Shared → Prop} (R : SetR w s.heap a S n) (free : A.handled = none) (few : n ≤ sizeLine)
    (told : ∀ s' p (out : List Value) (c : Nat) (ns : List Int), (∀ b o, s.heap.get? b = some o → s'.heap.get? b = some o) → s'.gens = s.gens → s'.os = s.os → s.heap.objs.size ≤ p →
      s'.heap.get? p = some (seqObj "list" out.toArray c) → IntsAre out ns → Rising S n ns → Q (.ref p) s') : wpAny (model P w) A (call (.builtin "sorted") [.ref a]) Q E s := by
  have ⟨o, es, ep, tbl, at_a, exact_set, dat, good, once, mem, bound, fits, count, ris, led⟩ := R
  apply Calls.call_function_entry kind_sorted plain_sorted entry_sorted (args_sorted1 _)
  unfold Builtin.«sorted»
  apply wpAny_bind
  apply wpAny_pure
  apply wpAny_bind
  apply collect_set (A := A.in1) free ⟨o, at_a, exact_set.1, dat⟩ fits bound ris led
  intro s1 vs kept more gens1 os1 pm
  obtain ⟨are, perm⟩ := keys_out good pm
  have many : vs.length = n := by
    have := pm.length_eq
    rw [List.length_map] at this
    exact this.trans (Array.length_toList.trans count)
  have room : vs.length ≤ sizeLine := many ▸ few
  have at_l := Heap.get?_push_size s1.heap (o := seqObj "list" vs.toArray 0) rfl
  apply wpAny_bind
  refine wpAny_newList (hsz := room) (wpAny_bind (wpAny_holding (wpAny_call_entry slot_list_sort ⟨_, at_l, rfl⟩ entry_list_sort ?_ (args_list_sort _))))
  refine SrtO.list_sort_ord SrtO.swo_int at_l room (SrtO.ints_sortable are) fun out up stable => ⟨_, rfl, ?_⟩
  have ⟨a1, a2, a3⟩ := SrtO.ints_out are up stable
  have pn := a2.trans perm
  have ⟨c, hc⟩ := sortedHeap_at (out := out.toArray) at_l
  refine wpAny_pure ⟨_, rfl, told _ s1.heap.objs.size out c _ (fun b u e => ?_) gens1 os1 more hc a1 ⟨lt_of_le_nodup _ a3 (pn.nodup_iff.mpr once), fun k => pn.mem_iff.trans (mem k).symm, ?_⟩⟩
  · exact sorted_keeps (kept b u e)
  · rw [pn.length_eq, List.length_map]
    exact Array.length_toList.trans count
end
def rSortedSetA (w : World) : List V → Hp → VK → Prop := fun vs H Q => ∃ (a : Addr) (S : Int → Bool) (n : Nat), vs = [V.ref a] ∧ H a = some (SetO w a S n) ∧ n ≤ sizeLine ∧
  ∀ ns p, Rising S n ns → H p = none → Q (.ref p) (upd H p (.lst (ns.map V.int)))
theorem cr_sortedSetA {X : Cx} (calm : X.calm = true) : CallR X (.builtin "sorted") (rSortedSetA X.w) := by
  rintro pins s σ H vs us Q I rel ⟨a, S, n, rfl, ha, few, q⟩
  rw [Vals.ref1 rel]
  refine sorted_setA (setO_get I ha) (I.ok.hd calm) few fun s' p out c ns k g o hp hg hi up => ?_
  have len : (ns.map V.int).length ≤ sizeLine := by
    rw [List.length_map, up.2.2]
    exact few
  have new := I.hok.fresh hp
  have J := I.call' (s' := s') (ch := []) (H' := upd H p (.lst (ns.map V.int))) o (Un.laid k hp new) (I.hok.laid k hp ⟨len, out, c, vals_of_ints hi, hg⟩) (g.symm ▸ I.bare) (fun _ z => nomatch z)
  exact ⟨.ref p, _, J, rfl, q ns p up new⟩
end Tg

namespace Tg
/-! ### the least, the greatest, the numbers in order -/
def mnI : List Int → Int
  | [] => 0
  | [x] => x
  | x :: y :: r => min x (mnI (y :: r))
def mxI : List Int → Int
  | [] => 0
  | [x] => x
  | x :: y :: r => max x (mxI (y :: r))
theorem mnI_is : ∀ {xs : List Int}, xs ≠ [] → mnI xs ∈ xs ∧ ∀ x, x ∈ xs → mnI xs ≤ x
  | [], h => absurd rfl h
  | [x], _ => ⟨.head _, fun y hy => by rw [List.mem_singleton.mp hy]; exact Int.le_refl _⟩
  | x :: y :: r, _ => by
    obtain ⟨h1, h2⟩ := mnI_is (xs := y :: r) (fun z => nomatch z)
    show min x (mnI (y :: r)) ∈ _ ∧ _
    refine ⟨?_, fun z hz => ?_⟩
    · by_cases c : x ≤ mnI (y :: r)
      · rw [Int.min_eq_left c]
        exact .head _
      · rw [Int.min_eq_right (by omega)]
        exact .tail _ h1
    · show min x (mnI (y :: r)) ≤ z
      obtain rfl | hz := List.mem_cons.mp hz
      · omega
      · have := h2 z hz
        omega
theorem mxI_is : ∀ {xs : List Int}, xs ≠ [] → mxI xs ∈ xs ∧ ∀ x, x ∈ xs → x ≤ mxI xs
  | [], h => absurd rfl h
  | [x], _ => ⟨.head _, fun y hy => by rw [List.mem_singleton.mp hy]; exact Int.le_refl _⟩
  | x :: y :: r, _ => by
    obtain ⟨h1, h2⟩ := mxI_is (xs := y :: r) (fun z => nomatch z)
    show max x (mxI (y :: r)) ∈ _ ∧ _
    refine ⟨?_, fun z hz => ?_⟩
    · by_cases c : mxI (y :: r) ≤ x
      · rw [Int.max_eq_left c]
        exact .head _
      · rw [Int.max_eq_right (by omega)]
        exact .tail _ h1
    · show z ≤ max x (mxI (y :: r))
      obtain rfl | hz := List.mem_cons.mp hz
      · omega
      · have := h2 z hz
        omega
theorem mn_of {xs : List Int} {m : Int} (h1 : m ∈ xs) (h2 : ∀ x, x ∈ xs → m ≤ x) : m = mnI xs := by
  obtain ⟨h3, h4⟩ := mnI_is (List.ne_nil_of_mem h1)
  exact Int.le_antisymm (h2 _ h3) (h4 _ h1)
theorem mx_of {xs : List Int} {m : Int} (h1 : m ∈ xs) (h2 : ∀ x, x ∈ xs → x ≤ m) : m = mxI xs := by
  obtain ⟨h3, h4⟩ := mxI_is (List.ne_nil_of_mem h1)
  exact Int.le_antisymm (h4 _ h1) (h2 _ h3)
def insU (x : Int) : List Int → List Int
  | [] => [x]
  | y :: r => if x < y then x :: y :: r else if x = y then y :: r else y :: insU x r
def bookOf (xs : List Int) : List Int := xs.foldr insU []
theorem insU_mem (x z : Int) : ∀ l : List Int, z ∈ insU x l ↔ z = x ∨ z ∈ l
  | [] => by simp [insU]
  | y :: r => by
    unfold insU
    split
    · simp
    · split
      · rename_i e
        subst e
        simp
      · rw [List.mem_cons, insU_mem x z r, List.mem_cons]
        constructor
        · rintro (h | h | h)
          · exact .inr (.inl h)
          · exact .inl h
          · exact .inr (.inr h)
        · rintro (h | h | h)
          · exact .inr (.inl h)
          · exact .inl h
          · exact .inr (.inr h)
theorem insU_up (x : Int) : ∀ l : List Int, l.Pairwise (· < ·) → (insU x l).Pairwise (· < ·)
  | [], _ => List.pairwise_singleton _ _
  | y :: r, h => by
    have hp := List.pairwise_cons.mp h
    unfold insU
    split
    · rename_i lt
      refine List.pairwise_cons.mpr ⟨fun z hz => ?_, h⟩
      obtain rfl | hz := List.mem_cons.mp hz
      · exact lt
      · exact Int.lt_trans lt (hp.1 z hz)
    · split
      · exact h
      · refine List.pairwise_cons.mpr ⟨fun z hz => ?_, insU_up x r hp.2⟩
        rcases (insU_mem x z r).mp hz with rfl | hz
        · omega
        · exact hp.1 z hz
theorem book_is : ∀ xs : List Int, (bookOf xs).Pairwise (· < ·) ∧ ∀ z, z ∈ bookOf xs ↔ z ∈ xs
  | [] => ⟨List.Pairwise.nil, fun z => Iff.rfl⟩
  | x :: r => by
    obtain ⟨h1, h2⟩ := book_is r
    refine ⟨insU_up x _ h1, fun z => ?_⟩
    show z ∈ insU x (bookOf r) ↔ _
    rw [insU_mem, h2, List.mem_cons]
theorem up_unique : ∀ {a b : List Int}, a.Pairwise (· < ·) → b.Pairwise (· < ·) → (∀ k, k ∈ a ↔ k ∈ b) → a = b
  | [], [], _, _, _ => rfl
  | [], y :: b, _, _, h => nomatch (h y).mpr (.head _)
  | x :: a, [], _, _, h => nomatch (h x).mp (.head _)
  | x :: a, y :: b, h1, h2, h => by
    have p1 := List.pairwise_cons.mp h1
    have p2 := List.pairwise_cons.mp h2
    have e : x = y := by
      have k1 := (h x).mp (.head _)
      have k2 := (h y).mpr (.head _)
      rcases List.mem_cons.mp k1 with e | k1
      · exact e
      · rcases List.mem_cons.mp k2 with e | k2
        · exact e.symm
        · have a1 := p2.1 x k1
          have a2 := p1.1 y k2
          omega
    subst e
    congr 1
    refine up_unique p1.2 p2.2 fun k => ⟨fun hk => ?_, fun hk => ?_⟩
    · rcases List.mem_cons.mp ((h k).mp (.tail _ hk)) with e | z
      · have := p1.1 k hk
        omega
      · exact z
    · rcases List.mem_cons.mp ((h k).mpr (.tail _ hk)) with e | z
      · have := p2.1 k hk
        omega
      · exact z
theorem book_of {xs b : List Int} (h1 : b.Pairwise (· < ·)) (h2 : ∀ k, k ∈ b ↔ k ∈ xs) : b = bookOf xs :=
  up_unique h1 (book_is xs).1 fun k => (h2 k).trans ((book_is xs).2 k).symm
theorem up_nodup {b : List Int} (h : b.Pairwise (· < ·)) : b.Nodup := h.imp fun lt e => by omega
theorem book_len (xs : List Int) : (bookOf xs).length ≤ xs.length := by
  have one : ∀ x l, (insU x l).length ≤ l.length + 1 := fun x l => by
    induction l with
    | nil => exact Nat.le_refl _
    | cons y r ih =>
      unfold insU
      split
      · exact Nat.le_refl _
      · split
        · exact Nat.le_succ _
        · exact Nat.succ_le_succ ih
  induction xs with
  | nil => exact Nat.le_refl _
  | cons x r ih =>
    have := one x (bookOf r)
    show (insU x (bookOf r)).length ≤ r.length + 1
    omega
theorem book_ne {xs : List Int} (h : 0 < xs.length) : 0 < (bookOf xs).length := by
  cases xs with
  | nil => cases h
  | cons x r => exact List.length_pos_of_mem ((book_is (x :: r)).2 x |>.mpr (.head _))
/-! ### how many signs by twos -/
theorem blen_le {n w : Nat} (h : n < 2 ^ w) : blen n ≤ w := by
  unfold blen
  split
  · exact Nat.zero_le _
  · rename_i c
    exact (Nat.log2_lt c).mpr h
theorem blen_mono {n m : Nat} (h : n ≤ m) : blen n ≤ blen m := blen_le (Nat.lt_of_le_of_lt h (lt_blen m))
/-! ### the two ways that stand by places -/
def wdP (xs : List Int) : Nat := blen (mxI xs - mnI xs).toNat
def plC (xs : List Int) : List (List Nat) := xs.map fun x => bt (wdP xs) (x - mnI xs).toNat
def encP (xs : List Int) : List Nat := cd (mnI xs) ++ ownL (wdP xs) ++ (plC xs).flatten
def wdB (xs : List Int) : Nat := blen ((bookOf xs).length - 1)
def gpC (xs : List Int) : List (List Nat) := (difs (bookOf xs)).map fun d => ownL (d - 1).toNat
def bkC (xs : List Int) : List (List Nat) := xs.map fun x => bt (wdB xs) ((bookOf xs).idxOf x)
def encB (xs : List Int) : List Nat := ownL ((bookOf xs).length - 1) ++ cd ((bookOf xs).headD 0) ++ (gpC xs).flatten ++ (bkC xs).flatten
theorem flat_same {ls : List (List Nat)} {w : Nat} (h : ∀ l, l ∈ ls → l.length = w) : ls.flatten.length = ls.length * w := by
  induction ls with
  | nil => exact (Nat.zero_mul w).symm
  | cons l r ih =>
    rw [List.flatten_cons, List.length_append, h l (.head _), ih fun y hy => h y (.tail _ hy), List.length_cons, Nat.succ_mul, Nat.add_comm]
end Tg

namespace Tg
open PySem PySem.Spec PyProof.Rows L2
/-! ### whether a text is a key of a written dict; len(range(n)) -/
def KHas (K : PySem.W.Frag) (w : World) (a : Addr) (x : Str) (b : Bool) : Prop := ∃ es n, K.lookup a = some ⟨.type "dict", none, .dict es n, #[]⟩ ∧ PySem.W.KeysLit w.params es.toList ∧ (a == sysModules) = false ∧ ∃ o, PySem.W.nsIn K a x = some o ∧ o.isSome = b
def rKHas (K : PySem.W.Frag) (w : World) : R2 := fun x y H Q => ∃ (z : Str) (p : Addr) (b : Bool), x = .str z ∧ y = .ref p ∧ KHas K w p z b ∧ Q (.bl b) H
section
variable {X : Cx}
theorem op_khas : OpR X (compareOp .In) (rKHas X.K X.w) := by
  rintro pins s σ H _ _ v u Q I rx ry ⟨z, p, b, rfl, rfl, ⟨es, n, hl, hk, low, o, e, eb⟩, q⟩
  obtain rfl : u = Value.ref p := ry
  obtain ⟨t, rfl⟩ := rx
  refine wpAny_in_of (strKind_is X.prog X.w z t) low (PySem.W.mapOf_K (prog := X.prog) (w := X.w) I.kIn hl hk) ?_
  rw [PySem.W.find_K hl e, eb]
  exact ⟨.bl b, H, I.tok _, rfl, q⟩
def tLenR (ta : TA) : TE := fun σ H Q => ta σ H fun vs H1 => ∃ n : Nat, vs = [.int (n : Nat)] ∧ n ≤ 2 ^ 20 ∧ Q (.int (n : Nat)) H1
theorem pe_lenR {a : Expr} {ta : TA} {p p2 pos pos2 : Pos} (gl : Gl X "len") (nl : X.mg "len" = none) (gr : Gl X "range") (nr : X.mg "range" = none) (args : PA X [a] ta)
    (one : starEach [a] X.env = (false, eval a X.env) :: starEach [] X.env := by rfl) (nostar : (backTo pos2 (starEach [] X.env)).any (·.1) = false := by rfl)
    (whole : starEach [.Call (.Name "range" p2) [a] [] pos2] X.env = (false, eval (.Call (.Name "range" p2) [a] [] pos2) X.env) :: starEach [] X.env := by rfl) :
    PE X (.Call (.Name "len" p) [.Call (.Name "range" p2) [a] [] pos2] [] pos) (tLenR ta) := by
  constructor
  intro pins s σ H Q I read
  refine wpAny_Call_Name_kw (ld_blt I gl nl (u := .builtin "len") (by decide +kernel) (PyProof.Rows.callWith_builtin1 (args_cons (Call_ (ld_blt I gr nr boot_range (PyProof.Rows.callWith_type1 (thn (args.run pos2 pins s σ H _ I read) fun us s1 y => ?_) one nostar))) whole) whole))
  obtain ⟨zs, H1, J, rel, n, e, few, h⟩ := y
  subst e
  match us, rel with
  | [_], .cons ⟨t, ei⟩ .nil =>
    subst ei
    refine call_range_1 (args_nil ?_)
    obtain ⟨hx, ehx⟩ : ∃ hx, hx = s1.heap.push { cls := .type "range", data := .fields #[.int 0 s1.toks, .int (n : Int) t, .int 1 (s1.toks + 1)] } := ⟨_, rfl⟩
    have J2 : Inv X pins σ H1 { s1 with heap := hx, toks := s1.toks + 1 + 1 } := by
      rw [ehx]
      exact J.kept (t' := s1.toks + 1 + 1) fun _ _ z => Heap.get?_push_of_some _ z
    rw [← ehx]
    refine call_len_range (n := n) (by rw [ehx]; exact IsRange.new ..) ?_ (by omega) ⟨.int (n : Nat), H1, J2.tok _, ⟨_, rfl⟩, h⟩
    simp only [Builtin.Range.rangeSize, gt_iff_lt]
    rw [if_pos (by decide)]
    split <;> omega
end
end Tg

/-! an own == that may say True or False, of an instance and anything; an instance looked for in a list of None and texts -/
namespace Tg
open PySem PySem.Spec PyProof.Rows L2
/-- what such an own == promises: R tells what it says -/
def spEqB (R : Addr → V → Bool → Hp → Prop) : Sp := fun vs H Q _ => ∃ (a : Addr) (y : V) (b : Bool), vs = [.ref a, y] ∧ R a y b H ∧ ∀ H', Ext H H' → Q (.bl b) H'
section
variable {X : Cx} {n : Nat} {CX : CXT} {C f : Addr} {fd : FuncData} {ps : List Str} {R : Addr → V → Bool → Hp → Prop} {E : XK}
/-- the own == called with an instance and a thing, somewhere below the running body -/
theorem own_said (F : FnOk X.prog X.w X.K X.mg X.base CX n f fd ps (spEqB R)) (hb : Binds X.K fd ps []) (hx : Passes CX X E) {A : Around} {pins : List (Addr × Obj)} {s : Shared} {σ : L2.St} {H : Hp} {a : Addr} {y : V} {u : Value} {b : Bool}
    (sb : Sub X n A) (I : Inv X pins σ H s) (ry : RelV y u) (r : R a y b H) :
    wpAny (model X.prog X.w) A (call (.ref f) [.ref a, u]) (fun v s' => v = .bool b ∧ ∃ H', Inv X pins σ H' s' ∧ Ext H H') X.xe s := by
  have hsp : spEqB R [.ref a, y] H (fun v H' => v = .bl b ∧ Ext H H') E := ⟨a, y, b, rfl, r, fun H' e => ⟨rfl, e⟩⟩
  have env := I.env0
  have e0 : Env0 X.prog X.w X.K X.mg X.base A X.stack s H := ⟨sb.fr.symm ▸ env.frames, env.mod, env.bs, env.bsz, env.funs, env.frf, env.hok, env.bare⟩
  have two := F.len _ _ _ _ hsp
  have bound := hb s [.ref a, u] I.kIn (by simpa using two)
  rw [List.append_nil] at bound
  refine wpAny_call (codeAny_mono (F.run A X.stack s H ⟨[.ref a, u], []⟩ [.ref a, u] [.ref a, y] _ E sb.room e0 bound (.cons rfl (.cons ry .nil)) hsp) fun o s' told => ?_)
  match o, told with
  | .error er, told => exact hx pins σ H s er s' I told
  | .ok (.ret v), told =>
    obtain ⟨z, H', J, rz, ez, ex⟩ := I.after told
    subst ez
    exact ⟨rz, H', J, ex⟩
/-- a == y -/
def rEqB (K : PySem.W.Frag) (C : Addr) (R : Addr → V → Bool → Hp → Prop) : R2 := fun x y H Q => ∃ (a dx : Addr) (fs : List (Str × V)) (t : Value) (b : Bool), x = .ref a ∧ H a = some (.ins C dx fs) ∧ TyX K H y t ∧ PySem.W.notFirst K C t = true ∧ R a y b H ∧ ∀ H', Ext H H' → Q (.bl b) H'
theorem op_eqB (F : FnOk X.prog X.w X.K X.mg X.base CX n f fd ps (spEqB R)) (hs : PySem.W.findIn X.K (.ref C) "__eq__" = some (some (.ref f))) (hf : PySem.W.isFn X.K (.ref f) = true) (hb : Binds X.K fd ps []) (hx : Passes CX X E) (hr : Room n X.A) : OpR X (compareOp .Eq) (rEqB X.K C R) := by
  rintro pins s σ H x y v u Q I rx ry ⟨a, dx, fs, t, b, rfl, ha, ty, nf, r, q⟩
  cases rx
  obtain ⟨mI, J0, _⟩ := ins_get I.hok ha
  obtain ⟨od, J, _⟩ := J0.look
  obtain ⟨m, hF⟩ := I.fr
  obtain ⟨P, Z, p, _⟩ := kit_of I ry ty
  show wpAny (model X.prog X.w) X.A (richCompare .Eq (.ref a) u) (EP X pins σ Q) X.xe s
  refine PySem.W.cmp_K (op := .Eq) hr.units0 hF I.ok.mod.kin J (Z.ty _ _ I.kIn p) nf hs hf (wpAny_mono (own_said F hb hx ⟨hr, rfl⟩ I ry r) (fun w s' told => ?_) fun _ _ z => z)
  obtain ⟨rfl, H', I', ex⟩ := told
  exact ⟨.bl b, H', I', rfl, q H' ex⟩
/-- None and texts: what stands ahead of == -/
theorem eq_back {T id : String} {A : Around} {pins : List (Addr × Obj)} {s : Shared} {σ : L2.St} {H : Hp} {a dx : Addr} {fs : List (Str × V)} {y : V} {u : Value} {b : Bool} (F : FnOk X.prog X.w X.K X.mg X.base CX n f fd ps (spEqB R))
    (hs : PySem.W.findIn X.K (.ref C) "__eq__" = some (some (.ref f))) (hf : PySem.W.isFn X.K (.ref f) = true) (hb : Binds X.K fd ps []) (hx : Passes CX X E) (sb : Sub X n A) (I : Inv X pins σ H s) (ry : RelV y u)
    (ha : H a = some (.ins C dx fs)) (r : R a y b H) (ty : s.TypeIs u T) (nos : PySem.W.subIn X.K (.ref C) (.type T) = some false) (slot : Slot T (cmpInfo .Eq).2.1 id)
    (dec : ∀ Q' : Value → Shared → Prop, Q' .notImplemented s → wpAny (model X.prog X.w) A (call (.builtin id) [u, .ref a]) Q' X.xe s) :
    wpAny (model X.prog X.w) A (richCompare .Eq u (.ref a)) (fun v s' => v = .bool b ∧ ∃ H', Inv X pins σ H' s' ∧ Ext H H') X.xe s := by
  obtain ⟨mI, J0, _⟩ := ins_get I.hok ha
  obtain ⟨od, J, _⟩ := J0.look
  have two : wpAny (model X.prog X.w) A (tryCompare (.ref a) "__eq__" u) (fun w s' => ∃ v, w = some v ∧ v = .bool b ∧ ∃ H', Inv X pins σ H' s' ∧ Ext H H') X.xe s := by
    unfold tryCompare
    refine wpAny_bind (PySem.W.ifBound_K I.kIn J hs hf (wpAny_mono (own_said F hb hx sb I ry r) (fun v s' told => ?_) fun _ _ z => z))
    obtain ⟨rfl, more⟩ := told
    exact wpAny_pure ⟨_, rfl, rfl, more⟩
  rcases hi : cmpInfo CmpOp.Eq with ⟨sym, nm, rn⟩
  obtain ⟨_, rfl, rfl⟩ : sym = "==" ∧ nm = "__eq__" ∧ rn = "__eq__" := by
    cases hi
    exact ⟨rfl, rfl, rfl⟩
  rw [hi] at slot
  simp only [richCompare, hi, ty.oneThing_none]
  refine wpAny_holding (wpAny_bind (wpAny_cRoomFor sb.room.units0 ?_))
  refine wpAny_bind (wpAny_typeOf ty (wpAny_bind (J.type.here ?_)))
  rw [show (Value.type T != Value.ref C) = true from by simp]
  simp only [if_true]
  refine wpAny_bind ((PySem.W.looks_subIn I.kIn nos).here ?_)
  simp only [if_true, if_false, Bool.not_false, Bool.false_eq_true]
  refine wpAny_bind (m := tryCompare u _ (.ref a)) (wpAny_tryCompare_declines ty slot (dec _ ⟨rfl, ?_⟩))
  refine wpAny_bind (m := tryCompare (.ref a) _ u) (wpAny_mono two (fun w s' told => ?_) fun _ _ z => z)
  obtain ⟨v, rfl, more⟩ := told
  exact wpAny_pure more
end
section
open MeetsSeq MeetsSeq2 MeetsSeq3 SeqRoads2 SeqAt
open AutoSeq1 (wpAny_loadPart')
theorem str_no_own (z : Str) (u : Tok) (l C dx : Addr) : Meets (Builtin.«str.__eq__» ⟨[.str z u, .ref l], []⟩) (fun _ R s => s.heap.get? l = some (PySem.W.instObj C dx) ∧ R (.ok (.ret .notImplemented)) s) :=
  .of_wp fun pr wd A0 R0 s0 told => by
    obtain ⟨hp, gn, dr, tk, os⟩ := s0
    obtain ⟨hl, h⟩ := told
    unfold PySem.W.instObj at hl
    wp_walk using wpAny_loadPart' hl, wpAny_load hl
    exact ⟨_, rfl, h⟩
variable {A : Around} {prog : Program} {w : World} {R : Result → Shared → Prop}
/-- looked for in a list, item by item, and not found -/
theorem seek_loop {l : Addr} {x : Value} (N : Nat) (I : Nat → Shared → Prop)
    (turn : ∀ i s, I i s → ∃ (items : Array Value) (n : Nat), s.heap.get? l = some { cls := .type "list", data := .seq items n } ∧ items.size = N ∧ ∀ h : i < items.size, wpAny (model prog w) A.in1 (eqBool items[i] x) (fun r s' => r = false ∧ I (i + 1) s') (fun e s' => R (.error e) s') s)
    (fin : ∀ s, I N s → R (.ok (.ret (.bool false))) s) (k : Nat) : ∀ i : Nat, N - i = k → i ≤ N → ∀ s, I i s →
      wpAny (model prog w) A.in1 (Builtin.«list.__contains__.loop» ⟨[.ref l, x, rawInt i], []⟩) (GQ.FinOf prog w A R) (fun e s' => R (.error e) s') s := by
  induction k with
  | zero =>
    intro i hk hi s h
    obtain ⟨items, n, at_l, size, _⟩ := turn _ _ h
    obtain rfl : i = N := by omega
    have done := fin s h
    obtain ⟨hp, gn, dr, tk, os⟩ := s
    wp_walk using wpAny_loadPart' at_l
    have none_there : items[((i : Nat) : Int).toNat]? = none := by simp; omega
    rw [none_there]
    wp_walk
    exact done
  | succ k ih =>
    intro i hk hi s h
    obtain ⟨items, n, at_l, size, step⟩ := turn _ _ h
    have lt : i < items.size := by omega
    have said := step lt
    obtain ⟨hp, gn, dr, tk, os⟩ := s
    wp_walk using wpAny_loadPart' at_l
    have there : items[((i : Nat) : Int).toNat]? = some items[i] := by simp [lt]
    have next : ((i : Int) + 1) = ((i + 1 : Nat) : Int) := by omega
    rw [there]
    refine wpAny_bind (wpAny_mono said (fun r s2 h2 => ?_) fun _ _ z => z)
    obtain ⟨rfl, h2⟩ := h2
    have more := ih (i + 1) (by omega) (by omega) s2 h2
    obtain ⟨hp2, gn2, dr2, tk2, os2⟩ := s2
    wp_walk
    rw [next]
    refine ⟨plainId_quiet plain_contains_loop _, codeAny_builtin entry_contains_loop ?_⟩
    rw [A.under_plainId plain_contains_loop _]
    exact more
theorem seek_none {E : Value → Shared → Prop} {s : Shared} {Q : Value → Shared → Prop} {l : Addr} {x : Value} (N : Nat) (I : Nat → Shared → Prop)
    (turn : ∀ i s, I i s → ∃ (items : Array Value) (n : Nat), s.heap.get? l = some { cls := .type "list", data := .seq items n } ∧ items.size = N ∧ ∀ h : i < items.size, wpAny (model prog w) A.in1 (eqBool items[i] x) (fun r s' => r = false ∧ I (i + 1) s') E s)
    (fin : ∀ s, I N s → Q (.bool false) s) (h : I 0 s) : wpAny (model prog w) A (compareOp .In x (.ref l)) Q E s := by
  obtain ⟨items, n, at_l, _, _⟩ := turn _ _ h
  show wpAny _ A (do return .bool (← contains (.ref l) x)) Q E s
  refine wpAny_bind (wpAny_contains_slot (T := "list") ⟨_, at_l, rfl⟩ PySem.F.slot_list_contains (GQ.call_here PySem.F.slot_list_contains ⟨_, at_l, rfl⟩ PySem.F.entry_list_contains (PySem.F.args_list_contains_2 _ _) ?_))
  have loop := seek_loop (R := wants (fun v s' => wpAny (model prog w) A (truthy v) (fun r s'' => wpAny (model prog w) A (pure (Value.bool r)) Q E s'') E s') E) N I turn (fun s' q => wpAny_truthy_bool (wpAny_pure (fin s' q))) _ 0 rfl (Nat.zero_le _) s h
  obtain ⟨hp, gn, dr, tk, os⟩ := s
  wp_walk using wpAny_loadPart' at_l
  refine ⟨plainId_quiet plain_contains_loop _, codeAny_builtin entry_contains_loop ?_⟩
  rw [A.under_plainId plain_contains_loop _]
  exact loop
end
section
variable {X : Cx} {n : Nat} {CX : CXT} {C f : Addr} {fd : FuncData} {ps : List Str} {R : Addr → V → Bool → Hp → Prop} {E : XK}
/-- a in [None, 'text'], of which it is neither -/
def rSeek (C : Addr) (R : Addr → V → Bool → Hp → Prop) : R2 := fun x y H Q => ∃ (a dx l : Addr) (fs : List (Str × V)) (z : Str), x = .ref a ∧ y = .ref l ∧ H a = some (.ins C dx fs) ∧ H l = some (.lst [.non, .str z]) ∧
  (∀ H', Ext H H' → R a .non false H' ∧ R a (.str z) false H') ∧ ∀ H', Ext H H' → Q (.bl false) H'
theorem op_seek (F : FnOk X.prog X.w X.K X.mg X.base CX n f fd ps (spEqB R)) (hs : PySem.W.findIn X.K (.ref C) "__eq__" = some (some (.ref f))) (hf : PySem.W.isFn X.K (.ref f) = true) (hb : Binds X.K fd ps []) (hx : Passes CX X E) (hr : Room (n + 1) X.A)
    (no1 : PySem.W.subIn X.K (.ref C) (.type "NoneType") = some false) (no2 : PySem.W.subIn X.K (.ref C) (.type "str") = some false) : OpR X (compareOp .In) (rSeek C R) := by
  rintro pins s σ H x y v u Q I rx ry ⟨a, dx, l, fs, z, rfl, rfl, ha, hl, r, q⟩
  cases rx
  cases ry
  have sb : Sub X n X.A.in1 := Sub.in1 ⟨hr, rfl⟩
  refine seek_none 2 (fun _ s' => ∃ H', Inv X pins σ H' s' ∧ Ext H H') (fun i s' told => ?_) (fun s' ⟨H', I', ex⟩ => ⟨.bl false, H', I', rfl, q H' ex⟩) ⟨H, I, Ext.rfl'⟩
  obtain ⟨H', I', ex⟩ := told
  obtain ⟨_, its, k, rel, at_l⟩ := (show ObjOk X.prog X.w H' s'.heap l (.lst [.non, .str z]) from I'.hok l _ (ex _ _ hl))
  obtain ⟨u1, u2, rfl, r1, r2⟩ := vals2 rel
  cases (show u1 = Value.none from r1)
  obtain ⟨tz, rfl⟩ := (show ∃ t, u2 = Value.str z t from r2)
  obtain ⟨mA, J, _⟩ := ins_get I'.hok (ex _ _ ha)
  obtain ⟨od, J, _⟩ := J.look
  refine ⟨_, k, at_l, rfl, fun lt => ?_⟩
  have truth : ∀ (u : Value), (u == Value.ref a) = false → (∀ q w, u ≠ .float q w) → wpAny (model X.prog X.w) X.A.in1 (richCompare .Eq u (.ref a)) (fun v s2 => v = .bool false ∧ ∃ H2, Inv X pins σ H2 s2 ∧ Ext H' H2) X.xe s' →
      wpAny (model X.prog X.w) X.A.in1 (eqBool u (.ref a)) (fun r s2 => r = false ∧ ∃ H2, Inv X pins σ H2 s2 ∧ Ext H H2) X.xe s' := fun u ne nf h => by
    unfold eqBool
    refine wpAny_holding (wpAny_ite_split (fun z => absurd (ne.symm.trans z) (by decide)) fun _ => ?_)
    cases u <;> first | exact absurd rfl (nf _ _) | (refine wpAny_bind (wpAny_mono h (fun v s2 told => ?_) fun _ _ z => z); obtain ⟨rfl, H2, I2, e2⟩ := told; exact wpAny_truthy_bool ⟨rfl, H2, I2, ex.trans e2⟩)
  match i, lt with
  | 0, _ =>
    refine truth .none rfl (fun _ _ z => nomatch z) (eq_back F hs hf hb hx sb I' (y := .non) rfl (ex _ _ ha) (r H' ex).1 (T := "NoneType") rfl no1 PySem.F.slot_NoneType_eq fun Q' hq => ?_)
    exact call_gives PySem.F.slot_NoneType_eq rfl PySem.F.entry_NoneType_eq (PySem.F.args_NoneType_eq_2 _ _) (SeqAt.NoneType___eq___none_ref_0 a) hq
  | 1, _ =>
    refine truth (.str z tz) rfl (fun _ _ z => nomatch z) (eq_back F hs hf hb hx sb I' (y := .str z) ⟨tz, rfl⟩ (ex _ _ ha) (r H' ex).2 (T := "str") (typeIs_str _ _ _) no2 PySem.F.slot_str_eq fun Q' hq => ?_)
    exact call_meets PySem.F.slot_str_eq (typeIs_str _ _ _) PySem.F.entry_str_eq (PySem.F.args_str_eq_2 _ _) (str_no_own z tz a C dx) ⟨J.at_, hq⟩
end
end Tg

/-! an instance looked for in a list of a list and None -/
namespace Tg
open PySem PySem.Spec PyProof.Rows L2
section
variable {prog : Program} {w : World} {A : Around} {E : Value → Shared → Prop} {s : Shared} {l a : Addr}
theorem list_declines {Q : Value → Shared → Prop} (ty : s.TypeIs (.ref l) "list") (no : PySem.W.Looks (model prog w) s.heap (isInstance (.ref a) (.type "list")) false) (q : Q .notImplemented s) :
    wpAny (model prog w) A (call (.builtin "list.__eq__") [.ref l, .ref a]) Q E s := by
  refine wpAny_call_entry F.slot_list_eq ty F.entry_list_eq ?_ (F.args_list_eq_2 _ _)
  obtain ⟨hp, gn, dr, tk, os⟩ := s
  wp_walk using no.here
  exact ⟨_, rfl, q⟩
end
section
variable {X : Cx} {n : Nat} {CX : CXT} {C f : Addr} {fd : FuncData} {ps : List Str} {R : Addr → V → Bool → Hp → Prop} {E : XK}
/-- a in [a list, None], of which it is neither -/
def rSeekL (C : Addr) (R : Addr → V → Bool → Hp → Prop) : R2 := fun x y H Q => ∃ (a dx l q : Addr) (fs : List (Str × V)) (ys : List V), x = .ref a ∧ y = .ref l ∧ H a = some (.ins C dx fs) ∧ H l = some (.lst [.ref q, .non]) ∧ H q = some (.lst ys) ∧
  (∀ H', Ext H H' → R a (.ref q) false H' ∧ R a .non false H') ∧ ∀ H', Ext H H' → Q (.bl false) H'
theorem op_seekL (F : FnOk X.prog X.w X.K X.mg X.base CX n f fd ps (spEqB R)) (hs : PySem.W.findIn X.K (.ref C) "__eq__" = some (some (.ref f))) (hf : PySem.W.isFn X.K (.ref f) = true) (hb : Binds X.K fd ps []) (hx : Passes CX X E) (hr : Room (n + 1) X.A)
    (no1 : PySem.W.subIn X.K (.ref C) (.type "NoneType") = some false) (no2 : PySem.W.subIn X.K (.ref C) (.type "list") = some false) : OpR X (compareOp .In) (rSeekL C R) := by
  rintro pins s σ H x y v u Q I rx ry ⟨a, dx, l, q0, fs, ys, rfl, rfl, ha, hl, hq0, r, q⟩
  cases rx
  cases ry
  have sb : Sub X n X.A.in1 := Sub.in1 ⟨hr, rfl⟩
  refine seek_none 2 (fun _ s' => ∃ H', Inv X pins σ H' s' ∧ Ext H H') (fun i s' told => ?_) (fun s' ⟨H', I', ex⟩ => ⟨.bl false, H', I', rfl, q H' ex⟩) ⟨H, I, Ext.rfl'⟩
  obtain ⟨H', I', ex⟩ := told
  obtain ⟨_, its, k, rel, at_l⟩ := (show ObjOk X.prog X.w H' s'.heap l (.lst [.ref q0, .non]) from I'.hok l _ (ex _ _ hl))
  obtain ⟨u1, u2, rfl, r1, r2⟩ := vals2 rel
  cases (show u1 = Value.ref q0 from r1)
  cases (show u2 = Value.none from r2)
  obtain ⟨mA, J, _⟩ := ins_get I'.hok (ex _ _ ha)
  obtain ⟨od, J, _⟩ := J.look
  refine ⟨_, k, at_l, rfl, fun lt => ?_⟩
  have qa : q0 ≠ a := fun z => by
    subst z
    rw [hq0] at ha
    cases ha
  have truth : ∀ (u : Value), (u == Value.ref a) = false → (∀ q w, u ≠ .float q w) → wpAny (model X.prog X.w) X.A.in1 (richCompare .Eq u (.ref a)) (fun v s2 => v = .bool false ∧ ∃ H2, Inv X pins σ H2 s2 ∧ Ext H' H2) X.xe s' →
      wpAny (model X.prog X.w) X.A.in1 (eqBool u (.ref a)) (fun r s2 => r = false ∧ ∃ H2, Inv X pins σ H2 s2 ∧ Ext H H2) X.xe s' := fun u ne nf h => by
    unfold eqBool
    refine wpAny_holding (wpAny_ite_split (fun z => absurd (ne.symm.trans z) (by decide)) fun _ => ?_)
    cases u <;> first | exact absurd rfl (nf _ _) | (refine wpAny_bind (wpAny_mono h (fun v s2 told => ?_) fun _ _ z => z); obtain ⟨rfl, H2, I2, e2⟩ := told; exact wpAny_truthy_bool ⟨rfl, H2, I2, ex.trans e2⟩)
  match i, lt with
  | 0, _ =>
    obtain ⟨its2, rv2, pl2, _⟩ := I'.list (SqL.of (ex _ _ hq0))
    have ty := pl2.isList.typeIs
    refine truth (.ref q0) (beq_eq_false_iff_ne.mpr fun z => qa (Value.ref.inj z)) (fun _ _ z => nomatch z) (eq_back F hs hf hb hx sb I' (y := .ref q0) rfl (ex _ _ ha) (r H' ex).1 (T := "list") ty no2 PySem.F.slot_list_eq fun Q' hq => ?_)
    exact list_declines ty (J.type.andThen (PySem.W.looks_subIn I'.kIn no2)) hq
  | 1, _ =>
    refine truth .none rfl (fun _ _ z => nomatch z) (eq_back F hs hf hb hx sb I' (y := .non) rfl (ex _ _ ha) (r H' ex).2 (T := "NoneType") rfl no1 PySem.F.slot_NoneType_eq fun Q' hq => ?_)
    exact call_gives PySem.F.slot_NoneType_eq rfl PySem.F.entry_NoneType_eq (PySem.F.args_NoneType_eq_2 _ _) (SeqAt.NoneType___eq___none_ref_0 a) hq
end
end Tg

/-! a != b of an own class with an own __eq__ and no __ne__, where the own == says True -/
namespace Tg
open PySem PySem.Spec PyProof.Rows L2
/-- what stands of such a class -/
structure NeC (K : PySem.W.Frag) (C f : Addr) : Prop where
  cls : ∃ (nm q : Str) (N : Addr) (bs : List Value) (hd : Bool) (sn : List Str) (sub : List Value) (ab : Bool) (col : Option Bool) (dd : Option Addr) (k0 k1 k2 k3 k5 : Option Value) (id : String),
    K.lookup C = some (excClassObj nm q C N bs [.type "object"] hd sn sub ab col dd k0 k1 k2 k3 k5 id) ∧ PySem.W.nsOkIn K N = true ∧ PySem.W.nsIn K N "__eq__" = some (some (.ref f)) ∧ PySem.W.nsIn K N "__ne__" = some none
  fn : ∃ o, K.lookup f = some o ∧ o.cls = .type "function"
/-- a name that stands in a written namespace -/
theorem ns_has {K : PySem.W.Frag} {h : Heap} {N : Addr} {x : Str} {v : Value} (inK : K.In h) (okN : PySem.W.nsOkIn K N = true) (e : PySem.W.nsIn K N x = some (some v)) : h.nsMap N x = some v := by
  obtain ⟨ob, es, ep, stands, isD, _, tells⟩ : h.Ns N (h.nsMap N) := .of_isNs (PySem.W.isNs_of_in inK okN)
  rw [← tells]
  unfold PySem.W.nsIn at e
  cases lk : K.lookup N with
  | none =>
    rw [lk] at e
    cases e
  | some ob2 =>
    have same := (inK N ob2 lk).symm.trans stands
    cases same
    obtain ⟨c, d, dt, sl⟩ := ob
    obtain rfl : dt = .dict es ep := isD
    rw [lk] at e
    dsimp only at e
    unfold nsFind findBy
    rw [← Array.find?_toList]
    cases fnd : es.toList.find? (·.key.isStr x) with
    | none =>
      rw [fnd] at e
      dsimp only at e
      split at e <;> cases e
    | some en =>
      rw [fnd] at e
      cases e
      rfl
section
variable {X : Cx} {n : Nat}
def rNeG (C : Addr) (R : Addr → Addr → Hp → Prop) : R2 := fun x y H Q => DIns C R x y H ∧ ∀ H', Ext H H' → Q (.bl false) H'
theorem op_neG {CX : CXT} {C f : Addr} {fd : FuncData} {ps : List Str} {R : Addr → Addr → Hp → Prop} {E : XK} (F : FnOk X.prog X.w X.K X.mg X.base CX n f fd ps (spEq R)) (N : NeC X.K C f) (hb : Binds X.K fd ps []) (hx : Passes CX X E) (hr : Room (n + 1) X.A) :
    OpR X (compareOp .NotEq) (rNeG C R) := by
  rintro pins s σ H x y v u Q I rx ry ⟨⟨a, b, dx, dy, fs, gs, rfl, rfl, ha, hb', holds⟩, q⟩
  cases rx
  cases ry
  obtain ⟨atA, J, _⟩ := ins_get I.hok ha
  obtain ⟨atB, J', _⟩ := ins_get I.hok hb'
  obtain ⟨od, J, _⟩ := J.look
  obtain ⟨odB, J', _⟩ := J'.look
  have there : ∀ p o, X.K.lookup p = some o → s.heap.get? p = some o := fun p o h => I.kIn p o h
  obtain ⟨nm, qn, Ns, bs, hd, sn, sub, ab, col, dd, k0, k1, k2, k3, k5, id_, eC, okN, eE, eN⟩ := N.cls
  obtain ⟨of, eF, cF⟩ := N.fn
  have own : s.heap.OwnEqNoNe a C f "object" [.type "object"] := by
    refine ⟨_, of, nm, qn, Ns, bs, hd, sn, sub, ab, col, dd, k0, k1, k2, k3, k5, id_, s.heap.nsMap Ns, _, J.at_, J.cls, there _ _ eC, .of_isNs (PySem.W.isNs_of_in I.kIn okN), ?_, there _ _ eF, cF, PySem.F.cmp_object.mro, PySem.F.cmp_object.eq.lookup, PySem.W.nsMap_none_of_in I.kIn okN eN⟩
    exact ns_has I.kIn okN eE
  have sb : Sub X n X.A.in1 := Sub.in1 ⟨hr, rfl⟩
  refine compareOp_ne_ownEq PySem.F.cmp_object own J'.at_ J'.cls (by have := hr.units; omega) ?_
  have hsp : spEq R [.ref a, .ref b] H (fun v H' => v = .bl true ∧ Ext H H') E := ⟨a, b, rfl, holds, fun H' e => ⟨rfl, e⟩⟩
  have e0 : Env0 X.prog X.w X.K X.mg X.base X.A.in1 X.stack s H := by
    have env := I.env0
    exact ⟨sb.fr.symm ▸ env.frames, env.mod, env.bs, env.bsz, env.funs, env.frf, env.hok, env.bare⟩
  have len2 := F.len _ _ _ _ hsp
  refine wpAny_call (codeAny_mono (F.run X.A.in1 X.stack s H ⟨[.ref a, .ref b], []⟩ [.ref a, .ref b] [.ref a, .ref b] _ E sb.room e0 (by
    have z := hb s [.ref a, .ref b] I.kIn (by simpa using len2)
    simpa using z) (.cons rfl (.cons rfl .nil)) hsp) fun r s' told => ?_)
  cases r with
  | error e => exact hx pins σ H s e s' I told
  | ok fl =>
    cases fl with
    | ret w =>
      obtain ⟨z, H', I', rz, ez, ex⟩ := I.after told
      subst ez
      cases rz
      exact ⟨true, rfl, .bl false, H', I', rfl, q H' ex⟩
    | next => exact False.elim told
    | brk => exact False.elim told
    | cont => exact False.elim told
end
end Tg

/-! a != b of an own class with an own __eq__ and no __ne__, b anything, where the own == may say True or False -/
namespace Tg
open PySem PySem.Spec PyProof.Rows L2
section
variable {prog : Program} {w : World} {A : Around} {E : Value → Shared → Prop} {s : Shared} {C a f : Addr} {B : String} {bm : List Value} {u : Value}
theorem ne_entry (O : s.heap.OwnEqNoNe a C f B bm) (room : A.units < cLine) {Q : Fin → Shared → Prop} (run : wpAny (model prog w) A (call (.ref f) [.ref a, u]) (fun v s' => ∃ b, v = .bool b ∧ Q (.done (.ret (.bool (!b)))) s') E s) :
    wpAny (model prog w) A (Builtin.«object.__ne__» ⟨[.ref a, u], []⟩) Q E s := by
  have said : wpAny (model prog w) A (callSpecialIfBound? (.ref a) (Str.ofString "__eq__") [u]) (fun r s' => ∃ b, r = some (.bool b) ∧ Q (.done (.ret (.bool (!b)))) s') E s := by
    refine wpAny_callSpecialIfBound?_own O.ownEq (wpAny_mono run (fun v s' told => ?_) fun _ _ e => e)
    obtain ⟨b, rfl, q⟩ := told
    exact ⟨b, rfl, q⟩
  delta Builtin.«object.__ne__»
  repeat (first
    | with_reducible refine wpAny_cRoomFor room ?_
    | (refine wpAny_bind (m := callSpecialIfBound? (.ref a) (Str.ofString "__eq__") [u]) (wpAny_mono said (fun r s' told => by
          obtain ⟨b, rfl, q⟩ := told
          repeat (first | exact q | exact wpAny_pure q | exact wpAny_truthy_bool q | (refine wpAny_bind (m := truthy (.bool _)) (wpAny_truthy_bool ?_)) | wp_step)) fun _ _ e => e))
    | wp_step)
theorem ne_tried (FB : CmpFacts B bm) (O : s.heap.OwnEqNoNe a C f B bm) (room : A.units + 1 < cLine) {Q : Option Value → Shared → Prop} (run : wpAny (model prog w) A.in1 (call (.ref f) [.ref a, u]) (fun v s' => ∃ b, v = .bool b ∧ Q (some (.bool (!b))) s') E s) :
    wpAny (model prog w) A (tryCompare (.ref a) "__ne__" u) Q E s := by
  obtain ⟨o, of, nm, q, N, bs, hd, sn, sub, ab, col, dd, k0, k1, k2, k3, k5, id_, mN, yv, ha, hc, hC, hn, _, _, _, _, _, none_⟩ := id O
  unfold tryCompare
  refine wpAny_bind (wpAny_callSpecialIfBound?_inst ha hc hC hn none_ FB.mro FB.ne (wpAny_call (codeAny_call_builtin FB.ne.plain F.cmpEntry_ne (wpAny_check_slot_inst F.cmpKind_ne F.cmpSplit_ne (F.cmpArgs_ne _ _) FB.hasObject ha hc hC (ne_entry (A := A.in1) O room (wpAny_mono run (fun v s' told => ?_) fun _ _ e => e))))))
  obtain ⟨b, rfl, z⟩ := told
  exact ⟨b, rfl, wpAny_pure z⟩
end
section
variable {X : Cx} {n : Nat} {CX : CXT} {C f : Addr} {fd : FuncData} {ps : List Str} {R : Addr → V → Bool → Hp → Prop} {E : XK}
/-- a != y -/
def rNeB (K : PySem.W.Frag) (C : Addr) (R : Addr → V → Bool → Hp → Prop) : R2 := fun x y H Q => ∃ (a dx : Addr) (fs : List (Str × V)) (t : Value) (b : Bool), x = .ref a ∧ H a = some (.ins C dx fs) ∧ TyX K H y t ∧ PySem.W.notFirst K C t = true ∧ R a y b H ∧ ∀ H', Ext H H' → Q (.bl (!b)) H'
theorem op_neB (F : FnOk X.prog X.w X.K X.mg X.base CX n f fd ps (spEqB R)) (N : NeC X.K C f) (hb : Binds X.K fd ps []) (hx : Passes CX X E) (hr : Room (n + 1) X.A) : OpR X (compareOp .NotEq) (rNeB X.K C R) := by
  rintro pins s σ H x y v u Q I rx ry ⟨a, dx, fs, t, b, rfl, ha, ty, nf, r, q⟩
  cases rx
  obtain ⟨mI, J0, _⟩ := ins_get I.hok ha
  obtain ⟨od, J, _⟩ := J0.look
  obtain ⟨P, Z, p, _⟩ := kit_of I ry ty
  have look : PySem.W.Looks (model X.prog X.w) s.heap (typeOf u) t := Z.ty _ _ I.kIn p
  have there : ∀ c o, X.K.lookup c = some o → s.heap.get? c = some o := fun c o h => I.kIn c o h
  obtain ⟨nm, qn, Ns, bs, hd, sn, sub, ab, col, dd, k0, k1, k2, k3, k5, id_, eC, okN, eE, eN⟩ := N.cls
  obtain ⟨of, eF, cF⟩ := N.fn
  have own : s.heap.OwnEqNoNe a C f "object" [.type "object"] :=
    ⟨_, of, nm, qn, Ns, bs, hd, sn, sub, ab, col, dd, k0, k1, k2, k3, k5, id_, s.heap.nsMap Ns, _, J.at_, J.cls, there _ _ eC, .of_isNs (PySem.W.isNs_of_in I.kIn okN), ns_has I.kIn okN eE, there _ _ eF, cF, PySem.F.cmp_object.mro, PySem.F.cmp_object.eq.lookup, PySem.W.nsMap_none_of_in I.kIn okN eN⟩
  have units := hr.units
  have two : wpAny (model X.prog X.w) X.A (tryCompare (.ref a) "__ne__" u) (fun w s' => ∃ v, w = some v ∧ v = .bool (!b) ∧ ∃ H', Inv X pins σ H' s' ∧ Ext H H') X.xe s := by
    refine ne_tried PySem.F.cmp_object own (by omega) (wpAny_mono (own_said F hb hx (Sub.in1 ⟨hr, rfl⟩) I ry r) (fun w s' told => ?_) fun _ _ z => z)
    obtain ⟨rfl, more⟩ := told
    exact ⟨b, rfl, _, rfl, rfl, more⟩
  show wpAny (model X.prog X.w) X.A (richCompare .NotEq (.ref a) u) (EP X pins σ Q) X.xe s
  unfold richCompare
  simp only [oneThing_ref]
  refine wpAny_holding (wpAny_bind (wpAny_cRoomFor (by omega) ?_))
  rw [cmpInfo_NotEq]
  dsimp only
  refine wpAny_bind (J.type.here (wpAny_bind (look.here ?_)))
  have last : ∀ rest : Option Value → Sem Value, (∀ v, rest (some v) = pure v) → wpAny (model X.prog X.w) X.A (tryCompare (.ref a) "__ne__" u >>= rest) (EP X pins σ Q) X.xe s := fun rest hrest => by
    refine wpAny_bind (wpAny_mono two (fun w s' told => ?_) fun _ _ z => z)
    obtain ⟨v, rfl, rfl, H', I', ex⟩ := told
    rw [hrest]
    exact wpAny_pure ⟨.bl (!b), H', I', rfl, q H' ex⟩
  unfold PySem.W.notFirst at nf
  by_cases same : t = .ref C
  · rw [same, show (Value.ref C != Value.ref C) = false from by simp]
    simp only [if_false, Bool.false_eq_true]
    refine wpAny_bind ?_
    refine wpAny_pure ?_
    simp only [if_false, Bool.false_eq_true]
    exact last _ fun v => rfl
  · have ne : (Value.ref C != t) = true := by
      rw [bne_iff_ne]
      exact fun z => same z.symm
    have nos : PySem.W.subIn X.K t (.ref C) = some false := by
      have k : (t == Value.ref C) = false := by
        rw [beq_eq_false_iff_ne]
        exact same
      rw [k, Bool.false_or] at nf
      exact eq_of_beq nf
    rw [ne]
    simp only [if_true]
    refine wpAny_bind ((PySem.W.looks_subIn I.kIn nos).here ?_)
    simp only [if_false, Bool.false_eq_true]
    exact last _ fun v => rfl
end
end Tg

namespace Tg
open PySem PySem.Spec PyProof.Rows L2
/-! ### promises of defs that are called where no repr is under way (str and repr of lists ask for it) -/
section
variable {P : Program} {w : World} {K : PySem.W.Frag} {mg : Str → Option Value} {base : Heap} {CX : CXT} {k : Nat} {f : Addr} {fd : FuncData} {ps : List Str} {sp : Sp}
/-- FnOk's promise, asked only where no repr is under way -/
structure FnG (P : Program) (w : World) (K : PySem.W.Frag) (mg : Str → Option Value) (base : Heap) (CX : CXT) (k : Nat) (f : Addr) (fd : FuncData) (ps : List Str) (sp : Sp) : Prop where
  arity : ∀ {zs : List V} {H : Hp} {Q : VK} {E : XK}, sp zs H Q E → zs.length = ps.length
  runs : ∀ {A : Around} {outer : List Env} {s : Shared} {H : Hp} {given : Args} {us : List Value} {zs : List V} {Q : VK} {E : XK}, A.guards = some [] → Room k A →
    Env0 P w K mg base A outer s H → BindsTo s fd given (ps.zip us) → Vals zs us → sp zs H Q E → codeAny (model P w) A (.call (.ref f) given) (CR CX outer P w H s Q E) s
theorem FnG.of (F : FnOk P w K mg base CX k f fd ps sp) : FnG P w K mg base CX k f fd ps sp := ⟨fun h => F.len _ _ _ _ h, fun _ r e b v h => F.run _ _ _ _ _ _ _ _ _ r e b v h⟩
end
section
variable {P : Program} {w : World} {K : PySem.W.Frag} {mg : Str → Option Value} {base : Heap}
/-- where a body ends: what its call hands back -/
theorem body_end {CX : CXT} {N : List Str} {qual : Str} {scope : Scope} {f : Addr} {cdv : Value} {A : Around} {outer : List Env} {s s' : Shared} {H : Hp} {Q : VK} {E : XK} {fl : Flow}
    (h : SP (cxOf CX P w K mg base N qual scope f cdv A outer s H E) [] { nx := fun _ H' => Q .non H', rt := Q } fl s') :
    CR CX outer P w H s Q E (match fl with | .ret u => .ok (.ret u) | .next => .ok (.ret .none) | x => .ok x) s' := by
  cases fl with
  | ret u =>
    obtain ⟨v, _, Hx, J, rv, z⟩ := h
    exact ⟨v, Hx, J.os, J.bare, J.base, J.hok, rv, z⟩
  | next =>
    obtain ⟨_, Hx, J, z⟩ := h
    exact ⟨V.non, Hx, J.os, J.bare, J.base, J.hok, rfl, z⟩
  | brk => exact h.elim fun _ z => z.elim fun _ y => y.2.elim
  | cont => exact h.elim fun _ z => z.elim fun _ y => y.2.elim
/-- a def by its body, where no repr is under way -/
theorem okG {x qual : Str} {st : Stmt} {f : Addr} {fd : FuncData} {N ps : List Str} {k : Nat} {sp : Sp} (F : Fun K x qual st f fd) (S : FnScope N ps (defScope st))
    (many : ∀ zs H Q E, sp zs H Q E → zs.length = ps.length)
    (bodies : ∀ (cdv : Value) (A : Around) (outer : List Env) (s : Shared) (H : Hp) (zs : List V) (Q : VK) (E : XK), A.guards = some [] → Room k (A.deeper (envOfC qual (defScope st) s.heap.objs.size f cdv)) → sp zs H Q E →
      ∃ t, PSs (cxOf CX0 P w K mg base N qual (defScope st) f cdv A outer s H E).nox (defBody st) t ∧ t { nx := fun _ H' => Q .non H', rt := Q } (start N zs) H) : FnG P w K mg base CX0 (k + 1) f fd ps sp := by
  obtain ⟨_, _, _, _, _, _, cdv, _, _, rfl, at_f, code⟩ := F.ex
  refine ⟨fun h => many _ _ _ _ h, fun {A outer s H given us zs Q E} hg room e0 binds rel h => ?_⟩
  have stays : ∀ b o, base.get? b = some o → s.heap.get? b = some o := fun b o z => (e0.bs b o z).1
  have written := e0.mod.kin.keeps stays
  have endless := e0.mod.nolimit.keeps stays
  have slots : ∀ y ∈ ps.zip us, (defScope st).names.lookup y.1 = some .local ∨ ((defScope st).names.lookup y.1 = some .cell ∧ ((cellsFrom (s.heap.objs.size + 1) (defScope st).names []).lookup y.1).isSome = true) := fun y hy =>
    (S.par y.1 (List.of_mem_zip hy).1).imp id fun z => ⟨z, PySem.W.cellsFrom_some _ _ _ (.inl z)⟩
  refine codeAny_call_function room.depth (written _ _ at_f) rfl S.co S.gen rfl (PySem.W.codeRec_of written code) (binds _ _ _ _ (wpAny_newFunctionEnv_cells S.kind slots fun env he s1 fresh => ?_))
  subst he
  obtain ⟨t, ht, read⟩ := bodies cdv A outer s H zs Q E hg (room.deeper _) h
  have I := inv_start (CX := CX0) (P := P) (w := w) (E := E) S room.hd e0 (many _ _ _ _ h) rel fresh
  refine ⟨endless.keeps fresh.toInCall.keep, codeAny_func (wpAny_mono (ht.nox.run [] s1 (start N zs) H _ I read) (fun fl s' z => ?_) fun _ _ z => z)⟩
  have told := body_end z
  cases fl with
  | ret u => exact told
  | next => exact told
  | brk => exact False.elim told
  | cont => exact False.elim told
end
section
variable {X : Cx} {CX : CXT} {k : Nat} {f : Addr} {fd : FuncData} {ps : List Str} {sp : Sp} {E : XK} {x : Str} {p pos : Pos} {e : Expr} {es : List Expr} {t : TA}
/-- the reading of f(e, ..) for such a def -/
abbrev tCallG (sp : Sp) (E : XK) (t : TA) : TE := fun σ H Q => t σ H fun zs H1 => sp zs H1 Q E
theorem pe_callG (F : FnG X.prog X.w X.K X.mg X.base CX k f fd ps sp) (quiet : X.A.guards = some []) (room : Room k X.A) (gl : Gl X x) (at_x : X.mg x = some (.ref f)) (kept : PySem.W.keepIn X.K (.ref f) = true)
    (binds : Binds X.K fd ps []) (lets : Passes CX X E) (args : PA X (e :: es) t) (nodebug : (x == ("__debug__" : Str)) = false := by decide)
    (one : starEach (e :: es) X.env = (false, eval e X.env) :: starEach es X.env := by rfl) (nostar : (backTo pos (starEach es X.env)).any (·.1) = false := by rfl) : PE X (.Call (.Name x p) (e :: es) [] pos) (tCallG sp E t) := by
  constructor
  intro pins s σ H Q I read
  refine wpAny_Call_Name_kw (ld_glob I gl at_x (PySem.W.callWith_K (h₀ := X.base) I.ok.mod.kin kept (thn (args.run pos pins s σ H _ I read) fun us s1 y => ?_) one nostar) nodebug)
  obtain ⟨zs, H1, J, rel, h⟩ := y
  have len : (us ++ []).length = ps.length := by
    rw [List.append_nil, ← rel.length]
    exact F.arity h
  have bound := binds s1 us J.kIn len
  rw [List.append_nil] at bound
  refine ⟨J.kIn, wpAny_call (codeAny_mono (F.runs (given := ⟨us, []⟩) quiet room J.env0 bound rel h) fun a s' z => ?_)⟩
  match a, z with
  | .error er, z => exact lets pins σ H1 s1 er s' J z
  | .ok (.ret u), z => exact J.after z
/-! ### str(x) of data -/
def rShow (K : PySem.W.Frag) : List V → Hp → VK → Prop := fun xs H Q => ∃ (a : Addr) (d : PyData), xs = [.ref a] ∧ Dp K H (.ref a) d ∧ d.showable = true ∧ d.hasDict = false ∧ d.depth ≤ 60 ∧ d.shown.length ≤ sizeLine ∧ Q (.str d.shown) H
theorem call_strD (deep : X.A.units + 64 < cLine) (quiet : X.A.guards = some []) : CallR X (.type "str") (rShow X.K) := by
  rintro pins s σ H _ _ Q I (_ | ⟨ra, rb⟩) ⟨a, d, e, dp, h1, h2, h3, h4, h⟩
  · exact nomatch e
  · obtain ⟨rfl, rfl⟩ := List.cons.inj e
    cases rb
    obtain ⟨as, rd⟩ := Dp.reads I d _ _ dp ra
    cases (show _ = Value.ref a from ra)
    exact str_of_reads rd h1 (fun z => absurd (h2.symm.trans z) (by decide)) quiet (by omega) (fun _ _ z => z) (fun hx u tk kp => ⟨.str d.shown, H, I.kept kp, ⟨u, rfl⟩, h⟩) h4
end
/-! ### the law's own head, for such a def -/
/-- a law's promise: of a list of at most 63 ints it gives True -/
def spScript (K : PySem.W.Frag) : Sp := fun zs H Q _ => ∃ (a : Addr) (ns : List Int), zs = [.ref a] ∧ SqL K H a (ns.map V.int) ∧ ns.length ≤ 63 ∧ ∀ Hx, Q (.bl true) Hx
section
variable {P : Program} {w : World} {K : PySem.W.Frag} {mg mb : Str → Option Value} {k : Nat} {fa a : Addr} {fd : FuncData} {x : Str} {s1 : Shared} {vs : List Value} {ns : List Int}
theorem law_from (KX : K.In s1.heap) (globals : s1.heap.Ns mainGlobals mg) (builtins : s1.heap.Ns builtinsNs mb) (boot : ∀ y : Str, y ≠ "__name__" → mb y = bootBuiltins y) (lim : s1.heap.NoLimit) (nogens : s1.gens = #[])
    (script : s1.heap.get? a = some { cls := .type "list", data := .seq vs.toArray }) (room : Room k callerA) (F : ∀ B : Heap, K.In B → B.Ns mainGlobals mg → FnG P w K mg B CX0 k fa fd [x] (spScript K))
    (bind : ∀ (s : Shared) (u : Value), BindsTo s fd ⟨[u], []⟩ [(x, u)]) (H : Hp) (only : Only H) (here : SqL K H a (ns.map V.int)) (few : ns.length ≤ 63) (fine : HOk P w H s1.heap) (alone : ∀ b, H b ≠ none → b = a ∧ K.lookup a = none) :
    codeAny (model P w) callerA (.call (.ref fa) ⟨[.ref a], []⟩) (fun r s' => r = .ok (.ret (.bool true)) ∧ OldK s1.heap s'.heap ∧ s'.os = s1.os ∧ AllBare s'.gens) s1 := by
  have free : ∀ {b : Addr}, (b = a → K.lookup a = none → False) → H b = none := fun {b} z => by
    cases hb : H b with
    | none => rfl
    | some u => exact ((fun y => z y.1 y.2) (alone b (by rw [hb]; exact fun e => nomatch e))).elim
  have dicts : ∀ {b : Addr} {m : Str → Option Value}, s1.heap.Ns b m → (hidT s1.heap H).Ns b m := fun {b m} y => by
    obtain ⟨o, es, ep, e, dd, r⟩ := y
    refine ⟨o, es, ep, hidT_get e (free fun z _ => ?_), dd, r⟩
    rw [z, script] at e
    cases e
    exact nomatch dd
  have kin : K.In (hidT s1.heap H) := fun b o e => hidT_get (KX b o e) (free fun z y => by
    rw [z, y] at e
    exact nomatch e)
  obtain ⟨mc, c1, c2⟩ := lim
  have e0 : Env0 P w K mg (hidT s1.heap H) callerA [] s1 H := {
    frames := rfl
    mod := ⟨kin, dicts globals, ⟨mb, dicts builtins, boot⟩, ⟨mc, dicts c1, c2⟩⟩
    bs := fun _ _ z => of_hidT z
    bsz := Nat.le_of_eq (hidT_size _ _)
    funs := trivial
    frf := fun b z => nomatch (show b ∈ ([] : List Addr) from z)
    hok := fine
    bare := .of_eq nogens }
  have run := (F _ kin (dicts globals)).runs (given := ⟨[.ref a], []⟩) (us := [.ref a]) (zs := [.ref a]) (Q := fun v _ => v = .bl true) (E := fun _ _ _ => False) rfl room e0 (bind s1 (.ref a)) (.cons rfl .nil) ⟨a, ns, rfl, here, few, fun _ => rfl⟩
  refine codeAny_mono run fun r s' told => ?_
  match r, told with
  | .error er, told => exact told.elim
  | .ok (.ret u), told =>
    obtain ⟨v, Hx, os, bare, un, fine2, rel, is_true⟩ := told
    cases (show v = .bl true from is_true)
    cases (show u = Value.bool true from rel)
    refine ⟨rfl, .of_keep fun b o e => ?_, os, bare⟩
    rcases only b with z | ⟨og, _, z⟩
    · exact un.keep b o e z (fun y => nomatch (show b ∈ ([] : List Addr) from y)) (by simp)
    · have still := (fine2 b _ (un.frzs b og _ z)).1
      cases e.symm.trans (fine b _ z).1
      exact still
end
theorem walk_g {l : PySem.W.OpenLaw} {k : Nat} {q : Program} {loose : List Str} {XP : (Str → Option Value) → Heap → Prop} {YP : World → Heap → Prop} {d : DefRec} {K : Params → PySem.W.Frag} {x : Str} (most : l.most = some 63) (plain : d.params.defaults = [])
    (room : Room k callerA) (inK : ∀ w h, YP w h → (K w.params).In h)
    (law : ∀ w mg fa h, (K w.params).In h → h.Ns mainGlobals mg → mg d.name = some (.ref fa) → ∃ fd : FuncData, (∀ (s : Shared) (v : Value), BindsTo s fd ⟨[v], []⟩ [(x, v)]) ∧ ∀ B : Heap, (K w.params).In B → B.Ns mainGlobals mg → FnG l.prog w (K w.params) mg B CX0 k fa fd [x] (spScript (K w.params))) :
    PySem.W.WalkO q loose XP YP l.row.toRowW d [] (fun f zs => PySem.call f zs) := by
  refine Att.attach_call most plain fun w _ s1 mg mb fa _ _ _ _ a vs ns G Y _ _ _ at_law script these few nogens => ?_
  have KX := inK w _ Y
  obtain ⟨fd, bind, F⟩ := law w mg fa _ KX G.T.g at_law
  have rel := vals_ints these
  have line : ns.length ≤ sizeLine := Nat.le_trans few (by decide)
  have go := law_from (ns := ns) KX G.T.g G.T.b G.T.builtins G.T.nolimit nogens script room F bind
  cases look : (K w.params).lookup a with
  | some o =>
    cases script.symm.trans (KX a o look)
    refine go (fun _ => none) (fun _ => .inl rfl) (.inr ⟨_, vs.toArray, _, look, rfl, rfl, rfl, ?_, ?_⟩) few (fun b u z => ((nomatch z : (none : Option HO) = some u → False) z).elim) (fun b z => absurd rfl z)
    · rw [List.size_toArray, these.length]
      exact line
    · rw [List.toList_toArray]
      exact rel
  | none =>
    obtain ⟨o, eo⟩ : ∃ o : HO, o = .frz { cls := .type "list", data := .seq vs.toArray } (.lst (ns.map V.int)) := ⟨_, rfl⟩
    have at_a : ∀ b, (if b = a then some o else none) = none ∨ (b = a ∧ (if b = a then some o else none) = some o) := fun b => by
      by_cases z : b = a
      · exact .inr ⟨z, if_pos z⟩
      · exact .inl (if_neg z)
    refine go (fun b => if b = a then some o else none) (fun b => ?_) (.inl (.inr ⟨_, (if_pos rfl).trans (congrArg some eo)⟩)) few (fun b u z => ?_) (fun b z => ?_)
    · rcases at_a b with z | ⟨_, z⟩
      · exact .inl z
      · exact .inr ⟨_, _, z.trans (congrArg some eo)⟩
    · rcases at_a b with y | ⟨e, y⟩
      · exact nomatch y.symm.trans z
      · cases y.symm.trans z
        subst e
        rw [eo]
        exact ⟨script, by rw [List.length_map]; exact line, vs, _, rel, script⟩
    · rcases at_a b with y | ⟨e, _⟩
      · exact absurd y z
      · exact ⟨e, look⟩
end Tg

/-! repr of own objects by their own __repr__, and {x!r} of data, where no repr is under way -/
namespace Tg
open PySem PySem.Spec PyProof.Rows L2
section
variable {prog : Program} {w : World} {A : Around} {E : Value → Shared → Prop} {s : Shared} {K : PySem.W.Frag} {x C f : Addr} {ox : Obj} {dx : Option Obj}
theorem repr_in {Q : Value → Shared → Prop} (room : A.in1.units < cLine) (inK : K.In s.heap) (I : PySem.W.InstAt s.heap x ox C dx) (at_ : PySem.W.findIn K (.ref C) "__repr__" = some (some (.ref f))) (fn : PySem.W.isFn K (.ref f) = true)
    (h : wpAny (model prog w) A.in1 (call (.ref f) [.ref x]) (fun r s' => ∃ y t, r = .str y t ∧ Q r s') E s) : wpAny (model prog w) A (call (.builtin "repr") [.ref x]) Q E s := by
  refine Calls.call_function_entry (id := "repr") PySem.F.kind_repr PySem.F.plain_repr PySem.F.entry_repr (PySem.F.args_repr1 (.ref x)) ?_
  unfold Builtin.«repr»
  refine wpAny_bind (m := oneArg "repr" _) (wpAny_pure (wpAny_bind (wpAny_cRoomFor room (wpAny_bind (wpAny_bind (I.type.here ((PySem.W.looks_findIn inK at_).here ?_)))))))
  show wpAny _ A.in1 (if (some (Value.ref f)).isNone = true then _ else _) _ E s
  rw [if_neg (fun z => nomatch z)]
  refine wpAny_bind (m := callSpecialIfBound? (.ref x) (Str.ofString "__repr__") _) (PySem.W.ifBound_K inK I at_ fn (wpAny_mono h (fun r s' told => ?_) fun _ _ y => y))
  obtain ⟨y, t, rfl, q⟩ := told
  refine wpAny_bind (m := isInstance (.str y t) (.type "str")) (wpAny_isInstance (T := "str") (typeIs_str _ y t) isSubtype_str_str ?_)
  first
    | exact wpAny_pure ⟨_, rfl, q⟩
    | (rw [if_pos rfl]; exact wpAny_pure ⟨_, rfl, q⟩)
    | (simp only [if_true]; exact wpAny_pure ⟨_, rfl, q⟩)
end
section
variable {X : Cx} {n : Nat}
def rReprO (C : Addr) (sp : Sp) (E : XK) : List V → Hp → VK → Prop := fun vs H Q => ∃ a dx fs, vs = [.ref a] ∧ H a = some (.ins C dx fs) ∧ sp [.ref a] H (fun v H' => ∃ y : Str, v = .str y ∧ Q v H') E
theorem cr_reprO {CX : CXT} {C f : Addr} {fd : FuncData} {sp : Sp} {E : XK} (F : FnG X.prog X.w X.K X.mg X.base CX n f fd ["self"] sp) (at_ : PySem.W.findIn X.K (.ref C) "__repr__" = some (some (.ref f))) (fn : PySem.W.isFn X.K (.ref f) = true) (hb : Binds X.K fd ["self"] []) (hx : Passes CX X E) (hr : Room (n + 1) X.A) (quiet : X.A.guards = some []) :
    CallR X (.builtin "repr") (rReprO C sp E) := by
  rintro pins s σ H vs us Q I r ⟨a, dx, fs, rfl, ha, told⟩
  obtain rfl : us = [.ref a] := by
    cases r with
    | cons p t => cases t; cases p; rfl
  obtain ⟨atA, J, _⟩ := ins_get I.hok ha
  obtain ⟨od, J, _⟩ := J.look
  have sb : Sub X n X.A.in1 := Sub.in1 ⟨hr, rfl⟩
  refine repr_in (by have := hr.units; show X.A.units + 1 < cLine; omega) I.kIn J at_ fn ?_
  have e0 : Env0 X.prog X.w X.K X.mg X.base X.A.in1 X.stack s H := by
    have env := I.env0
    exact ⟨sb.fr.symm ▸ env.frames, env.mod, env.bs, env.bsz, env.funs, env.frf, env.hok, env.bare⟩
  refine wpAny_call (codeAny_mono (F.runs (A := X.A.in1) (outer := X.stack) (s := s) (given := ⟨[.ref a], []⟩) (us := [.ref a]) (zs := [.ref a]) quiet sb.room e0 (by
    have z := hb s [.ref a] I.kIn rfl
    simpa using z) (.cons rfl .nil) told) fun r s' done => ?_)
  cases r with
  | error e => exact hx pins σ H s e s' I done
  | ok fl =>
    cases fl with
    | ret w =>
      obtain ⟨z, H', I', rz, y, ez, q⟩ := I.after done
      subst ez
      obtain ⟨t, rfl⟩ := rz
      exact ⟨y, t, rfl, .str y, H', I', ⟨t, rfl⟩, q⟩
    | next => exact False.elim done
    | brk => exact False.elim done
    | cont => exact False.elim done
/-- f'..' of two parts or more, by a name -/
def tJn (ts : List TE) : TE := fun σ H Q => tJs ts Str.empty σ H fun out H1 => Q (.str out) H1
theorem pe_jn {v1 v2 : Expr} {rest : List Expr} {ts : List TE} {pos : Pos} (h : PJ X (v1 :: v2 :: rest) ts) : PE X (.JoinedStr (v1 :: v2 :: rest) pos) (tJn ts) := pe_joined h
/-! ### {x!r} of data -/
def tFmtRD (K : PySem.W.Frag) (te : TE) : TE := fun σ H Q => te σ H fun x H1 => ∃ d : PyData, Dp K H1 x d ∧ d.showable = true ∧ d.hasDict = false ∧ d.depth ≤ 60 ∧ d.shown.length ≤ sizeLine ∧ Q (.str d.shown) H1
theorem pe_fmtRD {e : Expr} {te : TE} {pos : Pos} (deep : X.A.units + 64 < cLine) (quiet : X.A.guards = some []) (he : PE X e te) : PE X (.FormattedValue e 114 none pos) (tFmtRD X.K te) := by
  refine ⟨fun pins s σ H Q I h => ?_⟩
  refine wpAny_FormattedValue_repr (thn (he.run pins s σ H _ I h) fun v s1 ⟨x, H1, I1, r1, d, dp, h1, h2, h3, h4, q⟩ => ?_)
  obtain ⟨as, rd⟩ := Dp.reads I1 d x v dp r1
  cases dp with
  | non =>
    cases r1
    exact pyReprObj_none (wpAny_formatField_str ⟨.str "None", H1, I1.tok _, ⟨_, rfl⟩, q⟩ ⟨.str "None", H1, I1.tok _, ⟨_, rfl⟩, q⟩ h4)
  | bl b =>
    cases r1
    exact pyReprObj_bool (wpAny_formatField_str ⟨.str _, H1, I1.tok _, ⟨_, rfl⟩, q⟩ ⟨.str _, H1, I1.tok _, ⟨_, rfl⟩, q⟩ h4)
  | int i =>
    obtain ⟨t, rfl⟩ := r1
    exact pyReprObj_int (of_decide_eq_true h1) (wpAny_formatField_str ⟨.str _, H1, I1.tok _, ⟨_, rfl⟩, q⟩ ⟨.str _, H1, I1.tok _, ⟨_, rfl⟩, q⟩ h4)
  | str y =>
    obtain ⟨t, rfl⟩ := r1
    exact pyReprObj_str (wpAny_formatField_str ⟨.str _, H1, I1.tok _, ⟨_, rfl⟩, q⟩ ⟨.str _, H1, I1.tok _, ⟨_, rfl⟩, q⟩ h4) h4
  | lst _ _ =>
    cases r1
    exact pyReprObj_of_reads rd h1 (fun z => absurd (h2.symm.trans z) (by decide)) quiet (by omega) (fun _ _ z => z) (fun hx u tk kp => wpAny_formatField_str ⟨.str _, H1, I1.kept kp, ⟨_, rfl⟩, q⟩ ⟨.str _, H1, (I1.kept (t' := tk) kp).tok _, ⟨_, rfl⟩, q⟩ h4) h4
  | tup _ _ =>
    cases r1
    exact pyReprObj_of_reads rd h1 (fun z => absurd (h2.symm.trans z) (by decide)) quiet (by omega) (fun _ _ z => z) (fun hx u tk kp => wpAny_formatField_str ⟨.str _, H1, I1.kept kp, ⟨_, rfl⟩, q⟩ ⟨.str _, H1, (I1.kept (t' := tk) kp).tok _, ⟨_, rfl⟩, q⟩ h4) h4
end
theorem pe_fmtRDK {X : Cx} {e : Expr} {te : TE} {pos : Pos} (K : PySem.W.Frag) (deep : X.A.units + 64 < cLine) (quiet : X.A.guards = some []) (he : PE X e te) (hK : X.K = K := by rfl) : PE X (.FormattedValue e 114 none pos) (tFmtRD K te) := by
  subst hK
  exact pe_fmtRD deep quiet he
section
variable {P : Program} {w : World} {K : PySem.W.Frag} {mg : Str → Option Value} {base : Heap}
/-- a def that is called where no repr is under way -/
def CalG (P : Program) (w : World) (K : PySem.W.Frag) (mg : Str → Option Value) (base : Heap) (k : Nat) (x : Str) (ps : List Str) (sp : Sp) : Prop := ∃ f fd, FnG P w K mg base CX0 k f fd ps sp ∧ mg x = some (.ref f) ∧ PySem.W.keepIn K (.ref f) = true ∧ Binds K fd ps []
theorem pe_calG {X : Cx} {k : Nat} {x : Str} {ps : List Str} {sp : Sp} {e : Expr} {es : List Expr} {t : TA} {p pos : Pos} (c : CalG X.prog X.w X.K X.mg X.base k x ps sp) (quiet : X.A.guards = some []) (hr : Room k X.A) (gl : Gl X x) (ha : PA X (e :: es) t) (nodebug : (x == ("__debug__" : Str)) = false := by decide)
    (one : starEach (e :: es) X.env = (false, eval e X.env) :: starEach es X.env := by rfl) (nostar : (backTo pos (starEach es X.env)).any (·.1) = false := by rfl) : PE X (.Call (.Name x p) (e :: es) [] pos) (tCallG sp E0 t) := by
  obtain ⟨f, fd, F, hm, hk, hb⟩ := c
  exact pe_callG F quiet hr gl hm hk hb pass0 ha nodebug one nostar
end
end Tg

/-! len(x) of an own object by its own __len__ -/
namespace Tg
open PySem PySem.Spec PyProof.Rows L2
section
variable {prog : Program} {w : World} {A : Around} {E : Value → Shared → Prop} {s : Shared} {K : PySem.W.Frag} {x C f : Addr} {ox : Obj} {dx : Option Obj}
theorem len_in {Q : Value → Shared → Prop} (inK : K.In s.heap) (I : PySem.W.InstAt s.heap x ox C dx) (at_ : PySem.W.findIn K (.ref C) "__len__" = some (some (.ref f))) (fn : PySem.W.isFn K (.ref f) = true)
    (h : wpAny (model prog w) A.in1 (call (.ref f) [.ref x]) (fun r s' => ∃ n u, r = .int n u ∧ 0 ≤ n ∧ n < 2 ^ 63 ∧ Q (.int n s'.toks) { s' with toks := s'.toks + 1 }) E s) : wpAny (model prog w) A (call (.builtin "len") [.ref x]) Q E s := by
  refine Calls.call_function_entry (id := "len") kind_len plain_len entry_len (args_len1 (.ref x)) ?_
  unfold Builtin.«len»
  refine wpAny_bind (m := oneArg "len" _) (wpAny_pure (wpAny_bind (m := callSpecial? (.ref x) (Str.ofString "__len__")) ?_))
  unfold callSpecial?
  refine wpAny_bind (wpAny_bind (I.type.here ((PySem.W.looks_findIn inK at_).here ?_)))
  refine wpAny_holding (wpAny_bind ((PySem.W.bind_fn inK _ (beq_iff_eq.mp fn)).here ?_))
  refine wpAny_bind (wpAny_mono h (fun r s' told => ?_) fun _ _ y => y)
  obtain ⟨n, u, rfl, n0, n1, q⟩ := told
  refine wpAny_pure ?_
  refine wpAny_bind (wpAny_holding (wpAny_pure (wpAny_bind (wpAny_letGo ?_))))
  have lo : ¬ n < 0 := by omega
  have hi : ¬ n ≥ 2 ^ 63 := by omega
  change wpAny (model prog w) A.in1 (ite (n < 0) _ (ite (n ≥ 2 ^ 63) _ _)) _ E _
  rw [if_neg lo, if_neg hi]
  exact wpAny_bind (wpAny_mkInt (wpAny_pure ⟨_, rfl, q⟩))
end
section
variable {X : Cx} {n : Nat}
def rLenO (C : Addr) (sp : Sp) (E : XK) : List V → Hp → VK → Prop := fun vs H Q => ∃ a dx fs, vs = [.ref a] ∧ H a = some (.ins C dx fs) ∧ sp [.ref a] H (fun v H' => ∃ m : Nat, v = .int (m : Int) ∧ m < 2 ^ 60 ∧ Q v H') E
theorem cr_lenO {CX : CXT} {C f : Addr} {fd : FuncData} {sp : Sp} {E : XK} (F : FnOk X.prog X.w X.K X.mg X.base CX n f fd ["self"] sp) (at_ : PySem.W.findIn X.K (.ref C) "__len__" = some (some (.ref f))) (fn : PySem.W.isFn X.K (.ref f) = true) (hb : Binds X.K fd ["self"] []) (hx : Passes CX X E) (hr : Room (n + 1) X.A) :
    CallR X (.builtin "len") (rLenO C sp E) := by
  rintro pins s σ H vs us Q I r ⟨a, dx, fs, rfl, ha, told⟩
  obtain rfl : us = [.ref a] := by
    cases r with
    | cons p t => cases t; cases p; rfl
  obtain ⟨atA, J, _⟩ := ins_get I.hok ha
  obtain ⟨od, J, _⟩ := J.look
  have sb : Sub X n X.A.in1 := Sub.in1 ⟨hr, rfl⟩
  refine len_in I.kIn J at_ fn ?_
  have e0 : Env0 X.prog X.w X.K X.mg X.base X.A.in1 X.stack s H := by
    have env := I.env0
    exact ⟨sb.fr.symm ▸ env.frames, env.mod, env.bs, env.bsz, env.funs, env.frf, env.hok, env.bare⟩
  refine wpAny_call (codeAny_mono (F.run X.A.in1 X.stack s H ⟨[.ref a], []⟩ [.ref a] [.ref a] _ E sb.room e0 (by
    have z := hb s [.ref a] I.kIn rfl
    simpa using z) (.cons rfl .nil) told) fun r s' done => ?_)
  cases r with
  | error e => exact hx pins σ H s e s' I done
  | ok fl =>
    cases fl with
    | ret w =>
      obtain ⟨z, H', I', rz, m, ez, m60, q⟩ := I.after done
      subst ez
      obtain ⟨t, rfl⟩ := rz
      exact ⟨(m : Int), t, rfl, by omega, by omega, .int (m : Int), H', I'.tok _, ⟨_, rfl⟩, q⟩
    | next => exact False.elim done
    | brk => exact False.elim done
    | cont => exact False.elim done
end
end Tg

namespace Tg
open PySem PySem.Spec PyProof.Rows L2
/-- [.. for x in xs], xs a tuple that stands in every heap -/
theorem lc_mapT {K : PySem.W.Frag} {g : TG} {te : TE} {vs : List Nat} {σ : L2.St} {H1 : Hp} {D : Addr} {Qd : Hp → Prop} {a : Addr} {xs : List V} (ys : List V) (ly : ys.length = xs.length) (nD : H1 D = none) (hx : ∀ H, SqT K H a xs) (small : xs.length < sizeLine)
    (hs : ∀ (i : Nat) (x y : V) (Hc : Hp) (Q : VK), xs[i]? = some x → ys[i]? = some y → Same H1 Hc → (∀ H4, Same Hc H4 → Q y H4) → g x (wipe σ vs) Hc fun σ2 H2 => wipe σ2 vs = wipe σ vs ∧ te σ2 H2 Q)
    (hd : ∀ H', Same H1 H' → H' D = some (.lst ys) → Qd H') : Walked (Itt K a) (upd H1 D (.lst [])) (TurnL g te vs σ D) Qd :=
  lc_walk (J := Itt K a) xs.length ys ly nD small (fun Hc _ => ⟨xs, hx Hc, Nat.le_refl _⟩) (fun i Hc lt _ => ⟨xs, xs[i], hx Hc, List.getElem?_eq_getElem lt⟩)
    (fun i x y Hc H' Q lt ey sm yl q => by
      obtain ⟨rfl, h⟩ := yl
      exact hs i x y _ Q (h xs (hx _)) ey sm q) (fun i x Hc H' _ _ yl => by rw [yl.1]; exact Same.refl _) hd
end Tg

set_option maxHeartbeats 2000000
namespace Tg
open PySem PySem.Spec PyProof.Rows L2
section
variable {prog : Program} {s : Shared} {E : Value → Shared → Prop} {w : World} {A : Around}
/-- (lambda v: v[0])(t), t a tuple -/
theorem lam_first {f c t : Addr} {pm ctv u : Value} {qual nm : Str} {params : Arguments} {scope : Scope} {p1 p2 p3 : Pos} {kk : Nat} {its : List Value} {Q : Value → Shared → Prop} (room : A.depth < recursionLimit) (lim : s.heap.NoLimit)
    (at_f : s.heap.get? f = some (PySem.W.kla_obj "<lambda>" qual params (.Subscript (.Name nm p1) (.Constant (.int 0) kk p2) p3) scope [] pm c ctv)) (code : s.heap.CodeRec (.ref c) qual)
    (binds : ∀ v, bindArgs (PySem.W.kla_fn "<lambda>" qual params (.Subscript (.Name nm p1) (.Constant (.int 0) kk p2) p3) scope [] pm (.ref c) ctv) ⟨[v], []⟩ = pure [(nm, v)])
    (loc : scope.names.lookup nm = some .local) (nocell : ∀ x ∈ scope.names, x.2 ≠ .cell) (kind : scope.kind = .function) (co : scope.isCoroutine = false) (gen : scope.isGenerator = false) (nodebug : (nm == ("__debug__" : Str)) = false) (tup : PyProof.Rows.IsTup s.heap t its.toArray) (first : its[0]? = some u)
    (told : ∀ h tk, (∀ b o, s.heap.get? b = some o → h.get? b = some o) → Q u { s with heap := h, toks := tk }) :
    wpAny (model prog w) A (call (.ref f) [.ref t]) Q E s := by
  refine wpAny_call (PySem.W.kla_callFunE room at_f rfl co gen rfl code ?_)
  rw [binds]
  refine wpAny_pure (wpAny_newFunctionEnv nocell (fun x hx => by
    cases List.mem_singleton.mp hx
    exact loc) (fun h1 ns sb => ⟨lim.fresh _ sb, PySem.W.kla_codeExpr (Subscript_ ?_)⟩) kind)
  have keeps : ∀ b o, s.heap.get? b = some o → h1.get? b = some o := fun b o e => sb.extBut b o (Nat.ne_of_lt (Heap.lt_size e)) (Heap.get?_push_of_some _ e)
  have tup1 : PyProof.Rows.IsTup h1 t its.toArray := by
    obtain ⟨o, e, r⟩ := tup
    exact ⟨o, keeps _ _ e, r⟩
  obtain ⟨m, ix, get, _, _, _⟩ := atI_get (atI_nat (j := 0) first)
  refine wpAny_Name (wpAny_loadName_local kind loc ns (v := .ref t) (by simp [List.lookup]) ?_) nodebug
  refine wpAny_Constant_int ?_
  refine subscriptTail_builtinR (x := u) tup1.typeIs slot_tuple_getitem.lookup (PyProof.Rows.getItem_tuple (j := m) tup1 (by decide) (by decide) ?_ ?_ ⟨rfl, told _ _ keeps⟩)
  · rw [List.size_toArray]
    exact ix
  · simpa using get
end
end Tg

set_option maxHeartbeats 400000
namespace Tg
open PySem PySem.Spec PyProof.Rows L2 LamX
/-- a tuple of two, its place, its first (a text), its second -/
abbrev KP := Addr × Str × V
def KTp (H : Hp) (q : KP) : Prop := H q.1 = some (.tup [.str q.2.1, q.2.2])
def kRefs (L : List KP) : List V := L.map fun q => V.ref q.1
def sortK (L : List KP) : List KP := L.mergeSort fun a b => decide (a.2.1.cps.toList ≤ b.2.1.cps.toList)
/-- sorted(e, key=lambda v: v[0]) of a list of such tuples -/
def tSortK (T : List (Addr × Str)) (te : TE) : TE := fun σ H Q => te σ H fun v H1 => ∃ (l : Addr) (L : List KP), [v] = [V.ref l] ∧ H1 l = some (.lst (kRefs L)) ∧ (∀ q, q ∈ L → KTp H1 q) ∧ Tabs T H1 ∧
  ∀ (H2 : Hp) (p : Addr), ExtN H1 H2 → Tabs T H2 → H2 p = none → Q (.ref p) (upd H2 p (.lst (kRefs (sortK L))))
theorem kRefs_vals : ∀ {L : List KP} {us : List Value}, Vals (kRefs L) us → us = L.map fun q => Value.ref q.1
  | [], us, r => by cases r; rfl
  | q :: L, us, r => by
    cases r with
    | cons a b =>
      cases a
      rw [kRefs_vals b]
      rfl
theorem each_refs : ∀ (L : List KP), PySem.W.EachIs (fun (v : Value) (q : KP) => v = .ref q.1) (L.map fun q => Value.ref q.1) L
  | [] => .nil
  | q :: L => .cons rfl (each_refs L)
theorem vals_each : ∀ {out : List Value} {L : List KP}, PySem.W.EachIs (fun (v : Value) (q : KP) => v = .ref q.1) out L → Vals (kRefs L) out
  | _, _, .nil => .nil
  | _, _, .cons a b => by
    subst a
    exact .cons rfl (vals_each b)
section
variable {X : Cx} {T : List (Addr × Str)} {c P : Addr} {k kk : Nat} {e : Expr} {te : TE} {params : Arguments} {scope : Scope} {nm : Str} {p p1 p2 p3 lpos kpos pos : Pos}
theorem sortK_call {pins : List (Addr × Obj)} {σ : L2.St} {H : Hp} {s : Shared} {E : Value → Shared → Prop} {f c l : Addr} {pm ctv : Value} {qual : Str} {L : List KP} {Q : VK} (I : Inv X pins σ H s) (room : Room k X.A) (at_l : H l = some (.lst (kRefs L))) (tups : ∀ q, q ∈ L → KTp H q)
    (at_f : s.heap.get? f = some (PySem.W.kla_obj "<lambda>" qual params (.Subscript (.Name nm p1) (.Constant (.int 0) kk p2) p3) scope [] pm c ctv)) (code : s.heap.CodeRec (.ref c) qual)
    (binds : ∀ v, bindArgs (PySem.W.kla_fn "<lambda>" qual params (.Subscript (.Name nm p1) (.Constant (.int 0) kk p2) p3) scope [] pm (.ref c) ctv) ⟨[v], []⟩ = pure [(nm, v)])
    (loc : scope.names.lookup nm = some .local) (nocell : ∀ x ∈ scope.names, x.2 ≠ .cell) (kind : scope.kind = .function) (co : scope.isCoroutine = false) (gen : scope.isGenerator = false) (nodebug : (nm == ("__debug__" : Str)) = false)
    (told : ∀ p, H p = none → Q (.ref p) (upd H p (.lst (kRefs (sortK L))))) :
    wpAny (model X.prog X.w) X.A (call (.builtin "sorted") [.ref l] [(Str.ofString "key", .ref f)]) (EP X pins σ Q) E s := by
  obtain ⟨small, its, n, rel, obj⟩ := I.hok l _ at_l
  have eits := kRefs_vals rel
  have lenL : L.length ≤ sizeLine := by
    have z : (kRefs L).length ≤ sizeLine := small
    rw [kRefs, List.length_map] at z
    exact z
  have each0 : PySem.W.EachIs (fun (v : Value) (q : KP) => v = .ref q.1) its L := by
    rw [eits]
    exact each_refs L
  have depth0 : ∀ q : KP, q ∈ L → X.A.units + 2 + (PyData.str q.2.1).depth < cLine := fun q _ => by
    have := room.units
    have d : (PyData.str q.2.1).depth = 0 := by simp [PyData.depth]
    omega
  have turn : ∀ (v : Value) (q : KP), v = .ref q.1 → q ∈ L → ∀ (h : Heap) (tk : Nat), (∀ b o, s.heap.get? b = some o → h.get? b = some o) →
      wpAny (model X.prog X.w) X.A.in1.in1 (call (.ref f) [v]) (PySem.W.KeyPure (.str q.2.1) { s with heap := h, toks := tk }) (fun _ _ => False) { s with heap := h, toks := tk } := by
    intro v q ev hq h tk keeps
    subst ev
    obtain ⟨_, its2, rel2, tup⟩ := I.hok q.1 _ (tups q hq)
    obtain ⟨u1, u2, rfl, ⟨t1, rfl⟩, _⟩ := rel2.two
    exact lam_first (s := { s with heap := h, toks := tk }) (A := X.A.in1.in1) (u := .str q.2.1 t1) room.depth (I.nolimit.keeps keeps) (keeps _ _ at_f) (code.keeps keeps) binds loc nocell kind co gen nodebug (tup.keeps keeps) rfl fun h3 tk3 k3 => ⟨h3, tk3, rfl, k3, .str _ _⟩
  refine PySem.W.sorted_key_data (f := .ref f) (b := false) (R := fun (v : Value) (q : KP) => v = .ref q.1) (bs := L) (vs := its) (fun q : KP => .str q.2.1) (PySem.IsL.isList obj) each0 (PySem.W.AllAlike.of fun _ _ => by simp [PySem.W.alike]) (PySem.W.Sortable.others fun _ => ⟨by simp, by simp⟩) lenL
      depth0 (ksk_s1 _ _) (fun _ => ksk_l1 _ _) (fun _ => ksk_t1 _ _) turn fun out cc h' tk keeps _ at_p len each => ?_
  rw [PySem.W.dataLe_str] at each
  have rel3 : Vals (kRefs (sortK L)) out := vals_each each
  have len3 : (kRefs (sortK L)).length ≤ sizeLine := by
    rw [rel3.length, len]
    exact lenL
  exact ⟨.ref _, upd H (s.heap.objs.size + 1) (.lst (kRefs (sortK L))), I.laid (t' := tk) keeps (Nat.le_succ _) ⟨len3, out, cc, rel3, at_p⟩, rfl, told _ (I.hok.fresh (Nat.le_succ _))⟩
theorem pe_sortK (list : PE X e te) (room : Room k X.A) (table : TabB X.base X.mg c P) (coded : X.env.code = .ref c) (among : (P, X.env.qual ++ "<lambda>") ∈ T) (alone : ∀ p ∈ T, p.1 = P → p.2 = X.env.qual ++ "<lambda>") (nodefaults : defaultsOf params X.env = ([], []))
    (glob : Gl X "sorted") (unset : X.mg "sorted" = none) (nostar : starEach [e] X.env = (false, eval e X.env) :: starEach [] X.env) (closed : cloFrom X.env.cells scope.names [] = [])
    (binds : ∀ qual pm c ctv v, bindArgs (PySem.W.kla_fn "<lambda>" qual params (.Subscript (.Name nm p1) (.Constant (.int 0) kk p2) p3) scope [] pm (.ref c) ctv) ⟨[v], []⟩ = pure [(nm, v)])
    (loc : scope.names.lookup nm = some .local) (nocell : ∀ x ∈ scope.names, x.2 ≠ .cell) (nofree : ∀ x ∈ scope.names, x.2 ≠ .free) (kind : scope.kind = .function) (co : scope.isCoroutine = false) (gen : scope.isGenerator = false) (nodebug : (nm == ("__debug__" : Str)) = false) :
    PE X (.Call (.Name "sorted" p) [e] [⟨some "key", .Lambda params (.Subscript (.Name nm p1) (.Constant (.int 0) kk p2) p3) scope lpos, kpos⟩] pos) (tSortK T te) := by
  constructor
  intro pins s σ H Q I read
  have args := (pa_cons list pa_nil nostar).run pos pins s σ H (fun vs H1 => ∃ (l : Addr) (L : List KP), vs = [.ref l] ∧ H1 l = some (.lst (kRefs L)) ∧ (∀ q, q ∈ L → KTp H1 q) ∧ Tabs T H1 ∧ ∀ (H2 : Hp) (p : Addr), ExtN H1 H2 → Tabs T H2 → H2 p = none → Q (.ref p) (upd H2 p (.lst (kRefs (sortK L))))) I ?_
  · refine wpAny_Call_Name_kw (ld_blt I glob unset PyProof.Rows.boot_sorted (PyProof.Rows.callWith_kw (thn args fun us s1 ⟨vs, H1, I1, r1, q1⟩ => ?_) ?_ ?_ ?_ ?_))
    · obtain ⟨l, L, ev, at_l, tups, tabs, told⟩ := q1
      subst ev
      obtain ⟨u, rfl, ru⟩ := r1.one
      cases ru
      refine PyProof.Rows.evalAll_cons (wpAny_bind (lam_make2 I1 table coded among alone tabs nodefaults (fun y hy z => absurd z (nofree y hy)) fun f c' pm ctv H2 s2 I2 ext tabs2 at_f nf _ at_c => wpAny_bind (wpAny_standAt (wpAny_pure (PyProof.Rows.evalAll_nil ?_)))))
      rw [closed] at at_f
      have codeR : s2.heap.CodeRec (.ref c') (X.env.qual ++ "<lambda>") := by
        obtain ⟨⟨oc, vs, t, z1, z2, z3⟩, _⟩ := I2.hok c' _ at_c
        exact ⟨c', oc, vs, t, rfl, z1, z2, z3⟩
      exact sortK_call I2 room (ext _ _ at_l fun ps z => by cases z) (fun q hq => ext _ _ (tups q hq) fun ps z => by cases z) at_f codeR (binds _ _ _ _) loc nocell kind co gen nodebug fun p np => told H2 p ext tabs2 np
    · rw [nostar]
      rfl
    · rw [nostar]
      rfl
    · rfl
    · rfl
  · exact read
end
end Tg

set_option maxHeartbeats 400000
namespace Tg
open PySem PySem.Spec PyProof.Rows L2 LamX
/-! ### a def that makes lambdas: its code object is known -/
structure FunC (K : PySem.W.Frag) (x qual : Str) (st : Stmt) (c : Addr) (f : Addr) (fd : FuncData) : Prop where
  ex : ∃ (oc : Value) (od : Option Addr) (kV doc pm : Value) (an : Option Addr) (ct : Value) (osl : Array (Option Value)),
    fd = PySem.W.fnOf x qual (defArgs st) (defBody st) (defScope st) .none kV doc pm an (.ref c) ct ∧ K.lookup f = some ⟨oc, od, .func fd, osl⟩ ∧ PySem.W.codeIn K (.ref c) qual = true
  kept : PySem.W.keepIn K (.ref f) = true
section
variable {P : Program} {w : World} {K : PySem.W.Frag} {mg : Str → Option Value} {base : Heap}
theorem FunC.ok {x qual : Str} {st : Stmt} {c f : Addr} {fd : FuncData} {N ps : List Str} {k : Nat} {sp : Sp} (F : FunC K x qual st c f fd) (S : FnScope N ps (defScope st)) (len : ∀ vs H Q E, sp vs H Q E → vs.length = ps.length)
    (hbody : ∀ (A : Around) (outer : List Env) (s : Shared) (H : Hp) (vs : List V) (Q : VK) (E : XK), Room k (A.deeper (envOfC qual (defScope st) s.heap.objs.size f (.ref c))) → sp vs H Q E →
      ∃ t, PSs (cxOf CX0 P w K mg base N qual (defScope st) f (.ref c) A outer s H E).nox (defBody st) t ∧ t { nx := fun _ H' => Q .non H', rt := Q } (start N vs) H) : FnOk P w K mg base CX0 (k + 1) f fd ps sp := by
  obtain ⟨oc, od, kV, doc, pm, an, ct, osl, rfl, lk, hcd⟩ := F.ex
  refine fn_of lk hcd S len fun A outer s H vs Q E hr told => ?_
  obtain ⟨t, h, q⟩ := hbody A outer s H vs Q E hr told
  exact ⟨t, h.nox, q⟩
theorem FunC.fn {x qual : Str} {st : Stmt} {c f : Addr} {fd : FuncData} (F : FunC K x qual st c f fd) : Fun K x qual st f fd := by
  obtain ⟨oc, od, kV, doc, pm, an, ct, osl, h1, h2, h3⟩ := F.ex
  exact ⟨⟨oc, od, kV, doc, pm, an, .ref c, ct, osl, h1, h2, h3⟩, F.kept⟩
theorem func_mk {x qual : Str} {st : Stmt} {c f : Addr} {oc : Value} {od an : Option Addr} {osl : Array (Option Value)} {kV doc pm ct : Value} (l : K.lookup f = some ⟨oc, od, .func (PySem.W.fnOf x qual (defArgs st) (defBody st) (defScope st) .none kV doc pm an (.ref c) ct), osl⟩)
    (h : PySem.W.codeIn K (.ref c) qual = true) (k : PySem.W.keepIn K (.ref f) = true) : FunC K x qual st c f (PySem.W.fnOf x qual (defArgs st) (defBody st) (defScope st) .none kV doc pm an (.ref c) ct) := ⟨⟨oc, od, kV, doc, pm, an, ct, osl, rfl, l, h⟩, k⟩
end
/-! ### what stands where a table may have grown -/
/-- T's tables are well, all but tables stands -/
structure Grow (T : List (Addr × Str)) (H H' : Hp) : Prop where
  ext : ExtN H H'
  tabs : Tabs T H'
theorem Grow.trans {T : List (Addr × Str)} {H H1 H2 : Hp} (a : Grow T H H1) (b : Grow T H1 H2) : Grow T H H2 := ⟨a.ext.trans b.ext, b.tabs⟩
theorem Grow.same {T : List (Addr × Str)} {H H1 H2 : Hp} (a : Grow T H H1) (b : Same H1 H2) : Grow T H H2 := ⟨a.ext.trans (.of b), a.tabs.ext b⟩
theorem Grow.of {T : List (Addr × Str)} {H H' : Hp} (t : Tabs T H) (s : Same H H') : Grow T H H' := ⟨.of s, t.ext s⟩
theorem fix_tbl {o : HO} (f : Fix o) : ∀ ps, o ≠ .tbl ps := fun ps z => by
  rw [z] at f
  exact f
theorem ExtN.kt {H H' : Hp} (e : ExtN H H') : KT H H' := fun a o f h => e a o h (fix_tbl f)
theorem rd_ext {H H' : Hp} {a : Addr} {o : HO} (s : ExtN H H') (n : ∀ ps, o ≠ .tbl ps) (h : Rd H a o) : Rd H' a o := by
  rcases h with h | ⟨ob, h⟩
  · exact .inl (s _ _ h n)
  · exact .inr ⟨ob, s _ _ h (fun ps z => nomatch z)⟩
theorem sqL_ext {K : PySem.W.Frag} {H H' : Hp} {a : Addr} {xs : List V} (s : ExtN H H') (h : SqL K H a xs) : SqL K H' a xs := h.imp (rd_ext s fun _ z => nomatch z) id
theorem sqT_ext {K : PySem.W.Frag} {H H' : Hp} {a : Addr} {xs : List V} (s : ExtN H H') (h : SqT K H a xs) : SqT K H' a xs := h.imp (rd_ext s fun _ z => nomatch z) id
mutual
theorem dp_ext {K : PySem.W.Frag} {H H' : Hp} (s : ExtN H H') : ∀ {x : V} {d : PyData}, Dp K H x d → Dp K H' x d
  | _, _, .non => .non
  | _, _, .bl b => .bl b
  | _, _, .int i => .int i
  | _, _, .str z => .str z
  | _, _, .lst a b => .lst (sqL_ext s a) (dpAll_ext s b)
  | _, _, .tup a b => .tup (sqT_ext s a) (dpAll_ext s b)
theorem dpAll_ext {K : PySem.W.Frag} {H H' : Hp} (s : ExtN H H') : ∀ {xs : List V} {ds : List PyData}, DpAll K H xs ds → DpAll K H' xs ds
  | _, _, .nil => .nil
  | _, _, .cons a b => .cons (dp_ext s a) (dpAll_ext s b)
end
theorem ext_new {H H1 : Hp} {p : Addr} {o : HO} (e : ExtN H H1) (h : H p = none) : ExtN H (upd H1 p o) := fun b x y n => by
  rw [upd_ne (ne_of_none y h)]
  exact e _ _ y n
theorem tabs_kp {T : List (Addr × Str)} {p : Addr} {o : HO} {H H' : Hp} (k : Kp p H H') (h : H p = some o) (n1 : ∀ ps, o ≠ .tbl ps) (n2 : ∀ φ, o ≠ .ext φ) (t : Tabs T H) : Tabs T H' := fun r hr => by
  obtain ⟨ps, h1, h2, h3⟩ := t r hr
  refine ⟨ps, k _ _ (fun z => n1 ps (Option.some.inj (h.symm.trans (by rw [← z]; exact h1)))) h1, h2, fun pos cv hc => ?_⟩
  obtain ⟨code, e1, e2⟩ := h3 pos cv hc
  exact ⟨code, e1, k _ _ (fun z => n2 _ (Option.some.inj (h.symm.trans (by rw [← z]; exact e2)))) e2⟩
end Tg

set_option maxHeartbeats 1000000
namespace Tg
open PySem PySem.Spec PyProof.Rows L2
/-! ### a lambda of one parameter that reads names of the def that made it -/
/-- a: its parameter, its one own name; all other names are the maker's or global -/
structure Lam1 (N : List Str) (sc scope : Scope) (a : Str) : Prop where
  kind : scope.kind = .function
  notCo : scope.isCoroutine = false
  notGen : scope.isGenerator = false
  par : scope.names.lookup a = some .local
  own : ∀ y, y ∈ scope.names → (y.2 = .local → y.1 = a) ∧ y.2 ≠ .cell
  free : ∀ y, y ∈ scope.names → y.2 = .free → sc.names.lookup y.1 = some .cell ∨ sc.names.lookup y.1 = some .free
  new : a ∉ N
def lam1B (N : List Str) (sc scope : Scope) (a : Str) : Bool :=
  decide (scope.kind = .function) && !scope.isCoroutine && !scope.isGenerator && decide (scope.names.lookup a = some .local) && decide (a ∉ N) &&
    scope.names.all fun y => (!decide (y.2 = .local) || decide (y.1 = a)) && !decide (y.2 = .cell) && (!decide (y.2 = .free) || decide (sc.names.lookup y.1 = some .cell) || decide (sc.names.lookup y.1 = some .free))
theorem lam1_by {N : List Str} {sc scope : Scope} {a : Str} (h : lam1B N sc scope a = true) : Lam1 N sc scope a := by
  unfold lam1B at h
  simp only [List.all_eq_true, Bool.and_eq_true, Bool.or_eq_true, decide_eq_true_eq, Bool.not_eq_true', decide_eq_false_iff_not] at h
  obtain ⟨⟨⟨⟨⟨k, c⟩, g⟩, p⟩, n⟩, all⟩ := h
  refine ⟨k, c, g, p, fun y hy => ⟨fun e => ?_, (all y hy).1.2⟩, fun y hy e => ?_, n⟩
  · rcases (all y hy).1.1 with z | z
    · exact absurd e z
    · exact z
  · rcases (all y hy).2 with (z | z) | z
    · exact absurd e z
    · exact .inl z
    · exact .inr z
/-- the context of its body, entered at s with the heap H -/
def lamC (X : Cx) (A : Around) (s : Shared) (H : Hp) (scope : Scope) (f c : Addr) (a : Str) : Cx where
  prog := X.prog
  w := X.w
  K := X.K
  mg := X.mg
  base := X.base
  A := A.deeper (LamX.lamEnv X scope s.heap.objs.size f c)
  N := X.N ++ [a]
  s_0 := s
  H_0 := H
  env := LamX.lamEnv X scope s.heap.objs.size f c
  outer := X.stack
  stack := LamX.lamEnv X scope s.heap.objs.size f c :: X.stack
  ex := []
  fn := fun _ => false
  calm := true
  pn := []
  xe := fun _ _ => False
section
variable {X : Cx} {H : Hp} {s : Shared} {σ : L2.St} {pins : List (Addr × Obj)}
theorem Lam1.has {scope : Scope} {a : Str} (L : Lam1 X.N X.env.scope scope a) (ok : X.Ok) {y : Str} (h : (y, NameKind.free) ∈ scope.names) : ∃ c, X.env.cells.lookup y = some c :=
  (L.free _ h rfl).elim (fun k => ok.has _ (.inl k)) fun k => ok.has _ (.inr k)
theorem Lam1.nocell {N : List Str} {sc scope : Scope} {a y : Str} {G : Prop} (L : Lam1 N sc scope a) (h : scope.names.lookup y = some .cell) : G := ((L.own _ (PySem.mem_of_lookup h)).2 rfl).elim
/-- the lambda's cells are the maker's -/
theorem clo_is {scope : Scope} {a : Str} (L : Lam1 X.N X.env.scope scope a) (ok : X.Ok) {y : Str} {c : Addr} (e : (cloFrom X.env.cells scope.names []).lookup y = some c) : X.env.cells.lookup y = some c := by
  rcases cloFrom_mem (PySem.mem_of_lookup e) with inside | ⟨fr, ec⟩
  · cases inside
  · obtain ⟨c1, hc⟩ := L.has ok fr
    rw [ec, hc]
    rfl
theorem clo_has {scope : Scope} {a : Str} (L : Lam1 X.N X.env.scope scope a) (ok : X.Ok) {y : Str} (h : scope.names.lookup y = some .free) : ∃ c, (cloFrom X.env.cells scope.names []).lookup y = some c :=
  mem_lookup (cloFrom_has (cells := X.env.cells) (acc := []) (PySem.mem_of_lookup h))
theorem lam1_start {A : Around} {scope : Scope} {f c : Addr} {a : Str} {v : V} {u : Value} {h1 : Heap} {tk : Nat} (I : Inv X pins σ H s) (L : Lam1 X.N X.env.scope scope a) (fr : A.frames = some X.stack) (calm : A.handled = none) (rv : L2.RelV v u)
    (ns : h1.Ns s.heap.objs.size fun y => ([(a, u)] : List (Str × Value)).reverse.lookup y) (kp : ∀ b o, s.heap.get? b = some o → h1.get? b = some o) :
    Inv (lamC X A s H scope f c a) [] (σ ++ [some v]) H { s with heap := h1, toks := tk } := by
  have e0 := I.env0
  have none_in : ∀ b : Addr, b ∉ (lamC X A s H scope f c a).ex := fun b z => nomatch (show b ∈ ([] : List Addr) from z)
  have ok : (lamC X A s H scope f c a).Ok := by
    refine ⟨e0.mod, L.kind, rfl, rfl, Nat.le_refl _, fun y z b q1 q2 => I.ok.inj y z b (clo_is L I.ok q1) (clo_is L I.ok q2), fun y hy => ?_, fun y b q _ => ?_, fun _ => calm, Around.frames_deeper fr, .inr ⟨rfl, rfl⟩, fun b z => absurd z (none_in b), e0.bs, e0.bsz, fun b _ _ => none_in b, fun b z => absurd z (none_in b), e0.funs, e0.frf⟩
    · rcases (show scope.names.lookup y = some .cell ∨ scope.names.lookup y = some .free from hy) with isCell | isFree
      · exact L.nocell isCell
      · exact clo_has L I.ok isFree
    · exact nomatch (show false = true from q)
  refine ⟨ok, rfl, e0.bare, Un.kept kp, ⟨_, ns, fun i y v' q1 q2 vis => ?_⟩, fun y b q => ?_, e0.hok.fresh (Nat.le_refl _), fun y b q => I.freeC y b (clo_is L I.ok q), (fun p hp => nomatch (show p ∈ ([] : List (Addr × Obj)) ++ [] from hp)), e0.hok.kept kp, ?_⟩
  · have q1 : (X.N ++ [a])[i]? = some y := q1
    rcases Nat.lt_or_ge i X.N.length with lt | ge
    · rw [List.getElem?_append_left lt] at q1
      rw [List.getElem?_append_left (I.len.symm ▸ lt)] at q2
      have notA : y ≠ a := fun z => L.new (z ▸ List.mem_of_getElem? q1)
      have vis : Vis scope y := vis
      rcases vis with k | k | k
      · exact absurd ((L.own _ (PySem.mem_of_lookup k)).1 rfl) notA
      · exact L.nocell k
      · obtain ⟨m, _, held⟩ := I.loc
        have fk := L.free _ (PySem.mem_of_lookup k) rfl
        obtain ⟨u', r, look⟩ := held i y v' q1 q2 (fk.elim (fun z => .inr (.inl z)) fun z => .inr (.inr z))
        obtain ⟨b, hb⟩ := clo_has L I.ok k
        refine ⟨u', r, .inr ⟨.inr k, b, hb, ?_⟩⟩
        have hb' := clo_is L I.ok hb
        rcases look with ⟨kl, _⟩ | ⟨_, b2, e2, o, ho, hd⟩
        · have kl : X.env.scope.names.lookup y = some .local := kl
          rcases fk with z | z
          · exact absurd (z.symm.trans kl) (fun z => by cases z)
          · exact absurd (z.symm.trans kl) (fun z => by cases z)
        · cases hb'.symm.trans e2
          exact ⟨o, kp _ _ ho, hd⟩
    · have last : i = X.N.length := by
        have := (List.getElem?_eq_some_iff.mp q1).1
        rw [List.length_append] at this
        have one : [a].length = 1 := rfl
        omega
      subst last
      rw [List.getElem?_append_right (Nat.le_refl _), Nat.sub_self] at q1
      rw [List.getElem?_append_right (Nat.le_of_eq I.len), I.len, Nat.sub_self] at q2
      cases q1
      cases q2
      exact ⟨u, rv, .inl ⟨L.par, by simp [List.lookup]⟩⟩
  · obtain ⟨x, o, ho, hd⟩ := I.cell y b (clo_is L I.ok q)
    exact ⟨x, o, kp _ _ ho, hd⟩
  · show (σ ++ [some v]).length = (X.N ++ [a]).length
    rw [List.length_append, List.length_append, I.len]
    rfl
/-- the lambda called -/
theorem lam1_call {A : Around} {scope : Scope} {f c : Addr} {a : Str} {v : V} {u : Value} {pm ctv : Value} {params : Arguments} {body : Expr} {tb : TE} {Q : VK} {E : Value → Shared → Prop} (I : Inv X pins σ H s) (L : Lam1 X.N X.env.scope scope a) (fr : A.frames = some X.stack) (calm : A.handled = none) (room : A.depth < recursionLimit)
    (at_f : s.heap.get? f = some (PySem.W.kla_obj "<lambda>" (X.env.qual ++ "<lambda>") params body scope (cloFrom X.env.cells scope.names []) pm c ctv)) (code : H c = some (LamX.CodeO c (X.env.qual ++ "<lambda>"))) (rv : L2.RelV v u)
    (binds : bindArgs (PySem.W.kla_fn "<lambda>" (X.env.qual ++ "<lambda>") params body scope (cloFrom X.env.cells scope.names []) pm (.ref c) ctv) ⟨[u], []⟩ = pure [(a, u)])
    (read : PE (lamC X A s H scope f c a) body tb) (told : tb (σ ++ [some v]) H Q) :
    wpAny (model X.prog X.w) A (call (.ref f) [u]) (CE X.stack X.prog X.w H s Q) E s := by
  obtain ⟨⟨oc, vs, t, z1, z2, z3⟩, _⟩ := I.hok c _ code
  refine wpAny_call (PySem.W.kla_callFunE room at_f rfl L.notCo L.notGen rfl ⟨c, oc, vs, t, rfl, z1, z2, z3⟩ ?_)
  rw [binds]
  refine wpAny_pure (wpAny_newFunctionEnv (fun y hy => (L.own y hy).2) (fun y hy => ?_) (fun h1 ns sb => ⟨I.nolimit.fresh _ sb, PySem.W.kla_codeExpr ?_⟩) L.kind)
  · cases List.mem_singleton.mp hy
    exact L.par
  · have kp : ∀ b o, s.heap.get? b = some o → h1.get? b = some o := fun b o e => sb.extBut b o (Nat.ne_of_lt (Heap.lt_size e)) (Heap.get?_push_of_some _ e)
    have J := lam1_start (A := A) (scope := scope) (f := f) (c := c) (tk := s.toks + 1) I L fr calm rv ns kp
    refine wpAny_mono (read.run [] _ _ H Q J told) (fun r s' got => ?_) fun _ _ z => z.elim
    obtain ⟨x, H', J', rr, q⟩ := got
    exact ⟨x, H', J'.os, J'.bare, J'.base, J'.hok, rr, q⟩
end
end Tg

set_option maxHeartbeats 1000000
namespace Tg
open PySem PySem.Spec PyProof.Rows L2 LamX
/-! ### min(xs, key=lambda a: ..), xs a tuple that the top has written, the keys whole numbers -/
/-- the place of the first least of kf's first n + 1 -/
abbrev leastAt (kf : Nat → Int) (n : Nat) : Nat := argBest (fun i j => decide (kf i < kf j)) n
theorem leastAt_first (kf : Nat → Int) : ∀ n, leastAt kf n ≤ n ∧ ∀ j, j ≤ n → kf (leastAt kf n) ≤ kf j ∧ (j < leastAt kf n → kf (leastAt kf n) < kf j)
  | 0 => ⟨Nat.le_refl _, fun j hj => by
    obtain rfl : j = 0 := by omega
    exact ⟨Int.le_refl _, fun z => absurd z (Nat.lt_irrefl _)⟩⟩
  | n + 1 => by
    obtain ⟨h1, h2⟩ := leastAt_first kf n
    have e : leastAt kf (n + 1) = if decide (kf (n + 1) < kf (leastAt kf n)) = true then n + 1 else leastAt kf n := rfl
    by_cases c : kf (n + 1) < kf (leastAt kf n)
    · rw [e, if_pos (decide_eq_true c)]
      refine ⟨Nat.le_refl _, fun j upTo => ?_⟩
      by_cases last : j = n + 1
      · subst last
        exact ⟨Int.le_refl _, fun z => absurd z (Nat.lt_irrefl _)⟩
      · have a1 := (h2 j (by omega)).1
        constructor
        · omega
        · omega
    · rw [e, if_neg (fun z => c (of_decide_eq_true z))]
      refine ⟨by omega, fun j upTo => ?_⟩
      by_cases last : j = n + 1
      · subst last
        exact ⟨by omega, fun z => by omega⟩
      · exact h2 j (by omega)
/-- a tuple that the top has written -/
def KTup (K : PySem.W.Frag) (a : Addr) (xs : List V) : Prop := ∃ (o : Obj) (its : Array Value) (n : Nat), K.lookup a = some o ∧ o.cls = .type "tuple" ∧ o.data = .seq its n ∧ its.size ≤ sizeLine ∧ Vals xs its.toList
section
variable {X : Cx} {H : Hp} {s : Shared} {σ : L2.St} {pins : List (Addr × Obj)}
/-- what min turns of its own: out of reach of all that is told -/
structure Away (X : Cx) (pins : List (Addr × Obj)) (b : Addr) : Prop where
  new : X.s_0.heap.objs.size ≤ b
  loc : b ≠ X.env.locals
  cells : ∀ x c, X.env.cells.lookup x = some c → c ≠ b
  pins : ∀ p, p ∈ X.pn ++ pins → p.1 ≠ b
  frames : b ∉ frs X.stack
theorem away_of (I : Inv X pins σ H s) {b : Addr} (h : s.heap.objs.size ≤ b) : Away X pins b := by
  have lt : ∀ {q : Addr} {o : Obj}, s.heap.get? q = some o → q ≠ b := fun e => Nat.ne_of_lt (Nat.lt_of_lt_of_le (Heap.lt_size e) h)
  refine ⟨Nat.le_trans I.sz h, fun z => absurd (z ▸ I.lt) (Nat.not_lt_of_le h), fun x c e => ?_, fun p hp => lt (I.pin p hp).1, fun z => ?_⟩
  · obtain ⟨v, o, ho, _⟩ := I.cell x c e
    exact lt ho
  · rcases List.mem_cons.mp (I.stkSub _ z) with e | e
    · exact absurd (e ▸ I.lt) (Nat.not_lt_of_le h)
    · exact I.nofs h e
/-- what stands, stands where only such things have turned -/
theorem inv_moved {s' : Shared} {S J : Addr} (I : Inv X pins σ H s) (aS : Away X pins S) (aJ : Away X pins J) (nS : H S = none) (nJ : H J = none) (m : Moved [S, J] (fun a b => b = a) s s') : Inv X pins σ H s' := by
  have off : ∀ {b : Addr}, b ≠ S → b ≠ J → b ∉ [S, J] := fun h1 h2 z => (List.mem_cons.mp z).elim h1 fun z => h2 (List.mem_singleton.mp z)
  have known : ∀ {b : Addr} {o : HO}, H b = some o → b ∉ [S, J] := fun e => off (fun z => by rw [z, nS] at e; cases e) fun z => by rw [z, nJ] at e; cases e
  have J0 := I.step (h' := s'.heap) (g' := s'.gens) (t' := s'.toks) (d' := s'.drawn) (H' := H) (ch := [S, J]) (fun b hb => ?_) (fun b o _ _ hc e _ => m.heap b o hc e) (fun b o _ _ hc e _ => ⟨o.slots, m.heap b o hc e⟩) (fun _ _ _ _ n => n) (fun b o hc e => ⟨o, m.heap b o hc e⟩)
    (fun _ _ e => e) (fun _ _ _ e => e) (fun b ps e => ⟨#[], by rw [e, Array.append_empty]⟩) (fun mm hm => ?_) (fun b o e => ?_) (by rw [m.gens]; exact I.bare)
  · obtain ⟨hh, g, d, t, os⟩ := s'
    obtain rfl : os = s.os := m.os
    exact J0
  · match b, hb with
    | _, .head _ => exact ⟨.inr aS.new, aS.loc, aS.cells, aS.pins⟩
    | _, .tail _ (.head _) => exact ⟨.inr aJ.new, aJ.loc, aJ.cells, aJ.pins⟩
  · exact let ⟨o, es, ep, here, r⟩ := hm; ⟨o, es, ep, m.heap _ o (off (Ne.symm aS.loc) (Ne.symm aJ.loc)) here, r⟩
  · exact (I.hok b o e).stay (fun c u hc q => m.heap c u (hc.elim (fun z => z ▸ known e) fun z => known z) q) (fun _ q => q) fun _ _ q => q
/-- over a state where f is made -/
theorem minKey_call {f c : Addr} {a : Str} {l : Addr} {xs : List V} {kf : Nat → Int} {pm ctv : Value} {params : Arguments} {body : Expr} {scope : Scope} {tb : TE} {k : Nat} {Q : VK} {E : Value → Shared → Prop} (I : Inv X pins σ H s) (room : Room (k + 1) X.A) (L : Lam1 X.N X.env.scope scope a)
    (tup : KTup X.K l xs) (some_ : 0 < xs.length)
    (at_f : s.heap.get? f = some (PySem.W.kla_obj "<lambda>" (X.env.qual ++ "<lambda>") params body scope (cloFrom X.env.cells scope.names []) pm c ctv)) (new_f : H f = none) (fr_f : f ∉ frs X.stack) (code : H c = some (LamX.CodeO c (X.env.qual ++ "<lambda>")))
    (binds : ∀ u, bindArgs (PySem.W.kla_fn "<lambda>" (X.env.qual ++ "<lambda>") params body scope (cloFrom X.env.cells scope.names []) pm (.ref c) ctv) ⟨[u], []⟩ = pure [(a, u)])
    (read : ∀ (A : Around) (s' : Shared) (H' : Hp), Room k A → PE (lamC X A s' H' scope f c a) body tb)
    (told : ∀ (i : Nat) (x : V) (H3 : Hp) (Q3 : VK), xs[i]? = some x → Same H H3 → (∀ H4, Same H3 H4 → Q3 (.int (kf i)) H4) → tb (σ ++ [some x]) H3 Q3)
    (fin : ∀ (H3 : Hp) (x : V), Same H H3 → xs[leastAt kf (xs.length - 1)]? = some x → Q x H3) :
    wpAny (model X.prog X.w) X.A (call (.builtin "min") [.ref l] [(Str.ofString "key", .ref f)]) (EP X pins σ Q) E s := by
  obtain ⟨o, its, n0, lk, oc, od, small, vals⟩ := tup
  have at_l := I.kIn l o lk
  have size : its.size = xs.length := by
    rw [← Array.length_toList]
    exact vals.length.symm
  have r1 := room.in1
  refine call_min_walkK (PySem.W.iter_tupleW (vs := its) r1.hd ⟨o, at_l, oc, n0, od⟩ fun s2 es2 walks st0 bound _ kept2 => ?_)
  have I2 : L2.Inv X pins σ H s2 := by
    subst es2
    exact I.kept kept2
  have big : s.heap.objs.size < s2.heap.objs.size := bound _ (.head _)
  have aI : Away X pins s.heap.objs.size := away_of I (Nat.le_refl _)
  have aS : Away X pins s2.heap.objs.size := away_of I2 (Nat.le_refl _)
  have lI : l ≠ s.heap.objs.size := Nat.ne_of_lt (Heap.lt_size at_l)
  have lS : l ≠ s2.heap.objs.size := Nat.ne_of_lt (Nat.lt_trans (Heap.lt_size at_l) big)
  have fI : f ≠ s.heap.objs.size := Nat.ne_of_lt (Heap.lt_size at_f)
  have fS : f ≠ s2.heap.objs.size := Nat.ne_of_lt (Nat.lt_trans (Heap.lt_size at_f) big)
  have at_f2 := kept2 _ _ at_f
  let obj := PySem.W.kla_obj "<lambda>" (X.env.qual ++ "<lambda>") params body scope (cloFrom X.env.cells scope.names []) pm c ctv
  refine ⟨s.heap.objs.size, _, _, _, its.size, _, _, fun s' => ∃ H', Inv X pins σ H' s' ∧ Same H H' ∧ H' f = none ∧ H' s.heap.objs.size = none ∧ H' s2.heap.objs.size = none ∧ s'.heap.get? f = some obj, fun i u _ => ∃ t, u = .int (kf i) t, fun i j => decide (kf i < kf j), rfl, walks, st0, bound, by omega, ?_, ⟨H, I2, Same.refl _, new_f, I.hok.fresh (Nat.le_refl _), I2.hok.fresh (Nat.le_refl _), at_f2⟩, fun v s' pv inv => ?_⟩
  · refine ⟨fun s3 s4 ⟨H', J, sm, n1, n2, n3, hf⟩ mv => ⟨H', inv_moved J aS aI n3 n2 mv, sm, n1, n2, n3, mv.heap _ _ (fun z => (List.mem_cons.mp z).elim fS fun z => fI (List.mem_singleton.mp z)) hf⟩, fun i u s3 s4 h _ => h, fun i v s3 oS Q' E' hi pv ⟨H', J, sm, n1, n2, n3, hf⟩ st atS next => ?_, fun i j ki kj s3 Q' E' _ h1 h2 q => CmpOf.ints_lt (P := fun i v => ∃ t, v = .int (kf i) t) kf (fun _ _ h => h) i j _ _ _ _ _ h1 h2 q⟩
    obtain ⟨x, ex, rx⟩ : ∃ x, xs[i]? = some x ∧ L2.RelV x v := by
      have q : its.toList[i]? = some v := by
        rw [Array.getElem?_toList]
        exact pv
      have lt : i < xs.length := by rw [← size]; exact hi
      obtain ⟨u, hu, r⟩ := vals.get (List.getElem?_eq_getElem lt)
      cases hu.symm.trans q
      exact ⟨_, List.getElem?_eq_getElem lt, r⟩
    refine wpAny_mono (lam1_call (Q := fun r H'' => r = .int (kf i) ∧ Same H' H'') J L (by exact J.ok.frames) r1.hd r1.depth hf (sm _ _ code) rx (binds v) (read X.A.in1 s3 H' r1) (told i x H' _ ex sm fun H4 s4 => ⟨rfl, s4⟩)) (fun r s4 got => ?_) fun _ _ z => z
    obtain ⟨y, H4, os4, bare4, un4, hok4, ry, ey, sm4⟩ := got
    subst ey
    have J4 : Inv X pins σ H4 s4 := by
      obtain ⟨hh, g, d, t, os'⟩ := s4
      obtain rfl : os' = s3.os := os4
      exact J.call (ch := []) un4 hok4 bare4 fun _ z => nomatch z
    have stay : ∀ {b : Addr} {ob : Obj}, s3.heap.get? b = some ob → H' b = none → b ∉ frs X.stack → s4.heap.get? b = some ob := fun e n nf => un4.keep _ _ e n nf (fun z => nomatch z)
    have gone : ∀ {b : Addr} {ob : Obj}, s3.heap.get? b = some ob → H' b = none → H4 b = none := fun e n => un4.free _ _ e n (fun z => nomatch z)
    obtain ⟨⟨oI, atI, cI, dI⟩, _⟩ := st
    refine next r s4 ⟨H4, J4, sm.trans sm4, gone hf n1, gone atI n2, gone atS n3, stay hf n1 fr_f⟩ ⟨⟨oI, stay atI n2 aI.frames, cI, dI⟩, ⟨o, J4.kIn l o lk, oc, n0, od⟩⟩ (stay atS n3 aS.frames) ry fun _ _ h => h
  · obtain ⟨H', J, sm, _⟩ := inv
    have pv : its[leastAt kf (its.size - 1)]? = some v := pv
    rw [← Array.getElem?_toList, size] at pv
    have le := (leastAt_first kf (xs.length - 1)).1
    have lt : leastAt kf (xs.length - 1) < xs.length := by omega
    obtain ⟨u, hu, r⟩ := vals.get (List.getElem?_eq_getElem lt)
    cases hu.symm.trans pv
    exact ⟨_, H', J, r, fin H' _ sm (List.getElem?_eq_getElem lt)⟩
end
def tMinKey (K : PySem.W.Frag) (T : List (Addr × Str)) (te tb : TE) : TE := fun σ H Q => te σ H fun v H1 => ∃ (l : Addr) (xs : List V) (kf : Nat → Int), [v] = [V.ref l] ∧ KTup K l xs ∧ 0 < xs.length ∧ Tabs T H1 ∧ ∀ H2, ExtN H1 H2 → Tabs T H2 →
  (∀ (i : Nat) (x : V) (H3 : Hp) (Q3 : VK), xs[i]? = some x → Same H2 H3 → (∀ H4, Same H3 H4 → Q3 (.int (kf i)) H4) → tb (σ ++ [some x]) H3 Q3) ∧ ∀ (H3 : Hp) (x : V), Same H2 H3 → xs[leastAt kf (xs.length - 1)]? = some x → Q x H3
section
variable {X : Cx} {T : List (Addr × Str)} {c P : Addr} {k : Nat} {e body : Expr} {te tb : TE} {params : Arguments} {scope : Scope} {a : Str} {p lpos kpos pos : Pos}
theorem pe_minKey (he : PE X e te) (room : Room (k + 1) X.A) (table : TabB X.base X.mg c P) (coded : X.env.code = .ref c) (among : (P, X.env.qual ++ "<lambda>") ∈ T) (alone : ∀ p ∈ T, p.1 = P → p.2 = X.env.qual ++ "<lambda>") (nodefaults : defaultsOf params X.env = ([], []))
    (glob : Gl X "min") (unset : X.mg "min" = none) (L : Lam1 X.N X.env.scope scope a) (read : ∀ (A : Around) (s' : Shared) (H' : Hp) (f c : Addr), Room k A → PE (lamC X A s' H' scope f c a) body tb)
    (binds : ∀ qual cl pm c ctv u, bindArgs (PySem.W.kla_fn "<lambda>" qual params body scope cl pm (.ref c) ctv) ⟨[u], []⟩ = pure [(a, u)]) (nostar : starEach [e] X.env = (false, eval e X.env) :: starEach [] X.env := by rfl) :
    PE X (.Call (.Name "min" p) [e] [⟨some "key", .Lambda params body scope lpos, kpos⟩] pos) (tMinKey X.K T te tb) := by
  constructor
  intro pins s σ H Q I told
  have args := (pa_cons he pa_nil nostar).run pos pins s σ H (fun vs H1 => ∃ (l : Addr) (xs : List V) (kf : Nat → Int), vs = [V.ref l] ∧ KTup X.K l xs ∧ 0 < xs.length ∧ Tabs T H1 ∧ ∀ H2, ExtN H1 H2 → Tabs T H2 →
    (∀ (i : Nat) (x : V) (H3 : Hp) (Q3 : VK), xs[i]? = some x → Same H2 H3 → (∀ H4, Same H3 H4 → Q3 (.int (kf i)) H4) → tb (σ ++ [some x]) H3 Q3) ∧ ∀ (H3 : Hp) (x : V), Same H2 H3 → xs[leastAt kf (xs.length - 1)]? = some x → Q x H3) I told
  refine wpAny_Call_Name_kw (ld_blt I glob unset boot_min (PyProof.Rows.callWith_kw (thn args fun us s1 got => ?_) (by rw [nostar]; rfl) (by rw [nostar]; rfl) rfl rfl))
  obtain ⟨vs, H1, I1, rel, l, xs, kf, rfl, tup, some_, tabs, rest⟩ := got
  obtain ⟨u, rfl, ru⟩ := rel.one
  cases ru
  refine PyProof.Rows.evalAll_cons (wpAny_bind (lam_make2 I1 table coded among alone tabs nodefaults (fun y hy z => L.has I1.ok (z ▸ hy)) fun f c' pm ctv H2 s2 I2 ext tabs2 at_f nf fr at_c => wpAny_bind (wpAny_standAt (wpAny_pure (PyProof.Rows.evalAll_nil ?_)))))
  obtain ⟨body_told, fin⟩ := rest H2 ext tabs2
  exact minKey_call I2 room L tup some_ at_f nf fr at_c (fun u => binds _ _ _ _ _ u) (fun A s' H' r => read A s' H' f c' r) body_told fin
end
end Tg

namespace Tg
/-! ### two lists of numbers with the same signs by a way are the same -/
theorem zeros_inj : ∀ {i j : Nat} {r t : List Nat}, List.replicate i 48 ++ 49 :: r = List.replicate j 48 ++ 49 :: t → i = j ∧ r = t
  | 0, 0, _, _, h => ⟨rfl, (List.cons.inj h).2⟩
  | 0, j + 1, _, _, h => by
    rw [List.replicate_succ] at h
    exact nomatch (List.cons.inj h).1
  | i + 1, 0, _, _, h => by
    rw [List.replicate_succ] at h
    exact nomatch (List.cons.inj h).1
  | i + 1, j + 1, _, _, h => by
    rw [List.replicate_succ, List.replicate_succ] at h
    obtain ⟨h1, h2⟩ := zeros_inj (List.cons.inj h).2
    exact ⟨by rw [h1], h2⟩
theorem bt_same {w a b : Nat} (h : bt w a = bt w b) (ha : a < 2 ^ w) (hb : b < 2 ^ w) : a = b := by
  have z := congrArg binNum h
  rw [num_bt, num_bt, Nat.mod_eq_of_lt ha, Nat.mod_eq_of_lt hb] at z
  exact z
theorem own_inj {a b : Nat} {r t : List Nat} (h : ownL a ++ r = ownL b ++ t) : a = b ∧ r = t := by
  unfold ownL at h
  rw [List.append_assoc, List.append_assoc, List.cons_append, List.cons_append] at h
  obtain ⟨e, h2⟩ := zeros_inj h
  rw [e] at h2
  obtain ⟨h3, h4⟩ := List.append_inj h2 (by rw [bt_len, bt_len])
  refine ⟨?_, h4⟩
  have la : blen (a + 1) = (b + 1).log2 + 1 := by rw [blen_pos (Nat.succ_pos a), e]
  have lb : blen (b + 1) = (b + 1).log2 + 1 := blen_pos (Nat.succ_pos b)
  have z := congrArg binNum h3
  rw [num_bt, num_bt] at z
  have a1 := Nat.log2_self_le (n := a + 1) (by omega)
  have b1 := Nat.log2_self_le (n := b + 1) (by omega)
  have a2 := lt_blen (a + 1)
  have b2 := lt_blen (b + 1)
  rw [la, Nat.pow_succ] at a2
  rw [lb, Nat.pow_succ] at b2
  rw [e] at a1
  generalize 2 ^ (b + 1).log2 = p at *
  have ea : (a + 1) % p = a + 1 - p := by rw [Nat.mod_eq_sub_mod a1, Nat.mod_eq_of_lt (by omega)]
  have eb : (b + 1) % p = b + 1 - p := by rw [Nat.mod_eq_sub_mod b1, Nat.mod_eq_of_lt (by omega)]
  omega
theorem cd_inj {a b : Int} {r t : List Nat} (h : cd a ++ r = cd b ++ t) : a = b ∧ r = t := by
  obtain ⟨h1, h2⟩ := own_inj h
  exact ⟨tN_inj h1, h2⟩
theorem owns_inj : ∀ {as bs : List Nat} {r t : List Nat}, as.length = bs.length → (as.map ownL).flatten ++ r = (bs.map ownL).flatten ++ t → as = bs ∧ r = t
  | [], [], _, _, _, h => ⟨rfl, h⟩
  | [], _ :: _, _, _, l, _ => nomatch l
  | _ :: _, [], _, _, l, _ => nomatch l
  | a :: as, b :: bs, r, t, l, h => by
    simp only [List.map_cons, List.flatten_cons, List.append_assoc] at h
    obtain ⟨h1, h2⟩ := own_inj h
    obtain ⟨h3, h4⟩ := owns_inj (Nat.succ.inj l) h2
    exact ⟨by rw [h1, h3], h4⟩
theorem cds_inj {as bs : List Int} (l : as.length = bs.length) (h : cds as = cds bs) : as = bs := by
  have e : ∀ cs : List Int, cds cs = ((cs.map tN).map ownL).flatten ++ [] := fun cs => by
    rw [List.append_nil, List.map_map]
    rfl
  rw [e, e] at h
  have z := (owns_inj (by rw [List.length_map, List.length_map, l]) h).1
  exact List.map_inj_right (fun x y q => tN_inj q) |>.mp z
theorem difs_inj : ∀ {a : Int} {r s : List Int}, difs (a :: r) = difs (a :: s) → r = s
  | _, [], [], _ => rfl
  | _, [], _ :: _, h => nomatch h
  | _, _ :: _, [], h => nomatch h
  | a, b :: r, c :: s, h => by
    obtain ⟨h1, h2⟩ := List.cons.inj (show (b - a) :: difs (b :: r) = (c - a) :: difs (c :: s) from h)
    obtain rfl : b = c := by omega
    rw [difs_inj h2]
theorem stp_inj : ∀ {xs ys : List Int}, stp xs = stp ys → xs = ys
  | [], [], _ => rfl
  | [], _ :: _, h => nomatch h
  | _ :: _, [], h => nomatch h
  | a :: r, b :: s, h => by
    obtain ⟨h1, h2⟩ := List.cons.inj (show a :: difs (a :: r) = b :: difs (b :: s) from h)
    subst h1
    rw [difs_inj h2]
theorem trn_inj : ∀ {xs ys : List Int}, trn xs = trn ys → xs = ys
  | [], [], _ => rfl
  | [], _ :: _, h => nomatch h
  | _ :: _, [], h => nomatch h
  | a :: r, b :: s, h => by
    obtain ⟨h1, h2⟩ := List.cons.inj (show a :: stp (difs (a :: r)) = b :: stp (difs (b :: s)) from h)
    subst h1
    rw [difs_inj (stp_inj h2)]
theorem unr_cons (r : Run) (rs : List Run) : unr (r :: rs) = List.replicate r.2 r.1 ++ unr rs := rfl
theorem rcds_cons (r : Run) (rs : List Run) : rcds (r :: rs) = cd r.1 ++ (ownL (r.2 - 1) ++ rcds rs) := by
  show rcd r ++ rcds rs = _
  unfold rcd
  rw [List.append_assoc]
theorem rcds_inj : ∀ {rs ss : List Run}, (∀ r, r ∈ rs → 1 ≤ r.2) → (∀ r, r ∈ ss → 1 ≤ r.2) → (unr rs).length = (unr ss).length → rcds rs = rcds ss → rs = ss
  | [], [], _, _, _, _ => rfl
  | [], s :: ss, _, p2, l, _ => by
    have := p2 s (.head _)
    rw [unr_cons, List.length_append, List.length_replicate] at l
    have z : (unr []).length = 0 := rfl
    omega
  | r :: rs, [], p1, _, l, _ => by
    have := p1 r (.head _)
    rw [unr_cons, List.length_append, List.length_replicate] at l
    have z : (unr []).length = 0 := rfl
    omega
  | (x, m) :: rs, (y, n) :: ss, p1, p2, l, h => by
    rw [rcds_cons, rcds_cons] at h
    obtain ⟨h1, h2⟩ := cd_inj h
    obtain ⟨h3, h4⟩ := own_inj h2
    have a1 : 1 ≤ m := p1 _ (.head _)
    have a2 : 1 ≤ n := p2 _ (.head _)
    have h3 : m - 1 = n - 1 := h3
    have h1 : x = y := h1
    obtain rfl : m = n := by omega
    subst h1
    have l : m + (unr rs).length = m + (unr ss).length := by
      rw [unr_cons, unr_cons, List.length_append, List.length_append, List.length_replicate] at l
      exact l
    rw [rcds_inj (fun r hr => p1 r (.tail _ hr)) (fun r hr => p2 r (.tail _ hr)) (by omega) h4]
theorem rn_inj {xs ys : List Int} (l : xs.length = ys.length) (h : rcds (rn xs) = rcds (rn ys)) : xs = ys := by
  obtain ⟨u1, p1⟩ := rn_all xs
  obtain ⟨u2, p2⟩ := rn_all ys
  have e := rcds_inj p1 p2 (by rw [u1, u2, l]) h
  rw [← u1, ← u2, e]
theorem enc_inj {W : Way} {xs ys : List Int} (l : xs.length = ys.length) (h : enc W xs = enc W ys) : xs = ys := by
  cases W with
  | steps => exact stp_inj (cds_inj (by rw [stp_len, stp_len, l]) h)
  | turns => exact trn_inj (cds_inj (by rw [trn_len, trn_len, l]) h)
  | runs => exact rn_inj l h
/-- codes of one width -/
theorem flat_inj {w : Nat} : ∀ {as bs : List (List Nat)}, (∀ l, l ∈ as → l.length = w) → (∀ l, l ∈ bs → l.length = w) → as.length = bs.length → as.flatten = bs.flatten → as = bs
  | [], [], _, _, _, _ => rfl
  | [], _ :: _, _, _, l, _ => nomatch l
  | _ :: _, [], _, _, l, _ => nomatch l
  | a :: as, b :: bs, h1, h2, l, h => by
    obtain ⟨e1, e2⟩ := List.append_inj (show a ++ as.flatten = b ++ bs.flatten from h) (by rw [h1 a (.head _), h2 b (.head _)])
    rw [e1, flat_inj (fun l hl => h1 l (.tail _ hl)) (fun l hl => h2 l (.tail _ hl)) (Nat.succ.inj l) e2]
theorem map_same {α β : Type} {f g : α → β} : ∀ {xs ys : List α}, xs.length = ys.length → xs.map f = ys.map g → (∀ x y, x ∈ xs → y ∈ ys → f x = g y → x = y) → xs = ys
  | [], [], _, _, _ => rfl
  | [], _ :: _, l, _, _ => nomatch l
  | _ :: _, [], l, _, _ => nomatch l
  | x :: xs, y :: ys, l, h, inj => by
    obtain ⟨h1, h2⟩ := List.cons.inj h
    rw [inj x y (.head _) (.head _) h1, map_same (Nat.succ.inj l) h2 fun a b ha hb => inj a b (.tail _ ha) (.tail _ hb)]
theorem encP_inj {xs ys : List Int} (ne : xs ≠ []) (l : xs.length = ys.length) (h : encP xs = encP ys) : xs = ys := by
  have ne2 : ys ≠ [] := fun z => ne (List.length_eq_zero_iff.mp (by rw [l, z]; rfl))
  unfold encP at h
  rw [List.append_assoc, List.append_assoc] at h
  obtain ⟨e1, h2⟩ := cd_inj h
  obtain ⟨e2, h3⟩ := own_inj h2
  have c1 : ∀ c, c ∈ plC xs → c.length = wdP xs := fun c hc => by
    obtain ⟨x, _, rfl⟩ := List.mem_map.mp hc
    exact bt_len _ _
  have c2 : ∀ c, c ∈ plC ys → c.length = wdP xs := fun c hc => by
    obtain ⟨x, _, rfl⟩ := List.mem_map.mp hc
    rw [e2]
    exact bt_len _ _
  have lp : (plC xs).length = (plC ys).length := by
    unfold plC
    rw [List.length_map, List.length_map, l]
  have same := flat_inj c1 c2 lp h3
  have small : ∀ {zs : List Int} {x : Int}, zs ≠ [] → x ∈ zs → (x - mnI zs).toNat < 2 ^ wdP zs := fun {zs x} nz hx => by
    have m1 := (mxI_is nz).2 x hx
    exact Nat.lt_of_le_of_lt (by omega) (lt_blen (mxI zs - mnI zs).toNat)
  refine map_same l same fun x y hx hy q => ?_
  rw [e2, e1] at q
  have m1 := (mnI_is ne).2 x hx
  have m2 := (mnI_is ne2).2 y hy
  have s1 := small ne hx
  rw [e2, e1] at s1
  have := bt_same q s1 (small ne2 hy)
  omega
theorem gaps_pos : ∀ {b : List Int}, b.Pairwise (· < ·) → ∀ d, d ∈ difs b → 1 ≤ d
  | [], _, d, h => nomatch h
  | [_], _, d, h => nomatch h
  | x :: y :: r, p, d, h => by
    have p0 := List.pairwise_cons.mp p
    have h : d ∈ (y - x) :: difs (y :: r) := h
    obtain e | h := List.mem_cons.mp h
    · have := p0.1 y (.head _)
      omega
    · exact gaps_pos p0.2 d h
theorem encB_inj {xs ys : List Int} (ne : xs ≠ []) (l : xs.length = ys.length) (h : encB xs = encB ys) : xs = ys := by
  have ne2 : ys ≠ [] := fun z => ne (List.length_eq_zero_iff.mp (by rw [l, z]; rfl))
  have b1 := book_ne (List.length_pos_iff.mpr ne)
  have b2 := book_ne (List.length_pos_iff.mpr ne2)
  unfold encB at h
  simp only [List.append_assoc] at h
  obtain ⟨e1, h2⟩ := own_inj h
  obtain ⟨e2, h3⟩ := cd_inj h2
  have lb : (bookOf xs).length = (bookOf ys).length := by omega
  have eg : ∀ zs : List Int, gpC zs = ((difs (bookOf zs)).map fun d => (d - 1).toNat).map ownL := fun zs => by
    rw [List.map_map]
    rfl
  rw [eg, eg] at h3
  obtain ⟨e3, h4⟩ := owns_inj (by rw [List.length_map, List.length_map, difs_len, difs_len, lb]) h3
  have ed : difs (bookOf xs) = difs (bookOf ys) := map_same (by rw [difs_len, difs_len, lb]) e3 fun x y hx hy q => by
    have p1 := gaps_pos (book_is xs).1 x hx
    have p2 := gaps_pos (book_is ys).1 y hy
    have q : (x - 1).toNat = (y - 1).toNat := q
    omega
  have eb : bookOf xs = bookOf ys := by
    cases ex : bookOf xs with
    | nil =>
      rw [ex] at b1
      exact absurd b1 (Nat.lt_irrefl _)
    | cons a r =>
      cases ey : bookOf ys with
      | nil =>
        rw [ey] at b2
        exact absurd b2 (Nat.lt_irrefl _)
      | cons b s =>
        rw [ex, ey] at ed e2
        have e2 : a = b := e2
        subst e2
        rw [difs_inj ed]
  have ew : wdB xs = wdB ys := by
    unfold wdB
    rw [eb]
  have c1 : ∀ c, c ∈ bkC xs → c.length = wdB xs := fun c hc => by
    obtain ⟨x, _, rfl⟩ := List.mem_map.mp hc
    exact bt_len _ _
  have c2 : ∀ c, c ∈ bkC ys → c.length = wdB xs := fun c hc => by
    obtain ⟨x, _, rfl⟩ := List.mem_map.mp hc
    rw [ew]
    exact bt_len _ _
  have lp : (bkC xs).length = (bkC ys).length := by
    unfold bkC
    rw [List.length_map, List.length_map, l]
  have same := flat_inj c1 c2 lp h4
  have small : ∀ {zs : List Int} {x : Int}, x ∈ zs → (bookOf zs).idxOf x < (bookOf zs).length ∧ (bookOf zs).idxOf x < 2 ^ wdB zs := fun {zs x} hx => by
    have i1 : (bookOf zs).idxOf x < (bookOf zs).length := List.idxOf_lt_length_of_mem (((book_is zs).2 x).mpr hx)
    exact ⟨i1, Nat.lt_of_le_of_lt (by omega) (lt_blen ((bookOf zs).length - 1))⟩
  refine map_same l same fun x y hx hy q => ?_
  obtain ⟨i1, s1⟩ := small hx
  obtain ⟨i2, s2⟩ := small hy
  rw [ew, eb] at q
  rw [ew, eb] at s1
  rw [eb] at i1
  have ei := bt_same q s1 s2
  have g1 := List.getElem_idxOf i1
  have g2 := List.getElem_idxOf i2
  rw [← g1, ← g2]
  simp only [ei]
/-! ### runs take no more signs than the numbers' own codes, each with one more -/
theorem ownL_len (n : Nat) : (ownL n).length = 2 * (n + 1).log2 + 1 := by
  unfold ownL
  rw [List.length_append, List.length_cons, List.length_replicate, bt_len]
  omega
def looseL (xs : List Int) : Nat := (xs.map fun x => (cd x).length + 1).sum
theorem loose_rep (x : Int) (m : Nat) : looseL (List.replicate m x) = m * ((cd x).length + 1) := by
  unfold looseL
  rw [List.map_replicate, List.sum_replicate_nat]
theorem loose_app (a b : List Int) : looseL (a ++ b) = looseL a + looseL b := by
  unfold looseL
  rw [List.map_append, List.sum_append_nat]
theorem run_short (x : Int) {m : Nat} (h : 1 ≤ m) : (cd x).length + (ownL (m - 1)).length ≤ m * ((cd x).length + 1) := by
  have c1 : 1 ≤ (cd x).length := by
    unfold cd
    rw [ownL_len]
    omega
  rw [ownL_len, show m - 1 + 1 = m by omega]
  have lg : m.log2 < m := (Nat.log2_lt (by omega)).mpr Nat.lt_two_pow_self
  generalize (cd x).length = c at *
  generalize m.log2 = g at *
  obtain ⟨m', rfl⟩ : ∃ m', m = m' + 1 := ⟨m - 1, by omega⟩
  have : m' * 2 ≤ m' * (c + 1) := Nat.mul_le_mul_left _ (by omega)
  have e : (m' + 1) * (c + 1) = m' * (c + 1) + (c + 1) := by rw [Nat.add_mul, Nat.one_mul]
  rw [e]
  omega
theorem runs_loose : ∀ rs : List Run, (∀ r, r ∈ rs → 1 ≤ r.2) → (rcds rs).length ≤ looseL (unr rs)
  | [], _ => Nat.zero_le _
  | r :: rs, p => by
    have ih := runs_loose rs fun q hq => p q (.tail _ hq)
    have one := run_short r.1 (p r (.head _))
    rw [rcds_cons, unr_cons, loose_app, loose_rep, List.length_append, List.length_append]
    omega
theorem rn_loose (xs : List Int) : (rcds (rn xs)).length ≤ looseL xs := by
  obtain ⟨u, p⟩ := rn_all xs
  have := runs_loose (rn xs) p
  rwa [u] at this
end Tg

namespace Tg
open PySem PySem.Spec PyProof.Rows L2
/-! ### a, o.f = .. : a field among the targets -/
def gFld (K : PySem.W.Frag) (to : TE) (f : Str) : TG := fun v σ H Q => to σ H fun x H1 => ∃ (a C dx : Addr) (fs : List (Str × V)), x = .ref a ∧ H1 a = some (.ins C dx fs) ∧ Cls K C ∧ NoAttr K C f ∧ fs.length < 1000 ∧ Q σ (upd H1 a (.ins C dx (putF f v fs)))
theorem pg_fld {X : Cx} {o : Expr} {to : TE} {f : Str} {pos : Pos} (ho : PE X o to) : PG X (.Attribute o f pos) (gFld X.K to f) := by
  constructor
  intro pins s σ H v u Q I r h
  refine PySem.W.kas_attr (thn (ho.run pins s σ H _ I h) fun ov s1 ⟨x, H1, I1, rx, a, C, dx, fs, ex, ea, cl, no, few, q⟩ => ?_)
  subst ex
  cases (show ov = Value.ref a from rx)
  exact setattr_ok I1 ea cl no few r fun s2 I2 => ⟨σ, _, I2, q⟩
end Tg

set_option maxHeartbeats 1000000
namespace Tg
open PySem PySem.Spec PyProof.Rows L2
/-! ### lists or tuples; sorted of a tuple of ints, of a dict by ints -/
section
variable {X : Cx}
/-- a list or a tuple -/
def SqA (K : PySem.W.Frag) (H : Hp) (a : Addr) (xs : List V) : Prop := SqL K H a xs ∨ SqT K H a xs
def iSeq (K : PySem.W.Frag) (tl : TE) : TI := fun σ H R => tl σ H fun x H1 => ∃ a, x = .ref a ∧ (((∃ xs, SqL K H1 a xs) ∧ R (Itl K a) H1) ∨ ((∃ xs, SqT K H1 a xs) ∧ R (Itt K a) H1))
theorem pi_seq {tg l : Expr} {tl : TE} (hl : PE X l tl) : PI X tg l (iSeq X.K tl) := by
  refine ⟨fun pins s σ H R I want => thn (hl.run pins s σ H _ I want) fun v s1 ⟨x, H1, I1, r1, told⟩ => ?_⟩
  obtain ⟨a, rfl, q⟩ := told
  cases r1
  rcases q with ⟨⟨xs, hq⟩, q⟩ | ⟨⟨xs, hq⟩, q⟩
  · obtain ⟨its, rv, at_, hz⟩ := I1.list hq
    refine wpAny_pyIter_list at_.isList ⟨s1.heap.objs.size, [s1.heap.objs.size], _, _, H1, rfl, I1.kept (t' := s1.toks) fun b o e => Heap.get?_push_of_some _ e, turn_list a _, ⟨_, Heap.get?_push_size _ rfl, rfl, rfl⟩, fun b hb => ?_, q⟩
    rw [List.mem_singleton.mp hb]
    exact I1.fpOk Nat.le.refl (I1.hok.fresh Nat.le.refl)
  · obtain ⟨its, rv, at_, hz⟩ := I1.tuple hq
    refine wpAny_pyIter_tuple (show s1.heap.IsTuple a its.toArray from at_) ⟨s1.heap.objs.size, [s1.heap.objs.size], _, _, H1, rfl, I1.kept (t' := s1.toks) fun b o e => Heap.get?_push_of_some _ e, turn_tuple a _, ⟨_, Heap.get?_push_size _ rfl, rfl, rfl⟩, fun b hb => ?_, q⟩
    rw [List.mem_singleton.mp hb]
    exact I1.fpOk Nat.le.refl (I1.hok.fresh Nat.le.refl)
/-- sorted of what is walked to ints -/
theorem sorted_of {pins : List (Addr × Obj)} {σ : L2.St} {H : Hp} {s : Shared} {a : Addr} {ns : List Int} {Q : VK} (I : Inv X pins σ H s) (few : ns.length ≤ sizeLine)
    (col : ∀ (R : List Value → Shared → Prop) (E : Value → Shared → Prop), (∀ (h' : Heap) (tk : Nat) (vs : List Value), (∀ b o, s.heap.get? b = some o → h'.get? b = some o) → IntsAre vs ns → R vs { s with heap := h', toks := tk }) → wpAny (model X.prog X.w) X.A.in1 (collect (.ref a)) R E s)
    (q : ∀ (ns' : List Int) (p : Addr), ns'.Perm ns → ns'.Pairwise (· ≤ ·) → H p = none → Q (.ref p) (upd H p (.lst (ns'.map V.int)))) :
    wpAny (model X.prog X.w) X.A (call (.builtin "sorted") [.ref a]) (EP X pins σ Q) X.xe s := by
  apply Calls.call_function_entry kind_sorted plain_sorted entry_sorted (args_sorted1 _)
  unfold Builtin.«sorted»
  refine wpAny_bind (m := checkCount "sorted" 1 1 _) (wpAny_pure (wpAny_bind (col _ _ fun h' tk vs kept are => ?_)))
  have I1 : Inv X pins σ H { s with heap := h', toks := tk } := I.kept kept
  have many : vs.length = ns.length := by
    have z := congrArg List.length (SrtO.iv_ints are)
    rw [List.length_map] at z
    exact z
  have room : vs.length ≤ sizeLine := many ▸ few
  refine wpAny_bind (wpAny_newList ?_ room)
  have new : (h'.push (seqObj "list" vs.toArray 0)).get? h'.objs.size = some (seqObj "list" vs.toArray 0) := Heap.get?_push_size _ rfl
  show wpAny _ _ _ _ _ { s with heap := h'.push (seqObj "list" vs.toArray 0), toks := tk }
  refine wpAny_bind (wpAny_holding (wpAny_call_entry slot_list_sort ⟨_, new, rfl⟩ entry_list_sort ?_ (args_list_sort _)))
  refine SrtO.list_sort_ord (s := { s with heap := h'.push (seqObj "list" vs.toArray 0), toks := tk }) SrtO.swo_int new room (SrtO.ints_sortable are) fun out up stable => ⟨_, rfl, ?_⟩
  have ⟨a1, a2, a3⟩ := SrtO.ints_out are up stable
  have ⟨c, hc⟩ := sortedHeap_at (vs := vs) (out := out.toArray) new
  have len : ((out.map SrtO.iv).map V.int).length ≤ sizeLine := by
    rw [List.length_map, a2.length_eq]
    exact few
  refine wpAny_pure ⟨_, rfl, .ref h'.objs.size, upd H h'.objs.size (.lst ((out.map SrtO.iv).map V.int)), I1.laid (t' := tk) (fun b u e => ?_) (Nat.le_refl _) (show ObjOk X.prog X.w _ _ _ (.lst ((out.map SrtO.iv).map V.int)) from ⟨len, out, c, vals_of_ints a1, hc⟩), rfl, q _ _ a2 a3 (I1.hok.fresh (Nat.le_refl _))⟩
  have lt : b < h'.objs.size := Heap.lt_size e
  rw [sortedHeap_old (Nat.ne_of_lt lt) (by rw [size_push']; exact Nat.lt_succ_of_lt lt)]
  refine Heap.get?_push_of_some _ ?_
  exact e
/-- sorted of a list or a tuple of ints -/
def rSortedA (K : PySem.W.Frag) : List V → Hp → VK → Prop := fun vs H Q => ∃ (a : Addr) (ns : List Int), vs = [V.ref a] ∧ SqA K H a (ns.map V.int) ∧
  ∀ (ms : List Int) (l : Addr), ms.Perm ns → ms.Pairwise (· ≤ ·) → H l = none → Q (.ref l) (upd H l (.lst (ms.map V.int)))
theorem cr_sortedA : CallR X (.builtin "sorted") (rSortedA X.K) := by
  rintro pins s σ H vs us Q I r ⟨a, ns, rfl, hs, q⟩
  rcases hs with hs | hs
  · exact cr_sortedI pins s σ H _ us Q I r ⟨a, ns, rfl, hs, q⟩
  · rw [Vals.ref1 r]
    obtain ⟨its, rv, at_, hz⟩ := I.tuple hs
    have few : ns.length ≤ sizeLine := by
      rw [List.length_map] at hz
      exact hz
    obtain ⟨o, ho, hc, n, hd⟩ := at_
    refine sorted_of I few (fun R E told => ?_) q
    refine wpAny_collect_seq a (.inr rfl) ho hc hd (fun h' kept => ?_) (by rw [List.size_toArray, ← rv.length, List.length_map]; exact few)
    exact told h' s.toks its kept rv.ints
/-- sorted of a dict whose keys are ints: its keys -/
def rSortedDI : List V → Hp → VK → Prop := fun vs H Q => ∃ (a : Addr) (kvs : List (Key × V)) (ks : List Int), vs = [V.ref a] ∧ Rd H a (.dK kvs) ∧ kvs.map (·.1) = ks.map Sum.inl ∧
  ∀ (ns' : List Int) (p : Addr), ns'.Perm ks → ns'.Pairwise (· ≤ ·) → H p = none → Q (.ref p) (upd H p (.lst (ns'.map V.int)))
theorem cr_sortedDI (calm : X.calm = true) : CallR X (.builtin "sorted") rSortedDI := by
  rintro pins s σ H vs us Q I r ⟨a, kvs, ks, rfl, hd, hks, q⟩
  rw [Vals.ref1 r]
  obtain ⟨z, lo, ws, rel, dd⟩ := dk_rd I.hok hd
  obtain ⟨ep, hat⟩ := dd.dictAt
  have hkeys : ws.map (·.1) = ks.map Sum.inl := rel.keys.symm.trans hks
  have hl : ws.length = ks.length := by
    have many := congrArg List.length hkeys
    simpa only [List.length_map] using many
  have kl : kvs.length = ks.length := by
    have many := congrArg List.length hks
    simpa only [List.length_map] using many
  refine sorted_of I (kl ▸ z) (fun R E told => ?_) q
  refine PySem.W.kdu_collect (A := X.A.in1) (PySem.W.kdl_dict (knd := mixKind X.prog X.w) (kvs := ws) (ep := ep) lo) (I.ok.hd calm) hat (by rw [hl, ← kl]; exact z) fun h' tk acc hk hacc => ?_
  refine told h' tk acc.toList hk ?_
  have size : acc.toList.length = ks.length := by rw [Array.length_toList, hacc.1, hl]
  have rv : Vals (ks.map V.int) acc.toList := vals_of_at (by rw [List.length_map, size]) fun j x u hx hu => by
    obtain ⟨k, y, e1, e2⟩ := hacc.2 j u (by rw [← hu, Array.getElem?_toList])
    have e3 : (ws.map (·.1))[j]? = some k := by
      rw [List.getElem?_map, e1]
      rfl
    rw [List.getElem?_map] at hx
    simp only [hkeys, List.getElem?_map] at e3
    obtain ⟨n, en, rfl⟩ := Option.map_eq_some_iff.mp hx
    rw [en] at e3
    have e4 : Sum.inl n = k := Option.some.inj e3
    subst e4
    exact keyIs_rel (k := .inl n) (v := u) e2
  exact rv.ints
end
/-! ### walking a list or a tuple -/
section
variable {K : PySem.W.Frag} {a : Addr} {xs : List V} {H H' : Hp}
theorem sqL_at (k : ∀ o, H a = some o → H' a = some o) (h : SqL K H a xs) : SqL K H' a xs := h.imp (fun r => r.imp (k _) fun ⟨o, e⟩ => ⟨o, k _ e⟩) id
theorem sqT_at (k : ∀ o, H a = some o → H' a = some o) (h : SqT K H a xs) : SqT K H' a xs := h.imp (fun r => r.imp (k _) fun ⟨o, e⟩ => ⟨o, k _ e⟩) id
theorem sqA_at (k : ∀ o, H a = some o → H' a = some o) (h : SqA K H a xs) : SqA K H' a xs := h.imp (sqL_at k) (sqT_at k)
/-- all rounds of a loop over J -/
abbrev Rounds (J : It) (g : TG) (tb : TS) (D : Ends) (σ : L2.St) (H : Hp) : Prop :=
  ∃ W : Nat → Nat → L2.St → Hp → Prop, (∃ m, W 0 m σ H) ∧ ∀ i m σ1 H1, W i m σ1 H1 → (J.stop i H1 ∧ D.nx σ1 H1) ∨
    (J.go i H1 ∧ ∃ N : L2.St → Hp → Prop, (∀ σ2 H2, N σ2 H2 → ∃ m2, m2 < m ∧ W (i + 1) m2 σ2 H2) ∧ ∀ x H2, J.yld i H1 x H2 → g x σ1 H2 fun σ3 H3 => tb { D with nx := N, ct := N, bk := D.nx } σ3 H3)
theorem for_seq {Hb : Hp} {g : TG} {tb : TS} {D : Ends} {σ : L2.St} (sq : SqA K Hb a xs) (Pv : Nat → L2.St → Hp → Prop) (first : Pv 0 σ H) (keep : ∀ i σ1 H1, Pv i σ1 H1 → ∀ o, Hb a = some o → H1 a = some o)
    (round : ∀ i x σ1 H1, xs[i]? = some x → Pv i σ1 H1 → g x σ1 H1 fun σ2 H2 => tb { D with nx := Pv (i + 1), ct := Pv (i + 1), bk := D.nx } σ2 H2) (last : ∀ σ1 H1, Pv xs.length σ1 H1 → D.nx σ1 H1) :
    ((∃ ys, SqL K H a ys) ∧ Rounds (Itl K a) g tb D σ H) ∨ ((∃ ys, SqT K H a ys) ∧ Rounds (Itt K a) g tb D σ H) :=
  sq.imp (fun h => ⟨⟨_, sqL_at (keep 0 σ H first) h⟩, for_list Pv first (fun i σ1 H1 _ p => sqL_at (keep i σ1 H1 p) h) round last⟩) fun h => ⟨⟨_, sqT_at (keep 0 σ H first) h⟩, for_tup Pv first (fun i σ1 H1 _ p => sqT_at (keep i σ1 H1 p) h) round last⟩
abbrev RoundsL (J : It) (g : TG) (tt : TT) (te : TE) (vs : List Nat) (σ : L2.St) (H : Hp) (D : Addr) (Qd : Hp → Prop) : Prop :=
  ∃ W : Nat → Nat → Hp → Prop, (∃ m, W 0 m (upd H D (.lst []))) ∧ ∀ i m H1, W i m H1 → (J.stop i H1 ∧ Qd H1) ∨
    (J.go i H1 ∧ ∃ Nx : Hp → Prop, (∀ H2, Nx H2 → ∃ m2, m2 < m ∧ W (i + 1) m2 H2) ∧ ∀ x H2, J.yld i H1 x H2 → g x (wipe σ vs) H2 fun σ3 H3 => wipe σ3 vs = wipe σ vs ∧ tt σ3 H3 fun b H4 =>
      if b = true then te σ3 H4 fun y H5 => ∃ acc, H5 D = some (.lst acc) ∧ acc.length < sizeLine ∧ Nx (upd H5 D (.lst (acc ++ [y]))) else Nx H4)
theorem lc_seq {g : TG} {tt : TT} {te : TE} {vs : List Nat} {σ : L2.St} {Qd : Addr → Hp → Prop} (sq : SqA K H a xs) (Pv : Addr → Nat → Hp → Prop) (first : ∀ D, H D = none → Pv D 0 (upd H D (.lst []))) (keep : ∀ D i H1, H D = none → Pv D i H1 → ∀ o, H a = some o → H1 a = some o)
    (round : ∀ D (i : Nat) (x : V) H1, H D = none → xs[i]? = some x → Pv D i H1 → g x (wipe σ vs) H1 fun σ2 H2 => wipe σ2 vs = wipe σ vs ∧ tt σ2 H2 fun b H3 =>
      if b = true then te σ2 H3 fun y H4 => ∃ acc, H4 D = some (.lst acc) ∧ acc.length < sizeLine ∧ Pv D (i + 1) (upd H4 D (.lst (acc ++ [y]))) else Pv D (i + 1) H3) (last : ∀ D H1, H D = none → Pv D xs.length H1 → Qd D H1) :
    ((∃ ys, SqL K H a ys) ∧ ∀ D, H D = none → RoundsL (Itl K a) g tt te vs σ H D (Qd D)) ∨ ((∃ ys, SqT K H a ys) ∧ ∀ D, H D = none → RoundsL (Itt K a) g tt te vs σ H D (Qd D)) :=
  sq.imp (fun h => ⟨⟨_, h⟩, fun D nD => lc_list (Pv D) (first D nD) (fun i H1 _ p => sqL_at (keep D i H1 nD p) h) (fun i x H1 e p => round D i x H1 nD e p) fun H1 p => last D H1 nD p⟩)
    fun h => ⟨⟨_, h⟩, fun D nD => lc_tup (Pv D) (first D nD) (fun i H1 _ p => sqT_at (keep D i H1 nD p) h) (fun i x H1 e p => round D i x H1 nD e p) fun H1 p => last D H1 nD p⟩
/-- {k: v for x in xs} of a list -/
theorem dc_lst {g : TG} {tt : TT} {tk tv : TE} {vs : List Nat} {σ : L2.St} {H1 : Hp} {D : Addr} {Qd : Hp → Prop} (Pv : Nat → Hp → Prop) (first : Pv 0 (upd H1 D (.dK []))) (keep : ∀ i H2, Pv i H2 → SqL K H2 a xs)
    (round : ∀ i x H2, xs[i]? = some x → Pv i H2 → g x (wipe σ vs) H2 fun σ2 H3 => wipe σ2 vs = wipe σ vs ∧ tt σ2 H3 fun b H4 =>
      if b = true then tk σ2 H4 fun y H5 => tv σ2 H5 fun z H6 => ∃ kvs k, y = kV k ∧ H6 D = some (.dK kvs) ∧ kvs.length < sizeLine ∧ Pv (i + 1) (upd H6 D (.dK (putK kvs k z))) else Pv (i + 1) H4) (last : ∀ H2, Pv xs.length H2 → Qd H2) :
    ∃ W : Nat → Nat → Hp → Prop, (∃ m, W 0 m (upd H1 D (.dK []))) ∧ ∀ i m H2, W i m H2 →
      ((Itl K a).stop i H2 ∧ Qd H2) ∨ ((Itl K a).go i H2 ∧ ∃ Nx : Hp → Prop, (∀ H3, Nx H3 → ∃ m2, m2 < m ∧ W (i + 1) m2 H3) ∧ ∀ x H3, (Itl K a).yld i H2 x H3 → g x (wipe σ vs) H3 fun σ2 H4 => wipe σ2 vs = wipe σ vs ∧ tt σ2 H4 fun b H5 =>
        if b = true then tk σ2 H5 fun y H6 => tv σ2 H6 fun z H7 => ∃ kvs k, y = kV k ∧ H7 D = some (.dK kvs) ∧ kvs.length < sizeLine ∧ Nx (upd H7 D (.dK (putK kvs k z))) else Nx H5) := by
  refine ⟨fun i m H2 => m = xs.length - i ∧ i ≤ xs.length ∧ Pv i H2, ⟨xs.length, by omega, Nat.zero_le _, first⟩, ?_⟩
  rintro i m H2 ⟨rfl, hi, p⟩
  have q := keep i H2 p
  by_cases lt : i < xs.length
  · refine .inr ⟨⟨xs, xs[i], q, List.getElem?_eq_getElem lt⟩, Pv (i + 1), fun H3 p3 => ⟨xs.length - (i + 1), by omega, rfl, lt, p3⟩, fun x H3 y => ?_⟩
    obtain ⟨rfl, y⟩ := y
    exact round i x H3 (y xs q) p
  · obtain rfl : i = xs.length := by omega
    exact .inl ⟨⟨xs, q, Nat.le_refl _⟩, last H2 p⟩
end
end Tg

namespace Tg
open PySem PySem.Spec PyProof.Rows L2
/-- any walk, by what is known of it -/
theorem walked_w {J : It} {n : Nat} {G : Hp → Prop} {Y : Nat → Hp → V → Hp → Prop} (w : Walk J n G Y) {Z : Hp} {turn : (Hp → Prop) → V → Hp → Prop} {Qd : Hp → Prop} (Pv : Nat → Hp → Prop) (first : Pv 0 Z) (keep : ∀ i H2, i ≤ n → Pv i H2 → G H2)
    (round : ∀ i x H2 H3, i < n → Pv i H2 → Y i H2 x H3 → turn (Pv (i + 1)) x H3) (last : ∀ H2, Pv n H2 → Qd H2) : Walked J Z turn Qd := by
  refine ⟨fun i m H2 => m = n - i ∧ i ≤ n ∧ Pv i H2, ⟨n, by omega, Nat.zero_le _, first⟩, ?_⟩
  rintro i m H2 ⟨rfl, hi, p⟩
  have q := keep i H2 hi p
  by_cases lt : i < n
  · exact .inr ⟨w.goes i H2 lt q, Pv (i + 1), fun H3 p3 => ⟨n - (i + 1), by omega, rfl, lt, p3⟩, fun x H3 y => round i x H2 H3 lt p (w.yields i H2 x H3 lt q y)⟩
  · obtain rfl : i = n := by omega
    exact .inl ⟨w.stops H2 q, last H2 p⟩
theorem yes_b {σ : L2.St} {H : Hp} {Q : Bool → Hp → Prop} (h : Q true H) : tYes σ H Q := h
end Tg

namespace Tg
open PySem PySem.Spec PyProof.Rows L2
/-! ### dicts compared, their values data -/
def DpK (K : PySem.W.Frag) (H : Hp) (kvs : List (Key × V)) (ds : List (Key × PyData)) : Prop := Paired (fun (p : Key × V) (q : Key × PyData) => p.1 = q.1 ∧ Dp K H p.2 q.2 ∧ SeqAt.shaped q.2 = true) kvs ds
def findD (ds : List (Key × PyData)) (k : Key) : Option PyData := (ds.find? fun p => decide (p.1 = k)).map (·.2)
def hitsD (da db : List (Key × PyData)) : Bool := da.all fun p => match findD db p.1 with
  | none => false
  | some e => PyData.eqv p.2 e
def eqvK (da db : List (Key × PyData)) : Bool := da.length == db.length && hitsD da db
section
variable {H : Hp} {X : Cx} {s : Shared} {σ : L2.St} {pins : List (Addr × Obj)}
theorem find_both {k : Key} : ∀ {kb : List (Key × V)} {db : List (Key × PyData)} {vb : List (Key × Value)}, DpK X.K H kb db → KV kb vb →
    (valueAt vb k = none ∧ findD db k = none) ∨ ∃ y u e, valueAt vb k = some u ∧ findD db k = some e ∧ RelV y u ∧ Dp X.K H y e ∧ SeqAt.shaped e = true
  | _, _, _, .nil, .nil => .inl ⟨rfl, rfl⟩
  | p :: kb, q :: db, v :: vb, .cons ⟨e1, d1, s1⟩ t1, .cons ⟨e2, r2⟩ t2 => by
    have ih := find_both (k := k) t1 t2
    unfold valueAt findD at ih ⊢
    rw [List.find?_cons, List.find?_cons]
    by_cases h : v.1 = k
    · rw [decide_eq_true h, decide_eq_true (e1.symm.trans (e2.trans h))]
      exact .inr ⟨p.2, v.2, q.2, rfl, rfl, r2, d1, s1⟩
    · rw [decide_eq_false h, decide_eq_false (fun z => h (e2.symm.trans (e1.trans z)))]
      exact ih
theorem hits_of {A : Around} (hu : A.in1.units + 64 < cLine) (I : Inv X pins σ H s) {kb : List (Key × V)} {db : List (Key × PyData)} {vb : List (Key × Value)} (pb : DpK X.K H kb db) (rb : KV kb vb) :
    ∀ {ka : List (Key × V)} {da : List (Key × PyData)} {va : List (Key × Value)}, DpK X.K H ka da → KV ka va → PySem.W.KeqHits A.in1 s vb va (hitsD da db)
  | _, _, _, .nil, .nil => .nil
  | p :: ka, q :: da, v :: va, .cons ⟨e1, d1, s1⟩ t1, .cons ⟨e2, r2⟩ t2 => by
    have ih := hits_of hu I pb rb t1 t2
    obtain ⟨k, u⟩ := v
    have ek : k = q.1 := e2.symm.trans e1
    subst ek
    rcases find_both (X := X) (k := q.1) pb rb with ⟨n1, n2⟩ | ⟨y, z, e, f1, f2, ry, dy, sy⟩
    · have eh : hitsD (q :: da) db = false := by
        unfold hitsD
        rw [List.all_cons, n2]
        rfl
      rw [eh]
      exact .miss n1
    · have eh : hitsD (q :: da) db = (PyData.eqv q.2 e && hitsD da db) := by
        unfold hitsD
        rw [List.all_cons, f2]
      rw [eh]
      obtain ⟨as, ra⟩ := Dp.reads I q.2 p.2 u d1 r2
      obtain ⟨bs, rz⟩ := Dp.reads I e y z dy ry
      exact .hit f1 (PySem.W.keq_at ra rz s1 sy hu) ih
def rEqK (K : PySem.W.Frag) (neg : Bool) : R2 := fun x y H Q => ∃ (a b : Addr) (ka kb : List (Key × V)) (da db : List (Key × PyData)), x = .ref a ∧ y = .ref b ∧ H a = some (.dK ka) ∧ H b = some (.dK kb) ∧ DpK K H ka da ∧ DpK K H kb db ∧ Q (.bl (if neg = true then !eqvK da db else eqvK da db)) H
theorem sizes_of {K : PySem.W.Frag} {ka : List (Key × V)} {da : List (Key × PyData)} {va : List (Key × Value)} (p : DpK K H ka da) (r : KV ka va) : va.length = da.length := (Paired.length r).symm.trans (Paired.length p)
theorem op_eqK (hu : X.A.units + 65 < cLine) : OpR X (compareOp .Eq) (rEqK X.K false) := by
  rintro pins s σ H x y v u Q I rx ry ⟨a, b, ka, kb, da, db, rfl, rfl, ha, hb, pa, pb, q⟩
  cases rx
  cases ry
  obtain ⟨_, la, va, ra, oa⟩ := (show ObjOk X.prog X.w H s.heap a (.dK ka) from I.hok a _ ha)
  obtain ⟨_, lb, vb, rb, ob⟩ := (show ObjOk X.prog X.w H s.heap b (.dK kb) from I.hok b _ hb)
  refine PySem.W.keq_eq la lb oa ob (by omega) (fun _ => hits_of (A := X.A) (by show X.A.units + 1 + 64 < cLine; omega) I pb rb pa ra) ?_
  rw [sizes_of pa ra, sizes_of pb rb]
  exact ⟨.bl _, H, I, rfl, q⟩
theorem op_neK (hu : X.A.units + 65 < cLine) : OpR X (compareOp .NotEq) (rEqK X.K true) := by
  rintro pins s σ H x y v u Q I rx ry ⟨a, b, ka, kb, da, db, rfl, rfl, ha, hb, pa, pb, q⟩
  cases rx
  cases ry
  obtain ⟨_, la, va, ra, oa⟩ := (show ObjOk X.prog X.w H s.heap a (.dK ka) from I.hok a _ ha)
  obtain ⟨_, lb, vb, rb, ob⟩ := (show ObjOk X.prog X.w H s.heap b (.dK kb) from I.hok b _ hb)
  refine PySem.W.keq_ne la lb oa ob (by omega) (fun _ => hits_of (A := X.A) (by show X.A.units + 1 + 64 < cLine; omega) I pb rb pa ra) ?_
  rw [sizes_of pa ra, sizes_of pb rb]
  exact ⟨.bl _, H, I, rfl, q⟩
end
end Tg

namespace Tg
open PySem PySem.Spec PyProof.Rows L2
/-! ### data stand where lists and tuples do -/
def IsLT : HO → Prop
  | .lst _ => True
  | .tup _ => True
  | .frz _ _ => True
  | _ => False
def LT (H H' : Hp) : Prop := ∀ a o, IsLT o → H a = some o → H' a = some o
theorem LT.refl (H : Hp) : LT H H := fun _ _ _ h => h
theorem LT.trans {H H1 H2 : Hp} (a : LT H H1) (b : LT H1 H2) : LT H H2 := fun c o f h => b c o f (a c o f h)
theorem LT.of {H H' : Hp} (s : Same H H') : LT H H' := fun c o _ h => s c o h
theorem LT.put {p : Addr} {H : Hp} {o u : HO} (h : H p = some o) (n : ¬ IsLT o) : LT H (upd H p u) := fun a v f e => by
  by_cases z : a = p
  · rw [z, h] at e
    cases e
    exact absurd f n
  · rw [upd_ne z]
    exact e
theorem nlt_dK {kvs : List (Key × V)} : ¬ IsLT (.dK kvs) := fun z => z
theorem nlt_ins {C dx : Addr} {fs : List (Str × V)} : ¬ IsLT (.ins C dx fs) := fun z => z
theorem rd_lt {H H' : Hp} {a : Addr} {o : HO} (s : LT H H') (f : IsLT o) (h : Rd H a o) : Rd H' a o := by
  rcases h with h | ⟨b, h⟩
  · exact .inl (s _ _ f h)
  · exact .inr ⟨b, s _ _ trivial h⟩
theorem sqL_lt {K : PySem.W.Frag} {H H' : Hp} {a : Addr} {xs : List V} (s : LT H H') (h : SqL K H a xs) : SqL K H' a xs := h.imp (rd_lt s trivial) id
theorem sqT_lt {K : PySem.W.Frag} {H H' : Hp} {a : Addr} {xs : List V} (s : LT H H') (h : SqT K H a xs) : SqT K H' a xs := h.imp (rd_lt s trivial) id
mutual
theorem dp_lt {K : PySem.W.Frag} {H H' : Hp} (s : LT H H') : ∀ {x : V} {d : PyData}, Dp K H x d → Dp K H' x d
  | _, _, .non => .non
  | _, _, .bl b => .bl b
  | _, _, .int i => .int i
  | _, _, .str z => .str z
  | _, _, .lst a b => .lst (sqL_lt s a) (dpAll_lt s b)
  | _, _, .tup a b => .tup (sqT_lt s a) (dpAll_lt s b)
theorem dpAll_lt {K : PySem.W.Frag} {H H' : Hp} (s : LT H H') : ∀ {xs : List V} {ds : List PyData}, DpAll K H xs ds → DpAll K H' xs ds
  | _, _, .nil => .nil
  | _, _, .cons a b => .cons (dp_lt s a) (dpAll_lt s b)
end
theorem dpK_lt {K : PySem.W.Frag} {H H' : Hp} {kvs : List (Key × V)} {ds : List (Key × PyData)} (s : LT H H') (h : DpK K H kvs ds) : DpK K H' kvs ds := L2.Paired.mapP h fun a b e => ⟨e.1, dp_lt s e.2.1, e.2.2⟩
theorem dpK_same {K : PySem.W.Frag} {H H' : Hp} {kvs : List (Key × V)} {ds : List (Key × PyData)} (s : Same H H') (h : DpK K H kvs ds) : DpK K H' kvs ds := dpK_lt (.of s) h
theorem dpK_at {K : PySem.W.Frag} {H : Hp} : ∀ {kvs : List (Key × V)} {ds : List (Key × PyData)}, DpK K H kvs ds → ∀ {i : Nat} {p : Key × V}, kvs[i]? = some p → ∃ q, ds[i]? = some q ∧ p.1 = q.1 ∧ Dp K H p.2 q.2 ∧ SeqAt.shaped q.2 = true
  | _, _, .nil, _, _, e => nomatch e
  | _, _, .cons a _, 0, _, e => by
    cases e
    exact ⟨_, rfl, a⟩
  | _, _, .cons _ t, i + 1, _, e => dpK_at t (i := i) e
theorem dpK_len {K : PySem.W.Frag} {H : Hp} {kvs : List (Key × V)} {ds : List (Key × PyData)} (h : DpK K H kvs ds) : kvs.length = ds.length := Paired.length h
theorem dp_tupI {K : PySem.W.Frag} {H : Hp} {v : V} {ds : List PyData} (h : Dp K H v (.tuple ds)) : ∃ a xs, v = .ref a ∧ SqT K H a xs ∧ DpAll K H xs ds := by
  cases h with
  | tup a b => exact ⟨_, _, rfl, a, b⟩
theorem dp_lstI {K : PySem.W.Frag} {H : Hp} {v : V} {ds : List PyData} (h : Dp K H v (.list ds)) : ∃ a xs, v = .ref a ∧ SqL K H a xs ∧ DpAll K H xs ds := by
  cases h with
  | lst a b => exact ⟨_, _, rfl, a, b⟩
end Tg

set_option maxHeartbeats 400000
namespace Tg
open PySem PySem.Spec PyProof.Rows L2
section
variable {pins : List (Addr × Obj)} {X : Cx} {s : Shared} {σ : L2.St} {H : Hp}
/-- tuple(xs) of a list: a new object without a dict of its own -/
theorem call_tupleF : CallR X (.type "tuple") (fun xs H Q => ∃ p ys, xs = [.ref p] ∧ SqL X.K H p ys ∧ ∀ (l : Addr) (o : Obj), o.dict = none → H l = none → Q (.ref l) (upd H l (.frz o (.tup ys)))) := by
  intro pins s σ H xs us Q I r hyp
  obtain ⟨p, ys, rfl, at_p, told⟩ := hyp
  obtain ⟨u, rfl, ru⟩ := r.one
  cases ru
  obtain ⟨its, rel, plain, small⟩ := I.list at_p
  have many := rel.length
  refine call_tuple_list plain.isList (fun h' keeps => ?_) (by simp only [List.size_toArray]; omega)
  have J : Inv X pins σ H { s with heap := h' } := I.kept (t' := s.toks) keeps
  have fine : ObjOk X.prog X.w (upd H h'.objs.size (.frz { cls := .type "tuple", data := .seq its.toArray } (.tup ys))) (h'.push { cls := .type "tuple", data := .seq its.toArray }) h'.objs.size (.frz { cls := .type "tuple", data := .seq its.toArray } (.tup ys)) :=
    ⟨Heap.get?_push_size _ rfl, small, its, rel, IsTup.new _ _⟩
  exact ⟨.ref h'.objs.size, _, J.laid (t' := s.toks) (fun b o e => Heap.get?_push_of_some _ e) (Nat.le_refl _) fine, rfl, told _ _ rfl (J.hok.fresh (Nat.le_refl _))⟩
/-- the pairs' keys and worths in the heap -/
theorem pairs_told (I : Inv X pins σ H s) : ∀ {ps : List Addr} {kvs : List (Key × V)}, Paired (fun p kv => SqT X.K H p [kV kv.1, kv.2]) ps kvs →
    ∃ (prs : List (Key × Value)) (us : List (Value × Value)), KV kvs prs ∧ prs.length = ps.length ∧ us.length = ps.length ∧
      ∀ (j : Nat) (k v : Value), us[j]? = some (k, v) → (∃ b, ps[j]? = some b ∧ IsTup s.heap b #[k, v]) ∧ ∃ key, prs[j]? = some (key, v) ∧ keyIs key k = true
  | _, _, .nil => ⟨[], [], .nil, rfl, rfl, fun j k v e => by simp at e⟩
  | _, _, .cons (a := p) (b := kv) first others => by
    obtain ⟨prs, us, h1, h2, h3, h4⟩ := pairs_told I others
    obtain ⟨its, rel, tup, _⟩ := I.tuple first
    obtain ⟨u, y, rfl, ru, ry⟩ := rel.two
    refine ⟨(kv.1, y) :: prs, (u, y) :: us, .cons ⟨rfl, ry⟩ h1, congrArg Nat.succ h2, congrArg Nat.succ h3, fun j k v e => ?_⟩
    cases j with
    | zero =>
      cases (Option.some.inj e : (u, y) = (k, v))
      exact ⟨⟨p, rfl, tup⟩, kv.1, rfl, kV_is (P := X.prog) (w := X.w) ru⟩
    | succ j => exact h4 j k v e
/-- dict(t) of such a tuple of pairs -/
theorem call_dictF (calm : X.calm = true) : CallR X (.type "dict") (fun xs H Q => ∃ (a : Addr) (o : Obj) (ps : List Addr) (kvs : List (Key × V)), xs = [.ref a] ∧ o.dict = none ∧ H a = some (.frz o (.tup (ps.map V.ref))) ∧ Paired (fun p kv => SqT X.K H p [kV kv.1, kv.2]) ps kvs ∧
    ∀ l, H l = none → Q (.ref l) (upd H l (.dK (mergeK [] kvs)))) := by
  intro pins s σ H xs us Q I r hyp
  obtain ⟨a, o, ps, kvs, rfl, nodict, at_a, pairs, told⟩ := hyp
  obtain ⟨u, rfl, ru⟩ := r.one
  cases ru
  obtain ⟨obj, small, its, rel, tup⟩ := I.hok a _ at_a
  have eits := refs_at rel
  subst eits
  have small' : ps.length ≤ sizeLine := by
    have z : (ps.map V.ref).length ≤ sizeLine := small
    rwa [List.length_map] at z
  obtain ⟨prs, us, kv, len1, len2, at_j⟩ := pairs_told I pairs
  obtain ⟨o', obj', cls, n, data⟩ := tup
  rw [obj] at obj'
  cases obj'
  have okA : PlainSeq "tuple" s.heap a (ps.map Value.ref).toArray ∧ PairItems s.heap (ps.map Value.ref).toArray (fun j => (ps[j]?).getD 0) us := by
    refine ⟨⟨o, n, obj, cls, nodict, data⟩, by simp [len2], fun j k v e => ?_⟩
    obtain ⟨⟨b, eb, tb⟩, _⟩ := at_j j k v e
    refine ⟨by simp [eb], .inl ?_⟩
    show s.heap.IsTuple ((ps[j]?).getD 0) #[k, v]
    rw [eb]
    exact tb
  refine PySem.call_dict_pairs (knd := mixKind X.prog X.w) (kvs := prs) (PairArg.tuple a (ps.map Value.ref).toArray (fun j => (ps[j]?).getD 0) us) (I.ok.hd calm) okA ⟨by rw [len1, len2], fun j k v e => ?_⟩ (by rw [len2]; exact small') fun h' tk dct keeps => ?_
  · obtain ⟨_, key, e1, e2⟩ := at_j j k v e
    exact ⟨key, e1, e2⟩
  · have apart : (s.heap.objs.size == sysModules) = false := beq_eq_false_iff_ne.mpr (Nat.ne_of_gt I.big)
    have few : (mergeK [] kvs).length ≤ sizeLine := by
      have z := kv.length
      refine Nat.le_trans (length_mergeK kvs ([] : List (Key × V))) ?_
      rw [List.length_nil, Nat.zero_add, z, len1]
      exact small'
    have fine : ObjOk X.prog X.w (upd H s.heap.objs.size (.dK (mergeK [] kvs))) h' s.heap.objs.size (.dK (mergeK [] kvs)) := ⟨few, apart, merged [] prs, KV.merge kv .nil, dct⟩
    exact ⟨.ref s.heap.objs.size, _, I.laid (t' := tk) (fun b o e => keeps b o (by simp) e) (Nat.le_refl _) fine, rfl, told _ (I.hok.fresh (Nat.le_refl _))⟩
end
end Tg

/-! != of lists whose items are alike by their own == -/
namespace Tg
open PySem PySem.SeqAt GQ
open AutoSeq1 (wpAny_loadPart')
open MeetsSeq MeetsSeq2 MeetsSeq3 SeqRoads2
section
variable {p : Program} {w : World} {Ar : Around} {Res : Result → Shared → Prop}
/-- the rounds that are left -/
theorem ne_rounds (x y : Addr) (many : Nat) (J : Nat → Shared → Prop) (two : ListI p w Ar (fun err t => Res (.error err) t) x y many J) (done : ∀ t, J many t → Res (.ok (.ret (.bool false))) t) :
    ∀ (left now : Nat), now + left = many → ∀ t, J now t → wpAny (model p w) Ar.in1 (Builtin.«list.__eq__.loop» ⟨[.ref x, .ref y, rawInt now, rawInt 3], []⟩) (FinOf p w Ar Res) (fun err t => Res (.error err) t) t
  | 0, now, sum, t, here => by
    have ⟨us, vs, cu, cv, atx, aty, lu, lv, _⟩ := two now t here
    obtain rfl : now = many := sum
    have told := done t here
    cases t
    wp_walk using wpAny_loadPart' atx, wpAny_loadPart' aty
    have outu : us[(now : Int).toNat]? = none := Array.getElem?_eq_none (by rw [lu]; exact Nat.le_refl _)
    have outv : vs[(now : Int).toNat]? = none := Array.getElem?_eq_none (by rw [lv]; exact Nat.le_refl _)
    rw [outu, outv]
    wp_walk using wpAny_loadPart' atx, wpAny_loadPart' aty
    have size : (us.size != vs.size) = false := by rw [lu, lv]; exact bne_self_eq_false now
    show Res (.ok (.ret (.bool (us.size != vs.size)))) _
    rw [size]
    exact told
  | left + 1, now, sum, t, here => by
    have ⟨us, vs, cu, cv, atx, aty, lu, lv, alike⟩ := two now t here
    have inu : now < us.size := by rw [lu]; omega
    have inv : now < vs.size := by rw [lv]; omega
    have said := alike inu inv
    cases t
    wp_walk using wpAny_loadPart' atx, wpAny_loadPart' aty
    rw [show us[(now : Int).toNat]? = some us[now] from Array.getElem?_eq_getElem inu, show vs[(now : Int).toNat]? = some vs[now] from Array.getElem?_eq_getElem inv]
    refine wpAny_bind (wpAny_mono said (fun b t2 both => ?_) fun _ _ er => er)
    have ⟨yes, next⟩ := both
    subst yes
    have more := ne_rounds x y many J two done left (now + 1) (by omega) t2 next
    cases t2
    wp_walk
    rw [show ((now : Int) + 1) = ((now + 1 : Nat) : Int) from by omega]
    refine ⟨plainId_quiet plain_eq_loop _, codeAny_builtin entry_eq_loop ?_⟩
    rw [Around.under_plainId (h := plain_eq_loop)]
    exact more
/-- the comparison itself -/
theorem ne_all (x y : Addr) (many : Nat) (J : Nat → Shared → Prop) (two : ListI p w Ar (fun err t => Res (.error err) t) x y many J) (done : ∀ t, J many t → Res (.ok (.ret (.bool false))) t) {t : Shared} (here : J 0 t) :
    wpAny (model p w) Ar.in1 (Builtin.«list.__ne__» ⟨[.ref x, .ref y], []⟩) (FinOf p w Ar Res) (fun err t => Res (.error err) t) t := by
  have ⟨us, vs, cu, cv, atx, aty, lu, lv, _⟩ := two 0 t here
  have rounds := ne_rounds x y many J two done many 0 (Nat.zero_add _) t here
  cases t
  have isl := AutoSeq1.sub_list_list
  have size : ¬ (us.size != vs.size) = true := by rw [lu, lv, bne_self_eq_false]; exact Bool.false_ne_true
  wp_walk using wpAny_loadPart' atx, wpAny_loadPart' aty
  refine ⟨plainId_quiet plain_eq_loop _, codeAny_builtin entry_eq_loop ?_⟩
  rw [Around.under_plainId (h := plain_eq_loop)]
  exact rounds
end
section
variable {p : Program} {w : World} {Ar : Around} {Er : Value → Shared → Prop} {t : Shared}
theorem ne_rich {x y : Addr} {many : Nat} {Qv : Value → Shared → Prop} (room : Ar.units < cLine) (J : Nat → Shared → Prop) (two : ListI p w Ar Er x y many J) (done : ∀ t, J many t → Qv (.bool false) t) (here : J 0 t) :
    wpAny (model p w) Ar (richCompare .NotEq (.ref x) (.ref y)) Qv Er t := by
  have ⟨us, vs, cu, cv, atx, aty, _⟩ := two 0 t here
  refine wpAny_richCompare_same_room (op := .NotEq) ⟨_, atx, rfl⟩ ⟨_, aty, rfl⟩ F.slot_list_ne (call_here F.slot_list_ne ⟨_, atx, rfl⟩ F.entry_list_ne (F.args_list_ne_2 _ _) ?_) room
  exact ne_all (Res := wants (fun v t => v ≠ .notImplemented ∧ Qv v t) Er) x y many J two (fun t d => ⟨(fun no => nomatch no), done t d⟩) here
end
end Tg
namespace Tg
open PySem PySem.Spec PyProof.Rows L2
section
variable {X : Cx} {n : Nat} {D : Eqv}
/-- xs != ys, of lists alike item by item: False -/
def rNeGL (D : Eqv) : R2 := fun x y H Q => DList D x y H ∧ ∀ H', Ext H H' → Q (.bl false) H'
theorem op_neGL (mon : Mon D) (one : EqG X n D) (room : Room (n + 1) X.A) : OpR X (compareOp .NotEq) (rNeGL D) := by
  rintro pins s σ H x y v u Q I rx ry ⟨⟨a, b, xs, ys, rfl, rfl, ha, hb, pairs⟩, q⟩
  cases rx
  cases ry
  have below : Sub X (n + 1) X.A := ⟨room, rfl⟩
  show wpAny (model X.prog X.w) X.A (richCompare .NotEq (.ref a) (.ref b)) (EP X pins σ Q) X.xe s
  refine ne_rich (many := xs.length) below.room.units0 (fun _ t => LoopI X pins σ H t) (fun i t w => ?_) (fun t ⟨H1, J, more⟩ => ⟨.bl false, H1, J, rfl, q H1 more⟩) ⟨H, I, Ext.rfl'⟩
  have ⟨H1, J, more⟩ := w
  have ⟨_, us, cu, ru, la⟩ := J.hok a _ (more _ _ ha)
  have ⟨_, vs, cv, rv, lb⟩ := J.hok b _ (more _ _ hb)
  have lu : us.toArray.size = xs.length := by rw [List.size_toArray, ru.length]
  have lv : vs.toArray.size = xs.length := by rw [List.size_toArray, ← rv.length, pairs.1]
  exact ⟨us.toArray, vs.toArray, cu, cv, la, lb, lu, lv, fun i1 i2 => turnG mon one below pairs ru rv i i1 i2 t w⟩
end
end Tg

namespace Tg
open PySem PySem.Spec PyProof.Rows L2
/-! ### d.keys(), list(d.keys()) -/
section
variable {X : Cx}
/-- the view of d's keys, at p -/
def kvO (p d : Addr) : HO := .ext fun h => PySem.W.KdlKeysView h p d
def rKeysV : V → List V → Hp → VK → Prop := fun x xs H Q => ∃ (d : Addr) (kvs : List (Key × V)), x = .ref d ∧ xs = [] ∧ H d = some (.dK kvs) ∧ ∀ p, H p = none → Q (.ref p) (upd H p (kvO p d))
theorem mt_keysV : MtR X "dict.keys" rKeysV := by
  intro pins s σ H x xs v us Q I rx rxs want
  obtain ⟨d, kvs, rfl, rfl, hd, q⟩ := want
  cases rx
  cases rxs
  obtain ⟨_, off, vs, _, isd⟩ := (show ObjOk X.prog X.w H s.heap d (.dK kvs) from I.hok d _ hd)
  have fresh : H s.heap.objs.size = none := I.hok.fresh (Nat.le_refl _)
  have at0 : (s.heap.push { cls := .type "dict_keys", data := .fields #[.ref d] }).get? s.heap.objs.size = some { cls := .type "dict_keys", data := .fields #[.ref d] } := Heap.get?_push_size _ rfl
  have okv : ObjOk X.prog X.w (upd H s.heap.objs.size (kvO s.heap.objs.size d)) (s.heap.push { cls := .type "dict_keys", data := .fields #[.ref d] }) s.heap.objs.size (kvO s.heap.objs.size d) :=
    ⟨⟨_, at0, rfl, rfl⟩, ⟨_, at0⟩, fun h1 h2 z k => let ⟨o, ho, r⟩ := z; ⟨o, k o ho, r⟩⟩
  exact call_meetsIn PySem.F.slot_dict_keys isd.typeIs PySem.F.entry_dict_keys (PySem.F.args_dict_keys_1 _) (PySem.W.kdl_meets_keys (mixKind X.prog X.w) d off) ⟨⟨vs, isd⟩, .ref s.heap.objs.size, _, I.laid (t' := s.toks) (fun b u e => Heap.get?_push_of_some _ e) (Nat.le_refl _) okv, rfl, q _ fresh⟩
def rListKV : List V → Hp → VK → Prop := fun xs H Q => ∃ (p d : Addr) (kvs : List (Key × V)), xs = [.ref p] ∧ H p = some (kvO p d) ∧ H d = some (.dK kvs) ∧ ∀ q, H q = none → Q (.ref q) (upd H q (.lst (kvs.map fun kv => kV kv.1)))
theorem call_listKV (hc : X.calm = true) : CallR X (.type "list") rListKV := by
  intro pins s σ H xs us Q I r want
  obtain ⟨p, d, kvs, rfl, hp, hd, q⟩ := want
  rw [Vals.ref1 r]
  have isv : PySem.W.KdlKeysView s.heap p d := (show ObjOk X.prog X.w H s.heap p (kvO p d) from I.hok p _ hp).1
  obtain ⟨few, _, vs, rk, isd⟩ := (show ObjOk X.prog X.w H s.heap d (.dK kvs) from I.hok d _ hd)
  obtain ⟨ep, isat⟩ := isd.dictAt
  have many : kvs.length = vs.length := Paired.length rk
  refine PySem.W.kdl_call (PySem.W.kdl_keys (knd := mixKind X.prog X.w) (kvs := vs) (ep := ep)) (I.ok.hd hc) ⟨isv, isat⟩ (many ▸ few) fun h' tk acc c keep made items => ?_
  have rel : Vals (kvs.map fun kv => kV kv.1) acc.toList := by
    have size : acc.toList.length = vs.length := Array.length_toList.trans items.1
    refine vals_of_at (by rw [List.length_map, size, many]) fun j x u hx hu => ?_
    obtain ⟨k, y, hk, is⟩ := items.2 j u (by rw [← hu, Array.getElem?_toList])
    have ek : (kvs.map (·.1))[j]? = some k := by
      rw [KV.keys rk, List.getElem?_map, hk]
      rfl
    rw [List.getElem?_map] at ek hx
    obtain ⟨kv, e1, e2⟩ := Option.map_eq_some_iff.mp ek
    rw [e1] at hx
    cases hx
    show RelV (kV kv.1) u
    rw [e2]
    exact keyIs_rel is
  refine ⟨.ref s.heap.objs.size, _, I.laid (t' := tk) keep (Nat.le_refl _) (show ObjOk X.prog X.w _ _ _ (.lst (kvs.map fun kv => kV kv.1)) from ⟨?_, acc.toList, c, rel, ?_⟩), rfl, q _ (I.hok.fresh (Nat.le_refl _))⟩
  · rw [List.length_map]
    exact few
  · rw [Array.toArray_toList]
    exact made
end
end Tg

namespace Tg
open PySem PySem.Spec PyProof.Rows L2
/-! ### sorted(d.keys()) -/
section
variable {X : Cx}
def rSortedKV : List V → Hp → VK → Prop := fun vs H Q => ∃ (p d : Addr) (kvs : List (Key × V)) (ks : List Int), vs = [V.ref p] ∧ H p = some (kvO p d) ∧ H d = some (.dK kvs) ∧ kvs.map (·.1) = ks.map Sum.inl ∧
  ∀ (ns' : List Int) (p : Addr), ns'.Perm ks → ns'.Pairwise (· ≤ ·) → H p = none → Q (.ref p) (upd H p (.lst (ns'.map V.int)))
theorem cr_sortedKV (calm : X.calm = true) : CallR X (.builtin "sorted") rSortedKV := by
  rintro pins s σ H vs us Q I r ⟨p, d, kvs, ks, rfl, hp, hd, hks, q⟩
  rw [Vals.ref1 r]
  have isv : PySem.W.KdlKeysView s.heap p d := (show ObjOk X.prog X.w H s.heap p (kvO p d) from I.hok p _ hp).1
  obtain ⟨few, _, ws, rel, isd⟩ := (show ObjOk X.prog X.w H s.heap d (.dK kvs) from I.hok d _ hd)
  obtain ⟨ep, isat⟩ := isd.dictAt
  have hkeys : ws.map (·.1) = ks.map Sum.inl := rel.keys.symm.trans hks
  have hl : ws.length = ks.length := by
    have many := congrArg List.length hkeys
    simpa only [List.length_map] using many
  have kl : kvs.length = ks.length := by
    have many := congrArg List.length hks
    simpa only [List.length_map] using many
  refine sorted_of I (kl ▸ few) (fun R E told => ?_) q
  refine PySem.W.kdu_collect (A := X.A.in1) (PySem.W.kdl_keys (knd := mixKind X.prog X.w) (kvs := ws) (ep := ep)) (I.ok.hd calm) ⟨isv, isat⟩ (by rw [hl, ← kl]; exact few) fun h' tk acc hk hacc => ?_
  refine told h' tk acc.toList hk ?_
  have size : acc.toList.length = ks.length := by rw [Array.length_toList, hacc.1, hl]
  have rv : Vals (ks.map V.int) acc.toList := vals_of_at (by rw [List.length_map, size]) fun j x u hx hu => by
    obtain ⟨k, y, e1, e2⟩ := hacc.2 j u (by rw [← hu, Array.getElem?_toList])
    have e3 : (ws.map (·.1))[j]? = some k := by
      rw [List.getElem?_map, e1]
      rfl
    rw [List.getElem?_map] at hx
    simp only [hkeys, List.getElem?_map] at e3
    obtain ⟨n, en, rfl⟩ := Option.map_eq_some_iff.mp hx
    rw [en] at e3
    have e4 : Sum.inl n = k := Option.some.inj e3
    subst e4
    exact keyIs_rel (k := .inl n) (v := u) e2
  exact rv.ints
end
end Tg

namespace Tg
open PySem PySem.Spec PyProof.Rows L2
/-! ### the text -/
def topS (i : Nat) : Stmt := PySem.Challenge.pw_timegranary_k29_blocks.main.body.getD i (.Pass ⟨0, 0, 0, 0⟩)
abbrev sDraws : Stmt := topS 41
abbrev sNext : Stmt := topS 42
theorem scDraws : FnScope ["_law_cell", "_law_cut", "_law_k"] ["_law_cell"] (defScope sDraws) := ⟨rfl, rfl, rfl, by decide +kernel, rfl, by decide +kernel, by decide +kernel⟩
theorem scNext : FnScope ["_law_draws_here", "_law_k", "_law_number"] ["_law_draws_here"] (defScope sNext) := ⟨rfl, rfl, rfl, by decide +kernel, rfl, by decide +kernel, by decide +kernel⟩
section
variable {P : Program} {w : World} {K : PySem.W.Frag} {mg : Str → Option Value} {base : Heap}
/-! ### _law_draws -/
/-- the draws at p, of which at most n were taken -/
def Dr (H : Hp) (p : Addr) (n : Nat) : Prop := ∃ (a k : Int) (b : Bool), H p = some (.lst [.int a, .int k, .bl b]) ∧ 0 ≤ k ∧ k ≤ n
theorem Dr.same {H H' : Hp} {p : Addr} {n : Nat} (s : Same H H') (d : Dr H p n) : Dr H' p n := by
  obtain ⟨a, k, b, h, r⟩ := d
  exact ⟨a, k, b, s _ _ h, r⟩
theorem Dr.ne {H : Hp} {p l : Addr} {n : Nat} (d : Dr H p n) (h : H l = none) : l ≠ p := fun z => by
  obtain ⟨_, _, _, z2, _⟩ := d
  rw [z, z2] at h
  cases h
def spDraws : Sp := fun vs H Q _ => ∃ c : Int, vs = [.int c] ∧ ∀ (p : Addr) (a : Int) (b : Bool), H p = none → Q (.ref p) (upd H p (.lst [.int a, .int 0, .bl b]))
theorem ok_draws {f : Addr} {fd : FuncData} {k : Nat} (F : Fun K "_law_draws" "_law_draws" sDraws f fd) (mr : mg "range" = none) : FnOk P w K mg base CX0 (k + 1) f fd ["_law_cell"] spDraws := by
  refine F.ok scDraws (fun vs H Q E h => ?_) (fun cdv A outer s H vs Q E hr h => ?_)
  · obtain ⟨c, rfl, _⟩ := h
    rfl
  · obtain ⟨c, rfl, q⟩ := h
    refine ⟨_, pss_cons (ps_set (i := 1) scDraws.nd rfl (.inl rfl) (pe_op op_pow pe_int pe_int))
      (pss_cons (ps_for PassesOwn.never rfl (pi_range1 (by rfl) mr (pa_cons pe_int pa_nil)) (pg_name (i := 2) scDraws.nd rfl (.inl rfl))
        (pss_one (ps_set (i := 1) scDraws.nd rfl (.inl rfl) (pe_op op_mulW (pv 1) (pv 1)))))
      (pss_one (ps_ret (pe_lst (pa_cons (pe_op op_mod (pv 0) (pv 1)) (pa_cons pe_int (pa_cons (pe_cmpR op_ge (pv 0) (pe_op op_pow pe_int pe_int) (nomark _)) pa_nil))))))), ?_⟩
    refine ⟨10, 60, rfl, rfl, ⟨by decide, by decide, by decide⟩, ?_⟩
    refine ⟨7, rfl, by decide, by decide, for_range (n := 7) (fun i σ H2 => ∃ (x : Int) (y : Option V), σ = [some (.int c), some (.int x), y] ∧ H2 = H ∧ 0 < x ∧ x.natAbs < 2 ^ (200 * 2 ^ i)) ?_ ?_ ?_⟩
    · exact ⟨_, none, rfl, rfl, by decide, by decide⟩
    · rintro i σ H2 hi ⟨x, y, rfl, rfl, hx, hb⟩
      refine ⟨_, rfl, _, rfl, x, x, rfl, rfl, ?_, x * x, _, rfl, rfl, Int.mul_pos hx hx, ?_⟩
      · have h7 : 2 ^ i ≤ 2 ^ 6 := Nat.pow_le_pow_right (by decide) (by omega)
        have h0 : 0 < 2 ^ i := Nat.pow_pos (by decide)
        exact wide_mul hb hb (by omega) (by omega) (by omega)
      · have e := wide_lt hb hb
        rw [show 200 * 2 ^ (i + 1) = 200 * 2 ^ i + 200 * 2 ^ i by rw [Nat.pow_succ]; omega]
        exact e
    · rintro σ H2 ⟨x, y, rfl, rfl, hx, _⟩
      refine ⟨_, rfl, _, rfl, c, x, rfl, rfl, hx, _, rfl, 10, 18, rfl, rfl, ⟨by decide, by decide, by decide⟩, c, _, rfl, rfl, ?_, fun p hp => ?_⟩
      · show 3 ≤ sizeLine
        decide
      · exact q p _ _ hp
/-! ### _law_next -/
def spNext : Sp := fun vs H Q _ => ∃ (p : Addr) (n : Nat), vs = [.ref p] ∧ Dr H p n ∧ n < 1000000 ∧
  ∀ (v : Int) (H' : Hp), Kp p H H' → Dr H' p (n + 1) → 0 ≤ v → v < 1000000000 → Q (.int v) H'
theorem ok_next {f : Addr} {fd : FuncData} {k : Nat} (F : Fun K "_law_next" "_law_next" sNext f fd) : FnOk P w K mg base CX0 (k + 1) f fd ["_law_draws_here"] spNext := by
  refine F.ok scNext (fun vs H Q E h => ?_) (fun cdv A outer s H vs Q E hr h => ?_)
  · obtain ⟨p, n, rfl, _⟩ := h
    rfl
  · obtain ⟨p, n, rfl, ⟨a, k, b, hp, k0, kn⟩, hn, q⟩ := h
    refine ⟨_, pss_cons (ps_asg (pe_op op_add (pe_ix ix_list (pv 0) pe_int (fun _ _ => rfl)) pe_int) (pg_sub (pv 0) pe_int set_list))
      (pss_cons (ps_set (i := 1) scNext.nd rfl (.inl rfl) (pe_ix ix_list (pv 0) pe_int (fun _ _ => rfl)))
      (pss_cons (ps_if (pt_val (pe_ix ix_list (pv 0) pe_int (fun _ _ => rfl)))
        (pss_cons (ps_set (i := 2) scNext.nd rfl (.inl rfl) (pe_op op_mod (pe_ix ix_list (pv 0) pe_int (fun _ _ => rfl)) (pe_op op_pow pe_int pe_int)))
        (pss_cons (ps_asg (pe_op op_fdiv (pe_ix ix_list (pv 0) pe_int (fun _ _ => rfl)) (pe_op op_pow pe_int pe_int)) (pg_sub (pv 0) pe_int set_list))
        (pss_one (ps_ret (pv 2))))) pss_nil)
      (pss_cons (ps_set (i := 2) scNext.nd rfl (.inl rfl) (pe_op op_mod (pe_op op_mul (pe_op op_add (pe_op op_add (pe_op op_mod (pe_ix ix_list (pv 0) pe_int (fun _ _ => rfl)) pe_int) (pe_op op_mul (pe_op op_mul (pv 1) (pv 1)) pe_int)) (pv 1)) pe_int) pe_int))
      (pss_cons (ps_set (i := 2) scNext.nd rfl (.inl rfl) (pe_op op_mod (pe_op op_mul (pv 2) (pv 2)) pe_int))
      (pss_one (ps_ret (pe_op op_fdiv (pe_op op_mod (pe_op op_mul (pv 2) (pe_op op_add (pv 2) pe_int)) pe_int) pe_int))))))), ?_⟩
    have h1 : (upd H p (.lst [.int a, .int (k + 1), .bl b])) p = some (.lst [.int a, .int (k + 1), .bl b]) := upd_same
    refine ⟨_, rfl, p, _, 1, .int k, rfl, rfl, SqL.of hp, rfl, k, 1, rfl, rfl, _, rfl, p, _, 1, 1, rfl, rfl, hp, rfl, ?_⟩
    refine ⟨_, rfl, p, _, 1, .int (k + 1), rfl, rfl, SqL.of h1, rfl, ?_⟩
    refine ⟨_, rfl, p, _, 2, .bl b, rfl, rfl, SqL.of h1, rfl, b, rfl, ?_⟩
    cases b with
    | true =>
      refine ⟨_, rfl, p, _, 0, .int a, rfl, rfl, SqL.of h1, rfl, 10, 6, rfl, rfl, ⟨by decide, by decide, by decide⟩, a, 1000000, rfl, rfl, (by show (0 : Int) < 1000000; decide), ?_⟩
      refine ⟨_, rfl, p, _, 0, .int a, rfl, rfl, SqL.of h1, rfl, 10, 6, rfl, rfl, ⟨by decide, by decide, by decide⟩, a, 1000000, rfl, rfl, ⟨by decide, by decide⟩, _, rfl, p, _, 0, 0, rfl, rfl, h1, rfl, ?_⟩
      refine ⟨_, rfl, ?_⟩
      rw [upd_upd]
      exact q _ _ Kp.put ⟨_, _, _, upd_same, by omega, by omega⟩ (Int.emod_nonneg _ (by decide)) (Int.lt_of_lt_of_le (Int.emod_lt_of_pos _ (by decide)) (by decide))
    | false =>
      refine ⟨_, rfl, p, _, 0, .int a, rfl, rfl, SqL.of h1, rfl, a, 1000003, rfl, rfl, (by show (0 : Int) < 1000003; decide), _, rfl, _, rfl, k + 1, k + 1, rfl, rfl, .inl ⟨by omega, by omega⟩, _, 7919, rfl, rfl, .inr ⟨by decide, by decide⟩,
        _, _, rfl, rfl, _, rfl, _, k + 1, rfl, rfl, _, 48271, rfl, rfl, .inr ⟨by decide, by decide⟩, _, 2147483629, rfl, rfl, (by show (0 : Int) < 2147483629; decide), ?_⟩
      obtain ⟨x, ex⟩ : ∃ x : Int, (a % 1000003 + (k + 1) * (k + 1) * 7919 + (k + 1)) * 48271 % 2147483629 = x := ⟨_, rfl⟩
      have x0 : 0 ≤ x := by
        rw [← ex]
        exact Int.emod_nonneg _ (by decide)
      have x1 : x < 2147483629 := by
        rw [← ex]
        exact Int.emod_lt_of_pos _ (by decide)
      refine ⟨_, rfl, _, rfl, x, x, congrArg V.int ex, congrArg V.int ex, .inl ⟨by omega, by omega⟩, _, 2147483587, rfl, rfl, (by show (0 : Int) < 2147483587; decide), ?_⟩
      obtain ⟨y, ey⟩ : ∃ y : Int, x * x % 2147483587 = y := ⟨_, rfl⟩
      have y0 : 0 ≤ y := by
        rw [← ey]
        exact Int.emod_nonneg _ (by decide)
      have y1 : y < 2147483587 := by
        rw [← ey]
        exact Int.emod_lt_of_pos _ (by decide)
      refine ⟨_, rfl, _, rfl, y, 2, congrArg V.int ey, rfl, y, _, congrArg V.int ey, rfl, .inl ⟨by omega, by omega⟩, _, 2147483579, rfl, rfl, (by show (0 : Int) < 2147483579; decide), _, 7, rfl, rfl, ⟨by decide, by decide⟩, ?_⟩
      have z0 : 0 ≤ y * (y + 2) % 2147483579 := Int.emod_nonneg _ (by decide)
      have z1 : y * (y + 2) % 2147483579 < 2147483579 := Int.emod_lt_of_pos _ (by decide)
      exact q _ _ Kp.put ⟨_, _, _, upd_same, by omega, by omega⟩ (by omega) (by omega)
end
theorem if_n {b : Bool} {A B : Prop} (e : b = false) (h : B) : if b = true then A else B := by
  rw [e]
  exact if_f h
theorem if_y {b : Bool} {A B : Prop} (e : b = true) (h : A) : if b = true then A else B := by
  rw [e]
  exact if_t h
end Tg

namespace Tg
open PySem PySem.Spec PyProof.Rows L2
abbrev sPl : Stmt := topS 8
abbrev sTu : Stmt := topS 9
abbrev sBa : Stmt := topS 10
abbrev sOw : Stmt := topS 11
theorem scPl : FnScope ["number", "width"] ["number", "width"] (defScope sPl) := ⟨rfl, rfl, rfl, by decide +kernel, rfl, by decide +kernel, by decide +kernel⟩
theorem scTu : FnScope ["number"] ["number"] (defScope sTu) := ⟨rfl, rfl, rfl, by decide +kernel, rfl, by decide +kernel, by decide +kernel⟩
theorem scBa : FnScope ["number"] ["number"] (defScope sBa) := ⟨rfl, rfl, rfl, by decide +kernel, rfl, by decide +kernel, by decide +kernel⟩
theorem scOw : FnScope ["number", "figures"] ["number"] (defScope sOw) := ⟨rfl, rfl, rfl, by decide +kernel, rfl, by decide +kernel, by decide +kernel⟩
theorem vi_z (n : Int) : decide (V.int n = V.int 0) = decide (n = 0) := by
  rw [dec_int]
  rfl
theorem s_nil : (Str.ofString "") = SX.S [] := by decide +kernel
theorem s_0 : (Str.ofString "0") = SX.S [48] := by decide +kernel
theorem s_1 : (Str.ofString "1") = SX.S [49] := by decide +kernel
theorem z500 {n : Nat} (h : n ≤ 60000) : n ≤ sizeLine := Nat.le_trans h (by decide)
theorem blen_small {n : Nat} (h : n < 2 ^ 91) : blen n ≤ 91 := by
  unfold blen
  split
  · exact Nat.zero_le _
  · rename_i c
    exact (Nat.log2_lt c).mpr h
section
variable {P : Program} {w : World} {K : PySem.W.Frag} {mg : Str → Option Value} {base : Heap} {f : Addr} {fd : FuncData} {k : Nat}
def spPl : Sp := fun vs H Q _ => ∃ n w : Nat, vs = [.int (n : Nat), .int (w : Nat)] ∧ blen n ≤ w ∧ w ≤ 500 ∧ Q (.str (SX.S (bt w n))) H
theorem ok_pl (F : Fun K "plain" "plain" sPl f fd) : FnOk P w K mg base CX0 (k + 1) f fd ["number", "width"] spPl := by
  refine F.ok scPl (fun vs H Q E h => ?_) (fun cdv A outer s H vs Q E hr h => ?_)
  · obtain ⟨n, w, rfl, _⟩ := h
    rfl
  · obtain ⟨n, w, rfl, le, few, q⟩ := h
    refine ⟨_, pss_one (ps_ret (pe_ifExp (pt_cmpR op_gt (pv 1) pe_int (nomark _)) (pe_bm PySem.F.plainAttrs_str PySem.F.slot_str_zfill PySem.F.type_str_zfill mt_zfill (pe_joined1 (pe_fmtB (pv 0) (pe_joined1 pe_str))) (pa_cons (pv 1) pa_nil)) pe_str)), ?_⟩
    refine ⟨_, rfl, _, _, rfl, rfl, _, rfl, ite2 (fun g => ?_) (fun g => ?_)⟩
    · have w0 : 0 < w := by
        have := of_decide_eq_true g
        omega
      have bl : (binC n).length ≤ 500 ∧ Txt.zfill (SX.S (binC n)) (w : Int) = SX.S (bt w n) := by
        by_cases n0 : n = 0
        · subst n0
          rw [bin_zero]
          refine ⟨by decide, ?_⟩
          rw [zfill_is (fun c hc => by rw [List.mem_singleton.mp hc]; exact .inl rfl), bt_zero]
          show SX.S (List.replicate (w - 1) 48 ++ [48]) = _
          rw [← List.replicate_succ', show w - 1 + 1 = w by omega]
        · have e := bin_is (n := n) (by omega)
          rw [e]
          refine ⟨by rw [bt_len]; omega, ?_⟩
          rw [zfill_is (bt_bin _ _), bt_len, ← bt_pad le]
      refine ⟨_, rfl, n, rfl, z500 (by omega), rfl, _, rfl, _, _, rfl, rfl, ?_, ?_⟩
      · unfold PadOk fitsSsize Builtin.Str.tooLong
        rw [decide_eq_false (by omega), decide_eq_false (by omega), decide_eq_false (by rw [sizeLine_eq]; omega)]
        rfl
      · rw [bl.2]
        exact q
    · have w0 : w = 0 := by
        have : ¬ ((w : Nat) : Int) > 0 := fun z => g (decide_eq_true z)
        omega
      subst w0
      show Q (.str "") H
      rw [s_nil]
      exact q
def spTu : Sp := fun vs H Q _ => ∃ n : Int, vs = [.int n] ∧ n.natAbs < 2 ^ 89 ∧ Q (.int (tn n)) H
theorem ok_tu (F : Fun K "turned" "turned" sTu f fd) : FnOk P w K mg base CX0 (k + 1) f fd ["number"] spTu := by
  refine F.ok scTu (fun vs H Q E h => ?_) (fun cdv A outer s H vs Q E hr h => ?_)
  · obtain ⟨n, rfl, _⟩ := h
    rfl
  · obtain ⟨n, rfl, few, q⟩ := h
    refine ⟨_, pss_one (ps_ret (pe_ifExp (pt_cmpR op_ge (pv 0) pe_int (nomark _)) (pe_op op_mul pe_int (pv 0)) (pe_op op_sub (pe_op op_mul (pe_un un_neg pe_int) (pv 0)) pe_int))), ?_⟩
    unfold tn at q
    refine ⟨_, rfl, _, _, rfl, rfl, _, rfl, ite2 (fun g => ?_) (fun g => ?_)⟩
    · rw [if_pos (of_decide_eq_true g)] at q
      exact ⟨_, rfl, _, _, rfl, rfl, .inl ⟨by decide, by decide⟩, q⟩
    · rw [if_neg (fun z => g (decide_eq_true z))] at q
      exact ⟨_, rfl, _, rfl, _, _, rfl, rfl, .inl ⟨by decide, by decide⟩, _, _, rfl, rfl, q⟩
def spBa : Sp := fun vs H Q _ => ∃ n : Int, vs = [.int n] ∧ n.natAbs < 2 ^ 90 ∧ Q (.int (bk n)) H
theorem ok_ba (F : Fun K "back" "back" sBa f fd) : FnOk P w K mg base CX0 (k + 1) f fd ["number"] spBa := by
  refine F.ok scBa (fun vs H Q E h => ?_) (fun cdv A outer s H vs Q E hr h => ?_)
  · obtain ⟨n, rfl, _⟩ := h
    rfl
  · obtain ⟨n, rfl, few, q⟩ := h
    refine ⟨_, pss_one (ps_ret (pe_ifExp (pt_cmpR op_eq (pe_op op_mod (pv 0) pe_int) pe_int (nomark _)) (pe_op op_fdiv (pv 0) pe_int) (pe_op op_sub (pe_un un_neg (pe_op op_fdiv (pv 0) pe_int)) pe_int))), ?_⟩
    unfold bk at q
    refine ⟨_, rfl, _, _, rfl, rfl, (by show (0 : Int) < 2; decide), rfl, _, rfl, ite2 (fun g => ?_) (fun g => ?_)⟩
    · rw [vi_z] at g
      rw [if_pos (of_decide_eq_true g)] at q
      exact ⟨_, rfl, _, _, rfl, rfl, ⟨by decide, by decide⟩, q⟩
    · rw [vi_z] at g
      rw [if_neg (fun z => g (decide_eq_true z))] at q
      exact ⟨_, rfl, _, _, rfl, rfl, ⟨by decide, by decide⟩, _, rfl, _, _, rfl, rfl, q⟩
def spOw : Sp := fun vs H Q _ => ∃ n : Nat, vs = [.int (n : Nat)] ∧ n < 2 ^ 90 ∧ Q (.str (SX.S (ownL n))) H
theorem own_64 {n : Nat} (h : n < 2 ^ 90) : blen (n + 1) ≤ 91 := blen_small (by omega)
theorem ok_ow (F : Fun K "own" "own" sOw f fd) (m_len : mg "len" = none) : FnOk P w K mg base CX0 (k + 1) f fd ["number"] spOw := by
  refine F.ok scOw (fun vs H Q E h => ?_) (fun cdv A outer s H vs Q E hr h => ?_)
  · obtain ⟨n, rfl, _⟩ := h
    rfl
  · obtain ⟨n, rfl, few, q⟩ := h
    refine ⟨_, pss_cons (ps_set (i := 1) scOw.nd rfl (.inl rfl) (pe_joined1 (pe_fmtB (pe_op op_add (pv 0) pe_int) (pe_joined1 pe_str))))
      (pss_one (ps_ret (pe_op op_add_str (pe_op (op_times (c := 48)) pe_str (pe_op op_sub (pe_callB call_len_str (by rfl) m_len (by decide +kernel) (pa_cons (pv 1) pa_nil)) pe_int)) (pv 1)))), ?_⟩
    have b64 := own_64 few
    have e := bin_is (n := n + 1) (by omega)
    have lb : (binC (n + 1)).length = blen (n + 1) := by rw [e, bt_len]
    have bp := blen_pos (show 0 < n + 1 by omega)
    refine ⟨_, rfl, _, _, rfl, rfl, n + 1, rfl, z500 (by omega), ?_⟩
    refine ⟨_, rfl, _, rfl, (by rw [SX.S_len]; exact z500 (by omega)), _, _, rfl, rfl, blen (n + 1) - 1, (by rw [← s_0]), ?_, by omega, _, rfl, _, _, rfl, rfl, ?_, ?_⟩
    · rw [SX.S_len, lb]
      exact congrArg V.int (by omega)
    · rw [SX.S_len, SX.S_len, List.length_replicate, lb]
      exact z500 (by omega)
    · rw [SX.S_cat, e, own_is]
      exact q
end
end Tg

namespace Tg
open PySem PySem.Spec PyProof.Rows L2
abbrev sRO : Stmt := topS 12
theorem scRO : FnScope ["bits", "at", "first", "behind"] ["bits", "at"] (defScope sRO) := ⟨rfl, rfl, rfl, by decide +kernel, rfl, by decide +kernel, by decide +kernel⟩
theorem pss_dead {X : Cx} {b : List Stmt} : PSs X b (fun _ _ _ => False) := ⟨fun _ _ _ _ _ _ h => h.elim⟩
/-- a code stands whole behind a signs -/
theorem code_at (a rest : List Nat) (n v : Nat) : (a ++ (ownL n ++ rest))[a.length + v]? = (ownL n ++ rest)[v]? := by
  rw [List.getElem?_append_right (Nat.le_add_right _ _), Nat.add_sub_cancel_left]
theorem code_find (a rest : List Nat) (n : Nat) : Txt.find3 (SX.S (a ++ (ownL n ++ rest))) ⟨#[49]⟩ ((a.length : Nat) : Int) = ((a.length + (n + 1).log2 : Nat) : Int) := by
  have lo := own_len n
  refine find_at ?_ (Nat.le_add_right _ _) fun v h1 h2 => ?_
  · rw [code_at, List.getElem?_append_left (by rw [lo]; omega)]
    exact own_one n
  · obtain ⟨d, rfl⟩ : ∃ d, v = a.length + d := ⟨v - a.length, by omega⟩
    rw [code_at, List.getElem?_append_left (by rw [lo]; omega), own_lo (by omega)]
    exact fun z => nomatch z
theorem cut_S (l : List Nat) {i j : Nat} (ij : i ≤ j) (jl : j ≤ l.length) : cutS (SX.S l) (some (i : Int)) (some (j : Int)) = SX.S ((l.drop i).take (j - i)) := by
  unfold cutS
  rw [HT.sIx_nat, HT.sIx_nat, SX.S_len, Nat.min_eq_left jl, Nat.min_eq_left (Nat.le_trans ij jl)]
/-- no code stands whole at a -/
def NoCode (l : List Nat) (a : Nat) : Prop := (∀ v, a ≤ v → l[v]? ≠ some 49) ∨ ∃ j, l[a + j]? = some 49 ∧ (∀ v, a ≤ v → v < a + j → l[v]? ≠ some 49) ∧ l.length < a + 2 * j + 1
section
variable {P : Program} {w : World} {K : PySem.W.Frag} {mg : Str → Option Value} {base : Heap} {CB : Addr} {f : Addr} {fd : FuncData} {k : Nat}
def spRO (K : PySem.W.Frag) : Sp := fun vs H Q _ => ∃ (a rest : List Nat) (n : Nat), vs = [.str (SX.S (a ++ (ownL n ++ rest))), .int (a.length : Nat)] ∧ n < 2 ^ 90 ∧ (a ++ (ownL n ++ rest)).length ≤ 60000 ∧ ∀ t H', Same H H' → SqT K H' t [.int (n : Nat), .int ((a.length + (ownL n).length : Nat) : Int)] → Q (.ref t) H'
theorem ok_ro (F : Fun K "read_own" "read_own" sRO f fd) (m_len : mg "len" = none) (m_int : mg "int" = none) : FnOk P w K mg base CX0 (k + 1) f fd ["bits", "at"] (spRO K) := by
  refine F.ok scRO (fun vs H Q E h => ?_) (fun cdv A outer s H vs Q E hr h => ?_)
  · obtain ⟨a, rest, n, rfl, _⟩ := h
    rfl
  · obtain ⟨a, rest, n, rfl, few, l1000, q⟩ := h
    refine ⟨_, pss_cons (ps_set (i := 2) scRO.nd rfl (.inl rfl) (pe_bm PySem.F.plainAttrs_str PySem.F.slot_str_find PySem.F.type_str_find mt_find3 (pv 0) (pa_cons pe_str (pa_cons (pv 1) pa_nil))))
      (pss_cons (ps_set (i := 3) scRO.nd rfl (.inl rfl) (pe_op op_add (pe_op op_sub (pe_op op_mul pe_int (pv 2)) (pv 1)) pe_int))
      (pss_cons (ps_if (PW.pt (pw_or (pt_cmpR op_lt (pv 2) pe_int (nomark _)) (pw_or1 (pt_cmpR op_gt (pv 3) (pe_callB call_len_str (by rfl) m_len (by decide +kernel) (pa_cons (pv 0) pa_nil)) (nomark _)))))
        (pss_one ps_dead)
        pss_nil)
      (pss_one (ps_ret (pe_tup (pa_cons (pe_op op_sub (pe_callTy call_int_bin (by rfl) m_int (by decide +kernel) (pa_cons (pe_slice sl_str (pv 0) (po_some (pv 2)) (po_some (pv 3))) (pa_cons pe_int pa_nil))) pe_int) (pa_cons (pv 3) pa_nil))))))), ?_⟩
    have fnd := code_find a rest n
    have lo := own_len n
    have b64 := own_64 few
    have bp := blen_pos (show 0 < n + 1 by omega)
    obtain ⟨l, el⟩ : ∃ l, a ++ (ownL n ++ rest) = l := ⟨_, rfl⟩
    have ll : a.length + (ownL n).length ≤ l.length := by
      rw [← el, List.length_append, List.length_append]
      omega
    have part : (l.drop (a.length + (n + 1).log2)).take (blen (n + 1)) = bt (blen (n + 1)) (n + 1) := by
      rw [← el, ← List.drop_drop, List.drop_left, List.drop_append_of_le_length (by omega), own_tail, List.take_append_of_le_length (by rw [bt_len]; exact Nat.le_refl _), List.take_of_length_le (by rw [bt_len]; exact Nat.le_refl _)]
    rw [el] at l1000 fnd ⊢
    obtain ⟨m, em⟩ : ∃ m, (n + 1).log2 = m := ⟨_, rfl⟩
    rw [em] at fnd part lo bp
    refine ⟨_, rfl, rfl, _, rfl, SX.S l, SX.S [49], _, rfl, (by rw [← s_1]), ?_⟩
    rw [fnd]
    refine ⟨_, rfl, _, _, rfl, rfl, .inl ⟨by decide, by decide⟩, _, rfl, _, _, rfl, rfl, _, _, rfl, rfl, ?_⟩
    have eb : (2 * ((a.length + m : Nat) : Int) - ((a.length : Nat) : Int) + 1) = ((a.length + (2 * m + 1) : Nat) : Int) := by omega
    dsimp only
    rw [eb]
    refine ⟨_, rfl, _, _, rfl, rfl, _, rfl, if_n (decide_eq_false (by omega)) ?_⟩
    refine ⟨_, rfl, _, rfl, _, rfl, (by rw [SX.S_len]; exact z500 (by omega)), _, _, rfl, rfl, _, rfl, if_n (decide_eq_false (by rw [SX.S_len]; omega)) ?_⟩
    refine ⟨_, rfl, _, rfl, _, rfl, _, rfl, _, rfl, _, rfl, (by rw [SX.S_len]; exact z500 (by omega)), ?_⟩
    rw [cut_S l (by omega) (by omega), show a.length + (2 * m + 1) - (a.length + m) = blen (n + 1) by omega, part]
    refine ⟨bt (blen (n + 1)) (n + 1), rfl, (fun z => by have := bt_len (blen (n + 1)) (n + 1); rw [z] at this; rw [bp] at this; cases this), by rw [bt_len]; omega, bt_bin _ _, ?_⟩
    rw [own_num]
    refine ⟨_, _, rfl, rfl, _, rfl, (by show 2 ≤ sizeLine; decide), fun t nt => ?_⟩
    have e1 : ((((n + 1 : Nat) : Nat) : Int) - 1) = ((n : Nat) : Int) := by omega
    rw [lo] at q
    refine q t _ (same_new nt) ?_
    dsimp only
    rw [e1]
    exact SqT.of upd_same
end
end Tg

namespace Tg
open PySem PySem.Spec PyProof.Rows L2
open SX (S)
abbrev sOC : Stmt := topS 13
abbrev sSO : Stmt := topS 14
abbrev sRu : Stmt := topS 15
abbrev sWS : Stmt := topS 17
abbrev sWT : Stmt := topS 18
abbrev sWR : Stmt := topS 19
abbrev NOC : List Str := ["numbers", "number"]
abbrev NSO : List Str := ["numbers", "ahead", "number"]
abbrev NWR : List Str := ["numbers", "number", "length"]
theorem scOC : FnScope NOC ["numbers"] (defScope sOC) := ⟨rfl, rfl, rfl, by decide +kernel, rfl, by decide +kernel, by decide +kernel⟩
theorem scSO : FnScope NSO ["numbers"] (defScope sSO) := ⟨rfl, rfl, rfl, by decide +kernel, rfl, by decide +kernel, by decide +kernel⟩
theorem scRu : FnScope ["numbers", "runs", "number"] ["numbers"] (defScope sRu) := ⟨rfl, rfl, rfl, by decide +kernel, rfl, by decide +kernel, by decide +kernel⟩
theorem scWS : FnScope ["numbers"] ["numbers"] (defScope sWS) := ⟨rfl, rfl, rfl, by decide +kernel, rfl, by decide +kernel, by decide +kernel⟩
theorem scWT : FnScope ["numbers"] ["numbers"] (defScope sWT) := ⟨rfl, rfl, rfl, by decide +kernel, rfl, by decide +kernel, by decide +kernel⟩
theorem scWR : FnScope NWR ["numbers"] (defScope sWR) := ⟨rfl, rfl, rfl, by decide +kernel, rfl, by decide +kernel, by decide +kernel⟩
/-- numbers below 2 ^ b either way -/
def Lo (b : Nat) (xs : List Int) : Prop := ∀ x, x ∈ xs → x.natAbs < 2 ^ b
theorem Lo.mono {b c : Nat} {xs : List Int} (h : Lo b xs) (bc : b ≤ c) : Lo c xs := fun x hx => Nat.lt_of_lt_of_le (h x hx) (Nat.pow_le_pow_right (by decide) bc)
theorem lo_difs {b : Nat} : ∀ {xs : List Int}, Lo b xs → Lo (b + 1) (difs xs)
  | [], _ => fun x hx => nomatch hx
  | [_], _ => fun x hx => nomatch hx
  | a :: c :: r, h => fun x hx => by
    obtain rfl | hx := List.mem_cons.mp hx
    · have h1 := h a (.head _)
      have h2 := h c (.tail _ (.head _))
      rw [Nat.pow_succ]
      omega
    · exact lo_difs (fun y hy => h y (.tail _ hy)) x hx
theorem lo_stp {b : Nat} {xs : List Int} (h : Lo b xs) : Lo (b + 1) (stp xs) := fun x hx => by
  rcases List.mem_append.mp hx with t | d
  · exact (h.mono (Nat.le_succ b)) x (List.mem_of_mem_take t)
  · exact lo_difs h x d
theorem lo_trn {b : Nat} {xs : List Int} (h : Lo b xs) : Lo (b + 2) (trn xs) := fun x hx => by
  rcases List.mem_append.mp hx with t | d
  · exact (h.mono (Nat.le_add_right b 2)) x (List.mem_of_mem_take t)
  · exact lo_stp (lo_difs h) x d
theorem cd_len {x : Int} (h : x.natAbs < 2 ^ 80) : (cd x).length ≤ 165 := by
  unfold cd
  rw [own_len]
  have z := tN_lt h
  have := (Nat.log2_lt (n := tN x + 1) (k := 82) (by omega)).mpr (by omega)
  omega
theorem cds_len {xs : List Int} (h : Lo 80 xs) : (cds xs).length ≤ 165 * xs.length := by
  unfold cds
  induction xs with
  | nil => exact Nat.le_refl _
  | cons x r ih =>
    have h1 := cd_len (h x (.head _))
    have h2 := ih fun y hy => h y (.tail _ hy)
    rw [List.map_cons, List.flatten_cons, List.length_append, List.length_cons]
    omega
theorem tN_90 {x : Int} (h : x.natAbs < 2 ^ 80) : tN x < 2 ^ 90 := Nat.lt_trans (tN_lt h) (by decide)
theorem abs_89 {x : Int} (h : x.natAbs < 2 ^ 80) : x.natAbs < 2 ^ 89 := Nat.lt_trans h (by decide)
/-- a list of numbers as a def takes it -/
def NL (H : Hp) (l : Addr) (xs : List Int) : Prop := H l = some (.lst (xs.map V.int))
section
variable {P : Program} {w : World} {K : PySem.W.Frag} {mg : Str → Option Value} {base : Heap} {f : Addr} {fd : FuncData} {k : Nat}
/-- a def that tells a text of numbers -/
def spTxt (b n : Nat) (F : List Int → List Nat) : Sp := fun vs H Q _ => ∃ (l : Addr) (xs : List Int), vs = [.ref l] ∧ NL H l xs ∧ Lo b xs ∧ xs.length ≤ n ∧ ∀ H', Same H H' → Q (.str (S (F xs))) H'
theorem ok_oc (F : Fun K "own_codes" "own_codes" sOC f fd) (C_own : Cal P w K mg base k "own" ["number"] spOw) (C_turned : Cal P w K mg base k "turned" ["number"] spTu) : FnOk P w K mg base CX0 (k + 1) f fd ["numbers"] (spTxt 80 360 cds) := by
  refine F.ok scOC (fun vs H Q E h => ?_) (fun cdv A outer s H vs Q E hr h => ?_)
  · obtain ⟨l, xs, rfl, _⟩ := h
    rfl
  · obtain ⟨l, xs, rfl, hl, lo, few, q⟩ := h
    refine ⟨_, pss_one (ps_ret (pe_bm PySem.F.plainAttrs_str PySem.F.slot_str_join PySem.F.type_str_join mt_joinB pe_str (pa_cons (pe_lc (own := [("number", 1)]) (g := (gName 1)) (tt := tYes) rfl scOC.nd (pi_list (pv 0)) (blkOk_by (own := [("number", 1)]) (N := NOC) (sc := defScope sOC) (by decide +kernel)) (fun _ _ _ _ _ => (pg_name (i := 1) scOC.nd rfl (.inl rfl))) (fun _ _ _ _ _ => pts_nil) (fun _ _ _ _ _ => (pe_cal C_own (hr.mono (by omega)) (by rfl) (pa_cons (pe_cal C_turned (hr.mono (by omega)) (by rfl) (pa_cons (pv 1) pa_nil)) pa_nil)))) pa_nil))), ?_⟩
    refine ⟨rfl, _, rfl, l, rfl, ⟨_, SqL.of hl⟩, fun D nD => lc_mapL (xs := xs.map V.int) (xs.map fun x => V.str (S (cd x))) (by simp) nD (SqL.of hl) (by rw [List.length_map]; exact small1000 (by omega)) (fun i x y Hc Q' hx hy sm q' => ?_) fun H' sm hD => ?_⟩
    · rw [List.getElem?_map] at hx hy
      obtain ⟨z, ez, rfl⟩ := Option.map_eq_some_iff.mp hx
      rw [ez] at hy
      cases hy
      have b := lo z (List.mem_of_getElem? ez)
      exact ⟨rfl, _, rfl, z, rfl, abs_89 b, tN z, (by rw [← tn_nat]; rfl), tN_90 b, q' Hc (Same.refl _)⟩
    · exact ⟨D, xs.map cd, (by rw [← s_nil]), rfl, (by rw [List.map_map]; exact SqL.of hD), Nat.le_trans (cds_len lo) (by omega), q H' sm⟩
/-- a def that tells a new list of numbers -/
def spNew (b n : Nat) (F : List Int → List Int) : Sp := fun vs H Q _ => ∃ (l : Addr) (xs : List Int), vs = [.ref l] ∧ NL H l xs ∧ Lo b xs ∧ xs.length ≤ n ∧ ∀ m H', Same H H' → H m = none → NL H' m (F xs) → Q (.ref m) H'
theorem cut_1 (xs : List Int) : cutV (xs.map V.int) none (some 1) = (xs.take 1).map V.int := by
  unfold cutV
  rw [HT.sIx_none, show (1 : Int) = ((1 : Nat) : Int) from rfl, HT.sIx_nat, List.drop_zero, Nat.sub_zero, List.length_map, List.map_take]
  by_cases h : 1 ≤ xs.length
  · rw [Nat.min_eq_left h]
  · rw [Nat.min_eq_right (by omega), List.take_of_length_le (by rw [List.length_map]; exact Nat.le_refl _), List.take_of_length_le (by rw [List.length_map]; omega)]
theorem cut_2 (xs : List Int) : cutV (xs.map V.int) (some 1) none = (xs.drop 1).map V.int := by
  unfold cutV
  rw [HT.sIx_none, show (1 : Int) = ((1 : Nat) : Int) from rfl, HT.sIx_nat, List.length_map, List.map_drop]
  by_cases h : 1 ≤ xs.length
  · rw [Nat.min_eq_left h]
    exact List.take_of_length_le (by rw [List.length_drop, List.length_map]; exact Nat.le_refl _)
  · rw [Nat.min_eq_right (by omega), List.drop_of_length_le (by rw [List.length_map]; exact Nat.le_refl _), List.drop_of_length_le (by rw [List.length_map]; omega), List.take_nil]
theorem ok_so (F : Fun K "steps_of" "steps_of" sSO f fd) (m_zip : mg "zip" = none) : FnOk P w K mg base CX0 (k + 1) f fd ["numbers"] (spNew 80 360 stp) := by
  refine F.ok scSO (fun vs H Q E h => ?_) (fun cdv A outer s H vs Q E hr h => ?_)
  · obtain ⟨l, xs, rfl, _⟩ := h
    rfl
  · obtain ⟨l, xs, rfl, hl, lo, few, q⟩ := h
    refine ⟨_, pss_one (ps_ret (pe_op op_cat (pe_slice sl_list (pv 0) po_none (po_some pe_int)) (pe_lc (own := [("ahead", 1), ("number", 2)]) (g := (gTup K 2 (gCons (gName 1) (gCons (gName 2) gNil)))) (tt := tYes) rfl scSO.nd (pi_zip (by rfl) m_zip (pa_cons (pv 0) (pa_cons (pe_slice sl_list (pv 0) (po_some pe_int) po_none) pa_nil))) (blkOk_by (own := [("ahead", 1), ("number", 2)]) (N := NSO) (sc := defScope sSO) (by decide +kernel)) (fun _ _ _ _ _ => (pg_tup rfl (pgs_cons (pg_name (i := 1) scSO.nd rfl (.inl rfl)) (pgs_cons (pg_name (i := 2) scSO.nd rfl (.inl rfl)) pgs_nil)))) (fun _ _ _ _ _ => pts_nil) (fun _ _ _ _ _ => (pe_op op_sub (pv 2) (pv 1)))))), ?_⟩
    refine ⟨_, rfl, 1, rfl, l, _, rfl, SqL.of hl, fun l1 n1 => ?_⟩
    rw [cut_1]
    have s1 := same_new (o := .lst ((xs.take 1).map V.int)) n1
    obtain ⟨H1, e1⟩ : ∃ H1, upd H l1 (.lst ((xs.take 1).map V.int)) = H1 := ⟨_, rfl⟩
    have h1 : H1 l1 = some (.lst ((xs.take 1).map V.int)) := by rw [← e1]; exact upd_same
    rw [e1] at s1 ⊢
    refine ⟨_, rfl, _, rfl, 1, rfl, l, _, rfl, SqL.of (s1 _ _ hl), fun l2 n2 => ?_⟩
    rw [cut_2]
    have s2 := same_new (o := .lst ((xs.drop 1).map V.int)) n2
    obtain ⟨H2, e2⟩ : ∃ H2, upd H1 l2 (.lst ((xs.drop 1).map V.int)) = H2 := ⟨_, rfl⟩
    have h2 : H2 l2 = some (.lst ((xs.drop 1).map V.int)) := by rw [← e2]; exact upd_same
    rw [e2] at s2 ⊢
    refine ⟨l, l2, _, _, rfl, SqL.of (s2 _ _ (s1 _ _ hl)), SqL.of h2, fun D nD => lc_mapZ (xs := xs.map V.int) (zs := (xs.drop 1).map V.int) ((difs xs).map V.int) (difs xs).length ?_ (by simp) nD (SqL.of (s2 _ _ (s1 _ _ hl))) (SqL.of h2) ?_ (fun i x z y T Hc Q' hx hz hy sm hT q' => ?_) fun H' sm hD => ?_⟩
    · rw [difs_len, List.length_map, List.length_map, List.length_drop]
      omega
    · rw [difs_len]
      exact small1000 (by omega)
    · rw [List.getElem?_map] at hx hz hy
      obtain ⟨a, ea, rfl⟩ := Option.map_eq_some_iff.mp hx
      obtain ⟨b, eb, rfl⟩ := Option.map_eq_some_iff.mp hz
      rw [List.getElem?_drop, Nat.add_comm] at eb
      rw [difs_at xs i a b ea eb] at hy
      cases hy
      exact ⟨T, _, rfl, SqT.of hT, rfl, _, _, rfl, _, _, rfl, rfl, rfl, _, rfl, _, rfl, b, a, rfl, rfl, q' Hc (Same.refl _)⟩
    · have h1' := sm _ _ (s2 _ _ h1)
      refine ⟨l1, D, _, _, rfl, rfl, h1', hD, ?_, fun l3 n3 => ?_⟩
      · rw [List.length_map, List.length_map, List.length_take, difs_len]
        exact Nat.le_of_lt (small1000 (by omega))
      · have sA := (s1.trans s2).trans (sm.trans (same_new (o := .lst ((xs.take 1).map V.int ++ (difs xs).map V.int)) n3))
        refine q l3 _ sA ((s1.trans (s2.trans sm)).free n3) ?_
        show _ = some (HO.lst ((xs.take 1 ++ difs xs).map V.int))
        rw [upd_same, List.map_append]
/-- a writer -/
def spWr (G : List Int → List Nat) : Sp := fun vs H Q _ => ∃ (l : Addr) (xs : List Int), vs = [.ref l] ∧ NL H l xs ∧ Lo 70 xs ∧ xs.length ≤ 300 ∧ 0 < xs.length ∧ ∀ H', Same H H' → Q (.str (S (G xs))) H'
theorem ok_ws (F : Fun K "write_steps" "write_steps" sWS f fd) (C_own_codes : Cal P w K mg base k "own_codes" ["numbers"] (spTxt 80 360 cds)) (C_steps_of : Cal P w K mg base k "steps_of" ["numbers"] (spNew 80 360 stp)) : FnOk P w K mg base CX0 (k + 1) f fd ["numbers"] (spWr (enc .steps)) := by
  refine F.ok scWS (fun vs H Q E h => ?_) (fun cdv A outer s H vs Q E hr h => ?_)
  · obtain ⟨l, xs, rfl, _⟩ := h
    rfl
  · obtain ⟨l, xs, rfl, hl, lo, few, _, q⟩ := h
    refine ⟨_, pss_one (ps_ret (pe_cal C_own_codes (hr.mono (by omega)) (by rfl) (pa_cons (pe_cal C_steps_of (hr.mono (by omega)) (by rfl) (pa_cons (pv 0) pa_nil)) pa_nil))), ?_⟩
    exact ⟨_, rfl, l, xs, rfl, hl, lo.mono (by decide), by omega, fun m H1 s1 _ h1 => ⟨m, stp xs, rfl, h1, (lo_stp lo).mono (by decide), by rw [stp_len]; omega, fun H2 s2 => q H2 (s1.trans s2)⟩⟩
theorem ok_wt (F : Fun K "write_turns" "write_turns" sWT f fd) (C_own_codes : Cal P w K mg base k "own_codes" ["numbers"] (spTxt 80 360 cds)) (C_steps_of : Cal P w K mg base k "steps_of" ["numbers"] (spNew 80 360 stp)) : FnOk P w K mg base CX0 (k + 1) f fd ["numbers"] (spWr (enc .turns)) := by
  refine F.ok scWT (fun vs H Q E h => ?_) (fun cdv A outer s H vs Q E hr h => ?_)
  · obtain ⟨l, xs, rfl, _⟩ := h
    rfl
  · obtain ⟨l, xs, rfl, hl, lo, few, _, q⟩ := h
    refine ⟨_, pss_one (ps_ret (pe_cal C_own_codes (hr.mono (by omega)) (by rfl) (pa_cons (pe_op op_cat (pe_slice sl_list (pv 0) po_none (po_some pe_int)) (pe_cal C_steps_of (hr.mono (by omega)) (by rfl) (pa_cons (pe_slice sl_list (pe_cal C_steps_of (hr.mono (by omega)) (by rfl) (pa_cons (pv 0) pa_nil)) (po_some pe_int) po_none) pa_nil))) pa_nil))), ?_⟩
    refine ⟨_, rfl, 1, rfl, l, _, rfl, SqL.of hl, fun l1 n1 => ?_⟩
    rw [cut_1]
    have s1 := same_new (o := .lst ((xs.take 1).map V.int)) n1
    obtain ⟨H1, e1⟩ : ∃ H1, upd H l1 (.lst ((xs.take 1).map V.int)) = H1 := ⟨_, rfl⟩
    have h1 : H1 l1 = some (.lst ((xs.take 1).map V.int)) := by rw [← e1]; exact upd_same
    rw [e1] at s1 ⊢
    refine ⟨_, rfl, l, xs, rfl, s1 _ _ hl, lo.mono (by decide), by omega, fun m H2 s2 _ h2 => ⟨1, rfl, m, _, rfl, SqL.of h2, fun l3 n3 => ?_⟩⟩
    rw [cut_2]
    have ed : (stp xs).drop 1 = difs xs := by
      unfold stp
      cases xs with
      | nil => rfl
      | cons a r => rfl
    rw [ed]
    have s3 := same_new (o := .lst ((difs xs).map V.int)) n3
    refine ⟨l3, difs xs, rfl, upd_same, (lo_difs lo).mono (by decide), by rw [difs_len]; omega, fun m2 H4 s4 _ h4 => ⟨l1, m2, _, _, rfl, rfl, s4 _ _ (s3 _ _ (s2 _ _ h1)), h4, ?_, fun l5 n5 => ?_⟩⟩
    · rw [List.length_map, List.length_map, List.length_take, stp_len, difs_len]
      exact Nat.le_of_lt (small1000 (by omega))
    · have s5 := same_new (o := .lst ((xs.take 1).map V.int ++ (stp (difs xs)).map V.int)) n5
      refine ⟨l5, trn xs, rfl, ?_, (lo_trn lo).mono (by decide), by rw [trn_len]; omega, fun H6 s6 => q H6 (s1.trans (s2.trans (s3.trans (s4.trans (s5.trans s6)))))⟩
      show _ = some (HO.lst ((xs.take 1 ++ stp (difs xs)).map V.int))
      rw [upd_same, List.map_append]
/-! ### runs -/
/-- tuples of two numbers -/
def RunT (H : Hp) (ts : List Addr) (rs : List Run) : Prop := ts.length = rs.length ∧ ∀ (i : Nat) (t : Addr) (r : Run), ts[i]? = some t → rs[i]? = some r → H t = some (.tup [.int r.1, .int (r.2 : Nat)])
theorem RunT.kt {H H' : Hp} {ts : List Addr} {rs : List Run} (h : RunT H ts rs) (k : KT H H') : RunT H' ts rs := ⟨h.1, fun i t r e1 e2 => k _ _ trivial (h.2 i t r e1 e2)⟩
theorem RunT.snoc {H : Hp} {ts : List Addr} {rs : List Run} {t : Addr} {r : Run} (h : RunT H ts rs) (ht : H t = some (.tup [.int r.1, .int (r.2 : Nat)])) : RunT H (ts ++ [t]) (rs ++ [r]) := by
  refine ⟨by rw [List.length_append, List.length_append, h.1]; rfl, fun i u q e1 e2 => ?_⟩
  rcases Nat.lt_or_ge i ts.length with g | g
  · rw [List.getElem?_append_left g] at e1
    rw [List.getElem?_append_left (by rw [← h.1]; exact g)] at e2
    exact h.2 i u q e1 e2
  · have e : i = ts.length := by
      have := (List.getElem?_eq_some_iff.mp e1).1
      rw [List.length_append] at this
      have z : [t].length = 1 := rfl
      omega
    subst e
    rw [List.getElem?_append_right (Nat.le_refl _), Nat.sub_self] at e1
    rw [h.1, List.getElem?_append_right (Nat.le_refl _), Nat.sub_self] at e2
    cases e1
    cases e2
    exact ht
theorem RunT.init {H : Hp} {ts : List Addr} {rs : List Run} (h : RunT H ts rs) : RunT H ts.dropLast rs.dropLast := by
  refine ⟨by rw [List.length_dropLast, List.length_dropLast, h.1], fun i t r e1 e2 => ?_⟩
  rw [List.getElem?_dropLast] at e1 e2
  split at e1
  · split at e2
    · exact h.2 i t r e1 e2
    · cases e2
  · cases e1
def spRu : Sp := fun vs H Q _ => ∃ (l : Addr) (xs : List Int), vs = [.ref l] ∧ NL H l xs ∧ xs.length ≤ 300 ∧ ∀ (m : Addr) (ts : List Addr) (H' : Hp), Same H H' → H' m = some (.lst (ts.map V.ref)) → RunT H' ts (rn xs) → Q (.ref m) H'
theorem rnA_len (rs : List Run) (x : Int) : (rnA rs x).length ≤ rs.length + 1 := by
  unfold rnA
  split
  · split
    · rw [List.length_append, List.length_dropLast]
      show _ - 1 + 1 ≤ _
      omega
    · rw [List.length_append]
      exact Nat.le_refl _
  · exact Nat.le_add_left _ _
theorem rn_take {xs : List Int} {i : Nat} {x : Int} (h : xs[i]? = some x) : rn (xs.take (i + 1)) = rnA (rn (xs.take i)) x := by
  rw [List.take_add_one, h]
  exact rn_snoc _ _
theorem rn_len (xs : List Int) : (rn xs).length ≤ xs.length := by
  have go : ∀ (ys : List Int) (rs : List Run), (ys.foldl rnA rs).length ≤ rs.length + ys.length := by
    intro ys
    induction ys with
    | nil => exact fun rs => Nat.le_refl _
    | cons y ys ih =>
      intro rs
      have h1 := ih (rnA rs y)
      have h2 := rnA_len rs y
      rw [List.length_cons, List.foldl_cons]
      omega
  have z := go xs []
  rw [List.length_nil, Nat.zero_add] at z
  exact z
theorem rnA_nil (x : Int) : rnA [] x = [(x, 1)] := rfl
theorem rnA_same (rs : List Run) (x : Int) (n : Nat) : rnA (rs ++ [(x, n)]) x = rs ++ [(x, n + 1)] := by
  unfold rnA
  rw [List.getLast?_concat]
  dsimp only
  rw [if_pos rfl, List.dropLast_concat]
theorem rnA_other (rs : List Run) (x y : Int) (n : Nat) (h : y ≠ x) : rnA (rs ++ [(y, n)]) x = rs ++ [(y, n)] ++ [(x, 1)] := by
  unfold rnA
  rw [List.getLast?_concat]
  dsimp only
  rw [if_neg h]
/-- the list m of tuples changed -/
theorem runs_put {H H' : Hp} {m t : Addr} {xs ys : List V} {a : Int} {n : Nat} (hm : H m = some (.lst xs)) (nt : H t = none) (e : H' = upd (upd H t (.tup [.int a, .int (n : Nat)])) m (.lst ys)) : H' m = some (.lst ys) ∧ H' t = some (.tup [.int a, .int (n : Nat)]) ∧ KT H H' ∧ ∀ b o, b ≠ m → H b = some o → H' b = some o := by
  subst e
  have tm : t ≠ m := fun z => by
    rw [z, hm] at nt
    cases nt
  have s1 := same_new (o := .tup [.int a, .int (n : Nat)]) nt
  refine ⟨upd_same, by rw [upd_ne tm, upd_same], (KT.of s1).trans (KT.put (s1 _ _ hm) nfix_lst), fun b o nb hb => ?_⟩
  rw [upd_ne nb]
  exact s1 _ _ hb
theorem ok_ru (F : Fun K "runs_of" "runs_of" sRu f fd) : FnOk P w K mg base CX0 (k + 1) f fd ["numbers"] spRu := by
  refine F.ok scRu (fun vs H Q E h => ?_) (fun cdv A outer s H vs Q E hr h => ?_)
  · obtain ⟨l, xs, rfl, _⟩ := h
    rfl
  · obtain ⟨l, xs, rfl, hl, few, q⟩ := h
    refine ⟨_, pss_cons (ps_set (i := 1) scRu.nd rfl (.inl rfl) (pe_lst pa_nil))
      (pss_cons (ps_for PassesOwn.never rfl (pi_list (pv 0)) (pg_name (i := 2) scRu.nd rfl (.inl rfl))
        (pss_one (ps_if (PW.pt (pw_and (pt_truth (pv 1) (fun _ => rfl)) (pw_and1 (pt_cmpR op_eq (pe_ix ix_tup (pe_ix ix_list (pv 1) (pe_un un_neg pe_int) (fun _ _ => rfl)) pe_int (fun _ _ => rfl)) (pv 2) (nomark _)))))
          (pss_one (ps_asg (pe_tup (pa_cons (pv 2) (pa_cons (pe_op op_add (pe_ix ix_tup (pe_ix ix_list (pv 1) (pe_un un_neg pe_int) (fun _ _ => rfl)) pe_int (fun _ _ => rfl)) pe_int) pa_nil))) (pg_sub (pv 1) (pe_un un_neg pe_int) set_list)))
          (pss_one (ps_expr (pe_bm PySem.F.plainAttrs_list PySem.F.slot_list_append PySem.F.type_list_append mt_append (pv 1) (pa_cons (pe_tup (pa_cons (pv 2) (pa_cons pe_int pa_nil))) pa_nil)))))))
      (pss_one (ps_ret (pv 1)))), ?_⟩
    refine ⟨Nat.zero_le _, fun m nm => ?_⟩
    have s1 := same_new (o := .lst []) nm
    refine ⟨_, rfl, l, rfl, ⟨_, SqL.of (s1 _ _ hl)⟩, for_list (xs := xs.map V.int) (fun i σ Hc => ∃ (z : Option V) (ts : List Addr), σ = [some (.ref l), some (.ref m), z] ∧ Same H Hc ∧ Hc m = some (.lst (ts.map V.ref)) ∧ RunT Hc ts (rn (xs.take i))) ?_ ?_ ?_ ?_⟩
    · exact ⟨none, [], rfl, s1, upd_same, rfl, fun i t r e => by simp at e⟩
    · rintro i σ Hc _ ⟨z, ts, rfl, sm, _⟩
      exact SqL.of (sm _ _ hl)
    · rintro i y σ Hc hy ⟨z, ts, rfl, sm, hm, rt⟩
      rw [List.getElem?_map] at hy
      obtain ⟨x, ex, rfl⟩ := Option.map_eq_some_iff.mp hy
      have lt := (List.getElem?_eq_some_iff.mp ex).1
      have ln : ts.length ≤ 300 := by
        have h1 := rn_len (xs.take i)
        rw [← rt.1, List.length_take] at h1
        omega
      have en := rn_take ex
      rcases List.eq_nil_or_concat ts with rfl | ⟨ti, tl, rfl⟩
      · have e0 : rn (xs.take i) = [] := List.length_eq_zero_iff.mp rt.1.symm
        rw [e0, rnA_nil] at en
        refine ⟨_, rfl, false, .inl ⟨_, SqL.of hm, rfl⟩, if_f (if_f ?_)⟩
        refine ⟨_, rfl, .inl ⟨rfl, _, SqL.of hm⟩, _, rfl, by show 2 ≤ sizeLine; decide, fun t nt => ?_⟩
        have s3 := same_new (o := .tup [.int x, .int ((1 : Nat) : Int)]) nt
        refine ⟨m, _, _, rfl, rfl, s3 _ _ hm, small1000 (by show 0 ≤ 1000; decide), ?_⟩
        obtain ⟨p1, p2, p3, p4⟩ := runs_put (n := 1) (ys := [.ref t]) hm nt rfl
        refine ⟨_, [t], rfl, fun b o hb => p4 b o (ne_of_none hb nm) (sm _ _ hb), p1, ?_⟩
        rw [en]
        exact ⟨rfl, fun j u r e1 e2 => by
          match j, e1, e2 with
          | 0, e1, e2 =>
            cases e1
            cases e2
            exact p2⟩
      · rw [List.concat_eq_append] at hm rt ln
        obtain ⟨ri, rl, er⟩ : ∃ ri rl, rn (xs.take i) = ri ++ [rl] := by
          rcases List.eq_nil_or_concat (rn (xs.take i)) with z | ⟨ri, rl, z⟩
          · have l := rt.1
            rw [z, List.length_append] at l
            cases l
          · exact ⟨ri, rl, by rw [z, List.concat_eq_append]⟩
        obtain ⟨y, n⟩ := rl
        rw [er] at rt en
        have lti : ti.length = ri.length := by
          have l := rt.1
          rw [List.length_append, List.length_append] at l
          exact Nat.succ.inj l
        have htl : Hc tl = some (.tup [.int y, .int (n : Nat)]) := rt.2 ti.length tl (y, n) (by rw [List.getElem?_append_right (Nat.le_refl _), Nat.sub_self]; rfl) (by rw [lti, List.getElem?_append_right (Nat.le_refl _), Nat.sub_self]; rfl)
        have rti : RunT Hc ti ri := by
          have z := rt.init
          rw [List.dropLast_concat, List.dropLast_concat] at z
          exact z
        rw [List.map_append] at hm
        have tru : (!(ti.map V.ref ++ [tl].map V.ref).isEmpty) = true := by
          cases ti <;> rfl
        refine ⟨_, rfl, true, .inl ⟨_, SqL.of hm, tru.symm⟩, if_t ?_⟩
        refine ⟨_, rfl, 1, rfl, m, _, -1, .ref tl, rfl, rfl, SqL.of hm, atI_last _ _, tl, _, 0, .int y, rfl, rfl, SqT.of htl, rfl, ?_⟩
        refine ⟨_, rfl, rfl, _, rfl, ite2 (fun g => ?_) (fun g => ?_)⟩
        · obtain rfl : y = x := by
            rw [dec_int] at g
            exact of_decide_eq_true g
          rw [rnA_same] at en
          refine ⟨_, rfl, _, rfl, 1, rfl, m, _, -1, .ref tl, rfl, rfl, SqL.of hm, atI_last _ _, tl, _, 1, .int (n : Nat), rfl, rfl, SqT.of htl, rfl, (n : Int), 1, rfl, rfl, by show 2 ≤ sizeLine; decide, fun t nt => ?_⟩
          have s3 := same_new (o := .tup [.int y, .int (((n + 1 : Nat)) : Int)]) nt
          have eset : (ti.map V.ref ++ [tl].map V.ref).set ti.length (.ref t) = (ti ++ [t]).map V.ref := by
            rw [List.set_append_right _ _ (by rw [List.length_map]; exact Nat.le_refl _), List.length_map, Nat.sub_self, List.map_append]
            rfl
          refine ⟨_, rfl, 1, rfl, m, _, -1, ti.length, rfl, rfl, s3 _ _ hm, ?_, ?_⟩
          · unfold ixN
            rw [List.length_append, List.length_map, List.length_map]
            simp only [List.length_nil, List.length_cons]
            rw [if_neg (by decide), if_pos (by omega)]
            congr 1
            omega
          · rw [eset]
            obtain ⟨p1, p2, p3, p4⟩ := runs_put (n := n + 1) (ys := (ti ++ [t]).map V.ref) hm nt rfl
            refine ⟨_, ti ++ [t], rfl, fun b o hb => p4 b o (ne_of_none hb nm) (sm _ _ hb), p1, ?_⟩
            rw [en]
            exact (rti.kt p3).snoc p2
        · have yx : y ≠ x := fun z => g (by
            rw [dec_int]
            exact decide_eq_true z)
          rw [rnA_other _ _ _ _ yx] at en
          refine ⟨_, rfl, .inl ⟨rfl, _, SqL.of hm⟩, _, rfl, by show 2 ≤ sizeLine; decide, fun t nt => ?_⟩
          have s3 := same_new (o := .tup [.int x, .int ((1 : Nat) : Int)]) nt
          refine ⟨m, _, _, rfl, rfl, s3 _ _ hm, small1000 (by rw [← List.map_append, List.length_map]; omega), ?_⟩
          have eapp : ti.map V.ref ++ [tl].map V.ref ++ [V.ref t] = (ti ++ [tl] ++ [t]).map V.ref := by
            rw [List.map_append, List.map_append]
            rfl
          rw [eapp]
          obtain ⟨p1, p2, p3, p4⟩ := runs_put (n := 1) (ys := (ti ++ [tl] ++ [t]).map V.ref) hm nt rfl
          refine ⟨_, ti ++ [tl] ++ [t], rfl, fun b o hb => p4 b o (ne_of_none hb nm) (sm _ _ hb), p1, ?_⟩
          rw [en]
          exact (rt.kt p3).snoc p2
    · rintro σ Hc ⟨z, ts, rfl, sm, hm, rt⟩
      rw [List.length_map, List.take_length] at rt
      exact ⟨_, rfl, q m ts Hc sm hm rt⟩
end
end Tg

namespace Tg
open PySem PySem.Spec PyProof.Rows L2
open SX (S)
abbrev sWP : Stmt := topS 16
abbrev sWB : Stmt := topS 20
abbrev NWP : List Str := ["numbers", "least", "width", "codes", "number"]
abbrev NWB : List Str := ["numbers", "book", "place_by_number", "place", "number", "width", "gaps", "ahead", "codes"]
theorem scWP : FnScope NWP ["numbers"] (defScope sWP) := ⟨rfl, rfl, rfl, by decide +kernel, rfl, by decide +kernel, by decide +kernel⟩
theorem scWB : FnScope NWB ["numbers"] (defScope sWB) := ⟨rfl, rfl, rfl, by decide +kernel, rfl, by decide +kernel, by decide +kernel⟩
theorem own_short {n w : Nat} (h : n + 1 < 2 ^ w) : (ownL n).length ≤ 2 * w := by
  rw [own_len]
  have := (Nat.log2_lt (n := n + 1) (k := w) (by omega)).mpr h
  omega
theorem rcd_len {r : Run} (h1 : r.1.natAbs < 2 ^ 80) (h2 : r.2 ≤ 300) : (rcd r).length ≤ 190 := by
  unfold rcd
  rw [List.length_append]
  have a := cd_len h1
  have b := own_short (n := r.2 - 1) (w := 9) (by omega)
  omega
theorem flat_le {n : Nat} : ∀ {ls : List (List Nat)}, (∀ l, l ∈ ls → l.length ≤ n) → ls.flatten.length ≤ n * ls.length
  | [], _ => Nat.le_refl _
  | l :: r, h => by
    have h1 := h l (.head _)
    have h2 := flat_le fun y hy => h y (.tail _ hy)
    rw [List.flatten_cons, List.length_append, List.length_cons, Nat.mul_succ]
    omega
/-- what runs are made of -/
theorem run_in {xs : List Int} {r : Run} (h : r ∈ rn xs) : r.1 ∈ xs ∧ 1 ≤ r.2 ∧ r.2 ≤ xs.length := by
  obtain ⟨u, pos⟩ := rn_all xs
  have p := pos r h
  obtain ⟨a, b, e⟩ := List.append_of_mem h
  rw [e, show a ++ r :: b = a ++ [r] ++ b by simp, unr_app, unr_app, unr_one] at u
  refine ⟨?_, p, ?_⟩
  · rw [← u]
    exact List.mem_append_left _ (List.mem_append_right _ (List.mem_replicate.mpr ⟨by omega, rfl⟩))
  · rw [← u, List.length_append, List.length_append, List.length_replicate]
    omega
section
variable {P : Program} {w : World} {K : PySem.W.Frag} {mg : Str → Option Value} {base : Heap} {f : Addr} {fd : FuncData} {k : Nat}
theorem ok_wr (F : Fun K "write_runs" "write_runs" sWR f fd) (C_runs_of : Cal P w K mg base k "runs_of" ["numbers"] spRu) (C_own : Cal P w K mg base k "own" ["number"] spOw) (C_turned : Cal P w K mg base k "turned" ["number"] spTu) : FnOk P w K mg base CX0 (k + 1) f fd ["numbers"] (spWr (enc .runs)) := by
  refine F.ok scWR (fun vs H Q E h => ?_) (fun cdv A outer s H vs Q E hr h => ?_)
  · obtain ⟨l, xs, rfl, _⟩ := h
    rfl
  · obtain ⟨l, xs, rfl, hl, lo, few, _, q⟩ := h
    refine ⟨_, pss_one (ps_ret (pe_bm PySem.F.plainAttrs_str PySem.F.slot_str_join PySem.F.type_str_join mt_joinB pe_str (pa_cons (pe_lc (own := [("number", 1), ("length", 2)]) (g := (gTup K 2 (gCons (gName 1) (gCons (gName 2) gNil)))) (tt := tYes) rfl scWR.nd (pi_list (pe_cal C_runs_of (hr.mono (by omega)) (by rfl) (pa_cons (pv 0) pa_nil))) (blkOk_by (own := [("number", 1), ("length", 2)]) (N := NWR) (sc := defScope sWR) (by decide +kernel)) (fun _ _ _ _ _ => (pg_tup rfl (pgs_cons (pg_name (i := 1) scWR.nd rfl (.inl rfl)) (pgs_cons (pg_name (i := 2) scWR.nd rfl (.inl rfl)) pgs_nil)))) (fun _ _ _ _ _ => pts_nil) (fun _ _ _ _ _ => (pe_op op_addB (pe_cal C_own (hr.mono (by omega)) (by rfl) (pa_cons (pe_cal C_turned (hr.mono (by omega)) (by rfl) (pa_cons (pv 1) pa_nil)) pa_nil)) (pe_cal C_own (hr.mono (by omega)) (by rfl) (pa_cons (pe_op op_sub (pv 2) pe_int) pa_nil))))) pa_nil))), ?_⟩
    refine ⟨rfl, _, rfl, l, xs, rfl, hl, few, fun m ts H1 s1 hm rt => ⟨m, rfl, ⟨_, SqL.of hm⟩, fun D nD => lc_mapL (xs := ts.map V.ref) ((rn xs).map fun r => V.str (S (rcd r))) (by rw [List.length_map, List.length_map, rt.1]) nD (SqL.of hm) ?_ (fun i x y Hc Q' hx hy sm q' => ?_) fun H' sm hD => ?_⟩⟩
    · rw [List.length_map, rt.1]
      exact small1000 (Nat.le_trans (rn_len xs) (by omega))
    · rw [List.getElem?_map] at hx hy
      obtain ⟨t, et, rfl⟩ := Option.map_eq_some_iff.mp hx
      obtain ⟨r, er, rfl⟩ := Option.map_eq_some_iff.mp hy
      obtain ⟨r1, r2, r3⟩ := run_in (List.mem_of_getElem? er)
      have b : r.1.natAbs < 2 ^ 80 := Nat.lt_of_lt_of_le (lo r.1 r1) (by decide)
      refine ⟨t, _, rfl, SqT.of (sm _ _ (rt.2 i t r et er)), rfl, _, _, rfl, _, _, rfl, rfl, rfl, ?_⟩
      refine ⟨_, rfl, r.1, rfl, abs_89 b, tN r.1, (by rw [← tn_nat]; rfl), tN_90 b, ?_⟩
      refine ⟨_, rfl, _, _, rfl, rfl, r.2 - 1, ?_, ?_, _, _, rfl, rfl, rcd_len b (by omega) |> fun z => ?_, ?_⟩
      · show [V.int ((r.2 : Nat) - 1)] = _
        congr 2
        omega
      · exact Nat.lt_of_le_of_lt (show r.2 - 1 ≤ 300 by omega) (by decide)
      · unfold rcd cd at z
        rw [List.length_append] at z
        omega
      · exact q' Hc (Same.refl _)
    · refine ⟨D, (rn xs).map rcd, (by rw [← s_nil]), rfl, (by rw [List.map_map]; exact SqL.of hD), ?_, q H' (s1.trans sm)⟩
      refine Nat.le_trans (flat_le (n := 190) fun y hy => ?_) ?_
      · obtain ⟨r, hr, rfl⟩ := List.mem_map.mp hy
        obtain ⟨r1, r2, r3⟩ := run_in hr
        exact rcd_len (Nat.lt_of_lt_of_le (lo r.1 r1) (by decide)) (by omega)
      · rw [List.length_map]
        have := rn_len xs
        omega
theorem bits_nat {n : Int} (h : 0 ≤ n) : Builtin.Int.intBits n = blen n.toNat := by
  unfold Builtin.Int.intBits blen
  by_cases c : n = 0
  · subst c
    rfl
  · rw [if_neg (by rw [beq_iff_eq]; exact c), if_neg (by omega), show n.natAbs = n.toNat by omega]
theorem wdP_le {xs : List Int} (lo : Lo 70 xs) (ne : xs ≠ []) : wdP xs ≤ 71 := by
  unfold wdP
  have h1 := lo _ (mnI_is ne).1
  have h2 := lo _ (mxI_is ne).1
  refine blen_le ?_
  rw [show (2 : Nat) ^ 71 = 2 ^ 70 * 2 from rfl]
  omega
theorem ok_wp (F : Fun K "write_plain" "write_plain" sWP f fd) (C_plain : Cal P w K mg base k "plain" ["number", "width"] spPl) (C_own : Cal P w K mg base k "own" ["number"] spOw) (C_turned : Cal P w K mg base k "turned" ["number"] spTu) (m_min : mg "min" = none) (m_max : mg "max" = none) : FnOk P w K mg base CX0 (k + 1) f fd ["numbers"] (spWr encP) := by
  refine F.ok scWP (fun vs H Q E h => ?_) (fun cdv A outer s H vs Q E hr h => ?_)
  · obtain ⟨l, xs, rfl, _⟩ := h
    rfl
  · obtain ⟨l, xs, rfl, hl, lo, few, pos, q⟩ := h
    have ne : xs ≠ [] := List.length_pos_iff.mp pos
    have w71 := wdP_le lo ne
    obtain ⟨n1, n2⟩ := mnI_is ne
    obtain ⟨x1, x2⟩ := mxI_is ne
    refine ⟨_, pss_cons (ps_set (i := 1) scWP.nd rfl (.inr rfl) (pe_callB (cr_min rfl) (by rfl) m_min (by decide +kernel) (pa_cons (pv 0) pa_nil)))
      (pss_cons (ps_set (i := 2) scWP.nd rfl (.inr rfl) (pe_bits (pe_op op_sub (pe_callB (cr_max rfl) (by rfl) m_max (by decide +kernel) (pa_cons (pv 0) pa_nil)) (pv 1))))
      (pss_cons (ps_setLc (i := 3) (own := [("number", 4)]) (g := (gName 4)) (tt := tYes) rfl scWP.nd rfl rfl (sw_true rfl rfl rfl (by decide +kernel)) (pi_list (pv 0)) (blkOk_by (own := [("number", 4)]) (N := NWP) (sc := defScope sWP) (by decide +kernel)) (fun _ _ _ _ _ => (pg_name (i := 4) scWP.nd rfl (.inl rfl))) (fun _ _ _ _ _ => pts_nil) (fun _ _ _ _ _ => (pe_cal C_plain (hr.mono (by omega)) (by rfl) (pa_cons (pe_op op_sub (pv 4) (pv 1)) (pa_cons (pv 2) pa_nil)))))
      (pss_one (ps_ret (pe_op op_addB (pe_op op_addB (pe_cal C_own (hr.mono (by omega)) (by rfl) (pa_cons (pe_cal C_turned (hr.mono (by omega)) (by rfl) (pa_cons (pv 1) pa_nil)) pa_nil)) (pe_cal C_own (hr.mono (by omega)) (by rfl) (pa_cons (pv 2) pa_nil))) (pe_bm PySem.F.plainAttrs_str PySem.F.slot_str_join PySem.F.type_str_join mt_joinB pe_str (pa_cons (pv 3) pa_nil))))))), ?_⟩
    refine ⟨_, rfl, l, xs, rfl, SqL.of hl, pos, fun m hm hmin => ?_⟩
    obtain rfl := mn_of hm hmin
    refine ⟨_, rfl, l, xs, rfl, SqL.of hl, pos, fun m hm hmax => ?_⟩
    obtain rfl := mx_of hm hmax
    refine ⟨_, rfl, _, _, rfl, rfl, _, rfl, ?_⟩
    rw [bits_nat (by have := n2 _ x1; omega)]
    refine ⟨_, rfl, l, rfl, ⟨_, SqL.of hl⟩, fun D nD => lc_mapL (xs := xs.map V.int) (xs.map fun x => V.str (S (bt (wdP xs) (x - mnI xs).toNat))) (by simp) nD (SqL.of hl) (by rw [List.length_map]; exact small1000 (by omega)) (fun i x y Hc Q' hx hy sm q' => ?_) fun H' sm hD => ?_⟩
    · rw [List.getElem?_map] at hx hy
      obtain ⟨z, ez, rfl⟩ := Option.map_eq_some_iff.mp hx
      rw [ez] at hy
      cases hy
      have z1 := n2 z (List.mem_of_getElem? ez)
      have z2 := x2 z (List.mem_of_getElem? ez)
      refine ⟨rfl, _, rfl, _, rfl, _, _, rfl, rfl, _, rfl, (z - mnI xs).toNat, wdP xs, ?_, blen_mono (by omega), by omega, q' Hc (Same.refl _)⟩
      show [V.int (z - mnI xs), V.int (blen (mxI xs - mnI xs).toNat : Nat)] = _
      rw [Int.toNat_of_nonneg (by omega)]
      rfl
    · have b : (mnI xs).natAbs < 2 ^ 80 := Nat.lt_of_lt_of_le (lo _ n1) (by decide)
      have c1 := cd_len b
      have c2 := own_short (n := wdP xs) (w := 7) (by omega)
      refine ⟨_, rfl, mnI xs, rfl, abs_89 b, tN (mnI xs), (by rw [← tn_nat]; rfl), tN_90 b, ?_⟩
      refine ⟨_, rfl, wdP xs, rfl, Nat.lt_of_le_of_lt w71 (by decide), _, _, rfl, rfl, (by unfold cd at c1; omega), ?_⟩
      refine ⟨rfl, _, rfl, D, plC xs, (by rw [← s_nil]), rfl, (by unfold plC; rw [List.map_map]; exact SqL.of hD), ?_, _, _, rfl, rfl, ?_, q H' sm⟩
      all_goals
        have fl : (plC xs).flatten.length = (plC xs).length * wdP xs := flat_same fun y hy => by
          obtain ⟨z, hz, rfl⟩ := List.mem_map.mp hy
          exact bt_len _ _
        have e : (plC xs).length = xs.length := List.length_map ..
        have m1 : xs.length * wdP xs ≤ 300 * 71 := Nat.mul_le_mul few w71
        rw [e] at fl
      · omega
      · rw [List.length_append]
        unfold cd at c1
        omega
end
end Tg

namespace Tg
open PySem PySem.Spec PyProof.Rows L2
open SX (S)
abbrev sBB : Stmt := topS 22
abbrev sSB : Stmt := topS 23
theorem scBB : FnScope ["numbers", "way", "told", "writer"] ["numbers", "way"] (defScope sBB) := ⟨rfl, rfl, rfl, by decide +kernel, rfl, by decide +kernel, by decide +kernel⟩
theorem scSB : FnScope ["numbers", "way"] ["numbers", "way"] (defScope sSB) := ⟨rfl, rfl, rfl, by decide +kernel, rfl, by decide +kernel, by decide +kernel⟩
theorem up_gap {b : List Int} (h : b.Pairwise (· < ·)) : ∀ d, d ∈ difs b → 1 ≤ d := by
  induction b with
  | nil => exact fun d hd => nomatch hd
  | cons x r ih =>
    cases r with
    | nil => exact fun d hd => nomatch hd
    | cons y s =>
      intro d hd
      have p := List.pairwise_cons.mp h
      obtain rfl | hd := List.mem_cons.mp hd
      · have := p.1 y (.head _)
        omega
      · exact ih p.2 d hd
theorem headD_of {b : List Int} {x : Int} (h : b[0]? = some x) : b.headD 0 = x := by
  cases b with
  | nil => cases h
  | cons y r =>
    cases h
    rfl
/-- the places by numbers -/
def plcE (b : List Int) : List (Key × V) := (List.range b.length).map fun i => (.inl (b.getD i 0), .int (i : Nat))
theorem plcE_at {b : List Int} {i : Nat} {x : Int} (h : b[i]? = some x) : (plcE b)[i]? = some (.inl x, .int (i : Nat)) := by
  have lt := (List.getElem?_eq_some_iff.mp h).1
  unfold plcE
  rw [List.getElem?_map, List.getElem?_range lt]
  show some ((Sum.inl (b.getD i 0) : Key), V.int (i : Nat)) = _
  rw [List.getD_eq_getElem?_getD, h]
  rfl
theorem plcE_keys (b : List Int) : (plcE b).map (·.1) = b.map (Sum.inl : Int → Key) := by
  apply List.ext_getElem?
  intro i
  simp only [List.getElem?_map]
  cases h : b[i]? with
  | none =>
    have le := List.getElem?_eq_none_iff.mp h
    rw [List.getElem?_eq_none (by unfold plcE; rw [List.length_map, List.length_range]; exact le)]
    rfl
  | some x =>
    rw [plcE_at h]
    rfl
theorem plcE_nodup {b : List Int} (h : b.Nodup) : ((plcE b).map (·.1)).Nodup := by
  rw [plcE_keys]
  exact List.pairwise_map.mpr (h.imp fun ne z => ne (Sum.inl.inj z))
theorem val_of {kvs : List (Key × V)} {k : Key} {v : V} (nd : (kvs.map (·.1)).Nodup) (h : (k, v) ∈ kvs) : valV kvs k = some v := by
  induction kvs with
  | nil => cases h
  | cons q r ih =>
    unfold valV at *
    rw [List.find?_cons]
    obtain e | h := List.mem_cons.mp h
    · subst e
      rw [decide_eq_true rfl]
      rfl
    · have n := List.nodup_cons.mp nd
      have ne : q.1 ≠ k := fun e => n.1 (by show q.1 ∈ _; rw [e]; exact List.mem_map.mpr ⟨_, h, rfl⟩)
      rw [decide_eq_false ne]
      exact ih n.2 h
theorem plcE_val {b : List Int} {x : Int} (nd : b.Nodup) (h : x ∈ b) : valV (plcE b) (.inl x) = some (.int (b.idxOf x : Nat)) := by
  have lt : b.idxOf x < b.length := List.idxOf_lt_length_of_mem h
  have e : b[b.idxOf x]? = some x := by rw [List.getElem?_eq_getElem lt, List.getElem_idxOf]
  exact val_of (plcE_nodup nd) (List.mem_of_getElem? (plcE_at e))
section
variable {P : Program} {w : World} {K : PySem.W.Frag} {mg : Str → Option Value} {base : Heap} {f : Addr} {fd : FuncData} {k : Nat}
theorem ok_wb (F : Fun K "write_book" "write_book" sWB f fd) (C_plain : Cal P w K mg base k "plain" ["number", "width"] spPl) (C_own : Cal P w K mg base k "own" ["number"] spOw) (C_turned : Cal P w K mg base k "turned" ["number"] spTu)
    (m_sorted : mg "sorted" = none) (m_set : mg "set" = none) (m_enumerate : mg "enumerate" = none) (m_len : mg "len" = none) (m_zip : mg "zip" = none) : FnOk P w K mg base CX0 (k + 1) f fd ["numbers"] (spWr encB) := by
  refine F.ok scWB (fun vs H Q E h => ?_) (fun cdv A outer s H vs Q E hr h => ?_)
  · obtain ⟨l, xs, rfl, _⟩ := h
    rfl
  · obtain ⟨l, xs, rfl, hl, lo, few, pos, q⟩ := h
    have hu := hu_of hr
    refine ⟨_, pss_cons (ps_set (i := 1) scWB.nd rfl (.inl rfl) (pe_callB (cr_sortedSetA rfl) (by rfl) m_sorted (by decide +kernel) (pa_cons (pe_callTy (cr_setL rfl) (by rfl) m_set (by decide +kernel) (pa_cons (pv 0) pa_nil)) pa_nil)))
      (pss_cons (ps_set (i := 2) scWB.nd rfl (.inr rfl) (pe_dc (own := [("place", 3), ("number", 4)]) (g := gTup K 2 (gCons (gName 3) (gCons (gName 4) gNil))) (tt := tYes) rfl scWB.nd (pi_enum (by rfl) m_enumerate (pa_cons (pv 1) pa_nil)) (blkOk_by (own := [("place", 3), ("number", 4)]) (N := NWB) (sc := defScope sWB) (by decide +kernel)) (fun _ _ _ _ _ => pg_tup rfl (pgs_cons (pg_name (i := 3) scWB.nd rfl (.inl rfl)) (pgs_cons (pg_name (i := 4) scWB.nd rfl (.inl rfl)) pgs_nil))) (fun _ _ _ _ _ => pts_nil) (fun _ _ _ _ _ => pv 4) (fun _ _ _ _ _ => pv 3)))
      (pss_cons (ps_set (i := 5) scWB.nd rfl (.inr rfl) (pe_bits (pe_op op_sub (pe_callB call_len_seq (by rfl) m_len (by decide +kernel) (pa_cons (pv 1) pa_nil)) pe_int)))
      (pss_cons (ps_setLc (i := 6) (own := [("ahead", 7), ("number", 4)]) (g := (gTup K 2 (gCons (gName 7) (gCons (gName 4) gNil)))) (tt := tYes) rfl scWB.nd rfl rfl (sw_true rfl rfl rfl (by decide +kernel)) (pi_zip (by rfl) m_zip (pa_cons (pv 1) (pa_cons (pe_slice sl_list (pv 1) (po_some pe_int) po_none) pa_nil))) (blkOk_by (own := [("ahead", 7), ("number", 4)]) (N := NWB) (sc := defScope sWB) (by decide +kernel)) (fun _ _ _ _ _ => (pg_tup rfl (pgs_cons (pg_name (i := 7) scWB.nd rfl (.inl rfl)) (pgs_cons (pg_name (i := 4) scWB.nd rfl (.inl rfl)) pgs_nil)))) (fun _ _ _ _ _ => pts_nil) (fun _ _ _ _ _ => (pe_cal C_own (hr.mono (by omega)) (by rfl) (pa_cons (pe_op op_sub (pe_op op_sub (pv 4) (pv 7)) pe_int) pa_nil))))
      (pss_cons (ps_setLc (i := 8) (own := [("number", 4)]) (g := (gName 4)) (tt := tYes) rfl scWB.nd rfl rfl (sw_true rfl rfl rfl (by decide +kernel)) (pi_list (pv 0)) (blkOk_by (own := [("number", 4)]) (N := NWB) (sc := defScope sWB) (by decide +kernel)) (fun _ _ _ _ _ => (pg_name (i := 4) scWB.nd rfl (.inl rfl))) (fun _ _ _ _ _ => pts_nil) (fun _ _ _ _ _ => (pe_cal C_plain (hr.mono (by omega)) (by rfl) (pa_cons (pe_dget hu (pv 2) (pv 4) (fun _ _ => rfl)) (pa_cons (pv 5) pa_nil)))))
      (pss_one (ps_ret (pe_op op_addB (pe_op op_addB (pe_op op_addB (pe_cal C_own (hr.mono (by omega)) (by rfl) (pa_cons (pe_op op_sub (pe_callB call_len_seq (by rfl) m_len (by decide +kernel) (pa_cons (pv 1) pa_nil)) pe_int) pa_nil)) (pe_cal C_own (hr.mono (by omega)) (by rfl) (pa_cons (pe_cal C_turned (hr.mono (by omega)) (by rfl) (pa_cons (pe_ix ix_list (pv 1) pe_int (fun _ _ => rfl)) pa_nil)) pa_nil))) (pe_bm PySem.F.plainAttrs_str PySem.F.slot_str_join PySem.F.type_str_join mt_joinB pe_str (pa_cons (pv 6) pa_nil))) (pe_bm PySem.F.plainAttrs_str PySem.F.slot_str_join PySem.F.type_str_join mt_joinB pe_str (pa_cons (pv 8) pa_nil))))))))), ?_⟩
    refine ⟨_, rfl, l, xs, rfl, SqL.of hl, by omega, fun a c na cnt => ?_⟩
    have c100 : c ≤ xs.length := cnt xs fun _ h => h
    have s1 : Same H (upd H a (SetO w a (fun k => decide (k ∈ xs)) c)) := same_new na
    refine ⟨a, _, c, rfl, upd_same, Nat.le_of_lt (small1000 (by omega)), fun ns p ⟨up, mem, len⟩ np => ?_⟩
    obtain rfl : ns = bookOf xs := book_of up fun k => (mem k).trans decide_eq_true_iff
    obtain ⟨b, eb⟩ : ∃ b, bookOf xs = b := ⟨_, rfl⟩
    have s2 := same_new (o := .lst ((bookOf xs).map V.int)) np
    obtain ⟨H2, e2⟩ : ∃ H2, upd (upd H a (SetO w a (fun k => decide (k ∈ xs)) c)) p (.lst ((bookOf xs).map V.int)) = H2 := ⟨_, rfl⟩
    have h2 : H2 p = some (.lst (b.map V.int)) := by
      rw [← e2, eb]
      exact upd_same
    have sA : Same H H2 := by
      rw [← e2]
      exact s1.trans s2
    show gName 1 _ _ (upd (upd H a (SetO w a (fun k => decide (k ∈ xs)) c)) p (.lst ((bookOf xs).map V.int))) _
    rw [e2]
    have bn : b.Nodup := by
      rw [← eb]
      exact up_nodup up
    have bl : b.length ≤ 300 := by
      rw [← eb]
      exact Nat.le_trans (book_len xs) few
    have bp : 0 < b.length := by
      rw [← eb]
      exact book_ne pos
    have blo : Lo 70 b := fun x hx => lo x ((mem x).mp (by rw [eb]; exact hx) |> of_decide_eq_true)
    have gup : ∀ d, d ∈ difs b → 1 ≤ d := up_gap (by rw [← eb]; exact up)
    refine ⟨_, rfl, p, _, rfl, SqL.of h2, fun Dd nDd => dc_walk (J := Ite K p) b.length (plcE b) (by unfold plcE; rw [List.length_map, List.length_range]) (plcE_nodup bn) nDd (small1000 (by omega)) (fun Hc sm => ⟨b.map V.int, sm.seq (SqL.of h2), by rw [List.length_map]; exact Nat.le_refl _⟩)
      (fun i Hc lt sm => ⟨b.map V.int, .int (b[i]), sm.seq (SqL.of h2), by rw [List.getElem?_map, List.getElem?_eq_getElem lt]; rfl⟩) (fun i x k y Hc H' Q' lt ee sm yl q' => ?_)
      (fun σ2 H2 A B h ⟨u, e, v, e2, a⟩ => ⟨u, e, v, e2, h _ _ _ a⟩) (fun x σ2 H2 A B h ⟨a, ys, e1, e2, e3, v, r, e4, v2, r2, e5, e6, z⟩ => ⟨a, ys, e1, e2, e3, v, r, e4, v2, r2, e5, e6, h _ _ z⟩)
      (fun i x Hc H' _ _ yl => by
        obtain ⟨T, u, rfl, nT, rfl, _⟩ := yl
        exact same_new nT) fun H3 s3 hD3 => ?_⟩
    · obtain ⟨T, u, rfl, nT, rfl, fT⟩ := yl
      have eu := fT _ (sm.seq (SqL.of h2))
      rw [List.getElem?_map, List.getElem?_eq_getElem lt] at eu
      cases eu
      rw [plcE_at (List.getElem?_eq_getElem lt)] at ee
      cases ee
      exact ⟨T, _, rfl, SqT.of upd_same, rfl, _, _, rfl, _, _, rfl, rfl, rfl, _, rfl, _, rfl, rfl, rfl, Same.refl _⟩
    have h3 := s3 _ _ h2
    have sB := sA.trans s3
    refine ⟨_, rfl, p, _, rfl, .inl (SqL.of h3), _, _, rfl, rfl, _, rfl, ?_⟩
    have ew : Builtin.Int.intBits ((((b.map V.int).length : Nat) : Int) - 1) = wdB xs := by
      rw [bits_nat (by rw [List.length_map]; omega)]
      unfold wdB
      rw [eb, List.length_map]
      congr 1
      omega
    rw [ew]
    have w8 : wdB xs ≤ 9 := by
      unfold wdB
      rw [eb]
      exact blen_le (by omega)
    refine ⟨_, rfl, _, rfl, 1, rfl, p, _, rfl, SqL.of h3, fun l4 n4 => ?_⟩
    rw [cut_2]
    have s4 := same_new (o := .lst ((b.drop 1).map V.int)) n4
    obtain ⟨H4, e4⟩ : ∃ H4, upd H3 l4 (.lst ((b.drop 1).map V.int)) = H4 := ⟨_, rfl⟩
    have h4 : H4 l4 = some (.lst ((b.drop 1).map V.int)) := by
      rw [← e4]
      exact upd_same
    rw [e4] at s4 ⊢
    refine ⟨p, l4, _, _, rfl, SqL.of (s4 _ _ h3), SqL.of h4, fun D5 n5 => lc_mapZ (xs := b.map V.int) (zs := (b.drop 1).map V.int) ((difs b).map fun d => V.str (S (ownL (d - 1).toNat))) (difs b).length ?_ (by simp) n5 (SqL.of (s4 _ _ h3)) (SqL.of h4) ?_ (fun i x z y T Hc Q' hx hz hy sm hT q' => ?_) fun H5 s5 hD5 => ?_⟩
    · rw [difs_len, List.length_map, List.length_map, List.length_drop]
      omega
    · rw [difs_len]
      exact small1000 (by omega)
    · rw [List.getElem?_map] at hx hz hy
      obtain ⟨u, eu, rfl⟩ := Option.map_eq_some_iff.mp hx
      obtain ⟨v, ev, rfl⟩ := Option.map_eq_some_iff.mp hz
      rw [List.getElem?_drop, Nat.add_comm] at ev
      have ed := difs_at b i u v eu ev
      rw [ed] at hy
      cases hy
      have d1 := gup _ (List.mem_of_getElem? ed)
      have d2 := lo_difs blo _ (List.mem_of_getElem? ed)
      refine ⟨T, _, rfl, SqT.of hT, rfl, _, _, rfl, _, _, rfl, rfl, rfl, _, rfl, _, rfl, v, u, rfl, rfl, _, _, rfl, rfl, (v - u - 1).toNat, ?_, ?_, q' Hc (Same.refl _)⟩
      · show [V.int (v - u - 1)] = _
        rw [Int.toNat_of_nonneg (by omega)]
      · refine Nat.lt_of_le_of_lt (show (v - u - 1).toNat ≤ (v - u).natAbs by omega) (Nat.lt_trans d2 (by decide))
    have sC := sB.trans (s4.trans s5)
    have s35 := s4.trans s5
    refine ⟨_, rfl, l, rfl, ⟨_, SqL.of (sC _ _ hl)⟩, fun D6 n6 => lc_mapL (xs := xs.map V.int) (xs.map fun x => V.str (S (bt (wdB xs) (b.idxOf x)))) (by simp) n6 (SqL.of (sC _ _ hl)) (by rw [List.length_map]; exact small1000 (by omega)) (fun i x y Hc Q' hx hy sm q' => ?_) fun H6 s6 hD6 => ?_⟩
    · rw [List.getElem?_map] at hx hy
      obtain ⟨z, ez, rfl⟩ := Option.map_eq_some_iff.mp hx
      rw [ez] at hy
      cases hy
      have zb : z ∈ b := by
        rw [← eb]
        exact (mem z).mpr (decide_eq_true (List.mem_of_getElem? ez))
      have dg := DGet.k (k := .inl z) (sm _ _ (s35 _ _ hD3))
      rw [plcE_val bn zb] at dg
      have lt : b.idxOf z < b.length := List.idxOf_lt_length_of_mem zb
      refine ⟨rfl, _, rfl, _, rfl, Dd, _, rfl, dg, _, rfl, b.idxOf z, wdB xs, rfl, ?_, by omega, q' Hc (Same.refl _)⟩
      unfold wdB
      rw [eb]
      exact blen_mono (by omega)
    have h6 := s6 _ _ (s35 _ _ h3)
    have hD56 := s6 _ _ hD5
    obtain ⟨b0, eb0⟩ : ∃ b0, b[0]? = some b0 := ⟨_, List.getElem?_eq_getElem bp⟩
    have b0lo : b0.natAbs < 2 ^ 80 := Nat.lt_of_lt_of_le (blo b0 (List.mem_of_getElem? eb0)) (by decide)
    have c1 := cd_len b0lo
    have c2 := own_short (n := b.length - 1) (w := 9) (by omega)
    refine ⟨_, rfl, p, _, rfl, .inl (SqL.of h6), _, _, rfl, rfl, b.length - 1, ?_, Nat.lt_of_le_of_lt (show b.length - 1 ≤ 300 by omega) (by decide), ?_⟩
    · show [V.int (((b.map V.int).length : Nat) - 1)] = _
      rw [List.length_map]
      congr 2
      omega
    refine ⟨_, rfl, p, _, 0, .int b0, rfl, rfl, SqL.of h6, atI_nat (j := 0) (by rw [List.getElem?_map, eb0]; rfl), b0, rfl, abs_89 b0lo, tN b0, (by rw [← tn_nat]; rfl), tN_90 b0lo, _, _, rfl, rfl, (by unfold cd at c1; omega), ?_⟩
    have g1 : (gpC xs).flatten.length ≤ 170 * 300 := by
      refine Nat.le_trans (flat_le (n := 170) fun y hy => ?_) (Nat.mul_le_mul (Nat.le_refl _) ?_)
      · obtain ⟨d, hd, rfl⟩ := List.mem_map.mp hy
        rw [eb] at hd
        have d2 := lo_difs blo _ hd
        have := own_short (n := (d - 1).toNat) (w := 73) (by
          have e73 : (2 : Nat) ^ 73 = 2 ^ 71 * 4 := rfl
          have d2' : d.natAbs < 2 ^ 71 := d2
          omega)
        omega
      · unfold gpC
        rw [List.length_map, eb, difs_len]
        omega
    have g2 : (bkC xs).flatten.length ≤ 300 * 9 := by
      have fl : (bkC xs).flatten.length = (bkC xs).length * wdB xs := flat_same fun y hy => by
        obtain ⟨z, hz, rfl⟩ := List.mem_map.mp hy
        exact bt_len _ _
      rw [fl]
      unfold bkC
      rw [List.length_map]
      exact Nat.mul_le_mul few w8
    unfold cd at c1
    refine ⟨rfl, _, rfl, D5, gpC xs, (by rw [← s_nil]), rfl, (by unfold gpC; rw [List.map_map, eb]; exact SqL.of hD56), by omega, _, _, rfl, rfl, (by rw [List.length_append]; omega), ?_⟩
    refine ⟨rfl, _, rfl, D6, bkC xs, (by rw [← s_nil]), rfl, (by unfold bkC; rw [List.map_map, eb]; exact SqL.of hD6), by omega, _, _, rfl, rfl, (by rw [List.length_append, List.length_append]; omega), ?_⟩
    have z := q H6 (sC.trans s6)
    unfold encB at z
    rw [eb, headD_of eb0] at z
    exact z
/-! ### by any way -/
inductive Wy where
  | plain
  | by (W : Way)
  | book
def Wy.nm : Wy → Str
  | .plain => "plain"
  | .by .steps => "steps"
  | .by .turns => "turns"
  | .by .runs => "runs"
  | .book => "book"
def encY : Wy → List Int → List Nat
  | .plain => encP
  | .by W => enc W
  | .book => encB
/-- the bits by a way, of none none -/
def bitsY (y : Wy) (xs : List Int) : List Nat := if xs = [] then [] else encY y xs
/-- what the written dict of writers holds -/
structure Wrs (P : Program) (w : World) (K : PySem.W.Frag) (mg : Str → Option Value) (base : Heap) (k : Nat) (W : Addr) where
  fn : Wy → Addr
  ex : ∀ y, Held P w K mg base k (fn y) (spWr (encY y))
  dct : ∀ y, KDct K w W y.nm (.ref (fn y))
def spBB : Sp := fun vs H Q _ => ∃ (l : Addr) (xs : List Int) (y : Wy), vs = [.ref l, .str y.nm] ∧ NL H l xs ∧ Lo 70 xs ∧ xs.length ≤ 300 ∧ ∀ H', Same H H' → Q (.str (S (bitsY y xs))) H'
theorem ok_bb {W : Addr} (F : Fun K "bits_by" "bits_by" sBB f fd) (Z : Wrs P w K mg base k W) (g_WRITERS : mg "WRITERS" = some (.ref W)) (m_list : mg "list" = none) : FnOk P w K mg base CX0 (k + 1) f fd ["numbers", "way"] spBB := by
  refine F.ok scBB (fun vs H Q E h => ?_) (fun cdv A outer s H vs Q E hr h => ?_)
  · obtain ⟨l, xs, y, rfl, _⟩ := h
    rfl
  · obtain ⟨l, xs, y, rfl, hl, lo, few, q⟩ := h
    have hu := hu_of hr
    have HW : ∀ g sp, (fun g => if g = Z.fn y then some (spWr (encY y)) else none) g = some sp → Held P w K mg base k g sp := fun g sp e => by
      dsimp only at e
      split at e
      · rename_i eg
        subst eg
        cases e
        exact Z.ex y
      · cases e
    refine ⟨_, pss_cons (ps_set (i := 2) scBB.nd rfl (.inl rfl) (pe_callTy call_list_of (by rfl) m_list (by decide +kernel) (pa_cons (pv 0) pa_nil)))
      (pss_cons (ps_if (pt_not (pt_truth (pv 2) (fun _ => rfl)))
        (pss_one (ps_ret pe_str))
        pss_nil)
      (pss_cons (ps_set (i := 3) scBB.nd rfl (.inl rfl) (pe_ix ix_kdict (pe_glob (v := .ref W) rfl g_WRITERS rfl) (pv 1) (fun _ _ => rfl)))
      (pss_one (ps_ret (pe_callA (i := 3) HW (hr.mono (by omega)) rfl (.inl rfl) (pa_cons (pv 2) pa_nil)))))), ?_⟩
    refine ⟨_, rfl, l, _, rfl, .inl (SqL.of hl), fun m nm => ?_⟩
    have s1 := same_new (o := .lst (xs.map V.int)) nm
    refine ⟨_, rfl, _, .inl ⟨_, SqL.of upd_same, rfl⟩, ?_⟩
    by_cases c : xs = []
    · subst c
      refine if_t ?_
      show Q (.str "") _
      rw [s_nil]
      exact q _ s1
    · have ne : xs.isEmpty = false := by
        cases xs with
        | nil => exact absurd rfl c
        | cons a r => rfl
      have e0 : (xs.map V.int).isEmpty = false := by
        rw [List.isEmpty_map, ne]
      rw [e0]
      refine if_f ⟨_, rfl, W, y.nm, .ref (Z.fn y), rfl, rfl, Z.dct y, Z.fn y, _, rfl, if_pos rfl, _, rfl, m, xs, rfl, upd_same, lo, few, List.length_pos_iff.mpr c, fun H' s' => ?_⟩
      have z := q H' (s1.trans s')
      unfold bitsY at z
      rw [if_neg c] at z
      exact z
def spSB : Sp := fun vs H Q _ => ∃ (l : Addr) (xs : List Int) (y : Wy), vs = [.ref l, .str y.nm] ∧ NL H l xs ∧ Lo 70 xs ∧ xs.length ≤ 300 ∧ (bitsY y xs).length ≤ 60000 ∧ ∀ H', Same H H' → Q (.int ((bitsY y xs).length : Nat)) H'
theorem ok_sb (F : Fun K "size_by" "size_by" sSB f fd) (C_bits_by : Cal P w K mg base k "bits_by" ["numbers", "way"] spBB) (m_len : mg "len" = none) : FnOk P w K mg base CX0 (k + 1) f fd ["numbers", "way"] spSB := by
  refine F.ok scSB (fun vs H Q E h => ?_) (fun cdv A outer s H vs Q E hr h => ?_)
  · obtain ⟨l, xs, y, rfl, _⟩ := h
    rfl
  · obtain ⟨l, xs, y, rfl, hl, lo, few, few2, q⟩ := h
    refine ⟨_, pss_one (ps_ret (pe_callB call_lenB (by rfl) m_len (by decide +kernel) (pa_cons (pe_cal C_bits_by (hr.mono (by omega)) (by rfl) (pa_cons (pv 0) (pa_cons (pv 1) pa_nil))) pa_nil))), ?_⟩
    exact ⟨_, rfl, _, rfl, l, xs, y, rfl, hl, lo, few, fun H' s' => ⟨_, rfl, few2, q H' s'⟩⟩
end
end Tg

namespace Tg
open PySem PySem.Spec PyProof.Rows L2
open SX (S)
abbrev sRS : Stmt := topS 24
abbrev sRT : Stmt := topS 25
abbrev sRR : Stmt := topS 26
theorem scRS : FnScope ["bits", "mark", "room", "at", "ahead", "beside", "code", "behind"] ["bits", "mark", "room"] (defScope sRS) := ⟨rfl, rfl, rfl, by decide +kernel, rfl, by decide +kernel, by decide +kernel⟩
theorem scRT : FnScope ["bits", "mark", "room", "at", "ahead", "step", "code", "behind"] ["bits", "mark", "room"] (defScope sRT) := ⟨rfl, rfl, rfl, by decide +kernel, rfl, by decide +kernel, by decide +kernel⟩
theorem scRR : FnScope ["bits", "mark", "room", "at", "ahead", "more", "code", "middle", "behind"] ["bits", "mark", "room"] (defScope sRR) := ⟨rfl, rfl, rfl, by decide +kernel, rfl, by decide +kernel, by decide +kernel⟩
def vo : Option Int → V
  | none => .non
  | some x => .int x
def mkV (m : Mrk) : List V := [.int (m.1 : Nat), .int m.2.1, vo m.2.2]
theorem ahd_0 (xs : List Int) : ahd xs 0 = 0 := rfl
theorem enc_short {W : Way} {xs : List Int} (lo : Lo 70 xs) (few : xs.length ≤ 300) : (enc W xs).length ≤ 57000 := by
  cases W with
  | steps =>
    have := cds_len ((lo_stp lo).mono (show 71 ≤ 80 by decide))
    rw [stp_len] at this
    show (cds (stp xs)).length ≤ _
    omega
  | turns =>
    have := cds_len ((lo_trn lo).mono (show 72 ≤ 80 by decide))
    rw [trn_len] at this
    show (cds (trn xs)).length ≤ _
    omega
  | runs =>
    show ((rn xs).map rcd).flatten.length ≤ _
    refine Nat.le_trans (flat_le (n := 190) fun y hy => ?_) ?_
    · obtain ⟨r, hr, rfl⟩ := List.mem_map.mp hy
      obtain ⟨r1, r2, r3⟩ := run_in hr
      exact rcd_len (Nat.lt_of_lt_of_le (lo r.1 r1) (by decide)) (by omega)
    · rw [List.length_map]
      have := rn_len xs
      omega
/-- a reader: the mark behind the next number -/
def spRd (K : PySem.W.Frag) (W : Way) : Sp := fun vs H Q _ => ∃ (t : Addr) (xs : List Int) (i : Nat) (m : Mrk), vs = [.str (S (enc W xs)), .ref t, .int ((xs.length : Nat) - (i : Nat) : Int)] ∧ SqT K H t (mkV m) ∧ MkA W xs i m ∧ i < xs.length ∧ Lo 70 xs ∧ xs.length ≤ 300 ∧
  ∀ (t' : Addr) (m' : Mrk) (H' : Hp), Same H H' → H' t' = some (.tup (mkV m')) → MkA W xs (i + 1) m' → xs[i]? = some m'.2.1 → m.1 ≤ m'.1 → Q (.ref t') H'
section
variable {P : Program} {w : World} {K : PySem.W.Frag} {mg : Str → Option Value} {base : Heap} {f : Addr} {fd : FuncData} {k : Nat}
theorem bk_tN (c : Int) : bk ((tN c : Nat) : Int) = c := by rw [← tn_nat, bk_tn]
theorem tN_abs {c : Int} (h : c.natAbs < 2 ^ 80) : ((tN c : Nat) : Int).natAbs < 2 ^ 90 := by
  rw [Int.natAbs_natCast]
  exact tN_90 h
theorem ok_rs (F : Fun K "read_step" "read_step" sRS f fd) (C_read_own : Cal P w K mg base k "read_own" ["bits", "at"] (spRO K)) (C_back : Cal P w K mg base k "back" ["number"] spBa) : FnOk P w K mg base CX0 (k + 1) f fd ["bits", "mark", "room"] (spRd K .steps) := by
  refine F.ok scRS (fun vs H Q E h => ?_) (fun cdv A outer s H vs Q E hr h => ?_)
  · obtain ⟨t, xs, i, m, rfl, _⟩ := h
    rfl
  · obtain ⟨t, xs, i, m, rfl, ht, rfl, lt, lo, few, q⟩ := h
    refine ⟨_, pss_cons (ps_asg (pv 1) (pg_tup rfl (pgs_cons (pg_name (i := 3) scRS.nd rfl (.inl rfl)) (pgs_cons (pg_name (i := 4) scRS.nd rfl (.inl rfl)) (pgs_cons (pg_name (i := 5) scRS.nd rfl (.inl rfl)) pgs_nil)))))
      (pss_cons (ps_asg (pe_cal C_read_own (hr.mono (by omega)) (by rfl) (pa_cons (pv 0) (pa_cons (pv 3) pa_nil))) (pg_tup rfl (pgs_cons (pg_name (i := 6) scRS.nd rfl (.inl rfl)) (pgs_cons (pg_name (i := 7) scRS.nd rfl (.inl rfl)) pgs_nil))))
      (pss_one (ps_ret (pe_tup (pa_cons (pv 7) (pa_cons (pe_op op_add (pv 4) (pe_cal C_back (hr.mono (by omega)) (by rfl) (pa_cons (pv 6) pa_nil))) (pa_cons pe_non pa_nil))))))), ?_⟩
    have short := enc_short (W := .steps) lo few
    have l80 := (lo_stp lo).mono (show 71 ≤ 80 by decide)
    obtain ⟨c, ec⟩ : ∃ c, (stp xs)[i]? = some c := ⟨_, List.getElem?_eq_getElem (by rw [stp_len]; exact lt)⟩
    have cl := l80 c (List.mem_of_getElem? ec)
    have eb := cds_at ec
    obtain ⟨x, ex⟩ : ∃ x, xs[i]? = some x := ⟨_, List.getElem?_eq_getElem lt⟩
    have ac : ahd xs i + c = x := by
      cases i with
      | zero =>
        rw [stp_0 ex] at ec
        cases ec
        rw [ahd_0]
        omega
      | succ i =>
        obtain ⟨y, ey⟩ : ∃ y, xs[i]? = some y := ⟨_, List.getElem?_eq_getElem (by omega)⟩
        rw [stp_at ey ex] at ec
        cases ec
        rw [ahd_next ey]
        omega
    refine ⟨_, rfl, t, _, rfl, ht, rfl, _, _, rfl, _, _, rfl, _, _, rfl, rfl, ?_⟩
    refine ⟨_, rfl, _, rfl, cds ((stp xs).take i), cds ((stp xs).drop (i + 1)), tN c, ?_, tN_90 cl, ?_, fun u H1 s1 hu => ?_⟩
    · show [V.str (S (cds (stp xs))), _] = _
      rw [eb]
      rfl
    · show (cds ((stp xs).take i) ++ (cd c ++ cds ((stp xs).drop (i + 1)))).length ≤ _
      rw [← eb]
      exact Nat.le_trans short (by decide)
    · refine ⟨u, _, rfl, hu, rfl, _, _, rfl, _, _, rfl, rfl, ?_⟩
      refine ⟨_, rfl, _, rfl, _, rfl, _, rfl, tN_abs cl, ?_⟩
      rw [bk_tN]
      refine ⟨_, _, rfl, rfl, by show 3 ≤ sizeLine; decide, fun t' nt => ?_⟩
      refine q t' (((cds ((stp xs).take i)).length + (ownL (tN c)).length), ahd xs i + c, none) _ (s1.trans (same_new nt)) upd_same ?_ ?_ (Nat.le_add_right _ _)
      · show _ = ((cds ((stp xs).take (i + 1))).length, ahd xs (i + 1), none)
        rw [cds_next ec, ahd_next ex, ac]
        rfl
      · rw [ac]
        exact ex
theorem ok_rt (F : Fun K "read_turn" "read_turn" sRT f fd) (C_read_own : Cal P w K mg base k "read_own" ["bits", "at"] (spRO K)) (C_back : Cal P w K mg base k "back" ["number"] spBa) : FnOk P w K mg base CX0 (k + 1) f fd ["bits", "mark", "room"] (spRd K .turns) := by
  refine F.ok scRT (fun vs H Q E h => ?_) (fun cdv A outer s H vs Q E hr h => ?_)
  · obtain ⟨t, xs, i, m, rfl, _⟩ := h
    rfl
  · obtain ⟨t, xs, i, m, rfl, ht, rfl, lt, lo, few, q⟩ := h
    refine ⟨_, pss_cons (ps_asg (pv 1) (pg_tup rfl (pgs_cons (pg_name (i := 3) scRT.nd rfl (.inl rfl)) (pgs_cons (pg_name (i := 4) scRT.nd rfl (.inl rfl)) (pgs_cons (pg_name (i := 5) scRT.nd rfl (.inl rfl)) pgs_nil)))))
      (pss_cons (ps_asg (pe_cal C_read_own (hr.mono (by omega)) (by rfl) (pa_cons (pv 0) (pa_cons (pv 3) pa_nil))) (pg_tup rfl (pgs_cons (pg_name (i := 6) scRT.nd rfl (.inl rfl)) (pgs_cons (pg_name (i := 7) scRT.nd rfl (.inl rfl)) pgs_nil))))
      (pss_cons (ps_if (pt_cmpR op_isN (pv 5) pe_non (nomark _))
        (pss_one (ps_ret (pe_tup (pa_cons (pv 7) (pa_cons (pe_cal C_back (hr.mono (by omega)) (by rfl) (pa_cons (pv 6) pa_nil)) (pa_cons pe_int pa_nil))))))
        pss_nil)
      (pss_one (ps_ret (pe_tup (pa_cons (pv 7) (pa_cons (pe_op op_add (pe_op op_add (pv 4) (pv 5)) (pe_cal C_back (hr.mono (by omega)) (by rfl) (pa_cons (pv 6) pa_nil))) (pa_cons (pe_op op_add (pv 5) (pe_cal C_back (hr.mono (by omega)) (by rfl) (pa_cons (pv 6) pa_nil))) pa_nil)))))))), ?_⟩
    have short := enc_short (W := .turns) lo few
    have l80 := (lo_trn lo).mono (show 72 ≤ 80 by decide)
    obtain ⟨c, ec⟩ : ∃ c, (trn xs)[i]? = some c := ⟨_, List.getElem?_eq_getElem (by rw [trn_len]; exact lt)⟩
    have cl := l80 c (List.mem_of_getElem? ec)
    have eb := cds_at ec
    obtain ⟨x, ex⟩ : ∃ x, xs[i]? = some x := ⟨_, List.getElem?_eq_getElem lt⟩
    refine ⟨_, rfl, t, _, rfl, ht, rfl, _, _, rfl, _, _, rfl, _, _, rfl, rfl, ?_⟩
    refine ⟨_, rfl, _, rfl, cds ((trn xs).take i), cds ((trn xs).drop (i + 1)), tN c, ?_, tN_90 cl, ?_, fun u H1 s1 hu => ?_⟩
    · show [V.str (S (cds (trn xs))), _] = _
      rw [eb]
      rfl
    · show (cds ((trn xs).take i) ++ (cd c ++ cds ((trn xs).drop (i + 1)))).length ≤ _
      rw [← eb]
      exact Nat.le_trans short (by decide)
    · refine ⟨u, _, rfl, hu, rfl, _, _, rfl, _, _, rfl, rfl, ?_⟩
      cases i with
      | zero =>
        rw [trn_0 ex] at ec
        cases ec
        refine ⟨_, rfl, rfl, true, rfl, if_t ?_⟩
        refine ⟨_, rfl, _, rfl, _, rfl, tN_abs cl, ?_⟩
        rw [bk_tN]
        refine ⟨by show 3 ≤ sizeLine; decide, fun t' nt => ?_⟩
        refine q t' (((cds ((trn xs).take 0)).length + (ownL (tN c)).length), c, some 0) _ (s1.trans (same_new nt)) upd_same ?_ ex (Nat.le_add_right _ _)
        show _ = ((cds ((trn xs).take (0 + 1))).length, ahd xs (0 + 1), some 0)
        rw [cds_next (trn_0 ex), ahd_next ex]
        rfl
      | succ i =>
        obtain ⟨y, ey⟩ : ∃ y, xs[i]? = some y := ⟨_, List.getElem?_eq_getElem (by omega)⟩
        obtain ⟨sp, es, ac, sc⟩ : ∃ sp : Int, bsd xs (i + 1) = some sp ∧ ahd xs (i + 1) + sp + c = x ∧ bsd xs (i + 1 + 1) = some (sp + c) := by
          rw [ahd_next ey]
          have eb2 : bsd xs (i + 1 + 1) = some (x - y) := by
            unfold bsd
            rw [if_neg (by omega), if_neg (by omega), ahd_next ex, Nat.add_sub_cancel, ahd_next ey]
          cases i with
          | zero =>
            rw [trn_1 ey ex] at ec
            cases ec
            exact ⟨0, rfl, by omega, by rw [eb2]; congr 1; omega⟩
          | succ i =>
            obtain ⟨z, ez⟩ : ∃ z, xs[i]? = some z := ⟨_, List.getElem?_eq_getElem (by omega)⟩
            rw [trn_at ez ey ex] at ec
            cases ec
            refine ⟨y - z, ?_, by omega, by rw [eb2]; congr 1; omega⟩
            unfold bsd
            rw [if_neg (by omega), if_neg (by omega), ahd_next ey, Nat.add_sub_cancel, ahd_next ez]
        rw [es]
        refine ⟨_, rfl, rfl, false, rfl, if_f ?_⟩
        refine ⟨_, rfl, _, rfl, _, rfl, _, _, rfl, rfl, _, rfl, _, rfl, tN_abs cl, ?_⟩
        rw [bk_tN]
        refine ⟨_, _, rfl, rfl, _, rfl, _, rfl, _, rfl, tN_abs cl, ?_⟩
        rw [bk_tN]
        refine ⟨_, _, rfl, rfl, by show 3 ≤ sizeLine; decide, fun t' nt => ?_⟩
        refine q t' (((cds ((trn xs).take (i + 1))).length + (ownL (tN c)).length), ahd xs (i + 1) + sp + c, some (sp + c)) _ (s1.trans (same_new nt)) upd_same ?_ ?_ (Nat.le_add_right _ _)
        · show _ = ((cds ((trn xs).take (i + 1 + 1))).length, ahd xs (i + 1 + 1), bsd xs (i + 1 + 1))
          rw [cds_next ec, ahd_next ex, ac, sc]
          rfl
        · rw [ac]
          exact ex
end
end Tg

namespace Tg
open PySem PySem.Spec PyProof.Rows L2
open SX (S)
theorem unr_at {pre suf : List Run} {r : Run} {o : Nat} (h : o < r.2) : (unr (pre ++ r :: suf))[(unr pre).length + o]? = some r.1 := by
  rw [show pre ++ r :: suf = pre ++ ([r] ++ suf) from rfl, unr_app, List.getElem?_append_right (Nat.le_add_right _ _), Nat.add_sub_cancel_left, unr_app, unr_one, List.getElem?_append_left (by rw [List.length_replicate]; exact h), List.getElem?_replicate, if_pos h]
theorem run_next {xs : List Int} {i : Nat} {m : Mrk} (h : MkA .runs xs i m) (lt : i < xs.length) :
    (∃ j : Nat, m.2.2 = some ((j : Nat) + 1 : Int) ∧ MkA .runs xs (i + 1) (m.1, m.2.1, some (j : Nat)) ∧ xs[i]? = some m.2.1) ∨
    ((m.2.2 = none ∨ m.2.2 = some 0) ∧ ∃ (a rest : List Nat) (r : Run), rcds (rn xs) = a ++ (rcd r ++ rest) ∧ a.length = m.1 ∧ r ∈ rn xs ∧ MkA .runs xs (i + 1) (m.1 + (rcd r).length, r.1, some ((r.2 - 1 : Nat) : Int)) ∧ xs[i]? = some r.1 ∧ r.2 - 1 < xs.length - i) := by
  obtain ⟨u, pos⟩ := rn_all xs
  have fresh : ∀ (pre : List Run), (∃ s, rn xs = pre ++ s) → (unr pre).length = i → ∃ (a rest : List Nat) (r : Run), rcds (rn xs) = a ++ (rcd r ++ rest) ∧ a.length = (rcds pre).length ∧ r ∈ rn xs ∧ MkA .runs xs (i + 1) ((rcds pre).length + (rcd r).length, r.1, some ((r.2 - 1 : Nat) : Int)) ∧ xs[i]? = some r.1 ∧ r.2 - 1 < xs.length - i := by
    rintro pre ⟨s, es⟩ ei
    cases s with
    | nil =>
      rw [es, List.append_nil] at u
      rw [← u] at lt
      omega
    | cons r suf =>
      have p := pos r (by rw [es]; simp)
      have l : (unr (rn xs)).length = xs.length := by rw [u]
      rw [es, show pre ++ r :: suf = pre ++ ([r] ++ suf) from rfl, unr_app, unr_app, unr_one, List.length_append, List.length_append, List.length_replicate] at l
      refine ⟨rcds pre, rcds suf, r, ?_, rfl, by rw [es]; simp, .inr ⟨pre, suf, r, 1, es, Nat.le_refl 1, p, by omega, ?_⟩, ?_, by omega⟩
      · rw [es, show pre ++ r :: suf = pre ++ ([r] ++ suf) from rfl, rcds_app, rcds_app, rcds_one]
      · rw [rcds_app, rcds_one, List.length_append]
      · have z := unr_at (pre := pre) (suf := suf) (r := r) (o := 0) (by omega)
        rw [← es, u, ei] at z
        exact z
  rcases h with ⟨rfl, rfl⟩ | ⟨pre, suf, r, o, er, o1, o2, ei, rfl⟩
  · obtain ⟨a, rest, r, h1, h2, h3, h4, h5, h6⟩ := fresh [] ⟨rn xs, rfl⟩ rfl
    exact .inr ⟨.inl rfl, a, rest, r, h1, h2, h3, h4, h5, h6⟩
  · rcases Nat.lt_or_ge o r.2 with g | g
    · refine .inl ⟨r.2 - o - 1, ?_, .inr ⟨pre, suf, r, o + 1, er, by omega, g, by omega, ?_⟩, ?_⟩
      · show some ((r.2 - o : Nat) : Int) = _
        congr 1
        omega
      · show ((rcds (pre ++ [r])).length, r.1, some ((r.2 - o - 1 : Nat) : Int)) = _
        rw [show r.2 - o - 1 = r.2 - (o + 1) by omega]
      · have z := unr_at (pre := pre) (suf := suf) g
        rw [← er, u, ← ei] at z
        exact z
    · obtain rfl : o = r.2 := Nat.le_antisymm o2 g
      have e2 : rn xs = (pre ++ [r]) ++ suf := by rw [er, List.append_assoc]; rfl
      obtain ⟨a, rest, q, h1, h2, h3, h4, h5, h6⟩ := fresh (pre ++ [r]) ⟨suf, e2⟩ (by rw [unr_app, unr_one, List.length_append, List.length_replicate]; exact ei.symm)
      refine .inr ⟨.inr ?_, a, rest, q, h1, h2, h3, h4, h5, h6⟩
      show some ((r.2 - r.2 : Nat) : Int) = some 0
      rw [Nat.sub_self]
      rfl
section
variable {P : Program} {w : World} {K : PySem.W.Frag} {mg : Str → Option Value} {base : Heap} {f : Addr} {fd : FuncData} {k : Nat}
theorem ok_rr (F : Fun K "read_run" "read_run" sRR f fd) (C_read_own : Cal P w K mg base k "read_own" ["bits", "at"] (spRO K)) (C_back : Cal P w K mg base k "back" ["number"] spBa) : FnOk P w K mg base CX0 (k + 1) f fd ["bits", "mark", "room"] (spRd K .runs) := by
  refine F.ok scRR (fun vs H Q E h => ?_) (fun cdv A outer s H vs Q E hr h => ?_)
  · obtain ⟨t, xs, i, m, rfl, _⟩ := h
    rfl
  · obtain ⟨t, xs, i, m, rfl, ht, hm, lt, lo, few, q⟩ := h
    refine ⟨_, pss_cons (ps_asg (pv 1) (pg_tup rfl (pgs_cons (pg_name (i := 3) scRR.nd rfl (.inl rfl)) (pgs_cons (pg_name (i := 4) scRR.nd rfl (.inl rfl)) (pgs_cons (pg_name (i := 5) scRR.nd rfl (.inl rfl)) pgs_nil)))))
      (pss_cons (ps_if (PW.pt (pw_and (pt_cmpR op_notN (pv 5) pe_non (nomark _)) (pw_and1 (pt_cmpR op_gt (pv 5) pe_int (nomark _)))))
        (pss_one (ps_ret (pe_tup (pa_cons (pv 3) (pa_cons (pv 4) (pa_cons (pe_op op_sub (pv 5) pe_int) pa_nil))))))
        pss_nil)
      (pss_cons (ps_asg (pe_cal C_read_own (hr.mono (by omega)) (by rfl) (pa_cons (pv 0) (pa_cons (pv 3) pa_nil))) (pg_tup rfl (pgs_cons (pg_name (i := 6) scRR.nd rfl (.inl rfl)) (pgs_cons (pg_name (i := 7) scRR.nd rfl (.inl rfl)) pgs_nil))))
      (pss_cons (ps_asg (pe_cal C_read_own (hr.mono (by omega)) (by rfl) (pa_cons (pv 0) (pa_cons (pv 7) pa_nil))) (pg_tup rfl (pgs_cons (pg_name (i := 5) scRR.nd rfl (.inl rfl)) (pgs_cons (pg_name (i := 8) scRR.nd rfl (.inl rfl)) pgs_nil))))
      (pss_cons (ps_if (pt_cmpR op_ge (pv 5) (pv 2) (nomark _))
        (pss_one ps_dead)
        pss_nil)
      (pss_one (ps_ret (pe_tup (pa_cons (pv 8) (pa_cons (pe_cal C_back (hr.mono (by omega)) (by rfl) (pa_cons (pv 6) pa_nil)) (pa_cons (pv 5) pa_nil)))))))))), ?_⟩
    have short := enc_short (W := .runs) lo few
    obtain ⟨at0, ah, bs⟩ := m
    refine ⟨_, rfl, t, _, rfl, ht, rfl, _, _, rfl, _, _, rfl, _, _, rfl, rfl, ?_⟩
    rcases run_next hm lt with ⟨j, e, h1, h2⟩ | ⟨e, a, rest, r, h1, h2, h3, h4, h5, h6⟩
    · obtain rfl : bs = some ((j : Nat) + 1 : Int) := e
      refine ⟨_, rfl, rfl, true, rfl, if_t ⟨_, rfl, _, _, rfl, rfl, true, ?_, if_t ?_⟩⟩
      · exact congrArg V.bl (decide_eq_true (by omega))
      · refine ⟨_, rfl, _, rfl, _, rfl, _, _, rfl, rfl, by show 3 ≤ sizeLine; decide, fun t' nt => ?_⟩
        refine q t' (at0, ah, some (j : Nat)) _ (same_new nt) ?_ h1 h2 (Nat.le_refl _)
        rw [upd_same]
        show some (HO.tup [.int (at0 : Nat), .int ah, .int ((j : Nat) + 1 - 1 : Int)]) = _
        rw [Int.add_sub_cancel]
        rfl
    · have rb := run_in h3
      have cl : r.1.natAbs < 2 ^ 80 := Nat.lt_of_lt_of_le (lo r.1 rb.1) (by decide)
      have eb : rcds (rn xs) = a ++ (ownL (tN r.1) ++ (ownL (r.2 - 1) ++ rest)) := by
        rw [h1]
        unfold rcd cd
        rw [List.append_assoc]
      have eb2 : rcds (rn xs) = (a ++ ownL (tN r.1)) ++ (ownL (r.2 - 1) ++ rest) := by
        rw [eb, List.append_assoc]
      have tail : ∀ Q : Prop, Q → (bs = none ∨ bs = some 0) → Q := fun _ h _ => h
      have main : ∀ {G : Prop}, G → ∃ v, some (vo bs) = some v ∧ v = vo bs := fun _ => ⟨_, rfl, rfl⟩
      have skip : ∀ {A B : Hp → Prop}, B H → (∃ v, (([some (.str (S (enc .runs xs))), some (.ref t), some (.int ((xs.length : Nat) - (i : Nat) : Int)), some (.int (at0 : Nat)), some (.int ah), some (vo bs), none, none, none] : L2.St)[5]? = some (some v)) ∧ ((V.non : V) = .non ∧ ∃ c, V.bl (!decide (v = .non)) = .bl c ∧ if c = true then (∃ v, (([some (.str (S (enc .runs xs))), some (.ref t), some (.int ((xs.length : Nat) - (i : Nat) : Int)), some (.int (at0 : Nat)), some (.int ah), some (vo bs), none, none, none] : L2.St)[5]? = some (some v)) ∧ ∃ a b, v = .int a ∧ (V.int 0) = .int b ∧ ∃ c, V.bl (decide (a > b)) = .bl c ∧ if c = true then A H else B H) else if false = true then A H else B H)) := by
        intro A B hB
        rcases e with e | e
        · have e' : bs = none := e
          subst e'
          exact ⟨_, rfl, rfl, false, rfl, if_f (if_f hB)⟩
        · have e' : bs = some 0 := e
          subst e'
          exact ⟨_, rfl, rfl, true, rfl, if_t ⟨_, rfl, _, _, rfl, rfl, false, rfl, if_f hB⟩⟩
      refine skip ?_
      have la : a.length = at0 := h2
      refine ⟨_, rfl, _, rfl, a, ownL (r.2 - 1) ++ rest, tN r.1, ?_, tN_90 cl, ?_, fun u H1 s1 hu => ?_⟩
      · show [V.str (S (rcds (rn xs))), .int (at0 : Nat)] = _
        rw [eb, la]
      · rw [← eb]
        exact Nat.le_trans short (by decide)
      refine ⟨u, _, rfl, hu, rfl, _, _, rfl, _, _, rfl, rfl, ?_⟩
      refine ⟨_, rfl, _, rfl, a ++ ownL (tN r.1), rest, r.2 - 1, ?_, Nat.lt_of_le_of_lt (show r.2 - 1 ≤ 300 by omega) (by decide), ?_, fun u2 H2 s2 hu2 => ?_⟩
      · show [V.str (S (rcds (rn xs))), .int (a.length + (ownL (tN r.1)).length : Nat)] = _
        rw [eb2, List.length_append]
      · rw [← eb2]
        exact Nat.le_trans short (by decide)
      refine ⟨u2, _, rfl, hu2, rfl, _, _, rfl, _, _, rfl, rfl, ?_⟩
      refine ⟨_, rfl, _, rfl, _, _, rfl, rfl, false, ?_, if_f ?_⟩
      · exact congrArg V.bl (decide_eq_false (by omega))
      refine ⟨_, rfl, _, rfl, _, rfl, tN_abs cl, ?_⟩
      rw [bk_tN]
      refine ⟨_, rfl, by show 3 ≤ sizeLine; decide, fun t' nt => ?_⟩
      have el : (a ++ ownL (tN r.1)).length + (ownL (r.2 - 1)).length = at0 + (rcd r).length := by
        unfold rcd cd
        rw [List.length_append, List.length_append, la]
        omega
      refine q t' (at0 + (rcd r).length, r.1, some ((r.2 - 1 : Nat) : Int)) _ (s1.trans (s2.trans (same_new nt))) ?_ h4 h5 (Nat.le_add_right _ _)
      rw [upd_same, el]
      rfl
end
end Tg

namespace Tg
open PySem PySem.Spec PyProof.Rows L2
open SX (S)
abbrev sMB : Stmt := topS 28
abbrev sCC : Stmt := topS 29
abbrev sRC : Stmt := topS 30
abbrev NRC : List Str := ["bits", "at", "width", "many", "end", "place"]
theorem scMB : FnScope ["way", "bits", "many", "reader", "marks", "mark", "place"] ["way", "bits", "many"] (defScope sMB) := ⟨rfl, rfl, rfl, by decide +kernel, rfl, by decide +kernel, by decide +kernel⟩
theorem scCC : FnScope ["bits", "at", "width", "many", "end"] ["bits", "at", "width", "many"] (defScope sCC) := ⟨rfl, rfl, rfl, by decide +kernel, rfl, by decide +kernel, by decide +kernel⟩
theorem scRC : FnScope NRC ["bits", "at", "width", "many"] (defScope sRC) := ⟨rfl, rfl, rfl, by decide +kernel, rfl, by decide +kernel, by decide +kernel⟩
/-- what the written dict of readers holds -/
structure Rds (P : Program) (w : World) (K : PySem.W.Frag) (mg : Str → Option Value) (base : Heap) (k : Nat) (R : Addr) where
  fn : Way → Addr
  ex : ∀ W, Held P w K mg base k (fn W) (spRd K W)
  dct : ∀ W, KDct K w R (Wy.by W).nm (.ref (fn W))
/-- the marks at each 32nd number -/
def Mks (K : PySem.W.Frag) (H : Hp) (W : Way) (xs : List Int) (n : Nat) (ts : List Addr) : Prop := ts.length = (n + 31) / 32 ∧ ∀ (j : Nat) (t : Addr), ts[j]? = some t → ∃ m : Mrk, SqT K H t (mkV m) ∧ MkA W xs (32 * j) m
theorem Mks.kt {K : PySem.W.Frag} {H H' : Hp} {W : Way} {xs : List Int} {n : Nat} {ts : List Addr} (h : Mks K H W xs n ts) (k : KT H H') : Mks K H' W xs n ts := ⟨h.1, fun j t e => by
  obtain ⟨m, h1, h2⟩ := h.2 j t e
  exact ⟨m, sqT_kt k h1, h2⟩⟩
def spMB (K : PySem.W.Frag) : Sp := fun vs H Q _ => ∃ (W : Way) (xs : List Int), vs = [.str (Wy.by W).nm, .str (S (enc W xs)), .int (xs.length : Nat)] ∧ 0 < xs.length ∧ xs.length ≤ 300 ∧ Lo 70 xs ∧
  ∀ (l : Addr) (ts : List Addr) (H' : Hp), Same H H' → H l = none → H' l = some (.lst (ts.map V.ref)) → Mks K H' W xs xs.length ts → Q (.ref l) H'
section
variable {P : Program} {w : World} {K : PySem.W.Frag} {mg : Str → Option Value} {base : Heap} {f : Addr} {fd : FuncData} {k : Nat}
theorem ok_mb {RD BG : Addr} {t32 : Tok} (F : Fun K "marks_by" "marks_by" sMB f fd) (Z : Rds P w K mg base k RD) (g_READERS : mg "READERS" = some (.ref RD)) (g_BEGIN : mg "BEGIN" = some (.ref BG)) (hBG : ∀ H, SqT K H BG (mkV (0, 0, none))) (g_SPAN : mg "SPAN" = some (.int 32 t32)) (m_range : mg "range" = none) (m_len : mg "len" = none) :
    FnOk P w K mg base CX0 (k + 1) f fd ["way", "bits", "many"] (spMB K) := by
  refine F.ok scMB (fun vs H Q E h => ?_) (fun cdv A outer s H vs Q E hr h => ?_)
  · obtain ⟨W, xs, rfl, _⟩ := h
    rfl
  · obtain ⟨W, xs, rfl, pos, few, lo, q⟩ := h
    have HR : ∀ g sp, (fun g => if g = Z.fn W then some (spRd K W) else none) g = some sp → Held P w K mg base k g sp := fun g sp e => by
      dsimp only at e
      split at e
      · rename_i eg
        subst eg
        cases e
        exact Z.ex W
      · cases e
    refine ⟨_, pss_cons (ps_set (i := 3) scMB.nd rfl (.inl rfl) (pe_ix ix_kdict (pe_glob (v := .ref RD) rfl g_READERS rfl) (pv 0) (fun _ _ => rfl)))
      (pss_cons (ps_set (i := 4) scMB.nd rfl (.inl rfl) (pe_lst pa_nil))
      (pss_cons (ps_set (i := 5) scMB.nd rfl (.inl rfl) (pe_glob (v := .ref BG) rfl g_BEGIN rfl))
      (pss_cons (ps_for PassesOwn.never rfl (pi_range1 (by rfl) m_range (pa_cons (pv 2) pa_nil)) (pg_name (i := 6) scMB.nd rfl (.inl rfl))
        (pss_cons (ps_if (pt_cmpR op_eq (pe_op op_mod (pv 6) (pe_glob (v := .int 32) rfl g_SPAN ⟨_, rfl⟩)) pe_int (nomark _))
          (pss_one (ps_expr (pe_bm PySem.F.plainAttrs_list PySem.F.slot_list_append PySem.F.type_list_append mt_append (pv 4) (pa_cons (pv 5) pa_nil))))
          pss_nil)
        (pss_one (ps_set (i := 5) scMB.nd rfl (.inl rfl) (pe_callA (i := 3) HR (hr.mono (by omega)) rfl (.inl rfl) (pa_cons (pv 1) (pa_cons (pv 5) (pa_cons (pe_op op_sub (pv 2) (pv 6)) pa_nil))))))))
      (pss_cons (ps_if (pt_cmpR op_lt (pe_ix ix_tup (pv 5) pe_int (fun _ _ => rfl)) (pe_callB call_lenB (by rfl) m_len (by decide +kernel) (pa_cons (pv 1) pa_nil)) (nomark _))
        (pss_one ps_dead)
        pss_nil)
      (pss_one (ps_ret (pv 4))))))), ?_⟩
    have short := enc_short (W := W) lo few
    refine ⟨_, rfl, RD, (Wy.by W).nm, .ref (Z.fn W), rfl, rfl, Z.dct W, Nat.zero_le _, fun l nl => ?_⟩
    have s1 := same_new (o := .lst []) nl
    refine ⟨_, rfl, _, rfl, by omega, by omega, for_range (n := xs.length) (fun i σ Hc => ∃ (z : Option V) (t : Addr) (m : Mrk) (ts : List Addr), σ = [some (.str (Wy.by W).nm), some (.str (S (enc W xs))), some (.int (xs.length : Nat)), some (.ref (Z.fn W)), some (.ref l), some (.ref t), z] ∧ Same H Hc ∧ Hc l = some (.lst (ts.map V.ref)) ∧ SqT K Hc t (mkV m) ∧ MkA W xs i m ∧ Mks K Hc W xs i ts) ?_ ?_ ?_⟩
    · exact ⟨none, BG, (0, 0, none), [], rfl, s1, upd_same, hBG _, mk_begin W xs, rfl, fun j t e => by simp at e⟩
    · rintro i σ Hc hi ⟨z, t, m, ts, rfl, sm, hl, ht, hm, mks⟩
      have lts : ts.length ≤ 10 := by
        have := mks.1
        omega
      -- the turn's second row
      have go : ∀ (ts' : List Addr) (Hd : Hp), Same H Hd → Hd l = some (.lst (ts'.map V.ref)) → SqT K Hd t (mkV m) → Mks K Hd W xs (i + 1) ts' → ∀ Q' : V → Hp → Prop, (∀ (t' : Addr) (H' : Hp) (m' : Mrk), Same H H' → H' l = some (.lst (ts'.map V.ref)) → SqT K H' t' (mkV m') → MkA W xs (i + 1) m' → Mks K H' W xs (i + 1) ts' → Q' (.ref t') H') →
          spRd K W [.str (S (enc W xs)), .ref t, .int ((xs.length : Nat) - (0 + (i : Nat)) : Int)] Hd Q' (fun _ _ _ => False) := by
        intro ts' Hd s2 hl2 ht2 mk2 Q' h
        refine ⟨t, xs, i, m, by rw [Int.zero_add], ht2, hm, hi, lo, few, fun t' m' H' s3 ht' hm' _ _ => h t' H' m' (s2.trans s3) (s3 _ _ hl2) (SqT.of ht') hm' (mk2.kt (.of s3))⟩
      refine ⟨_, rfl, _, _, rfl, rfl, (by show (0 : Int) < 32; decide), rfl, _, rfl, ite2 (fun g => ?_) (fun g => ?_)⟩
      · have i0 : i % 32 = 0 := by
          rw [dec_int] at g
          have := of_decide_eq_true g
          omega
        refine ⟨_, rfl, .inl ⟨rfl, _, SqL.of hl⟩, _, rfl, l, _, _, rfl, rfl, hl, by rw [List.length_map]; exact small1000 (by omega), ?_⟩
        have kt : KT Hc (upd Hc l (.lst (ts.map V.ref ++ [.ref t]))) := KT.put hl nfix_lst
        have e1 : ts.map V.ref ++ [V.ref t] = (ts ++ [t]).map V.ref := by
          rw [List.map_append]
          rfl
        have mk2 : Mks K (upd Hc l (.lst (ts.map V.ref ++ [.ref t]))) W xs (i + 1) (ts ++ [t]) := by
          have m1 := mks.kt kt
          refine ⟨?_, fun j u e => ?_⟩
          · rw [List.length_append, m1.1]
            show _ + 1 = _
            omega
          · rcases Nat.lt_or_ge j ts.length with g2 | g2
            · rw [List.getElem?_append_left g2] at e
              exact m1.2 j u e
            · have ej : j = ts.length := by
                have := (List.getElem?_eq_some_iff.mp e).1
                rw [List.length_append] at this
                have z1 : [t].length = 1 := rfl
                omega
              subst ej
              rw [List.getElem?_append_right (Nat.le_refl _), Nat.sub_self] at e
              cases e
              refine ⟨m, sqT_kt kt ht, ?_⟩
              have : 32 * ts.length = i := by
                have := mks.1
                omega
              rw [this]
              exact hm
        refine ⟨Z.fn W, _, rfl, if_pos rfl, _, rfl, _, rfl, _, rfl, _, rfl, _, _, rfl, rfl, ?_⟩
        dsimp only [tNil]
        refine go (ts ++ [t]) _ (same_put nl sm) (by rw [upd_same, e1]) (sqT_kt kt ht) mk2 _ fun t' H' m' a b c d e => ?_
        exact ⟨_, t', m', ts ++ [t], rfl, a, b, c, d, e⟩
      · have i0 : ¬ i % 32 = 0 := fun z => g (by
          rw [dec_int]
          exact decide_eq_true (by omega))
        have mk2 : Mks K Hc W xs (i + 1) ts := ⟨by rw [mks.1]; omega, mks.2⟩
        refine ⟨Z.fn W, _, rfl, if_pos rfl, _, rfl, _, rfl, _, rfl, _, rfl, _, _, rfl, rfl, ?_⟩
        dsimp only [tNil]
        refine go ts _ sm hl ht mk2 _ fun t' H' m' a b c d e => ?_
        exact ⟨_, t', m', ts, rfl, a, b, c, d, e⟩
    · rintro σ Hc ⟨z, t, m, ts, rfl, sm, hl, ht, hm, mks⟩
      have em := mk_end hm
      refine ⟨_, rfl, t, _, 0, .int (m.1 : Nat), rfl, rfl, ht, rfl, _, rfl, enc W xs, rfl, by omega, _, _, rfl, rfl, false, ?_, if_f ?_⟩
      · rw [em]
        exact congrArg V.bl (decide_eq_false (by omega))
      · exact ⟨_, rfl, q l ts Hc sm nl hl mks⟩
def spCC : Sp := fun vs H Q _ => ∃ (l : List Nat) (a v n : Nat), vs = [.str (S l), .int (a : Nat), .int (v : Nat), .int (n : Nat)] ∧ v ≤ 1000 ∧ l.length ≤ 60000 ∧ a + v * n = l.length ∧ Q .non H
theorem ok_cc (F : Fun K "check_codes" "check_codes" sCC f fd) (m_len : mg "len" = none) : FnOk P w K mg base CX0 (k + 1) f fd ["bits", "at", "width", "many"] spCC := by
  refine F.ok scCC (fun vs H Q E h => ?_) (fun cdv A outer s H vs Q E hr h => ?_)
  · obtain ⟨l, a, v, n, rfl, _⟩ := h
    rfl
  · obtain ⟨l, a, v, n, rfl, few, big, e, q⟩ := h
    refine ⟨_, pss_cons (ps_set (i := 4) scCC.nd rfl (.inl rfl) (pe_op op_add (pv 1) (pe_op op_mul (pv 2) (pv 3))))
      (pss_cons (ps_if (pt_cmpR op_gt (pv 4) (pe_callB call_lenB (by rfl) m_len (by decide +kernel) (pa_cons (pv 0) pa_nil)) (nomark _))
        (pss_one ps_dead)
        pss_nil)
      (pss_one (ps_if (pt_cmpR op_lt (pv 4) (pe_callB call_lenB (by rfl) m_len (by decide +kernel) (pa_cons (pv 0) pa_nil)) (nomark _))
        (pss_one ps_dead)
        pss_nil))), ?_⟩
    have ev : ((a : Nat) : Int) + ((v : Nat) : Int) * ((n : Nat) : Int) = ((l.length : Nat) : Int) := by
      rw [← e, Int.natCast_add, Int.natCast_mul]
    refine ⟨_, rfl, _, rfl, _, rfl, _, _, rfl, rfl, .inl ⟨by omega, by omega⟩, _, _, rfl, rfl, ?_⟩
    dsimp only
    rw [ev]
    exact ⟨_, rfl, _, rfl, l, rfl, big, _, _, rfl, rfl, false, congrArg V.bl (decide_eq_false (by omega)), if_f ⟨_, rfl, _, rfl, l, rfl, big, _, _, rfl, rfl, false, congrArg V.bl (decide_eq_false (by omega)), if_f q⟩⟩
end
end Tg

namespace Tg
open PySem PySem.Spec PyProof.Rows L2
open SX (S)
abbrev sPH : Stmt := topS 31
abbrev sBH : Stmt := topS 32
theorem scPH : FnScope ["bits", "many", "least", "at", "width"] ["bits", "many"] (defScope sPH) := ⟨rfl, rfl, rfl, by decide +kernel, rfl, by decide +kernel, by decide +kernel⟩
theorem scBH : FnScope ["bits", "many", "last", "at", "least", "book", "gap", "width", "place", "code"] ["bits", "many"] (defScope sBH) := ⟨rfl, rfl, rfl, by decide +kernel, rfl, by decide +kernel, by decide +kernel⟩
/-! ### codes side by side -/
theorem flat_at {v : Nat} : ∀ {cs : List (List Nat)}, (∀ c, c ∈ cs → c.length = v) → ∀ (i : Nat) (c : List Nat) (rest : List Nat), cs[i]? = some c → ((cs.flatten ++ rest).drop (i * v)).take v = c
  | [], _, i, c, rest, e => by simp at e
  | d :: r, h, 0, c, rest, e => by
    cases e
    rw [Nat.zero_mul, List.drop_zero, List.flatten_cons, List.append_assoc, List.take_append_of_le_length (by rw [h d (.head _)]; exact Nat.le_refl _), List.take_of_length_le (by rw [h d (.head _)]; exact Nat.le_refl _)]
  | d :: r, h, i + 1, c, rest, e => by
    have ld := h d (.head _)
    rw [List.flatten_cons, List.append_assoc, Nat.succ_mul, Nat.add_comm, ← List.drop_drop, List.drop_append_of_le_length (by rw [ld]; exact Nat.le_refl _), show List.drop v d = [] from List.drop_of_length_le (by rw [ld]; exact Nat.le_refl _), List.nil_append]
    exact flat_at (fun y hy => h y (.tail _ hy)) i c rest e
theorem zeros_map : ∀ {cs : List (List Nat)}, (∀ c, c ∈ cs → c = []) → (List.replicate cs.length [V.int 0]).flatten = cs.map fun c => V.int (binNum c : Nat)
  | [], _ => rfl
  | c :: r, h => by
    rw [List.length_cons, List.replicate_succ, List.flatten_cons, zeros_map fun y hy => h y (.tail _ hy), h c (.head _)]
    rfl
theorem rgc_is {a e v : Int} {n : Nat} (hv : 0 < v) (v2 : v < 2 ^ 20) (ha : 0 ≤ a ∧ a < 2 ^ 40) (he : -(2 ^ 40) < e ∧ e < 2 ^ 40) (n2 : n < 2 ^ 20) (h1 : n = 0 ∨ a + ((n : Nat) - 1 : Int) * v < e) (h2 : e ≤ a + (n : Nat) * v) : RgC a e v n := by
  have hs : Builtin.Range.rangeSize a e v = (n : Nat) := by
    delta Builtin.Range.rangeSize
    rw [if_pos hv]
    cases n with
    | zero =>
      rw [if_neg (by
        have e0 : ((0 : Nat) : Int) * v = 0 := Int.zero_mul v
        omega)]
      rfl
    | succ m =>
      have em : ((m + 1 : Nat) : Int) * v = (m : Int) * v + v := by
        rw [Int.natCast_add, Int.add_mul]
        show (m : Int) * v + 1 * v = _
        rw [Int.one_mul]
      have m0 : 0 ≤ (m : Int) * v := Int.mul_nonneg (by omega) (by omega)
      have h1' : a + (m : Int) * v < e := by
        rcases h1 with z | z
        · omega
        · rw [show (((m + 1 : Nat) : Nat) : Int) - 1 = (m : Int) by omega] at z
          exact z
      rw [em] at h2
      rw [if_pos (by omega)]
      have d : (e - a - 1) / v = m := by
        refine Int.le_antisymm (Int.lt_add_one_iff.mp (Int.ediv_lt_of_lt_mul hv ?_)) (Int.le_ediv_of_mul_le hv ?_)
        · rw [Int.add_mul, Int.one_mul]
          omega
        · omega
      rw [d]
      omega
  refine ⟨by omega, by omega, ?_, hs⟩
  unfold Builtin.Range.small
  rw [hs]
  simp only [Builtin.Range.rangeFitsLong, Bool.and_eq_true, Bool.or_eq_true, decide_eq_true_eq, beq_iff_eq, if_pos (show v > 0 from hv)]
  refine ⟨⟨⟨⟨⟨?_, ?_⟩, ?_, ?_⟩, ?_, ?_⟩, ?_, ?_⟩, .inr ⟨?_, ?_⟩⟩ <;> omega
section
variable {P : Program} {w : World} {K : PySem.W.Frag} {mg : Str → Option Value} {base : Heap} {f : Addr} {fd : FuncData} {k : Nat}
def spRC : Sp := fun vs H Q _ => ∃ (a rest : List Nat) (cs : List (List Nat)) (v : Nat), vs = [.str (S (a ++ (cs.flatten ++ rest))), .int (a.length : Nat), .int (v : Nat), .int (cs.length : Nat)] ∧ (∀ c, c ∈ cs → c.length = v ∧ ∀ d, d ∈ c → IsBin d) ∧ v ≤ 600 ∧ cs.length ≤ 360 ∧ (a ++ (cs.flatten ++ rest)).length ≤ 60000 ∧
  ∀ (m : Addr) (H' : Hp), Same H H' → H m = none → H' m = some (.lst (cs.map fun c => V.int (binNum c : Nat))) → Q (.ref m) H'
theorem ok_rc (F : Fun K "read_codes" "read_codes" sRC f fd) (m_len : mg "len" = none) (m_min : mg "min" = none) (m_range : mg "range" = none) (m_int : mg "int" = none) : FnOk P w K mg base CX0 (k + 1) f fd ["bits", "at", "width", "many"] spRC := by
  refine F.ok scRC (fun vs H Q E h => ?_) (fun cdv A outer s H vs Q E hr h => ?_)
  · obtain ⟨a, rest, cs, v, rfl, _⟩ := h
    rfl
  · obtain ⟨a, rest, cs, v, rfl, each, v6, n2, big, q⟩ := h
    refine ⟨_, pss_cons (ps_if (pt_cmpR op_eq (pv 2) pe_int (nomark _))
        (pss_one (ps_ret (pe_op op_rep (pe_lst (pa_cons pe_int pa_nil)) (pv 3))))
        pss_nil)
      (pss_cons (ps_set (i := 4) scRC.nd rfl (.inl rfl) (pe_callB (call_min2 rfl) (by rfl) m_min (by decide +kernel) (pa_cons (pe_op op_add (pv 1) (pe_op op_mul (pv 2) (pv 3))) (pa_cons (pe_op op_add (pe_op op_sub (pe_callB call_lenB (by rfl) m_len (by decide +kernel) (pa_cons (pv 0) pa_nil)) (pv 2)) pe_int) pa_nil))))
      (pss_one (ps_ret (pe_lc (own := [("place", 5)]) (g := (gName 5)) (tt := tYes) rfl scRC.nd (pi_range3 (by rfl) m_range (pa_cons (pv 1) (pa_cons (pv 4) (pa_cons (pv 2) pa_nil)))) (blkOk_by (own := [("place", 5)]) (N := NRC) (sc := defScope sRC) (by decide +kernel)) (fun _ _ _ _ _ => (pg_name (i := 5) scRC.nd rfl (.inl rfl))) (fun _ _ _ _ _ => pts_nil) (fun _ _ _ _ _ => (pe_callTy call_int_bin (by rfl) m_int (by decide +kernel) (pa_cons (pe_slice sl_str (pv 0) (po_some (pv 5)) (po_some (pe_op op_add (pv 5) (pv 2)))) (pa_cons pe_int pa_nil)))))))), ?_⟩
    obtain ⟨n, en⟩ : ∃ n, cs.length = n := ⟨_, rfl⟩
    have fl : cs.flatten.length = n * v := by
      rw [flat_same fun y hy => (each y hy).1, en]
    obtain ⟨l, el⟩ : ∃ l, a ++ (cs.flatten ++ rest) = l := ⟨_, rfl⟩
    have ll : l.length = a.length + n * v + rest.length := by
      rw [← el, List.length_append, List.length_append, fl]
      omega
    rw [el] at big ⊢
    rw [en] at n2 ⊢
    refine ⟨_, rfl, rfl, _, rfl, ite2 (fun g => ?_) (fun g => ?_)⟩
    · have v0 : v = 0 := by
        rw [dec_int] at g
        have := of_decide_eq_true g
        omega
      refine ⟨by show 1 ≤ sizeLine; decide, fun l1 n1 => ?_⟩
      have s1 := same_new (o := .lst [V.int 0]) n1
      refine ⟨_, rfl, l1, _, _, rfl, rfl, upd_same, by omega, by omega, ?_, fun m nm => ?_⟩
      · show 1 * _ ≤ sizeLine
        exact Nat.le_of_lt (small1000 (by omega))
      · refine q m _ (s1.trans (same_new nm)) (s1.free nm) ?_
        rw [upd_same, Int.toNat_natCast]
        congr 2
        rw [← en]
        exact zeros_map fun c hc => List.length_eq_zero_iff.mp (by rw [(each c hc).1, v0])
    · have vp : 0 < v := by
        have : ¬ v = 0 := fun z => g (by
          rw [dec_int]
          exact decide_eq_true (by omega))
        omega
      have nv : n * v ≤ 360 * 600 := Nat.mul_le_mul n2 v6
      have cast : ((n * v : Nat) : Int) = (v : Int) * (n : Int) := by rw [Int.natCast_mul, Int.mul_comm]
      refine ⟨_, rfl, _, rfl, _, rfl, _, _, rfl, rfl, .inl ⟨by omega, by omega⟩, _, _, rfl, rfl, ?_⟩
      refine ⟨_, rfl, l, rfl, big, _, rfl, _, _, rfl, rfl, _, _, rfl, rfl, _, _, rfl, ?_⟩
      dsimp only
      obtain ⟨e, ee⟩ : ∃ e : Int, (if ((l.length : Nat) : Int) - (v : Nat) + 1 < (a.length : Nat) + (v : Nat) * (n : Nat) then ((l.length : Nat) : Int) - (v : Nat) + 1 else (a.length : Nat) + (v : Nat) * (n : Nat)) = e := ⟨_, rfl⟩
      rw [ee]
      have eb : e ≤ (a.length : Nat) + (n : Nat) * (v : Nat) ∧ (n = 0 ∨ ((a.length : Nat) : Int) + ((n : Nat) - 1 : Int) * (v : Nat) < e) ∧ -(2 ^ 40) < e ∧ e < 2 ^ 40 := by
        have c2 : ((n : Nat) : Int) * (v : Nat) = (v : Int) * (n : Int) := Int.mul_comm _ _
        rw [Int.sub_mul, c2, Int.one_mul, ← cast]
        rw [← cast] at ee
        split at ee <;> omega
      refine ⟨_, rfl, _, rfl, _, rfl, _, _, _, n, rfl, rgc_is (by omega) (by omega) ⟨by omega, by omega⟩ eb.2.2 (by omega) eb.2.1 eb.1, fun D nD => lc_mapC (n := n) (cs.map fun c => V.int (binNum c : Nat)) (by rw [List.length_map, en]) nD (small1000 (by omega)) (fun i y Hc Q' hi hy sm q' => ?_) fun H' sm hD => q D H' sm nD hD⟩
      rw [List.getElem?_map] at hy
      obtain ⟨c, ec, rfl⟩ := Option.map_eq_some_iff.mp hy
      obtain ⟨cl, cb⟩ := each c (List.mem_of_getElem? ec)
      have iv : i * v + v ≤ n * v := by
        have := Nat.mul_le_mul_right v (show i + 1 ≤ n from hi)
        rw [Nat.succ_mul] at this
        exact this
      have ep : ((a.length : Nat) : Int) + ((i : Nat) : Int) * ((v : Nat) : Int) = ((a.length + i * v : Nat) : Int) := by
        rw [Int.natCast_add, Int.natCast_mul]
      have ep2 : ((a.length + i * v : Nat) : Int) + ((v : Nat) : Int) = ((a.length + i * v + v : Nat) : Int) := by omega
      refine ⟨rfl, _, rfl, _, rfl, ?_⟩
      refine ⟨_, rfl, _, rfl, _, rfl, _, _, rfl, rfl, _, rfl, S l, rfl, by rw [SX.S_len]; exact fit60 big, ?_⟩
      rw [ep, ep2, cut_S l (by omega) (by omega), Nat.add_sub_cancel_left, ← el, ← List.drop_drop, List.drop_left, flat_at (fun y hy => (each y hy).1) i c rest ec]
      exact ⟨c, rfl, (fun z => by rw [z] at cl; exact absurd cl (by show ¬ 0 = v; omega)), by omega, cb, q' Hc (Same.refl _)⟩
end
end Tg

namespace Tg
open PySem PySem.Spec PyProof.Rows L2
open SX (S)
section
variable {P : Program} {w : World} {K : PySem.W.Frag} {mg : Str → Option Value} {base : Heap} {f : Addr} {fd : FuncData} {k : Nat}
theorem plC_in {xs : List Int} {c : List Nat} (h : c ∈ plC xs) : c.length = wdP xs ∧ ∀ d, d ∈ c → IsBin d := by
  obtain ⟨x, _, rfl⟩ := List.mem_map.mp h
  exact ⟨bt_len _ _, bt_bin _ _⟩
theorem bkC_in {xs : List Int} {c : List Nat} (h : c ∈ bkC xs) : c.length = wdB xs ∧ ∀ d, d ∈ c → IsBin d := by
  obtain ⟨x, _, rfl⟩ := List.mem_map.mp h
  exact ⟨bt_len _ _, bt_bin _ _⟩
/-- what stands ahead of the codes -/
def atP (xs : List Int) : Nat := (cd (mnI xs)).length + (ownL (wdP xs)).length
def atB (xs : List Int) : Nat := (ownL ((bookOf xs).length - 1) ++ cd ((bookOf xs).headD 0) ++ (gpC xs).flatten).length
def spPH : Sp := fun vs H Q _ => ∃ xs : List Int, vs = [.str (S (encP xs)), .int (xs.length : Nat)] ∧ 0 < xs.length ∧ xs.length ≤ 300 ∧ Lo 70 xs ∧
  ∀ (t : Addr) (H' : Hp), Same H H' → H' t = some (.tup [.int (atP xs : Nat), .int (wdP xs : Nat), .int (mnI xs)]) → Q (.ref t) H'
theorem encP_len {xs : List Int} (pos : 0 < xs.length) (few : xs.length ≤ 300) (lo : Lo 70 xs) : (encP xs).length = atP xs + wdP xs * xs.length ∧ atP xs ≤ 400 ∧ wdP xs ≤ 71 := by
  have ne : xs ≠ [] := fun z => by subst z; exact absurd pos (by decide)
  have w71 := wdP_le lo ne
  have c1 := cd_len (Nat.lt_of_lt_of_le (lo _ (mnI_is ne).1) (show 2 ^ 70 ≤ 2 ^ 80 by decide))
  have c2 := own_short (n := wdP xs) (w := 10) (by omega)
  refine ⟨?_, ?_, w71⟩
  · unfold encP atP
    rw [List.length_append, List.length_append, flat_same fun l h => (plC_in h).1]
    unfold plC
    rw [List.length_map, Nat.mul_comm]
  · unfold atP
    omega
theorem ok_ph (F : Fun K "plain_head" "plain_head" sPH f fd) (C_read_own : Cal P w K mg base k "read_own" ["bits", "at"] (spRO K)) (C_back : Cal P w K mg base k "back" ["number"] spBa) (C_check_codes : Cal P w K mg base k "check_codes" ["bits", "at", "width", "many"] spCC) : FnOk P w K mg base CX0 (k + 1) f fd ["bits", "many"] spPH := by
  refine F.ok scPH (fun vs H Q E h => ?_) (fun cdv A outer s H vs Q E hr h => ?_)
  · obtain ⟨xs, rfl, _⟩ := h
    rfl
  · obtain ⟨xs, rfl, pos, few, lo, q⟩ := h
    refine ⟨_, pss_cons (ps_asg (pe_cal C_read_own (hr.mono (by omega)) (by rfl) (pa_cons (pv 0) (pa_cons pe_int pa_nil))) (pg_tup rfl (pgs_cons (pg_name (i := 2) scPH.nd rfl (.inl rfl)) (pgs_cons (pg_name (i := 3) scPH.nd rfl (.inl rfl)) pgs_nil))))
      (pss_cons (ps_asg (pe_cal C_read_own (hr.mono (by omega)) (by rfl) (pa_cons (pv 0) (pa_cons (pv 3) pa_nil))) (pg_tup rfl (pgs_cons (pg_name (i := 4) scPH.nd rfl (.inl rfl)) (pgs_cons (pg_name (i := 3) scPH.nd rfl (.inl rfl)) pgs_nil))))
      (pss_cons (ps_expr (pe_cal C_check_codes (hr.mono (by omega)) (by rfl) (pa_cons (pv 0) (pa_cons (pv 3) (pa_cons (pv 4) (pa_cons (pv 1) pa_nil))))))
      (pss_one (ps_ret (pe_tup (pa_cons (pv 3) (pa_cons (pv 4) (pa_cons (pe_cal C_back (hr.mono (by omega)) (by rfl) (pa_cons (pv 2) pa_nil)) pa_nil)))))))), ?_⟩
    have ne : xs ≠ [] := fun z => by subst z; exact absurd pos (by decide)
    obtain ⟨l1, l2, l3⟩ := encP_len pos few lo
    have sz : wdP xs * xs.length ≤ 71 * 300 := Nat.mul_le_mul l3 few
    have cl := Nat.lt_of_lt_of_le (lo _ (mnI_is ne).1) (show 2 ^ 70 ≤ 2 ^ 80 by decide)
    have e1 : encP xs = [] ++ (ownL (tN (mnI xs)) ++ (ownL (wdP xs) ++ (plC xs).flatten)) := by
      unfold encP cd
      rw [List.nil_append, List.append_assoc]
    have e2 : encP xs = cd (mnI xs) ++ (ownL (wdP xs) ++ (plC xs).flatten) := by
      unfold encP
      rw [List.append_assoc]
    refine ⟨_, rfl, [], ownL (wdP xs) ++ (plC xs).flatten, tN (mnI xs), by rw [← e1]; rfl, tN_90 cl, by rw [← e1]; omega, fun u H1 s1 hu => ?_⟩
    refine ⟨u, _, rfl, hu, rfl, _, _, rfl, _, _, rfl, rfl, ?_⟩
    refine ⟨_, rfl, _, rfl, cd (mnI xs), (plC xs).flatten, wdP xs, ?_, by omega, by rw [← e2]; omega, fun u2 H2 s2 hu2 => ?_⟩
    · rw [← e2]
      show _ = [V.str (S (encP xs)), V.int (((ownL (tN (mnI xs))).length : Nat) : Int)]
      simp only [List.length_nil, Nat.zero_add]
      rfl
    refine ⟨u2, _, rfl, hu2, rfl, _, _, rfl, _, _, rfl, rfl, ?_⟩
    refine ⟨_, rfl, _, rfl, _, rfl, _, rfl, encP xs, atP xs, wdP xs, xs.length, rfl, by omega, by omega, l1.symm, ?_⟩
    refine ⟨_, rfl, _, rfl, _, rfl, _, rfl, tN_abs cl, ?_⟩
    rw [bk_tN]
    refine ⟨by show 3 ≤ sizeLine; decide, fun t nt => ?_⟩
    exact q t _ ((s1.trans s2).trans (same_new nt)) upd_same
end
end Tg

namespace Tg
open PySem PySem.Spec PyProof.Rows L2
open SX (S)
def hdB (xs : List Int) : List Nat := ownL ((bookOf xs).length - 1) ++ cd ((bookOf xs).headD 0)
theorem encB_len {xs : List Int} (pos : 0 < xs.length) (few : xs.length ≤ 300) (lo : Lo 70 xs) : (encB xs).length = atB xs + wdB xs * xs.length ∧ atB xs ≤ 56000 ∧ wdB xs ≤ 9 ∧ (bookOf xs).length ≤ 300 ∧ 0 < (bookOf xs).length ∧ Lo 70 (bookOf xs) ∧ (bookOf xs).Pairwise (· < ·) := by
  obtain ⟨up, mem⟩ := book_is xs
  obtain ⟨b, eb⟩ : ∃ b, bookOf xs = b := ⟨_, rfl⟩
  have bl : b.length ≤ 300 := by
    rw [← eb]
    exact Nat.le_trans (book_len xs) few
  have bp : 0 < b.length := by
    rw [← eb]
    exact book_ne pos
  have blo : Lo 70 b := fun x hx => lo x ((mem x).mp (by rw [eb]; exact hx))
  have w8 : wdB xs ≤ 9 := by
    unfold wdB
    rw [eb]
    exact blen_le (by omega)
  obtain ⟨b0, eb0⟩ : ∃ b0, b[0]? = some b0 := ⟨_, List.getElem?_eq_getElem bp⟩
  have b0lo : b0.natAbs < 2 ^ 80 := Nat.lt_of_lt_of_le (blo b0 (List.mem_of_getElem? eb0)) (by decide)
  have c1 := cd_len b0lo
  have c2 := own_short (n := b.length - 1) (w := 9) (by omega)
  have g1 : (gpC xs).flatten.length ≤ 170 * 300 := by
    refine Nat.le_trans (flat_le (n := 170) fun y hy => ?_) (Nat.mul_le_mul (Nat.le_refl _) ?_)
    · obtain ⟨d, hd, rfl⟩ := List.mem_map.mp hy
      rw [eb] at hd
      have d2 := lo_difs blo _ hd
      have := own_short (n := (d - 1).toNat) (w := 73) (by
        have e73 : (2 : Nat) ^ 73 = 2 ^ 71 * 4 := rfl
        have d2' : d.natAbs < 2 ^ 71 := d2
        omega)
      omega
    · unfold gpC
      rw [List.length_map, eb, difs_len]
      omega
  refine ⟨?_, ?_, w8, by rw [eb]; exact bl, by rw [eb]; exact bp, by rw [eb]; exact blo, up⟩
  · unfold encB atB
    rw [List.length_append, flat_same (w := wdB xs) fun l h => (bkC_in h).1]
    unfold bkC
    rw [List.length_map, Nat.mul_comm]
  · unfold atB
    rw [List.length_append, List.length_append, eb, headD_of eb0]
    omega
def muB : L2.St → Hp → Nat := fun σ _ => match σ[3]? with
  | some (some (V.int a)) => (60000 - a).toNat
  | _ => 0
theorem book_code {xs : List Int} {i : Nat} (h : i < xs.length) : ((xs.map fun x => V.int ((bookOf xs).idxOf x : Nat)))[i]? = some (V.int ((bookOf xs).idxOf xs[i] : Nat)) := by
  rw [List.getElem?_map, List.getElem?_eq_getElem h]
  rfl
theorem book_codes {xs : List Int} : ((bkC xs).map fun c => V.int (binNum c : Nat)) = xs.map fun x => V.int ((bookOf xs).idxOf x : Nat) := by
  unfold bkC
  rw [List.map_map]
  refine List.map_congr_left fun x hx => ?_
  have lt : (bookOf xs).idxOf x < (bookOf xs).length := List.idxOf_lt_length_of_mem (((book_is xs).2 x).mpr hx)
  show V.int (binNum (bt (wdB xs) _) : Nat) = _
  rw [num_bt, Nat.mod_eq_of_lt]
  exact Nat.lt_of_le_of_lt (show _ ≤ (bookOf xs).length - 1 by omega) (lt_blen _)
section
variable {P : Program} {w : World} {K : PySem.W.Frag} {mg : Str → Option Value} {base : Heap} {f : Addr} {fd : FuncData} {k : Nat}
def spBH : Sp := fun vs H Q _ => ∃ xs : List Int, vs = [.str (S (encB xs)), .int (xs.length : Nat)] ∧ 0 < xs.length ∧ xs.length ≤ 300 ∧ Lo 70 xs ∧
  ∀ (t l : Addr) (H' : Hp), Same H H' → H l = none → H' t = some (.tup [.int (atB xs : Nat), .int (wdB xs : Nat), .ref l]) → NL H' l (bookOf xs) → Q (.ref t) H'
theorem ok_bh (F : Fun K "book_head" "book_head" sBH f fd) (C_read_own : Cal P w K mg base k "read_own" ["bits", "at"] (spRO K)) (C_back : Cal P w K mg base k "back" ["number"] spBa) (C_check_codes : Cal P w K mg base k "check_codes" ["bits", "at", "width", "many"] spCC) (C_read_codes : Cal P w K mg base k "read_codes" ["bits", "at", "width", "many"] spRC) (m_len : mg "len" = none) (m_enumerate : mg "enumerate" = none) : FnOk P w K mg base CX0 (k + 1) f fd ["bits", "many"] spBH := by
  refine F.ok scBH (fun vs H Q E h => ?_) (fun cdv A outer s H vs Q E hr h => ?_)
  · obtain ⟨xs, rfl, _⟩ := h
    rfl
  · obtain ⟨xs, rfl, pos, few, lo, q⟩ := h
    refine ⟨_, pss_cons (ps_asg (pe_cal C_read_own (hr.mono (by omega)) (by rfl) (pa_cons (pv 0) (pa_cons pe_int pa_nil))) (pg_tup rfl (pgs_cons (pg_name (i := 2) scBH.nd rfl (.inl rfl)) (pgs_cons (pg_name (i := 3) scBH.nd rfl (.inl rfl)) pgs_nil))))
      (pss_cons (ps_asg (pe_cal C_read_own (hr.mono (by omega)) (by rfl) (pa_cons (pv 0) (pa_cons (pv 3) pa_nil))) (pg_tup rfl (pgs_cons (pg_name (i := 4) scBH.nd rfl (.inl rfl)) (pgs_cons (pg_name (i := 3) scBH.nd rfl (.inl rfl)) pgs_nil))))
      (pss_cons (ps_set (i := 5) scBH.nd rfl (.inl rfl) (pe_lst (pa_cons (pe_cal C_back (hr.mono (by omega)) (by rfl) (pa_cons (pv 4) pa_nil)) pa_nil)))
      (pss_cons (ps_while PassesOwn.never (pt_cmpR op_le (pe_callB call_len_seq (by rfl) m_len (by decide +kernel) (pa_cons (pv 5) pa_nil)) (pv 2) (nomark _))
        (pss_cons (ps_asg (pe_cal C_read_own (hr.mono (by omega)) (by rfl) (pa_cons (pv 0) (pa_cons (pv 3) pa_nil))) (pg_tup rfl (pgs_cons (pg_name (i := 6) scBH.nd rfl (.inl rfl)) (pgs_cons (pg_name (i := 3) scBH.nd rfl (.inl rfl)) pgs_nil))))
        (pss_one (ps_expr (pe_bm PySem.F.plainAttrs_list PySem.F.slot_list_append PySem.F.type_list_append mt_append (pv 5) (pa_cons (pe_op op_add (pe_op op_add (pe_ix ix_list (pv 5) (pe_un un_neg pe_int) (fun _ _ => rfl)) (pv 6)) pe_int) pa_nil))))))
      (pss_cons (ps_set (i := 7) scBH.nd rfl (.inl rfl) (pe_bits (pv 2)))
      (pss_cons (ps_for PassesOwn.never rfl (pi_enum (by rfl) m_enumerate (pa_cons (pe_cal C_read_codes (hr.mono (by omega)) (by rfl) (pa_cons (pv 0) (pa_cons (pv 3) (pa_cons (pv 7) (pa_cons (pv 1) pa_nil))))) pa_nil)) (pg_tup rfl (pgs_cons (pg_name (i := 8) scBH.nd rfl (.inl rfl)) (pgs_cons (pg_name (i := 9) scBH.nd rfl (.inl rfl)) pgs_nil)))
        (pss_one (ps_if (pt_cmpR op_gt (pv 9) (pv 2) (nomark _))
          (pss_one ps_dead)
          pss_nil)))
      (pss_cons (ps_expr (pe_cal C_check_codes (hr.mono (by omega)) (by rfl) (pa_cons (pv 0) (pa_cons (pv 3) (pa_cons (pv 7) (pa_cons (pv 1) pa_nil))))))
      (pss_one (ps_ret (pe_tup (pa_cons (pv 3) (pa_cons (pv 7) (pa_cons (pv 5) pa_nil)))))))))))), ?_⟩
    obtain ⟨l1, l2, l3, bl, bp, blo, up⟩ := encB_len pos few lo
    have sz : wdB xs * xs.length ≤ 9 * 300 := Nat.mul_le_mul l3 few
    obtain ⟨b, eb⟩ : ∃ b, bookOf xs = b := ⟨_, rfl⟩
    rw [eb] at bl bp blo up
    obtain ⟨b0, eb0⟩ : ∃ b0, b[0]? = some b0 := ⟨_, List.getElem?_eq_getElem bp⟩
    have b0lo : b0.natAbs < 2 ^ 80 := Nat.lt_of_lt_of_le (blo b0 (List.mem_of_getElem? eb0)) (by decide)
    have gl : (gpC xs).length = b.length - 1 := by
      unfold gpC
      rw [List.length_map, eb, difs_len]
    have e0 : encB xs = hdB xs ++ ((gpC xs).flatten ++ (bkC xs).flatten) := by
      unfold encB hdB
      rw [List.append_assoc]
    have hdb : hdB xs = ownL (b.length - 1) ++ ownL (tN b0) := by
      unfold hdB cd
      rw [eb, headD_of eb0]
    have e1 : encB xs = [] ++ (ownL (b.length - 1) ++ (ownL (tN b0) ++ ((gpC xs).flatten ++ (bkC xs).flatten))) := by
      rw [e0, hdb, List.nil_append, List.append_assoc]
    have e2 : encB xs = ownL (b.length - 1) ++ (ownL (tN b0) ++ ((gpC xs).flatten ++ (bkC xs).flatten)) := by
      rw [e1, List.nil_append]
    have pl_end : (hdB xs ++ ((gpC xs).take (b.length - 1)).flatten).length = atB xs := by
      rw [List.take_of_length_le (by omega)]
      unfold atB hdB
      rfl
    refine ⟨_, rfl, [], _, b.length - 1, by rw [← e1]; rfl, Nat.lt_of_le_of_lt (show b.length - 1 ≤ 300 by omega) (by decide), by rw [← e1]; omega, fun u H1 s1 hu => ?_⟩
    refine ⟨u, _, rfl, hu, rfl, _, _, rfl, _, _, rfl, rfl, ?_⟩
    refine ⟨_, rfl, _, rfl, ownL (b.length - 1), _, tN b0, ?_, tN_90 b0lo, by rw [← e2]; omega, fun u2 H2 s2 hu2 => ?_⟩
    · rw [← e2]
      show _ = [V.str (S (encB xs)), V.int (((ownL (b.length - 1)).length : Nat) : Int)]
      simp only [List.length_nil, Nat.zero_add]
      rfl
    refine ⟨u2, _, rfl, hu2, rfl, _, _, rfl, _, _, rfl, rfl, ?_⟩
    refine ⟨_, rfl, _, rfl, tN_abs b0lo, ?_⟩
    rw [bk_tN]
    refine ⟨by show 1 ≤ sizeLine; decide, fun l nl => ?_⟩
    have s3 := same_new (o := .lst [V.int b0]) nl
    have at0 : (ownL (b.length - 1)).length + (ownL (tN b0)).length = (hdB xs ++ ((gpC xs).take 0).flatten).length := by
      rw [hdb, List.take_zero, List.flatten_nil, List.append_nil, List.length_append]
    refine while_by (fun σ Hc => ∃ (i : Nat) (z : Option V), σ = [some (.str (S (encB xs))), some (.int (xs.length : Nat)), some (.int (b.length - 1 : Nat)), some (.int ((hdB xs ++ ((gpC xs).take i).flatten).length : Nat)), some (.int (tN b0 : Nat)), some (.ref l), z, none, none, none] ∧ i < b.length ∧ Same H Hc ∧ Hc l = some (.lst ((b.take (i + 1)).map V.int))) muB ?_ ?_ ?_
    · refine ⟨0, none, ?_, bp, (s1.trans s2).trans s3, ?_⟩
      · rw [← at0]
        rfl
      · rw [upd_same, List.take_add_one, eb0]
        rfl
    · rintro σ Hc ⟨i, z, rfl, hi, sm, hl⟩
      have lt : ((b.take (i + 1)).map V.int).length = i + 1 := by
        rw [List.length_map, List.length_take]
        omega
      refine ⟨_, rfl, l, _, rfl, .inl (SqL.of hl), _, rfl, _, _, rfl, rfl, _, rfl, ite2 (fun g => ?_) (fun g => ?_)⟩
      · have g1 : i + 1 < b.length := by
          have := of_decide_eq_true g
          rw [lt] at this
          omega
        obtain ⟨x, ex⟩ : ∃ x, b[i]? = some x := ⟨_, List.getElem?_eq_getElem hi⟩
        obtain ⟨y, ey⟩ : ∃ y, b[i + 1]? = some y := ⟨_, List.getElem?_eq_getElem g1⟩
        have ed := difs_at b i x y ex ey
        have d1 := up_gap up _ (List.mem_of_getElem? ed)
        have d2 := lo_difs blo _ (List.mem_of_getElem? ed)
        have eg : (gpC xs)[i]? = some (ownL (y - x - 1).toNat) := by
          unfold gpC
          rw [List.getElem?_map, eb, ed]
          rfl
        have n90 : (y - x - 1).toNat < 2 ^ 90 := Nat.lt_of_le_of_lt (show (y - x - 1).toNat ≤ (y - x).natAbs by omega) (Nat.lt_trans d2 (by decide))
        have gs : (gpC xs).flatten = ((gpC xs).take i).flatten ++ (ownL (y - x - 1).toNat ++ ((gpC xs).drop (i + 1)).flatten) := by
          conv => lhs; rw [← List.take_append_drop i (gpC xs), List.flatten_append]
          obtain ⟨hg, eg2⟩ := List.getElem?_eq_some_iff.mp eg
          rw [List.drop_eq_getElem_cons hg, eg2, List.flatten_cons]
        have e3 : encB xs = (hdB xs ++ ((gpC xs).take i).flatten) ++ (ownL (y - x - 1).toNat ++ (((gpC xs).drop (i + 1)).flatten ++ (bkC xs).flatten)) := by
          rw [e0, gs]
          simp only [List.append_assoc]
        have nx : (hdB xs ++ ((gpC xs).take i).flatten).length + (ownL (y - x - 1).toNat).length = (hdB xs ++ ((gpC xs).take (i + 1)).flatten).length := by
          rw [List.take_add_one, eg, Option.toList_some, List.flatten_append, List.flatten_cons, List.flatten_nil, List.append_nil, ← List.append_assoc, List.length_append (as := hdB xs ++ ((gpC xs).take i).flatten)]
        have ol := own_len (y - x - 1).toNat
        have tot : (hdB xs ++ ((gpC xs).take i).flatten).length + (ownL (y - x - 1).toNat).length ≤ (encB xs).length := by
          rw [e3, List.length_append (as := hdB xs ++ ((gpC xs).take i).flatten), List.length_append (as := ownL _)]
          omega
        refine ⟨_, rfl, _, rfl, hdB xs ++ ((gpC xs).take i).flatten, _, (y - x - 1).toNat, by rw [← e3]; rfl, n90, by rw [← e3]; omega, fun u3 H4 s4 hu3 => ?_⟩
        refine ⟨u3, _, rfl, hu3, rfl, _, _, rfl, _, _, rfl, rfl, ?_⟩
        have hl4 := s4 _ _ hl
        have et : (b.take (i + 1)).map V.int = (b.take i).map V.int ++ [V.int x] := by
          rw [List.take_add_one, ex, Option.toList_some, List.map_append]
          rfl
        have et2 : (b.take (i + 1 + 1)).map V.int = (b.take (i + 1)).map V.int ++ [V.int y] := by
          rw [List.take_add_one (i := i + 1), ey, Option.toList_some, List.map_append]
          rfl
        refine ⟨_, rfl, .inl ⟨rfl, _, SqL.of hl4⟩, _, rfl, 1, rfl, l, _, -1, .int x, rfl, rfl, SqL.of hl4, (by rw [et]; exact atI_last _ _), _, rfl, _, _, rfl, rfl, _, _, rfl, rfl, l, _, _, rfl, rfl, hl4, small1000 (by omega), ?_⟩
        refine ⟨⟨i + 1, some (.int ((y - x - 1).toNat : Nat)), ?_, g1, same_put ((s1.trans s2).free nl) (sm.trans s4), ?_⟩, ?_⟩
        · rw [← nx]
          rfl
        · rw [upd_same, et2]
          show some (HO.lst (_ ++ [V.int (x + ((y - x - 1).toNat : Nat) + 1)])) = _
          rw [show x + ((y - x - 1).toNat : Nat) + 1 = y by omega]
        · obtain ⟨e1', e2'⟩ : ∃ a : Nat, (hdB xs ++ ((gpC xs).take i).flatten).length = a := ⟨_, rfl⟩
          obtain ⟨f1, f2⟩ : ∃ c : Nat, (ownL (y - x - 1).toNat).length = c := ⟨_, rfl⟩
          have key : (60000 - ((e1' + f1 : Nat) : Int)).toNat < (60000 - ((e1' : Nat) : Int)).toNat := by omega
          rw [← e2', ← f2] at key
          exact key
      · have g1 : i + 1 = b.length := by
          have : ¬ ((((b.take (i + 1)).map V.int).length : Nat) : Int) ≤ ((b.length - 1 : Nat) : Int) := fun z => g (decide_eq_true z)
          rw [lt] at this
          omega
        have eat : (hdB xs ++ ((gpC xs).take i).flatten).length = atB xs := by
          rw [← pl_end, show i = b.length - 1 by omega]
        have hl2 : NL Hc l b := by
          rw [List.take_of_length_le (by omega)] at hl
          exact hl
        rw [eat]
        have ew : Builtin.Int.intBits (((b.length - 1 : Nat) : Nat) : Int) = wdB xs := by
          rw [bits_nat (by omega)]
          unfold wdB
          rw [eb]
          rfl
        refine ⟨_, rfl, _, rfl, ?_⟩
        rw [ew]
        obtain ⟨A', eA⟩ : ∃ A' : List Nat, A' = hdB xs ++ (gpC xs).flatten := ⟨_, rfl⟩
        have lA : A'.length = atB xs := by
          rw [eA]
          rfl
        have e4 : encB xs = A' ++ ((bkC xs).flatten ++ []) := by
          rw [e0, eA, List.append_nil, List.append_assoc]
        refine ⟨_, rfl, _, rfl, _, rfl, _, rfl, A', [], bkC xs, wdB xs, ?_, fun c hc => bkC_in hc, by omega, ?_, by rw [← e4]; omega, fun m H5 s5 nm hm => ?_⟩
        · rw [← e4, lA]
          unfold bkC
          rw [List.length_map]
          rfl
        · unfold bkC
          rw [List.length_map]
          omega
        rw [book_codes] at hm
        refine ⟨m, _, rfl, SqL.of hm, for_enumL (xs := xs.map fun x => V.int ((bookOf xs).idxOf x : Nat)) (fun i σ Hd => ∃ z1 z2 z3, σ = [some (.str (S (encB xs))), some (.int (xs.length : Nat)), some (.int (b.length - 1 : Nat)), some (.int (atB xs : Nat)), some (.int (tN b0 : Nat)), some (.ref l), z1, some (.int (wdB xs : Nat)), z2, z3] ∧ Same H5 Hd) ?_ ?_ ?_ ?_⟩
        · exact ⟨_, _, _, rfl, Same.refl _⟩
        · rintro i σ Hd _ ⟨_, _, _, rfl, sd⟩
          exact SqL.of (sd _ _ hm)
        · rintro i x T σ Hd ex ⟨_, _, _, rfl, sd⟩ nT
          rw [List.getElem?_map] at ex
          obtain ⟨y, ey, rfl⟩ := Option.map_eq_some_iff.mp ex
          have lt : (bookOf xs).idxOf y < (bookOf xs).length := List.idxOf_lt_length_of_mem (((book_is xs).2 y).mpr (List.mem_of_getElem? ey))
          rw [eb] at lt ⊢
          refine ⟨T, _, rfl, SqT.of upd_same, rfl, _, _, rfl, _, _, rfl, rfl, _, rfl, _, rfl, _, _, rfl, rfl, false, congrArg V.bl (decide_eq_false (by omega)), if_f ?_⟩
          exact ⟨_, _, _, rfl, sd.trans (same_new nT)⟩
        · rintro σ Hd ⟨_, _, _, rfl, sd⟩
          refine ⟨_, rfl, _, rfl, _, rfl, _, rfl, encB xs, atB xs, wdB xs, xs.length, rfl, by omega, by omega, l1.symm, ?_⟩
          refine ⟨_, rfl, _, rfl, _, rfl, by show 3 ≤ sizeLine; decide, fun t nt => ?_⟩
          have sf := (s5.trans sd).trans (same_new (o := .tup [.int (atB xs : Nat), .int (wdB xs : Nat), .ref l]) nt)
          exact q t l _ (sm.trans sf) ((s1.trans s2).free nl) upd_same (by rw [eb]; exact sf _ _ hl2)
    · rintro σ Hc Q1 Q2 h ⟨_, r, p, ys, e, sq, z⟩
      obtain ⟨_, r2, _, _, e3, e4, bb, e5, z⟩ := z
      exact ⟨_, r, p, ys, e, sq, _, r2, _, _, e3, e4, bb, e5, h _ _ z⟩
end
end Tg

namespace Tg
open PySem PySem.Spec PyProof.Rows L2
open SX (S)
abbrev sGO : Stmt := topS 33
abbrev sWI : Stmt := topS 36
abbrev sNI : Stmt := topS 35
abbrev sPk : Stmt := topS 37
abbrev sCI : Stmt := inCls (topS 34) 0
abbrev sCE : Stmt := inCls (topS 34) 1
abbrev sCL : Stmt := inCls (topS 34) 2
abbrev sCU : Stmt := inCls (topS 34) 3
abbrev NNI : List Str := ["column", "start", "end", "at", "width", "told", "codes", "code"]
theorem scGO : FnScope ["way", "bits", "many"] ["way", "bits", "many"] (defScope sGO) := ⟨rfl, rfl, rfl, by decide +kernel, rfl, by decide +kernel, by decide +kernel⟩
theorem scWI : FnScope ["column", "start", "end", "reader", "mark", "numbers", "passed", "place", "ahead"] ["column", "start", "end"] (defScope sWI) := ⟨rfl, rfl, rfl, by decide +kernel, rfl, by decide +kernel, by decide +kernel⟩
theorem scNI : FnScope NNI ["column", "start", "end"] (defScope sNI) := ⟨rfl, rfl, rfl, by decide +kernel, rfl, by decide +kernel, by decide +kernel⟩
theorem scCI : FnScope ["self", "way", "bits", "many"] ["self", "way", "bits", "many"] (defScope sCI) := ⟨rfl, rfl, rfl, by decide +kernel, rfl, by decide +kernel, by decide +kernel⟩
theorem scCE : FnScope ["self", "other"] ["self", "other"] (defScope sCE) := ⟨rfl, rfl, rfl, by decide +kernel, rfl, by decide +kernel, by decide +kernel⟩
theorem scCL : FnScope ["self"] ["self"] (defScope sCL) := ⟨rfl, rfl, rfl, by decide +kernel, rfl, by decide +kernel, by decide +kernel⟩
theorem scCU : FnScope ["self", "numbers", "passed"] ["self"] (defScope sCU) := ⟨rfl, rfl, rfl, by decide +kernel, rfl, by decide +kernel, by decide +kernel⟩
/-- what a column keeps to read its bits -/
def GdY (K : PySem.W.Frag) (H : Hp) (xs : List Int) (q : Addr) : Wy → Prop
  | .plain => SqT K H q [.int (atP xs : Nat), .int (wdP xs : Nat), .int (mnI xs)]
  | .book => ∃ l, SqT K H q [.int (atB xs : Nat), .int (wdB xs : Nat), .ref l] ∧ NL H l (bookOf xs)
  | .by W => ∃ ts : List Addr, H q = some (.lst (ts.map V.ref)) ∧ Mks K H W xs xs.length ts
theorem GdY.same {K : PySem.W.Frag} {H H' : Hp} {xs : List Int} {q : Addr} {y : Wy} (h : GdY K H xs q y) (s : Same H H') : GdY K H' xs q y := by
  cases y with
  | plain => exact sqT_kt (.of s) h
  | book =>
    obtain ⟨l, h1, h2⟩ := h
    exact ⟨l, sqT_kt (.of s) h1, s _ _ h2⟩
  | «by» W =>
    obtain ⟨ts, h1, h2⟩ := h
    exact ⟨ts, s _ _ h1, h2.kt (.of s)⟩
def Gd (K : PySem.W.Frag) (H : Hp) (y : Wy) (xs : List Int) (g : V) : Prop := ∃ q, g = .ref q ∧ (xs ≠ [] → GdY K H xs q y)
theorem Gd.same {K : PySem.W.Frag} {H H' : Hp} {xs : List Int} {g : V} {y : Wy} (h : Gd K H y xs g) (s : Same H H') : Gd K H' y xs g := by
  obtain ⟨q, h1, h2⟩ := h
  exact ⟨q, h1, fun ne => (h2 ne).same s⟩
/-- it stands, too, when a list that was there ahead is changed -/
def Apt (K : PySem.W.Frag) (H H' : Hp) (y : Wy) (xs : List Int) (g : V) : Prop := ∀ (p : Addr) (ys zs : List V), H p ≠ none → H' p = some (.lst ys) → Gd K (upd H' p (.lst zs)) y xs g
theorem apt_tup {K : PySem.W.Frag} {H H' : Hp} {xs : List Int} {q : Addr} (h : SqT K H' q [.int (atP xs : Nat), .int (wdP xs : Nat), .int (mnI xs)]) : Apt K H H' .plain xs (.ref q) := fun p ys zs _ e => ⟨q, rfl, fun _ => sqT_kt (KT.put e nfix_lst) h⟩
theorem apt_book {K : PySem.W.Frag} {H H' : Hp} {xs : List Int} {q l : Addr} (h : SqT K H' q [.int (atB xs : Nat), .int (wdB xs : Nat), .ref l]) (hl : NL H' l (bookOf xs)) (nl : H l = none) : Apt K H H' .book xs (.ref q) := fun p ys zs np e => ⟨q, rfl, fun _ => ⟨l, sqT_kt (KT.put e nfix_lst) h, by
  unfold NL
  rw [upd_ne (fun z => np (by rw [← z]; exact nl))]
  exact hl⟩⟩
theorem apt_by {K : PySem.W.Frag} {H H' : Hp} {xs : List Int} {q : Addr} {W : Way} {ts : List Addr} (h : H' q = some (.lst (ts.map V.ref))) (hm : Mks K H' W xs xs.length ts) (nl : H q = none) : Apt K H H' (.by W) xs (.ref q) := fun p ys zs np e => ⟨q, rfl, fun _ => ⟨ts, by
  rw [upd_ne (fun z => np (by rw [← z]; exact nl))]
  exact h, hm.kt (KT.put e nfix_lst)⟩⟩
section
variable {P : Program} {w : World} {K : PySem.W.Frag} {mg : Str → Option Value} {base : Heap} {f : Addr} {fd : FuncData} {k : Nat}
def spGO (K : PySem.W.Frag) : Sp := fun vs H Q _ => ∃ (xs : List Int) (y : Wy), vs = [.str y.nm, .str (S (bitsY y xs)), .int (xs.length : Nat)] ∧ Lo 70 xs ∧ xs.length ≤ 300 ∧ ∀ (g : V) (H' : Hp), Same H H' → Gd K H' y xs g → Apt K H H' y xs g → Q g H'
theorem ok_go (F : Fun K "guide_of" "guide_of" sGO f fd) (C_plain_head : Cal P w K mg base k "plain_head" ["bits", "many"] spPH) (C_book_head : Cal P w K mg base k "book_head" ["bits", "many"] spBH) (C_marks_by : Cal P w K mg base k "marks_by" ["way", "bits", "many"] (spMB K)) : FnOk P w K mg base CX0 (k + 1) f fd ["way", "bits", "many"] (spGO K) := by
  refine F.ok scGO (fun vs H Q E h => ?_) (fun cdv A outer s H vs Q E hr h => ?_)
  · obtain ⟨xs, y, rfl, _⟩ := h
    rfl
  · obtain ⟨xs, y, rfl, lo, few, q⟩ := h
    refine ⟨_, pss_cons (ps_if (pt_cmpR op_lt (pv 2) pe_int (nomark _))
        (pss_cons (ps_if (PW.pt (pw_or (pt_truth (pv 1) (fun _ => rfl)) (pw_or1 (pt_cmpR op_lt (pv 2) pe_int (nomark _)))))
          (pss_one ps_dead)
          pss_nil)
        (pss_one (ps_ret (pe_lst pa_nil))))
        pss_nil)
      (pss_cons (ps_if (pt_cmpR op_eq (pv 0) pe_str (nomark _))
        (pss_one (ps_ret (pe_cal C_plain_head (hr.mono (by omega)) (by rfl) (pa_cons (pv 1) (pa_cons (pv 2) pa_nil)))))
        pss_nil)
      (pss_cons (ps_if (pt_cmpR op_eq (pv 0) pe_str (nomark _))
        (pss_one (ps_ret (pe_cal C_book_head (hr.mono (by omega)) (by rfl) (pa_cons (pv 1) (pa_cons (pv 2) pa_nil)))))
        pss_nil)
      (pss_one (ps_ret (pe_cal C_marks_by (hr.mono (by omega)) (by rfl) (pa_cons (pv 0) (pa_cons (pv 1) (pa_cons (pv 2) pa_nil)))))))), ?_⟩
    by_cases c : xs = []
    · subst c
      refine ⟨_, rfl, _, _, rfl, rfl, true, rfl, if_t ?_⟩
      refine ⟨_, rfl, false, ⟨Nat.zero_le _, rfl⟩, if_f ⟨_, rfl, _, _, rfl, rfl, false, rfl, if_f ?_⟩⟩
      exact ⟨Nat.zero_le _, fun l nl => q _ _ (same_new nl) ⟨l, rfl, fun ne => absurd rfl ne⟩ fun p ys zs _ _ => ⟨l, rfl, fun ne => absurd rfl ne⟩⟩
    · have pos := List.length_pos_iff.mpr c
      have eb : bitsY y xs = encY y xs := if_neg c
      refine ⟨_, rfl, _, _, rfl, rfl, false, congrArg V.bl (decide_eq_false (by omega)), if_f ?_⟩
      rw [eb]
      cases y with
      | plain =>
        refine ⟨_, rfl, rfl, true, rfl, if_t ?_⟩
        exact ⟨_, rfl, _, rfl, xs, rfl, pos, few, lo, fun t H' s' ht => q _ H' s' ⟨t, rfl, fun _ => SqT.of ht⟩ (apt_tup (SqT.of ht))⟩
      | book =>
        refine ⟨_, rfl, rfl, false, rfl, if_f ⟨_, rfl, rfl, true, rfl, if_t ?_⟩⟩
        exact ⟨_, rfl, _, rfl, xs, rfl, pos, few, lo, fun t l H' s' nl ht hl => q _ H' s' ⟨t, rfl, fun _ => ⟨l, SqT.of ht, hl⟩⟩ (apt_book (SqT.of ht) hl nl)⟩
      | «by» W =>
        refine ⟨_, rfl, rfl, false, by cases W <;> rfl, if_f ⟨_, rfl, rfl, false, by cases W <;> rfl, if_f ?_⟩⟩
        exact ⟨_, rfl, _, rfl, _, rfl, W, xs, rfl, pos, few, lo, fun l ts H' s' nl hl hm => q _ H' s' ⟨l, rfl, fun _ => ⟨ts, hl, hm⟩⟩ (apt_by hl hm nl)⟩
end
end Tg

namespace Tg
open PySem PySem.Spec PyProof.Rows L2
open SX (S)
theorem scPk : FnScope ["numbers", "way", "chosen"] ["numbers", "way"] (defScope sPk) := ⟨rfl, rfl, rfl, by decide +kernel, rfl, by decide +kernel, by decide +kernel⟩
/-- the class Column by the top -/
structure TCol (K : PySem.W.Frag) (C : Addr) : Prop where
  cl : Cls K C
  no : ∀ n, n ∈ ["guide", "way", "bits", "many", "passed"] → PySem.W.findIn K (.ref C) n = some none
def colF (g : V) (y : Wy) (xs : List Int) (z : Int) : List (Str × V) := [("guide", g), ("way", .str y.nm), ("bits", .str (S (bitsY y xs))), ("many", .int (xs.length : Nat)), ("passed", .int z)]
/-- a column -/
def ColO (K : PySem.W.Frag) (C : Addr) (H : Hp) (a : Addr) (y : Wy) (xs : List Int) : Prop := ∃ dx g z, H a = some (.ins C dx (colF g y xs z)) ∧ Gd K H y xs g
theorem ColO.same {K : PySem.W.Frag} {C : Addr} {H H' : Hp} {a : Addr} {y : Wy} {xs : List Int} (h : ColO K C H a y xs) (s : Same H H') : ColO K C H' a y xs := by
  obtain ⟨dx, g, z, h1, h2⟩ := h
  exact ⟨dx, g, z, s _ _ h1, h2.same s⟩
theorem Gd.put {K : PySem.W.Frag} {C dx dx' p : Addr} {fs fs' : List (Str × V)} {H : Hp} {xs : List Int} {g : V} {y : Wy} (h : Gd K H y xs g) (hp : H p = some (.ins C dx fs)) : Gd K (upd H p (.ins C dx' fs')) y xs g := by
  obtain ⟨q, e, h2⟩ := h
  have kt : KT H (upd H p (.ins C dx' fs')) := KT.put hp nfix_ins
  refine ⟨q, e, fun ne => ?_⟩
  have z := h2 ne
  cases y with
  | plain => exact sqT_kt kt z
  | book =>
    obtain ⟨l, h1, h3⟩ := z
    refine ⟨l, sqT_kt kt h1, ?_⟩
    have lp : l ≠ p := fun e => by
      subst e
      unfold NL at h3
      rw [hp] at h3
      cases h3
    unfold NL
    rw [upd_ne lp]
    exact h3
  | «by» W =>
    obtain ⟨ts, h1, h3⟩ := z
    have qp : q ≠ p := fun e => by
      subst e
      rw [hp] at h1
      cases h1
    exact ⟨ts, by rw [upd_ne qp]; exact h1, h3.kt kt⟩
theorem upd_com {H : Hp} {a b : Addr} {x y : HO} (h : b ≠ a) : upd (upd H a x) b y = upd (upd H b y) a x := by
  funext c
  by_cases e1 : c = b
  · subst e1
    rw [upd_same, upd_ne h, upd_same]
  · rw [upd_ne e1]
    by_cases e2 : c = a
    · subst e2
      rw [upd_same, upd_same]
    · rw [upd_ne e2, upd_ne e2, upd_ne e1]
section
variable {P : Program} {w : World} {K : PySem.W.Frag} {mg : Str → Option Value} {base : Heap} {f : Addr} {fd : FuncData} {k : Nat} {C : Addr}
def spCI (K : PySem.W.Frag) (C : Addr) : Sp := fun vs H Q _ => ∃ (p dx : Addr) (xs : List Int) (y : Wy), vs = [.ref p, .str y.nm, .str (S (bitsY y xs)), .int (xs.length : Nat)] ∧ H p = some (.ins C dx []) ∧ Lo 70 xs ∧ xs.length ≤ 300 ∧
  ∀ (g : V) (H' : Hp), H' p = some (.ins C dx (colF g y xs 0)) → Gd K H' y xs g → (∀ (b : Addr) (ys zs : List V), b ≠ p → H b ≠ none → H' b = some (.lst ys) → Gd K (upd H' b (.lst zs)) y xs g) → (∀ b o, b ≠ p → H b = some o → H' b = some o) → Q .non H'
theorem ok_ci (F : Fun K "__init__" "Column.__init__" sCI f fd) (T : TCol K C) (C_guide_of : Cal P w K mg base k "guide_of" ["way", "bits", "many"] (spGO K)) : FnOk P w K mg base CX0 (k + 1) f fd ["self", "way", "bits", "many"] (spCI K C) := by
  refine F.ok scCI (fun vs H Q E h => ?_) (fun cdv A outer s H vs Q E hr h => ?_)
  · obtain ⟨p, dx, xs, y, rfl, _⟩ := h
    rfl
  · obtain ⟨p, dx, xs, y, rfl, hp, lo, few, q⟩ := h
    refine ⟨_, pss_cons (ps_fld (pv 0) (pe_cal C_guide_of (hr.mono (by omega)) (by rfl) (pa_cons (pv 1) (pa_cons (pv 2) (pa_cons (pv 3) pa_nil)))) rfl)
      (pss_cons (ps_fld (pv 0) (pv 1) rfl)
      (pss_cons (ps_fld (pv 0) (pv 2) rfl)
      (pss_cons (ps_fld (pv 0) (pv 3) rfl)
      (pss_one (ps_fld (pv 0) pe_int rfl))))), ?_⟩
    refine ⟨_, rfl, _, rfl, _, rfl, xs, y, rfl, lo, few, fun g H1 s1 hg apt => ?_⟩
    refine ⟨_, rfl, p, C, dx, _, rfl, s1 _ _ hp, T.cl, T.no _ (by decide), (by show 0 < 1000; decide), ?_⟩
    refine ⟨_, rfl, _, rfl, p, C, dx, _, rfl, upd_same, T.cl, T.no _ (by decide), (by show 1 < 1000; decide), ?_⟩
    rw [upd_upd]
    refine ⟨_, rfl, _, rfl, p, C, dx, _, rfl, upd_same, T.cl, T.no _ (by decide), (by show 2 < 1000; decide), ?_⟩
    rw [upd_upd]
    refine ⟨_, rfl, _, rfl, p, C, dx, _, rfl, upd_same, T.cl, T.no _ (by decide), (by show 3 < 1000; decide), ?_⟩
    rw [upd_upd]
    refine ⟨_, rfl, p, C, dx, _, rfl, upd_same, T.cl, T.no _ (by decide), (by show 4 < 1000; decide), ?_⟩
    rw [upd_upd]
    exact q g _ upd_same (hg.put (s1 _ _ hp)) (fun b ys zs hb nb e => by
      rw [upd_ne hb] at e
      rw [upd_com hb]
      exact (apt b ys zs nb e).put (by rw [upd_ne hb.symm]; exact s1 _ _ hp)) fun b o hb e => by
      rw [upd_ne hb]
      exact s1 _ _ e
def spCL (K : PySem.W.Frag) (C : Addr) : Sp := fun vs H Q _ => ∃ (a : Addr) (y : Wy) (xs : List Int), vs = [.ref a] ∧ ColO K C H a y xs ∧ xs.length ≤ 300 ∧ Q (.int (xs.length : Nat)) H
theorem ok_cl (F : Fun K "__len__" "Column.__len__" sCL f fd) (T : TCol K C) (m_len : mg "len" = none) (m_range : mg "range" = none) : FnOk P w K mg base CX0 (k + 1) f fd ["self"] (spCL K C) := by
  refine F.ok scCL (fun vs H Q E h => ?_) (fun cdv A outer s H vs Q E hr h => ?_)
  · obtain ⟨a, y, xs, rfl, _⟩ := h
    rfl
  · obtain ⟨a, y, xs, rfl, ⟨dx, g, z, ha, _⟩, few, q⟩ := h
    refine ⟨_, pss_one (ps_ret (pe_lenR (by rfl) m_len (by rfl) m_range (pa_cons (pe_fld (pv 0) rfl) pa_nil))), ?_⟩
    exact ⟨_, rfl, a, C, dx, _, _, rfl, ha, T.cl, T.no _ (by decide), rfl, xs.length, rfl, by omega, q⟩
end
end Tg

namespace Tg
open PySem PySem.Spec PyProof.Rows L2
open SX (S)
/-- a part of numbers -/
def prt (xs : List Int) (s e : Nat) : List Int := (xs.drop s).take (e - s)
theorem prt_next {xs : List Int} {s p : Nat} {x : Int} (h : s ≤ p) (e : xs[p]? = some x) : prt xs s (p + 1) = prt xs s p ++ [x] := by
  unfold prt
  rw [show p + 1 - s = (p - s) + 1 by omega, List.take_add_one, List.getElem?_drop, show s + (p - s) = p by omega, e]
  rfl
theorem prt_none {xs : List Int} {s p : Nat} (h : p ≤ s) : prt xs s p = [] := by
  unfold prt
  rw [show p - s = 0 by omega, List.take_zero]
theorem prt_all (xs : List Int) : prt xs 0 xs.length = xs := by
  unfold prt
  rw [Nat.sub_zero, List.drop_zero, List.take_length]
theorem prt_len {xs : List Int} {s e : Nat} (h : e ≤ xs.length) : (prt xs s e).length = e - s := by
  unfold prt
  simp only [List.length_take, List.length_drop]
  omega
section
variable {P : Program} {w : World} {K : PySem.W.Frag} {mg : Str → Option Value} {base : Heap} {f : Addr} {fd : FuncData} {k : Nat} {C : Addr}
def spWI (K : PySem.W.Frag) (C : Addr) : Sp := fun vs H Q _ => ∃ (a : Addr) (W : Way) (xs : List Int) (s e : Nat), vs = [.ref a, .int (s : Nat), .int (e : Nat)] ∧ ColO K C H a (.by W) xs ∧ s < e ∧ e ≤ xs.length ∧ Lo 70 xs ∧ xs.length ≤ 300 ∧
  ∀ (t l : Addr) (z : Int) (H' : Hp), Same H H' → H l = none → H' t = some (.tup [.ref l, .int z]) → NL H' l (prt xs s e) → 0 ≤ z → z ≤ 31 → Q (.ref t) H'
theorem ok_wi {RD : Addr} {t32 : Tok} (F : Fun K "walked_in" "walked_in" sWI f fd) (T : TCol K C) (Z : Rds P w K mg base k RD) (g_READERS : mg "READERS" = some (.ref RD)) (g_SPAN : mg "SPAN" = some (.int 32 t32)) (m_range : mg "range" = none) : FnOk P w K mg base CX0 (k + 1) f fd ["column", "start", "end"] (spWI K C) := by
  refine F.ok scWI (fun vs H Q E h => ?_) (fun cdv A outer s H vs Q E hr h => ?_)
  · obtain ⟨a, W, xs, s, e, rfl, _⟩ := h
    rfl
  · obtain ⟨a, W, xs, b, e, rfl, ⟨dx, g, pz, ha, q0, rfl, gd⟩, be, en, lo, few, q⟩ := h
    have HR : ∀ g sp, (fun g => if g = Z.fn W then some (spRd K W) else none) g = some sp → Held P w K mg base k g sp := fun g sp e => by
      dsimp only at e
      split at e
      · rename_i eg
        subst eg
        cases e
        exact Z.ex W
      · cases e
    refine ⟨_, pss_cons (ps_set (i := 3) scWI.nd rfl (.inl rfl) (pe_ix ix_kdict (pe_glob (v := .ref RD) rfl g_READERS rfl) (pe_fld (pv 0) rfl) (fun _ _ => rfl)))
      (pss_cons (ps_set (i := 4) scWI.nd rfl (.inl rfl) (pe_ix ix_list (pe_fld (pv 0) rfl) (pe_op op_fdiv (pv 1) (pe_glob (v := .int 32) rfl g_SPAN ⟨_, rfl⟩)) (fun _ _ => rfl)))
      (pss_cons (ps_set (i := 5) scWI.nd rfl (.inl rfl) (pe_lst pa_nil))
      (pss_cons (ps_set (i := 6) scWI.nd rfl (.inl rfl) pe_int)
      (pss_cons (ps_for PassesOwn.never rfl (pi_range2 (by rfl) m_range (pa_cons (pe_op op_sub (pv 1) (pe_op op_mod (pv 1) (pe_glob (v := .int 32) rfl g_SPAN ⟨_, rfl⟩))) (pa_cons (pv 2) pa_nil))) (pg_name (i := 7) scWI.nd rfl (.inl rfl))
        (pss_cons (ps_set (i := 8) scWI.nd rfl (.inl rfl) (pe_ix ix_tup (pv 4) pe_int (fun _ _ => rfl)))
        (pss_cons (ps_set (i := 4) scWI.nd rfl (.inl rfl) (pe_callA (i := 3) HR (hr.mono (by omega)) rfl (.inl rfl) (pa_cons (pe_fld (pv 0) rfl) (pa_cons (pv 4) (pa_cons (pe_op op_sub (pe_fld (pv 0) rfl) (pv 7)) pa_nil)))))
        (pss_cons (ps_if (pt_cmpR op_ge (pv 7) (pv 1) (nomark _))
          (pss_one (ps_expr (pe_bm PySem.F.plainAttrs_list PySem.F.slot_list_append PySem.F.type_list_append mt_append (pv 5) (pa_cons (pe_ix ix_tup (pv 4) pe_int (fun _ _ => rfl)) pa_nil))))
          pss_nil)
        (pss_one (ps_if (PW.pt (pw_and (pt_cmpR op_lt (pv 7) (pv 1) (nomark _)) (pw_and1 (pt_cmpR op_gt (pe_ix ix_tup (pv 4) pe_int (fun _ _ => rfl)) (pv 8) (nomark _)))))
          (pss_one (ps_aug (i := 6) scWI.nd rfl (.inl rfl) pe_int ip_add))
          (pss_one (ps_if (PW.pt (pw_and (pt_cmpR op_eq (pv 7) (pv 1) (nomark _)) (pw_and (pt_cmpR op_eq (pe_ix ix_tup (pv 4) pe_int (fun _ _ => rfl)) (pv 8) (nomark _)) (pw_and1 (pt_cmpR op_gt (pv 6) pe_int (nomark _))))))
            (pss_one (ps_aug (i := 6) scWI.nd rfl (.inl rfl) pe_int ip_sub))
            pss_nil))))))))
      (pss_one (ps_ret (pe_tup (pa_cons (pv 5) (pa_cons (pv 6) pa_nil))))))))), ?_⟩
    have ne : xs ≠ [] := fun z => by
      subst z
      exact absurd en (by show ¬ e ≤ 0; omega)
    obtain ⟨ts, hq, mks⟩ := gd ne
    have eb : bitsY (.by W) xs = enc W xs := if_neg ne
    unfold colF at ha
    rw [eb] at ha
    obtain ⟨b0, hb0⟩ : ∃ b0, b0 = 32 * (b / 32) := ⟨_, rfl⟩
    have jt : b / 32 < ts.length := by
      rw [mks.1]
      omega
    obtain ⟨t, et⟩ : ∃ t, ts[b / 32]? = some t := ⟨_, List.getElem?_eq_getElem jt⟩
    obtain ⟨m, hm1, hm2⟩ := mks.2 _ t et
    refine ⟨_, rfl, a, C, dx, _, _, rfl, ha, T.cl, T.no _ (by decide), rfl, RD, (Wy.by W).nm, .ref (Z.fn W), rfl, rfl, Z.dct W, ?_⟩
    refine ⟨_, rfl, a, C, dx, _, _, rfl, ha, T.cl, T.no _ (by decide), rfl, _, rfl, _, _, rfl, rfl, ⟨by decide, by decide⟩, q0, _, _, .ref t, rfl, rfl, SqL.of hq, ?_, Nat.zero_le _, fun l nl => ?_⟩
    · exact atI_nat (j := b / 32) (by rw [List.getElem?_map, et]; rfl)
    have s1 := same_new (o := .lst []) nl
    have e0 : ((b : Nat) : Int) - ((b : Nat) : Int) % 32 = ((b0 : Nat) : Int) := by omega
    refine ⟨_, rfl, _, rfl, _, _, rfl, rfl, (by show (0 : Int) < 32; decide), _, _, rfl, rfl, _, rfl, _, _, rfl, ?_, ?_⟩
    · rw [e0]
      exact ⟨by omega, by omega, by omega, by omega⟩
    rw [e0, show (((e : Nat) : Int) - ((b0 : Nat) : Int)).toNat = e - b0 by omega]
    refine for_range (n := e - b0) (fun i σ Hc => ∃ (t : Addr) (m : Mrk) (z : Int) (z7 z8 : Option V), σ = [some (.ref a), some (.int (b : Nat)), some (.int (e : Nat)), some (.ref (Z.fn W)), some (.ref t), some (.ref l), some (.int z), z7, z8] ∧ Same H Hc ∧ NL Hc l (prt xs b (b0 + i)) ∧ SqT K Hc t (mkV m) ∧ MkA W xs (b0 + i) m ∧ 0 ≤ z ∧ z ≤ i ∧ z ≤ b - b0) ?_ ?_ ?_
    · refine ⟨t, m, 0, _, _, rfl, s1, ?_, sqT_kt (.of s1) hm1, ?_, Int.le_refl _, by omega, by omega⟩
      · rw [prt_none (by omega)]
        exact upd_same
      · rw [hb0]
        exact hm2
    · rintro i σ Hc hi ⟨t, m, z, z7, z8, rfl, sm, hl, ht, hm, z0, zi, zb⟩
      rw [show ((b0 : Nat) : Int) + ((i : Nat) : Int) = ((b0 + i : Nat) : Int) by omega]
      have hac := sm _ _ ha
      have hlen : (prt xs b (b0 + i)).length ≤ 300 := by
        rw [prt_len (by omega)]
        omega
      refine ⟨_, rfl, t, _, 0, .int (m.1 : Nat), rfl, rfl, ht, rfl, ?_⟩
      refine ⟨Z.fn W, _, rfl, if_pos rfl, _, rfl, a, C, dx, _, _, rfl, hac, T.cl, T.no _ (by decide), rfl, _, rfl, _, rfl, a, C, dx, _, _, rfl, hac, T.cl, T.no _ (by decide), rfl, _, rfl, _, _, rfl, rfl, ?_⟩
      dsimp only [tNil]
      refine ⟨t, xs, b0 + i, m, rfl, ht, hm, by omega, lo, few, fun t' m' H' s' ht' hm' ex le => ?_⟩
      have hl' : NL H' l (prt xs b (b0 + i)) := s' _ _ hl
      by_cases c1 : b ≤ b0 + i
      · refine ⟨_, rfl, _, rfl, _, _, rfl, rfl, true, congrArg V.bl (decide_eq_true (by omega)), if_t ?_⟩
        refine ⟨_, rfl, .inl ⟨rfl, _, SqL.of hl'⟩, _, rfl, t', _, 1, .int m'.2.1, rfl, rfl, SqT.of ht', rfl, l, _, _, rfl, rfl, hl', by rw [List.length_map]; exact small1000 (by omega), ?_⟩
        obtain ⟨H2, e2⟩ : ∃ H2, upd H' l (.lst ((prt xs b (b0 + i)).map V.int ++ [.int m'.2.1])) = H2 := ⟨_, rfl⟩
        have hl2 : NL H2 l (prt xs b (b0 + (i + 1))) := by
          unfold NL
          rw [← e2, upd_same, show b0 + (i + 1) = (b0 + i) + 1 by omega, prt_next c1 ex, List.map_append]
          rfl
        have sm2 : Same H H2 := by
          rw [← e2]
          exact same_put nl (sm.trans s')
        have ht2 : SqT K H2 t' (mkV m') := by
          rw [← e2]
          exact sqT_kt (KT.put hl' nfix_lst) (SqT.of ht')
        rw [e2]
        have fin : ∀ z' : Int, 0 ≤ z' → z' ≤ z → ∃ (t : Addr) (m : Mrk) (zz : Int) (z7 z8 : Option V), [some (V.ref a), some (.int (b : Nat)), some (.int (e : Nat)), some (.ref (Z.fn W)), some (.ref t'), some (.ref l), some (.int z'), some (.int (b0 + i : Nat)), some (.int (m.1 : Nat))] = [some (.ref a), some (.int (b : Nat)), some (.int (e : Nat)), some (.ref (Z.fn W)), some (.ref t), some (.ref l), some (.int zz), z7, z8] ∧ Same H H2 ∧ NL H2 l (prt xs b (b0 + (i + 1))) ∧ SqT K H2 t (mkV m) ∧ MkA W xs (b0 + (i + 1)) m ∧ 0 ≤ zz ∧ zz ≤ (i + 1 : Nat) ∧ zz ≤ b - b0 := fun z' h1 h2 =>
          ⟨t', m', z', _, _, rfl, sm2, hl2, ht2, hm', h1, by omega, by omega⟩
        refine ⟨_, rfl, _, rfl, _, _, rfl, rfl, false, congrArg V.bl (decide_eq_false (by omega)), if_f (if_f ?_)⟩
        refine ⟨_, rfl, _, rfl, rfl, _, rfl, ite2 (fun _ => ?_) (fun _ => if_f ⟨t', m', z, _, _, rfl, sm2, hl2, ht2, hm', by omega, by omega, by omega⟩)⟩
        refine ⟨_, rfl, t', _, 0, .int (m'.1 : Nat), rfl, rfl, ht2, rfl, _, rfl, rfl, _, rfl, ite2 (fun _ => ?_) (fun _ => if_f ⟨t', m', z, _, _, rfl, sm2, hl2, ht2, hm', by omega, by omega, by omega⟩)⟩
        refine ⟨_, rfl, _, _, rfl, rfl, _, rfl, ite2 (fun g => ?_) (fun _ => ⟨t', m', z, _, _, rfl, sm2, hl2, ht2, hm', by omega, by omega, by omega⟩)⟩
        have zp : z > 0 := of_decide_eq_true g
        exact ⟨_, rfl, _, _, rfl, rfl, ⟨t', m', z - 1, _, _, rfl, sm2, hl2, ht2, hm', by omega, by omega, by omega⟩⟩
      · refine ⟨_, rfl, _, rfl, _, _, rfl, rfl, false, congrArg V.bl (decide_eq_false (by omega)), if_f ?_⟩
        have hl2 : NL H' l (prt xs b (b0 + (i + 1))) := by
          rw [prt_none (by omega)] at hl' ⊢
          exact hl'
        have fin : ∀ z' : Int, 0 ≤ z' → z' ≤ z + 1 → ∃ (t : Addr) (m : Mrk) (zz : Int) (z7 z8 : Option V), [some (V.ref a), some (.int (b : Nat)), some (.int (e : Nat)), some (.ref (Z.fn W)), some (.ref t'), some (.ref l), some (.int z'), some (.int (b0 + i : Nat)), some (.int (m.1 : Nat))] = [some (.ref a), some (.int (b : Nat)), some (.int (e : Nat)), some (.ref (Z.fn W)), some (.ref t), some (.ref l), some (.int zz), z7, z8] ∧ Same H H' ∧ NL H' l (prt xs b (b0 + (i + 1))) ∧ SqT K H' t (mkV m) ∧ MkA W xs (b0 + (i + 1)) m ∧ 0 ≤ zz ∧ zz ≤ (i + 1 : Nat) ∧ zz ≤ b - b0 := fun z' h1 h2 =>
          ⟨t', m', z', _, _, rfl, sm.trans s', hl2, SqT.of ht', hm', h1, by omega, by omega⟩
        refine ⟨_, rfl, _, rfl, _, _, rfl, rfl, true, congrArg V.bl (decide_eq_true (by omega)), if_t ?_⟩
        refine ⟨_, rfl, t', _, 0, .int (m'.1 : Nat), rfl, rfl, SqT.of ht', rfl, _, rfl, _, _, rfl, rfl, _, rfl, ite2 (fun _ => ?_) (fun _ => ?_)⟩
        · exact ⟨_, rfl, _, _, rfl, rfl, ⟨t', m', z + 1, _, _, rfl, sm.trans s', hl2, SqT.of ht', hm', by omega, by omega, by omega⟩⟩
        · refine ⟨_, rfl, _, rfl, rfl, false, congrArg V.bl ?_, if_f (if_f ⟨t', m', z, _, _, rfl, sm.trans s', hl2, SqT.of ht', hm', by omega, by omega, by omega⟩)⟩
          rw [dec_int]
          exact decide_eq_false (p := _) (by omega)
    · rintro σ Hc ⟨t, m, z, z7, z8, rfl, sm, hl, ht, hm, z0, zi, zb⟩
      refine ⟨_, rfl, _, rfl, by show 2 ≤ sizeLine; decide, fun u nu => ?_⟩
      have s2 := same_new (o := .tup [.ref l, .int z]) nu
      refine q u l z _ (sm.trans s2) nl upd_same ?_ z0 (by omega)
      rw [show b0 + (e - b0) = e by omega] at hl
      exact s2 _ _ hl
end
end Tg

namespace Tg
open PySem PySem.Spec PyProof.Rows L2
open SX (S)
theorem flat3 (ls : List (List Nat)) {s e : Nat} (h : s ≤ e) : ls.flatten = (ls.take s).flatten ++ (((ls.drop s).take (e - s)).flatten ++ (ls.drop e).flatten) := by
  conv => lhs; rw [← List.take_append_drop s ls, List.flatten_append, ← List.take_append_drop (e - s) (ls.drop s), List.flatten_append, List.drop_drop, show s + (e - s) = e by omega]
theorem rc_part {hd : List Nat} {ls : List (List Nat)} {v s e : Nat} {H : Hp} {Q : VK} {E : XK} (each : ∀ c, c ∈ ls → c.length = v ∧ ∀ d, d ∈ c → IsBin d) (se : s ≤ e) (en : e ≤ ls.length) (v6 : v ≤ 600) (n2 : ls.length ≤ 360) (big : (hd ++ ls.flatten).length ≤ 60000)
    (q : ∀ (m : Addr) (H' : Hp), Same H H' → H m = none → H' m = some (.lst (((ls.drop s).take (e - s)).map fun c => V.int (binNum c : Nat))) → Q (.ref m) H') : spRC [.str (S (hd ++ ls.flatten)), .int (((hd.length : Nat) : Int) + ((s : Nat) : Int) * ((v : Nat) : Int)), .int (v : Nat), .int (((e : Nat) : Int) - ((s : Nat) : Int))] H Q E := by
  have e1 : hd ++ ls.flatten = (hd ++ (ls.take s).flatten) ++ (((ls.drop s).take (e - s)).flatten ++ (ls.drop e).flatten) := by
    rw [flat3 ls se, List.append_assoc]
  refine ⟨hd ++ (ls.take s).flatten, (ls.drop e).flatten, (ls.drop s).take (e - s), v, ?_, fun c hc => each c (List.mem_of_mem_drop (List.mem_of_mem_take hc)), v6, ?_, by rw [← e1]; exact big, q⟩
  · rw [← e1, List.length_append, flat_same (w := v) fun l h => (each l (List.mem_of_mem_take h)).1, List.length_take, List.length_take, List.length_drop, Nat.min_eq_left (by omega), Nat.min_eq_left (by omega), Int.natCast_add, Int.natCast_mul, Int.natCast_sub se]
  · rw [List.length_take, List.length_drop]
    omega
theorem part_P {xs : List Int} (ne : xs ≠ []) (s e : Nat) : (((plC xs).drop s).take (e - s)).map (fun c => V.int (binNum c : Nat)) = (prt xs s e).map fun x => V.int (x - mnI xs) := by
  unfold plC prt
  rw [← List.map_drop, ← List.map_take, List.map_map]
  refine List.map_congr_left fun x hx => ?_
  have hx' := List.mem_of_mem_drop (List.mem_of_mem_take hx)
  have h1 := (mnI_is ne).2 x hx'
  have h2 := (mxI_is ne).2 x hx'
  show V.int (binNum (bt (wdP xs) _) : Nat) = _
  rw [num_bt, Nat.mod_eq_of_lt, Int.toNat_of_nonneg (by omega)]
  exact Nat.lt_of_le_of_lt (show (x - mnI xs).toNat ≤ (mxI xs - mnI xs).toNat by omega) (lt_blen _)
theorem part_B {xs : List Int} (s e : Nat) : (((bkC xs).drop s).take (e - s)).map (fun c => V.int (binNum c : Nat)) = (prt xs s e).map fun x => V.int ((bookOf xs).idxOf x : Nat) := by
  have z := book_codes (xs := xs)
  unfold prt
  rw [List.map_take, List.map_take, List.map_drop, List.map_drop, z]
section
variable {P : Program} {w : World} {K : PySem.W.Frag} {mg : Str → Option Value} {base : Heap} {f : Addr} {fd : FuncData} {k : Nat} {C : Addr}
/-- whether a way is read from code to code -/
def Wy.walks : Wy → Bool
  | .by _ => true
  | _ => false
def spNI (K : PySem.W.Frag) (C : Addr) : Sp := fun vs H Q _ => ∃ (a : Addr) (y : Wy) (xs : List Int) (s e : Nat), vs = [.ref a, .int (s : Nat), .int (e : Nat)] ∧ ColO K C H a y xs ∧ s ≤ e ∧ e ≤ xs.length ∧ Lo 70 xs ∧ xs.length ≤ 300 ∧
  ∀ (t l : Addr) (z : Int) (H' : Hp), Same H H' → H l = none → H' t = some (.tup [.ref l, .int z]) → NL H' l (prt xs s e) → 0 ≤ z → z ≤ 31 → (y.walks = false → z = 0) → Q (.ref t) H'
theorem ok_ni {RD : Addr} (F : Fun K "numbers_in" "numbers_in" sNI f fd) (T : TCol K C) (has : ∀ y : Wy, KHas K w RD y.nm y.walks) (g_READERS : mg "READERS" = some (.ref RD)) (C_walked_in : Cal P w K mg base k "walked_in" ["column", "start", "end"] (spWI K C)) (C_read_codes : Cal P w K mg base k "read_codes" ["bits", "at", "width", "many"] spRC) : FnOk P w K mg base CX0 (k + 1) f fd ["column", "start", "end"] (spNI K C) := by
  refine F.ok scNI (fun vs H Q E h => ?_) (fun cdv A outer s H vs Q E hr h => ?_)
  · obtain ⟨a, y, xs, s, e, rfl, _⟩ := h
    rfl
  · obtain ⟨a, y, xs, b, e, rfl, ⟨dx, g, pz, ha, q0, rfl, gd⟩, be, en, lo, few, q⟩ := h
    refine ⟨_, pss_cons (ps_if (pt_cmpR op_eq (pv 1) (pv 2) (nomark _))
        (pss_one (ps_ret (pe_tup (pa_cons (pe_lst pa_nil) (pa_cons pe_int pa_nil)))))
        pss_nil)
      (pss_cons (ps_if (pt_cmpR op_khas (pe_fld (pv 0) rfl) (pe_glob (v := .ref RD) rfl g_READERS rfl) (by with_unfolding_all rfl))
        (pss_one (ps_ret (pe_cal C_walked_in (hr.mono (by omega)) (by rfl) (pa_cons (pv 0) (pa_cons (pv 1) (pa_cons (pv 2) pa_nil))))))
        pss_nil)
      (pss_cons (ps_asg (pe_fld (pv 0) rfl) (pg_tup rfl (pgs_cons (pg_name (i := 3) scNI.nd rfl (.inl rfl)) (pgs_cons (pg_name (i := 4) scNI.nd rfl (.inl rfl)) (pgs_cons (pg_name (i := 5) scNI.nd rfl (.inr rfl)) pgs_nil)))))
      (pss_cons (ps_set (i := 6) scNI.nd rfl (.inl rfl) (pe_cal C_read_codes (hr.mono (by omega)) (by rfl) (pa_cons (pe_fld (pv 0) rfl) (pa_cons (pe_op op_add (pv 3) (pe_op op_mul (pv 1) (pv 4))) (pa_cons (pv 4) (pa_cons (pe_op op_sub (pv 2) (pv 1)) pa_nil))))))
      (pss_cons (ps_if (pt_cmpR op_eq (pe_fld (pv 0) rfl) pe_str (nomark _))
        (pss_one (ps_ret (pe_tup (pa_cons (pe_lc (own := [("code", 7)]) (g := (gName 7)) (tt := tYes) rfl scNI.nd (pi_list (pv 6)) (blkOk_by (own := [("code", 7)]) (N := NNI) (sc := defScope sNI) (by decide +kernel)) (fun _ _ _ _ _ => (pg_name (i := 7) scNI.nd rfl (.inl rfl))) (fun _ _ _ _ _ => pts_nil) (fun _ _ _ _ _ => (pe_ix (r := rIxL K) ix_list (pv 5) (pv 7) (fun _ _ => rfl)))) (pa_cons pe_int pa_nil)))))
        pss_nil)
      (pss_one (ps_ret (pe_tup (pa_cons (pe_lc (own := [("code", 7)]) (g := (gName 7)) (tt := tYes) rfl scNI.nd (pi_list (pv 6)) (blkOk_by (own := [("code", 7)]) (N := NNI) (sc := defScope sNI) (by decide +kernel)) (fun _ _ _ _ _ => (pg_name (i := 7) scNI.nd rfl (.inl rfl))) (fun _ _ _ _ _ => pts_nil) (fun _ _ _ _ _ => (pe_op op_add (pv 5) (pv 7)))) (pa_cons pe_int pa_nil))))))))), ?_⟩
    by_cases c0 : b = e
    · refine ⟨_, rfl, _, rfl, rfl, true, congrArg V.bl (by rw [dec_int]; exact decide_eq_true (by omega)), if_t ⟨Nat.zero_le _, fun l nl => ⟨by show 2 ≤ sizeLine; decide, fun t nt => ?_⟩⟩⟩
      have s1 := same_new (o := .lst []) nl
      have s2 := same_new (o := .tup [.ref l, .int 0]) nt
      exact q t l 0 _ (s1.trans s2) nl upd_same (by rw [prt_none (by omega)]; exact s2 _ _ upd_same) (by decide) (by decide) fun _ => rfl
    refine ⟨_, rfl, _, rfl, rfl, false, congrArg V.bl (by rw [dec_int]; exact decide_eq_false (by omega)), if_f ?_⟩
    have ne : xs ≠ [] := fun z => by
      subst z
      exact absurd en (by show ¬ e ≤ 0; omega)
    have pos := List.length_pos_iff.mpr ne
    have gy := gd ne
    have eb : bitsY y xs = encY y xs := if_neg ne
    have ha0 := ha
    unfold colF at ha
    rw [eb] at ha
    refine ⟨_, rfl, a, C, dx, _, _, rfl, ha, T.cl, T.no _ (by decide), rfl, y.nm, RD, y.walks, rfl, rfl, has y, ?_⟩
    cases y with
    | «by» W =>
      refine ⟨true, rfl, if_t ?_⟩
      exact ⟨_, rfl, _, rfl, _, rfl, a, W, xs, b, e, rfl, ⟨dx, _, pz, ha0, q0, rfl, gd⟩, by omega, en, lo, few, fun t l z H' s' nl ht hl z0 z1 => q t l z H' s' nl ht hl z0 z1 fun w => nomatch w⟩
    | plain =>
      refine ⟨false, rfl, if_f ?_⟩
      obtain ⟨l1, l2, l3⟩ := encP_len pos few lo
      have sz : wdP xs * xs.length ≤ 71 * 300 := Nat.mul_le_mul l3 few
      have szb : b * wdP xs ≤ 300 * 71 := Nat.mul_le_mul (by omega) l3
      obtain ⟨hd, ehd⟩ : ∃ hd, hd = cd (mnI xs) ++ ownL (wdP xs) := ⟨_, rfl⟩
      have lh : hd.length = atP xs := by
        rw [ehd, List.length_append]
        rfl
      have ee : encY .plain xs = hd ++ (plC xs).flatten := by
        rw [ehd]
        rfl
      have lp : (plC xs).length = xs.length := by
        unfold plC
        rw [List.length_map]
      rw [ee] at ha
      have l1' : (hd ++ (plC xs).flatten).length = atP xs + wdP xs * xs.length := by
        rw [← ee]
        exact l1
      refine ⟨_, rfl, a, C, dx, _, _, rfl, ha, T.cl, T.no _ (by decide), rfl, q0, _, rfl, gy, rfl, _, _, rfl, _, _, rfl, _, _, rfl, rfl, ?_⟩
      refine ⟨_, rfl, a, C, dx, _, _, rfl, ha, T.cl, T.no _ (by decide), rfl, _, rfl, _, rfl, _, rfl, _, _, rfl, rfl, .inl ⟨by omega, by omega⟩, _, _, rfl, rfl, _, rfl, _, rfl, _, rfl, _, _, rfl, rfl, ?_⟩
      dsimp only [tNil]
      rw [← lh]
      refine rc_part (fun c hc => plC_in hc) be (by omega) (by omega) (by omega) (by omega) fun m H1 s1 nm hm => ?_
      rw [part_P ne] at hm
      refine ⟨_, rfl, a, C, dx, _, _, rfl, s1 _ _ ha, T.cl, T.no _ (by decide), rfl, rfl, false, rfl, if_f ?_⟩
      have ll := prt_len (s := b) en
      refine ⟨_, rfl, m, rfl, ⟨_, SqL.of hm⟩, fun D nD => lc_mapL (xs := (prt xs b e).map fun x => V.int (x - mnI xs)) ((prt xs b e).map V.int) (by simp) nD (SqL.of hm) (by rw [List.length_map]; exact small1000 (by omega)) (fun i x y Hc Q' hx hy sm q' => ?_) fun H6 s6 hD6 => ?_⟩
      · rw [List.getElem?_map] at hx hy
        obtain ⟨z, ez, rfl⟩ := Option.map_eq_some_iff.mp hx
        rw [ez] at hy
        cases hy
        refine ⟨rfl, _, rfl, _, rfl, _, _, rfl, rfl, ?_⟩
        dsimp only
        rw [show mnI xs + (z - mnI xs) = z by omega]
        exact q' Hc (Same.refl _)
      · refine ⟨by show 2 ≤ sizeLine; decide, fun t nt => ?_⟩
        have s7 := same_new (o := .tup [.ref D, .int 0]) nt
        exact q t D 0 _ ((s1.trans s6).trans s7) (s1.free nD) upd_same (s7 _ _ hD6) (by decide) (by decide) fun _ => rfl
    | book =>
      refine ⟨false, rfl, if_f ?_⟩
      obtain ⟨l1, l2, l3, bl, bp, blo, up⟩ := encB_len pos few lo
      obtain ⟨lb, gy1, gy2⟩ := gy
      have sz : wdB xs * xs.length ≤ 9 * 300 := Nat.mul_le_mul l3 few
      have szb : b * wdB xs ≤ 300 * 9 := Nat.mul_le_mul (by omega) l3
      obtain ⟨hd, ehd⟩ : ∃ hd, hd = ownL ((bookOf xs).length - 1) ++ cd ((bookOf xs).headD 0) ++ (gpC xs).flatten := ⟨_, rfl⟩
      have lh : hd.length = atB xs := by
        rw [ehd]
        rfl
      have ee : encY .book xs = hd ++ (bkC xs).flatten := by
        rw [ehd]
        rfl
      have lp : (bkC xs).length = xs.length := by
        unfold bkC
        rw [List.length_map]
      rw [ee] at ha
      have l1' : (hd ++ (bkC xs).flatten).length = atB xs + wdB xs * xs.length := by
        rw [← ee]
        exact l1
      refine ⟨_, rfl, a, C, dx, _, _, rfl, ha, T.cl, T.no _ (by decide), rfl, q0, _, rfl, gy1, rfl, _, _, rfl, _, _, rfl, _, _, rfl, rfl, ?_⟩
      refine ⟨_, rfl, a, C, dx, _, _, rfl, ha, T.cl, T.no _ (by decide), rfl, _, rfl, _, rfl, _, rfl, _, _, rfl, rfl, .inl ⟨by omega, by omega⟩, _, _, rfl, rfl, _, rfl, _, rfl, _, rfl, _, _, rfl, rfl, ?_⟩
      dsimp only [tNil]
      rw [← lh]
      refine rc_part (fun c hc => bkC_in hc) be (by omega) (by omega) (by omega) (by omega) fun m H1 s1 nm hm => ?_
      rw [part_B] at hm
      refine ⟨_, rfl, a, C, dx, _, _, rfl, s1 _ _ ha, T.cl, T.no _ (by decide), rfl, rfl, true, rfl, if_t ?_⟩
      have ll := prt_len (s := b) en
      refine ⟨_, rfl, m, rfl, ⟨_, SqL.of hm⟩, fun D nD => lc_mapL (xs := (prt xs b e).map fun x => V.int ((bookOf xs).idxOf x : Nat)) ((prt xs b e).map V.int) (by simp) nD (SqL.of hm) (by rw [List.length_map]; exact small1000 (by omega)) (fun i x y Hc Q' hx hy sm q' => ?_) fun H6 s6 hD6 => ?_⟩
      · rw [List.getElem?_map] at hx hy
        obtain ⟨z, ez, rfl⟩ := Option.map_eq_some_iff.mp hx
        rw [ez] at hy
        cases hy
        have zin : z ∈ xs := List.mem_of_mem_drop (List.mem_of_mem_take (List.mem_of_getElem? ez))
        have lt : (bookOf xs).idxOf z < (bookOf xs).length := List.idxOf_lt_length_of_mem (((book_is xs).2 z).mpr zin)
        refine ⟨rfl, _, rfl, _, rfl, lb, _, _, .int z, rfl, rfl, SqL.of (sm _ _ (s1 _ _ gy2)), atI_nat (j := (bookOf xs).idxOf z) ?_, q' Hc (Same.refl _)⟩
        rw [List.getElem?_map, List.getElem?_eq_getElem lt, List.getElem_idxOf lt]
        rfl
      · refine ⟨by show 2 ≤ sizeLine; decide, fun t nt => ?_⟩
        have s7 := same_new (o := .tup [.ref D, .int 0]) nt
        exact q t D 0 _ ((s1.trans s6).trans s7) (s1.free nD) upd_same (s7 _ _ hD6) (by decide) (by decide) fun _ => rfl
end
end Tg

namespace Tg
open PySem PySem.Spec PyProof.Rows L2 LamX
open SX (S)
theorem pe_dead {X : Cx} {e : Expr} : PE X e (fun _ _ _ => False) := ⟨fun _ _ _ _ _ _ h => h.elim⟩
/-- what isinstance asks of the class -/
structure TInC (K : PySem.W.Frag) (C : Addr) : Prop where
  cc : PySem.W.findIn K (.ref C) "__class__" = some (some (.builtin "object.__class__"))
  get : PySem.W.specialIn K (.builtin "object.__class__") "__get__" = some (some (.builtin "getset_descriptor.__get__"))
  takes : PySem.W.takesIn K (.builtin "object.__class__") = some true
  obj : PySem.W.mroIn K C (.type "object") = some true
  kit : PySem.W.kitOne K (.ref C) (.ref C) = some true
/-- whether columns are alike -/
def alk (y : Wy) (xs : List Int) (z : Wy) (ys : List Int) : Bool := decide (V.str y.nm = V.str z.nm) && (decide (V.str (S (bitsY y xs)) = V.str (S (bitsY z ys))) && decide (V.int (xs.length : Nat) = V.int (ys.length : Nat)))
/-- what the own == of a column says -/
def EqC (K : PySem.W.Frag) (C : Addr) (a : Addr) (v : V) (b : Bool) (H : Hp) : Prop :=
  (∃ (c : Addr) (y : Wy) (xs : List Int) (z : Wy) (ys : List Int), v = .ref c ∧ ColO K C H a y xs ∧ ColO K C H c z ys ∧ b = alk y xs z ys) ∨
  (∃ (y : Wy) (xs : List Int) (t : Value), ColO K C H a y xs ∧ TyX K H v t ∧ PySem.W.kitOne K t (.ref C) = some false ∧ b = false)
/-! ### the shortest way -/
def ways : List Wy := [.plain, .by .steps, .by .turns, .by .runs, .book]
def wayV : List V := ways.map fun y => V.str y.nm
def sizeAt (xs : List Int) (i : Nat) : Int := ((bitsY (ways.getD i .plain) xs).length : Nat)
def best (xs : List Int) : Wy := ways.getD (leastAt (sizeAt xs) 4) .plain
abbrev TT (PT : Addr) : List (Addr × Str) := [(PT, "pack.<locals>.<lambda>")]
theorem colO_ext {K : PySem.W.Frag} {C : Addr} {H H' : Hp} {a : Addr} {y : Wy} {xs : List Int} (s : ExtN H H') (h : ColO K C H a y xs) : ColO K C H' a y xs := by
  obtain ⟨dx, g, z, h1, q, eg, h2⟩ := h
  refine ⟨dx, g, z, s _ _ h1 (fun _ e => nomatch e), q, eg, fun ne => ?_⟩
  have h3 := h2 ne
  cases y with
  | plain => exact sqT_ext s h3
  | book =>
    obtain ⟨l, q1, q2⟩ := h3
    exact ⟨l, sqT_ext s q1, s _ _ q2 (fun _ e => nomatch e)⟩
  | «by» W =>
    obtain ⟨ts, q1, q2⟩ := h3
    exact ⟨ts, s _ _ q1 (fun _ e => nomatch e), q2.kt (ExtN.kt s)⟩
theorem nl_ext {H H' : Hp} {l : Addr} {xs : List Int} (s : ExtN H H') (h : NL H l xs) : NL H' l xs := s _ _ h (fun _ e => nomatch e)
theorem bits_len {y : Wy} {xs : List Int} (lo : Lo 70 xs) (few : xs.length ≤ 300) : (bitsY y xs).length ≤ 59000 := by
  by_cases c : xs = []
  · subst c
    exact Nat.zero_le _
  · have pos := List.length_pos_iff.mpr c
    have eb : bitsY y xs = encY y xs := if_neg c
    rw [eb]
    cases y with
    | plain =>
      obtain ⟨l1, l2, l3⟩ := encP_len pos few lo
      have sz : wdP xs * xs.length ≤ 71 * 300 := Nat.mul_le_mul l3 few
      show (encP xs).length ≤ _
      omega
    | book =>
      obtain ⟨l1, l2, l3, _⟩ := encB_len pos few lo
      have sz : wdB xs * xs.length ≤ 9 * 300 := Nat.mul_le_mul l3 few
      show (encB xs).length ≤ _
      omega
    | «by» W => exact Nat.le_trans (enc_short lo few) (by decide)
section
variable {P : Program} {w : World} {K : PySem.W.Frag} {mg : Str → Option Value} {base : Heap} {f : Addr} {fd : FuncData} {k : Nat} {C : Addr}
def spCU (K : PySem.W.Frag) (C : Addr) : Sp := fun vs H Q _ => ∃ (a : Addr) (y : Wy) (xs : List Int), vs = [.ref a] ∧ ColO K C H a y xs ∧ Lo 70 xs ∧ xs.length ≤ 300 ∧ ∀ (l : Addr) (H' : Hp), Same H H' → H l = none → NL H' l xs → Q (.ref l) H'
theorem ok_cu (F : Fun K "unpacked" "Column.unpacked" sCU f fd) (T : TCol K C) (C_numbers_in : Cal P w K mg base k "numbers_in" ["column", "start", "end"] (spNI K C)) : FnOk P w K mg base CX0 (k + 1) f fd ["self"] (spCU K C) := by
  refine F.ok scCU (fun vs H Q E h => ?_) (fun cdv A outer s H vs Q E hr h => ?_)
  · obtain ⟨a, y, xs, rfl, _⟩ := h
    rfl
  · obtain ⟨a, y, xs, rfl, ⟨dx, g, z, ha, gd⟩, lo, few, q⟩ := h
    refine ⟨_, pss_cons (ps_asg (pe_cal C_numbers_in (hr.mono (by omega)) (by rfl) (pa_cons (pv 0) (pa_cons pe_int (pa_cons (pe_fld (pv 0) rfl) pa_nil)))) (pg_tup rfl (pgs_cons (pg_name (i := 1) scCU.nd rfl (.inl rfl)) (pgs_cons (pg_name (i := 2) scCU.nd rfl (.inl rfl)) pgs_nil))))
      (pss_one (ps_ret (pv 1))), ?_⟩
    refine ⟨_, rfl, _, rfl, a, C, dx, _, _, rfl, ha, T.cl, T.no _ (by decide), rfl, a, y, xs, 0, xs.length, rfl, ⟨dx, g, z, ha, gd⟩, Nat.zero_le _, Nat.le_refl _, lo, few, fun t l p H' s' nl ht hl _ _ _ => ?_⟩
    refine ⟨t, _, rfl, SqT.of ht, rfl, _, _, rfl, _, _, rfl, rfl, _, rfl, q l H' s' nl ?_⟩
    rw [prt_all] at hl
    exact hl
theorem ok_ce (F : Fun K "__eq__" "Column.__eq__" sCE f fd) (T : TCol K C) (TI : TInC K C) (g_Column : mg "Column" = some (.ref C)) (m_isinstance : mg "isinstance" = none) : FnOk P w K mg base CX0 (k + 1) f fd ["self", "other"] (spEqB (EqC K C)) := by
  refine F.ok scCE (fun vs H Q E h => ?_) (fun cdv A outer s H vs Q E hr h => ?_)
  · obtain ⟨a, y, b, rfl, _⟩ := h
    rfl
  · obtain ⟨a, v, b, rfl, said, q⟩ := h
    refine ⟨_, pss_one (ps_ret (pe_and (pe_callB call_isi (by rfl) m_isinstance (by decide +kernel) (pa_cons (pv 1) (pa_cons (pe_glob (v := .ref C) rfl g_Column rfl) pa_nil))) (pe_and (pe_cmpR op_eq (pe_fld (pv 0) rfl) (pe_fld (pv 1) rfl) (nomark _)) (pe_and (pe_cmpR op_eq (pe_fld (pv 0) rfl) (pe_fld (pv 1) rfl) (nomark _)) (pe_one (pe_cmpR op_eq (pe_fld (pv 0) rfl) (pe_fld (pv 1) rfl) (nomark _))))))), ?_⟩
    rcases said with ⟨c, y, xs, z, ys, rfl, ⟨dA, gA, pA, eA, _⟩, ⟨dB, gB, pB, eB, _⟩, rfl⟩ | ⟨y, xs, t, _, ty, kt, rfl⟩
    · refine ⟨_, rfl, .ref c, .ref C, .ref C, .ref C, true, rfl, .own _, .base (.ins eB T.cl TI.cc TI.get TI.takes TI.obj), TI.kit, true, rfl, if_t ?_⟩
      refine ⟨_, rfl, a, C, dA, _, _, rfl, eA, T.cl, T.no _ (by decide), rfl, _, rfl, c, C, dB, _, _, rfl, eB, T.cl, T.no _ (by decide), rfl, rfl, _, rfl, ite2 (fun g1 => ?_) (fun g1 => ?_)⟩
      · refine ⟨_, rfl, a, C, dA, _, _, rfl, eA, T.cl, T.no _ (by decide), rfl, _, rfl, c, C, dB, _, _, rfl, eB, T.cl, T.no _ (by decide), rfl, rfl, _, rfl, ite2 (fun g2 => ?_) (fun g2 => ?_)⟩
        · refine ⟨_, rfl, a, C, dA, _, _, rfl, eA, T.cl, T.no _ (by decide), rfl, _, rfl, c, C, dB, _, _, rfl, eB, T.cl, T.no _ (by decide), rfl, rfl, ?_⟩
          have z := q H Ext.rfl'
          unfold alk at z
          rw [g1, g2, Bool.true_and, Bool.true_and] at z
          exact z
        · have z := q H Ext.rfl'
          unfold alk at z
          rw [Bool.eq_false_iff.mpr g2, Bool.false_and, Bool.and_false] at z
          exact z
      · have z := q H Ext.rfl'
        unfold alk at z
        rw [Bool.eq_false_iff.mpr g1, Bool.false_and] at z
        exact z
    · exact ⟨_, rfl, v, .ref C, t, .ref C, false, rfl, .own _, ty, kt, false, rfl, if_f (q H Ext.rfl')⟩
/-- new, or a table; there, and no table -/
def NewB (H : Hp) (a : Addr) : Prop := ∀ o, H a = some o → ∃ ps, o = .tbl ps
def OldB (H : Hp) (b : Addr) : Prop := ∃ o, H b = some o ∧ ∀ ps, o ≠ .tbl ps
theorem newB_of {H H1 : Hp} {a : Addr} (e : ExtN H H1) (n : H1 a = none) : NewB H a := fun o h => by
  cases o
  case tbl ps => exact ⟨ps, rfl⟩
  all_goals exact absurd (e _ _ h (fun _ z => nomatch z)) (by rw [n]; exact fun z => nomatch z)
theorem oldB_ne {H H1 : Hp} {b : Addr} (e : ExtN H H1) (h : OldB H b) : H1 b ≠ none := fun z => by
  obtain ⟨o, q, n⟩ := h
  rw [e _ _ q n] at z
  cases z
/-- a column whose last look passed z -/
def ColZ (K : PySem.W.Frag) (C : Addr) (H : Hp) (a : Addr) (y : Wy) (xs : List Int) (z : Int) : Prop := ∃ dx g, H a = some (.ins C dx (colF g y xs z)) ∧ Gd K H y xs g
/-- which way is meant by way= -/
def WayIs (w : V) (y : Wy) (xs : List Int) : Prop := w = .str y.nm ∨ (w = .non ∧ y = best xs)
def spPk (K : PySem.W.Frag) (C PT : Addr) : Sp := fun vs H Q _ => ∃ (l : Addr) (xs : List Int) (w : V) (y : Wy), vs = [.ref l, w] ∧ WayIs w y xs ∧ Tabs (TT PT) H ∧ NL H l xs ∧ Lo 70 xs ∧ xs.length ≤ 300 ∧
  ∀ (a : Addr) (H' : Hp), Grow (TT PT) H H' → NewB H a → ColZ K C H' a y xs 0 → (∀ (b : Addr) (ys zs : List V), OldB H b → H' b = some (.lst ys) → ColO K C (upd H' b (.lst zs)) a y xs) → Q (.ref a) H'
/-- the column made, of the way in chosen -/
def tCol (K : PySem.W.Frag) (C : Addr) : TE := fun σ H Q => ∃ (l : Addr) (xs : List Int) (w : V) (y : Wy), σ = [some (.ref l), some w, some (.str y.nm)] ∧ NL H l xs ∧ Lo 70 xs ∧ xs.length ≤ 300 ∧
  ∀ (a : Addr) (H' : Hp), Same H H' → H a = none → ColZ K C H' a y xs 0 → (∀ (b : Addr) (ys zs : List V), H b ≠ none → H' b = some (.lst ys) → ColO K C (upd H' b (.lst zs)) a y xs) → Q (.ref a) H'
theorem ok_pk {c PT WT : Addr} (F : FunC K "pack" "pack" sPk c f fd) (TB : TabB base mg c PT) (C_bits_by : Cal P w K mg base k "bits_by" ["numbers", "way"] spBB) (C_size_by : Cal P w K mg base k "size_by" ["numbers", "way"] spSB) (K_Column : CalC P w K mg base (k + 1) "Column" C ["self", "way", "bits", "many"] (spCI K C)) (g_WAYS : mg "WAYS" = some (.ref WT)) (kW : KTup K WT wayV) (m_len : mg "len" = none) (m_min : mg "min" = none) : FnOk P w K mg base CX0 (k + 3) f fd ["numbers", "way"] (spPk K C PT) := by
  refine F.ok scPk (fun vs H Q E h => ?_) (fun A outer s H vs Q E hr h => ?_)
  · obtain ⟨l, xs, v, y, rfl, _⟩ := h
    rfl
  · obtain ⟨l, xs, v, y, rfl, hw, tabs, hl, lo, few, q⟩ := h
    refine ⟨_, pss_cons (ps_set (i := 2) scPk.nd rfl (.inl rfl) (pe_ifExp (pt_cmpR op_isN (pv 1) pe_non (nomark _))
        (pe_minKey (T := TT PT) (c := c) (P := PT) (a := "told") (k := k + 1) (pe_glob (v := .ref WT) rfl g_WAYS rfl) (hr.mono (by omega)) TB rfl (List.mem_singleton.mpr rfl) (fun p hp _ => by rw [List.mem_singleton.mp hp]; rfl) rfl (by rfl) m_min (lam1_by (N := ["numbers", "way", "chosen"]) (sc := defScope sPk) (by decide +kernel))
          (fun A s' H' f c r => pe_cal C_size_by (r.deeper _) (by rfl) (pa_cons (pv 0) (pa_cons (pv 3) pa_nil))) (fun _ _ _ _ _ _ => rfl)) (pv 1)))
      (pss_one (ps_ret (pe_by (R := tCol K C) (pe_calC K_Column (hr.mono (by omega)) (by rfl) (pa_cons (pv 2) (pa_cons (pe_cal C_bits_by (hr.mono (by omega)) (by rfl) (pa_cons (pv 0) (pa_cons (pv 2) pa_nil))) (pa_cons (pe_callB call_len_seq (by rfl) m_len (by decide +kernel) (pa_cons (pv 0) pa_nil)) pa_nil)))) ?_))), ?_⟩
    · rintro σ H0 Q0 ⟨l, xs, w, y, rfl, hl, lo, few, q⟩
      refine ⟨_, rfl, _, rfl, _, rfl, l, xs, y, rfl, hl, lo, few, fun H1 s1 => ⟨_, rfl, l, _, rfl, .inl (SqL.of (s1 _ _ hl)), ?_⟩⟩
      intro a dx na nd da
      refine ⟨a, dx, xs, y, congrArg (fun n : Nat => [V.ref a, .str y.nm, .str (S (bitsY y xs)), .int (n : Nat)]) (List.length_map ..), upd_same, lo, few, fun g H2 h1 h2 h4 h3 => ⟨rfl, q a H2 (s1.trans fun b o e => ?_) (s1.free na) ⟨dx, g, h1, h2⟩ fun b ys zs nb e => ?_⟩⟩
      · refine h3 b o (ne_of_none e na) ?_
        rw [upd_ne (ne_of_none e na), upd_ne (ne_of_none e nd)]
        exact e
      · obtain ⟨o, eo⟩ : ∃ o, H1 b = some o := by
          cases hx : H0 b with
          | none => exact absurd hx nb
          | some o => exact ⟨o, s1 _ _ hx⟩
        have ba : b ≠ a := ne_of_none eo na
        have bd : b ≠ dx := ne_of_none eo nd
        exact ⟨dx, g, 0, by rw [upd_ne ba.symm]; exact h1, h4 b ys zs ba (by rw [upd_ne ba, upd_ne bd, eo]; exact fun z => nomatch z) e⟩
    · have rest : ∀ H1, Grow (TT PT) H H1 → tCol K C [some (.ref l), some v, some (.str y.nm)] H1 Q := fun H1 gr => by
        refine ⟨l, xs, v, y, rfl, nl_ext gr.ext hl, lo, few, fun a H' s' na col apart => q a H' (gr.same s') (newB_of gr.ext na) col fun b ys zs nb e => apart b ys zs (oldB_ne gr.ext nb) e⟩
      rcases hw with rfl | ⟨rfl, rfl⟩
      · exact ⟨_, rfl, rfl, false, rfl, if_f ⟨_, rfl, rest H (.of tabs (Same.refl _))⟩⟩
      · refine ⟨_, rfl, rfl, true, rfl, if_t ⟨WT, wayV, sizeAt xs, rfl, kW, by decide, tabs, fun H2 ext tabs2 => ⟨fun i x H3 Q3 hx s3 q3 => ?_, fun H3 x s3 hx => ?_⟩⟩⟩
        · obtain ⟨y, ey⟩ : ∃ y, ways[i]? = some y ∧ x = .str y.nm := by
            unfold wayV at hx
            rw [List.getElem?_map] at hx
            obtain ⟨y, q1, q2⟩ := Option.map_eq_some_iff.mp hx
            exact ⟨y, q1, q2.symm⟩
          obtain ⟨ey, rfl⟩ := ey
          refine ⟨_, rfl, _, rfl, l, xs, y, rfl, s3 _ _ (nl_ext ext hl), lo, few, Nat.le_trans (bits_len lo few) (by decide), fun H4 s4 => ?_⟩
          have e4 : sizeAt xs i = ((bitsY y xs).length : Nat) := by
            unfold sizeAt
            rw [List.getD_eq_getElem?_getD, ey]
            rfl
          rw [← e4]
          exact q3 H4 s4
        · have ex : x = .str (best xs).nm := by
            have lt : leastAt (sizeAt xs) 4 ≤ 4 := (leastAt_first _ 4).1
            unfold wayV at hx
            rw [List.getElem?_map] at hx
            obtain ⟨y, q1, q2⟩ := Option.map_eq_some_iff.mp hx
            have q1 : ways[leastAt (sizeAt xs) 4]? = some y := q1
            rw [← q2]
            unfold best
            rw [List.getD_eq_getElem?_getD, q1]
            rfl
          subst ex
          exact rest H3 ((Grow.mk ext tabs2).same s3)
end
end Tg

namespace Tg
open PySem PySem.Spec PyProof.Rows L2 LamX
open SX (S)
section
variable (P : Program) (w : World) (K : PySem.W.Frag) (mg : Str → Option Value) (base : Heap)
/-- a def called with one value and keywords behind it -/
def CalN1 (k : Nat) (x : Str) (ps ks : List Str) (sp : Sp) : Prop := ∃ f fd, FnOk P w K mg base CX0 k f fd ps sp ∧ mg x = some (.ref f) ∧ PySem.W.keepIn K (.ref f) = true ∧ KBn K fd ps 1 ks (fun us ws => us ++ ws) (fun vs zs => vs ++ zs)
end
section
variable {X : Cx} {k : Nat} {ps ks : List Str} {sp : Sp} {x : Str} {e : Expr} {es : List Expr} {p pos : Pos} {kws : List Keyword} {t tk : TA}
theorem pe_calN1 (c : CalN1 X.prog X.w X.K X.mg X.base k x ps ks sp) (hr : Room k X.A) (gl : Gl X x) (ha : PA X (e :: es) t) (vals : PK X kws tk)
    (named : (backToKw pos (keywordEach kws X.env)).all (·.1.isSome) = true := by rfl) (names : (backToKw pos (keywordEach kws X.env)).filterMap (·.1) = ks := by rfl) (nodebug : (x == ("__debug__" : Str)) = false := by decide)
    (he : starEach (e :: es) X.env = (false, eval e X.env) :: starEach es X.env := by rfl) (nostar : ((backTo pos (starEach (e :: es) X.env)).any (·.1) || (backToKw pos (keywordEach kws X.env)).any (·.1.isNone)) = false := by rfl) :
    PE X (.Call (.Name x p) (e :: es) kws pos) (tCallN 1 ks.length sp (fun vs zs => vs ++ zs) E0 t tk) := by
  obtain ⟨f, fd, F, hm, hk, hb⟩ := c
  exact pe_callN F hr gl hm hk hb pass0 ha vals named names nodebug he nostar
end
section
variable (P : Program) (w : World) (K : PySem.W.Frag) (mg : Str → Option Value) (base : Heap)
/-- a def with defaults, called with the values ahead of them alone; dvs: the defaults -/
def CalD (k : Nat) (x : Str) (ps : List Str) (dvs : List V) (sp : Sp) : Prop := ∃ f fd ds, FnOk P w K mg base CX0 k f fd ps sp ∧ mg x = some (.ref f) ∧ PySem.W.keepIn K (.ref f) = true ∧ Vals dvs ds ∧ Binds K fd ps ds
end
section
variable {X : Cx} {k : Nat} {ps : List Str} {dvs : List V} {sp : Sp} {x : Str} {e : Expr} {es : List Expr} {p pos : Pos} {t : TA}
theorem pe_calD (c : CalD X.prog X.w X.K X.mg X.base k x ps dvs sp) (hr : Room k X.A) (gl : Gl X x) (ha : PA X (e :: es) t) (hdb : (x == ("__debug__" : Str)) = false := by decide)
    (one : starEach (e :: es) X.env = (false, eval e X.env) :: starEach es X.env := by rfl) (nostar : (backTo pos (starEach es X.env)).any (·.1) = false := by rfl) : PE X (.Call (.Name x p) (e :: es) [] pos) (tCall sp dvs E0 t) := by
  obtain ⟨f, fd, ds, F, hm, hk, hv, hb⟩ := c
  exact pe_call F hr gl hm hk hb hv pass0 ha hdb one nostar
end
theorem own_bin (n : Nat) : ∀ c, c ∈ ownL n → IsBin c := fun c hc => by
  rw [← own_is] at hc
  obtain h | h := List.mem_append.mp hc
  · exact .inl (List.eq_of_mem_replicate h)
  · exact bt_bin _ _ c h
theorem flat_bin {ls : List (List Nat)} (h : ∀ l, l ∈ ls → ∀ c, c ∈ l → IsBin c) : ∀ c, c ∈ ls.flatten → IsBin c := fun c hc => by
  obtain ⟨l, hl, hc⟩ := List.mem_flatten.mp hc
  exact h l hl c hc
theorem cds_bin (cs : List Int) : ∀ c, c ∈ cds cs → IsBin c := flat_bin fun l hl => by
  obtain ⟨x, _, rfl⟩ := List.mem_map.mp hl
  exact own_bin _
theorem bits_bin (y : Wy) (xs : List Int) : ∀ c, c ∈ bitsY y xs → IsBin c := by
  by_cases e : xs = []
  · subst e
    exact fun c hc => by cases hc
  · rw [show bitsY y xs = encY y xs from if_neg e]
    cases y with
    | plain =>
      intro c hc
      rcases List.mem_append.mp (show c ∈ encP xs from hc) with h | h
      · obtain h | h := List.mem_append.mp h
        · exact own_bin _ c h
        · exact own_bin _ c h
      · exact flat_bin (fun l hl => (plC_in hl).2) c h
    | book =>
      intro c hc
      rcases List.mem_append.mp (show c ∈ encB xs from hc) with h | h
      · obtain h | h := List.mem_append.mp h
        · obtain h | h := List.mem_append.mp h
          · exact own_bin _ c h
          · exact own_bin _ c h
        · refine flat_bin (fun l hl => ?_) c h
          obtain ⟨d, _, rfl⟩ := List.mem_map.mp hl
          exact own_bin _
      · exact flat_bin (fun l hl => (bkC_in hl).2) c h
    | «by» W =>
      cases W with
      | steps => exact cds_bin _
      | turns => exact cds_bin _
      | runs =>
        refine flat_bin fun l hl => ?_
        obtain ⟨r, _, rfl⟩ := List.mem_map.mp hl
        intro c hc
        obtain h | h := List.mem_append.mp hc
        · exact own_bin _ c h
        · exact own_bin _ c h
theorem str_bin {l : List Nat} (h : ∀ c, c ∈ l → IsBin c) : PyData.strOk (S l) = true := by
  unfold PyData.strOk
  simp only [← Array.all_toList, List.all_eq_true]
  intro c hc
  have := h c hc
  unfold IsBin at this
  exact decide_eq_true (p := _) (by omega)
theorem nm_ok (y : Wy) : PyData.strOk y.nm = true := by
  cases y with
  | plain => decide +kernel
  | book => decide +kernel
  | «by» W => cases W <;> decide +kernel
theorem shaped_B (y : Wy) (xs : List Int) (n : Int) : SeqAt.shaped (.tuple [.str y.nm, .str (S (bitsY y xs)), .int n]) = true := by
  have e : PyData.canLay0 (.tuple [.str y.nm, .str (S (bitsY y xs)), .int n]) = true := by
    show (PyData.strOk y.nm && (PyData.strOk (S (bitsY y xs)) && (true && true))) = true
    rw [nm_ok, str_bin (bits_bin y xs)]
    rfl
  unfold SeqAt.shaped
  rw [e]
  rfl
theorem ne_no {x : V} : (V.bl (!decide (x = x))) = V.bl false := congrArg V.bl (by rw [decide_eq_true rfl]; rfl)
theorem bool_dec {x y : V} {a b : Str} (hx : x = .str a) (hy : y = .str b) : (a == b) = decide (x = y) := by
  subst hx hy
  rw [Bool.eq_iff_iff]
  exact beq_iff_eq.trans (Iff.trans ⟨fun z => congrArg V.str z, fun z => V.str.inj z⟩ decide_eq_true_iff.symm)
theorem eqv_alk (y : Wy) (xs : List Int) (z : Wy) (ys : List Int) : PyData.eqv (.tuple [.str y.nm, .str (S (bitsY y xs)), .int (xs.length : Nat)]) (.tuple [.str z.nm, .str (S (bitsY z ys)), .int (ys.length : Nat)]) = alk y xs z ys := by
  show ((y.nm == z.nm) && ((S (bitsY y xs) == S (bitsY z ys)) && ((((xs.length : Nat) : Int) == ((ys.length : Nat) : Int)) && true))) = _
  unfold alk
  rw [bool_dec (a := y.nm) (b := z.nm) rfl rfl, bool_dec (a := S (bitsY y xs)) (b := S (bitsY z ys)) rfl rfl, dec_int, Bool.and_true]
section
variable {P : Program} {w : World} {K : PySem.W.Frag} {mg : Str → Option Value} {base : Heap} {f : Addr} {fd : FuncData} {k : Nat} {C fE WT : Addr} {fdE : FuncData}
/-- what is told of the class by the top, for == and != -/
structure EqFs (P : Program) (w : World) (K : PySem.W.Frag) (mg : Str → Option Value) (base : Heap) (C fE : Addr) (fdE : FuncData) (k : Nat) : Prop where
  FE : FnOk P w K mg base CX0 k fE fdE ["self", "other"] (spEqB (EqC K C))
  atE : PySem.W.findIn K (.ref C) "__eq__" = some (some (.ref fE))
  fnE : PySem.W.isFn K (.ref fE) = true
  hbE : Binds K fdE ["self", "other"] []
  NE : NeC K C fE
  nfC : PySem.W.notFirst K C (.ref C) = true
  nfL : PySem.W.notFirst K C (.type "list") = true
  nfS : PySem.W.notFirst K C (.type "str") = true
  kL : PySem.W.kitOne K (.type "list") (.ref C) = some false
  kS : PySem.W.kitOne K (.type "str") (.ref C) = some false
  kN : PySem.W.kitOne K (.type "NoneType") (.ref C) = some false
  noN : PySem.W.subIn K (.ref C) (.type "NoneType") = some false
  noL : PySem.W.subIn K (.ref C) (.type "list") = some false
/-- no numbers: the first way -/
theorem best_nil : best [] = .plain := by
  have h := (leastAt_first (sizeAt []) 4).2 0 (Nat.zero_le _)
  have z : ∀ i, sizeAt [] i = 0 := fun i => rfl
  have e : leastAt (sizeAt []) 4 = 0 := by
    rcases Nat.eq_zero_or_pos (leastAt (sizeAt []) 4) with c | c
    · exact c
    · have := h.2 c
      rw [z, z] at this
      omega
  unfold best
  rw [e]
  rfl
/-- the sizes by the ways -/
def szs (xs : List Int) : List Int := ways.map fun y => (((bitsY y xs).length : Nat) : Int)
theorem szs_at (xs : List Int) {i : Nat} (h : i ≤ 4) : (szs xs)[i]? = some (sizeAt xs i) := by
  unfold szs sizeAt
  rw [List.getElem?_map]
  match i, h with
  | 0, _ => rfl
  | 1, _ => rfl
  | 2, _ => rfl
  | 3, _ => rfl
  | 4, _ => rfl
/-- the first least of the sizes is that of the shortest way -/
theorem least_is {xs : List Int} {m : Int} (h1 : m ∈ szs xs) (h2 : ∀ x, x ∈ szs xs → m ≤ x) : m = sizeAt xs (leastAt (sizeAt xs) 4) ∧ m = ((bitsY (best xs) xs).length : Nat) := by
  obtain ⟨le, all⟩ := leastAt_first (sizeAt xs) 4
  have e1 : m = sizeAt xs (leastAt (sizeAt xs) 4) := by
    obtain ⟨i, hi, ei⟩ := List.mem_iff_getElem.mp h1
    have hi5 : i < 5 := hi
    have q := szs_at xs (i := i) (by omega)
    rw [List.getElem?_eq_getElem hi, ei] at q
    have a1 := (all i (by omega)).1
    have a2 := h2 _ (List.mem_of_getElem? (szs_at xs le))
    rw [← Option.some.inj q] at a1
    omega
  refine ⟨e1, e1.trans ?_⟩
  rfl
end
end Tg

namespace Tg
open PySem PySem.Spec PyProof.Rows L2 LamX
open SX (S)
/-! ### what stands while columns are asked and made -/
structure Std (C : Addr) (T : List (Addr × Str)) (H H' : Hp) : Prop where
  keep : ∀ b o, H b = some o → (∀ ps, o ≠ .tbl ps) → (∀ dx fs, o ≠ .ins C dx fs) → H' b = some o
  cols : ∀ a dx g y xs z, H a = some (.ins C dx (colF g y xs z)) → ∃ z', H' a = some (.ins C dx (colF g y xs z'))
  tabs : Tabs T H → Tabs T H'
section
variable {C : Addr} {T : List (Addr × Str)} {H H1 H2 H' : Hp} {K : PySem.W.Frag}
theorem Std.refl (H : Hp) : Std C T H H := ⟨fun _ _ h _ _ => h, fun _ _ _ _ _ z h => ⟨z, h⟩, id⟩
theorem Std.trans (a : Std C T H H1) (b : Std C T H1 H2) : Std C T H H2 :=
  ⟨fun c o h n1 n2 => b.keep c o (a.keep c o h n1 n2) n1 n2, fun c dx g y xs z h => let ⟨_, q⟩ := a.cols c dx g y xs z h; b.cols _ _ _ _ _ _ q, fun t => b.tabs (a.tabs t)⟩
theorem Std.same (s : Same H H') : Std C T H H' := ⟨fun c o h _ _ => s c o h, fun c _ _ _ _ z h => ⟨z, s c _ h⟩, fun t => t.ext s⟩
theorem Std.grow (s : Grow T H H') : Std C T H H' := ⟨fun c o h n _ => s.ext c o h n, fun c _ _ _ _ z h => ⟨z, s.ext c _ h (fun _ e => nomatch e)⟩, fun _ => s.tabs⟩
theorem Std.kt (s : Std C T H H') : KT H H' := fun a o f h => s.keep a o h (fix_tbl f) fun dx fs e => by
  rw [e] at f
  exact f
theorem Std.nl {l : Addr} {xs : List Int} (s : Std C T H H') (h : NL H l xs) : NL H' l xs := s.keep _ _ h (fun _ e => nomatch e) fun _ _ e => nomatch e
theorem Std.lst {l : Addr} {xs : List V} (s : Std C T H H') (h : H l = some (.lst xs)) : H' l = some (.lst xs) := s.keep _ _ h (fun _ e => nomatch e) fun _ _ e => nomatch e
theorem Std.sqT {l : Addr} {xs : List V} (s : Std C T H H') (h : SqT K H l xs) : SqT K H' l xs := sqT_kt s.kt h
theorem Std.gd {y : Wy} {xs : List Int} {g : V} (s : Std C T H H') (h : Gd K H y xs g) : Gd K H' y xs g := by
  obtain ⟨q, eg, h2⟩ := h
  refine ⟨q, eg, fun ne => ?_⟩
  have h3 := h2 ne
  cases y with
  | plain => exact s.sqT h3
  | book =>
    obtain ⟨l, q1, q2⟩ := h3
    exact ⟨l, s.sqT q1, s.nl q2⟩
  | «by» W =>
    obtain ⟨ts, q1, q2⟩ := h3
    exact ⟨ts, s.lst q1, q2.kt s.kt⟩
theorem Std.col {a : Addr} {y : Wy} {xs : List Int} (s : Std C T H H') (h : ColO K C H a y xs) : ColO K C H' a y xs := by
  obtain ⟨dx, g, z, h1, h2⟩ := h
  obtain ⟨z', h3⟩ := s.cols _ _ _ _ _ _ h1
  exact ⟨dx, g, z', h3, s.gd h2⟩
/-- a column's last look is another -/
theorem Std.put {a dx : Addr} {g : V} {y : Wy} {xs : List Int} {z z' : Int} (h : H a = some (.ins C dx (colF g y xs z))) : Std C T H (upd H a (.ins C dx (colF g y xs z'))) := by
  refine ⟨fun b o e n1 n2 => ?_, fun b dx2 g2 y2 xs2 z2 e => ?_, fun t => ?_⟩
  · rw [upd_ne (fun q => n2 _ _ (Option.some.inj (e.symm.trans (q ▸ h))))]
    exact e
  · by_cases q : b = a
    · subst q
      rw [h] at e
      injection e with e
      injection e with e1 e2 e3
      unfold colF at e3
      simp only [List.cons.injEq, Prod.mk.injEq, true_and, and_true] at e3
      obtain ⟨g1, g2', g3, g4, g5⟩ := e3
      refine ⟨z', ?_⟩
      rw [upd_same, e2]
      unfold colF
      rw [g1, g2', g3, g4]
    · exact ⟨z2, by rw [upd_ne q]; exact e⟩
  · exact tabs_kp (p := a) (o := .ins C dx (colF g y xs z)) (fun b o hb e => by rw [upd_ne hb]; exact e) h (fun _ e => nomatch e) (fun _ e => nomatch e) t
/-- a list that wasn't there ahead is written -/
theorem Std.setL {D : Addr} {zs ws : List V} (s : Std C T H H1) (n : H D = none) (h : H1 D = some (.lst zs)) : Std C T H (upd H1 D (.lst ws)) :=
  ⟨fun b u e n1 n2 => by rw [upd_ne (ne_of_none e n)]; exact s.keep b u e n1 n2, fun b dx g y xs z e => by rw [upd_ne (ne_of_none e n)]; exact s.cols b dx g y xs z e,
    fun t => tabs_kp (p := D) (o := .lst zs) (fun b o hb e => by rw [upd_ne hb]; exact e) h (fun _ e => nomatch e) (fun _ e => nomatch e) (s.tabs t)⟩
/-- a comprehension whose items ask columns -/
theorem lc_std {g : TG} {te : TE} {vs : List Nat} {σ : L2.St} {D : Addr} {Qd : Hp → Prop} {J : It} (n : Nat) (ys : List V) (ly : ys.length = n) (nD : H1 D = none) (small : n < sizeLine)
    (stop : ∀ Hc, Std C T H1 Hc → J.stop n Hc) (go : ∀ i Hc, i < n → Std C T H1 Hc → J.go i Hc) (calm : ∀ i x Hc Hn, J.yld i Hc x Hn → Hn = Hc)
    (hs : ∀ i x y Hc (Q : VK), i < n → ys[i]? = some y → Std C T H1 Hc → J.yld i Hc x Hc → (∀ H4, Std C T Hc H4 → Q y H4) → g x (wipe σ vs) Hc fun σ2 H2 => wipe σ2 vs = wipe σ vs ∧ te σ2 H2 Q)
    (hd : ∀ H', Std C T H1 H' → H' D = some (.lst ys) → Qd H') : Walked J (upd H1 D (.lst [])) (TurnL g te vs σ D) Qd := by
  refine ⟨fun i m Hc => m = n - i ∧ i ≤ n ∧ Std C T H1 Hc ∧ Hc D = some (.lst (ys.take i)), ⟨n, by omega, Nat.zero_le _, .same (same_new nD), upd_same⟩, ?_⟩
  rintro i m Hc ⟨rfl, hi, sm, hD⟩
  by_cases lt : i < n
  · refine .inr ⟨go i Hc lt sm, fun Hn => Std C T H1 Hn ∧ Hn D = some (.lst (ys.take (i + 1))), fun Hn h => ⟨n - (i + 1), by omega, rfl, lt, h.1, h.2⟩, fun x Hn yl => ?_⟩
    obtain rfl := calm i x Hc Hn yl
    obtain ⟨y, ey⟩ : ∃ y, ys[i]? = some y := ⟨_, List.getElem?_eq_getElem (by omega)⟩
    have z := hs i x y Hn (fun y H4 => Grows D (fun Hn => Std C T H1 Hn ∧ Hn D = some (.lst (ys.take (i + 1)))) y H4) lt ey sm yl fun H4 s4 => by
      have h4 := s4.lst hD
      refine ⟨ys.take i, h4, ?_, (sm.trans s4).setL nD h4, ?_⟩
      · rw [List.length_take]
        omega
      · rw [upd_same, List.take_add_one, ey]
        rfl
    refine cast (congrArg (g x (wipe σ vs) Hn) (funext fun σ2 => funext fun H2 => ?_)) z
    unfold tYes
    exact congrArg _ (if_pos rfl).symm
  · obtain rfl : i = n := by omega
    refine .inl ⟨stop Hc sm, hd Hc sm ?_⟩
    rw [hD, List.take_of_length_le (by omega)]
end
abbrev sCPt : Stmt := inCls (topS 34) 5
abbrev sCOn : Stmt := inCls (topS 34) 4
theorem scCPt : FnScope ["self", "start", "end", "numbers"] ["self", "start", "end"] (defScope sCPt) := ⟨rfl, rfl, rfl, by decide +kernel, rfl, by decide +kernel, by decide +kernel⟩
theorem scCOn : FnScope ["self", "place"] ["self", "place"] (defScope sCOn) := ⟨rfl, rfl, rfl, by decide +kernel, rfl, by decide +kernel, by decide +kernel⟩
section
variable {P : Program} {w : World} {K : PySem.W.Frag} {mg : Str → Option Value} {base : Heap} {f : Addr} {fd : FuncData} {k : Nat} {C : Addr} {T0 : List (Addr × Str)}
def spPt (K : PySem.W.Frag) (C : Addr) (T0 : List (Addr × Str)) : Sp := fun vs H Q _ => ∃ (a : Addr) (y : Wy) (xs : List Int) (s e : Nat), vs = [.ref a, .int (s : Nat), .int (e : Nat)] ∧ ColO K C H a y xs ∧ s ≤ e ∧ e ≤ xs.length ∧ Lo 70 xs ∧ xs.length ≤ 300 ∧
  ∀ (l : Addr) (H' : Hp), Std C T0 H H' → H l = none → NL H' l (prt xs s e) → (∃ dx g z, H' a = some (.ins C dx (colF g y xs z)) ∧ 0 ≤ z ∧ z ≤ 31 ∧ (y.walks = false → z = 0)) → Q (.ref l) H'
theorem ok_cpt (F : Fun K "part" "Column.part" sCPt f fd) (T : TCol K C) (C_numbers_in : Cal P w K mg base k "numbers_in" ["column", "start", "end"] (spNI K C)) : FnOk P w K mg base CX0 (k + 1) f fd ["self", "start", "end"] (spPt K C T0) := by
  refine F.ok scCPt (fun vs H Q E h => ?_) (fun cdv A outer s H vs Q E hr h => ?_)
  · obtain ⟨a, y, xs, s, e, rfl, _⟩ := h
    rfl
  · obtain ⟨a, y, xs, b, e, rfl, col, be, el, lo, few, q⟩ := h
    refine ⟨_, pss_cons (ps_if (pt_not (pt_chain op_le op_le pe_int (pv 1) (pe_fld (pv 0) rfl)))
        (pss_one ps_dead)
        pss_nil)
      (pss_cons (ps_if (pt_not (pt_chain op_le op_le (pv 1) (pv 2) (pe_fld (pv 0) rfl)))
        (pss_one ps_dead)
        pss_nil)
      (pss_cons (ps_asg (pe_cal C_numbers_in (hr.mono (by omega)) (by rfl) (pa_cons (pv 0) (pa_cons (pv 1) (pa_cons (pv 2) pa_nil)))) (pg_tup rfl (pgs_cons (pg_name (i := 3) scCPt.nd rfl (.inl rfl)) (pgs_cons (pg_fld (pv 0)) pgs_nil))))
      (pss_one (ps_ret (pv 3))))), ?_⟩
    obtain ⟨dx, g, z, ha, gd⟩ := id col
    refine ⟨_, rfl, _, _, rfl, rfl, true, congrArg V.bl (decide_eq_true (by omega)), if_t ⟨_, rfl, a, C, dx, _, _, rfl, ha, T.cl, T.no _ (by decide), rfl, _, _, rfl, rfl, true, congrArg V.bl (decide_eq_true (by omega)), if_f ?_⟩⟩
    refine ⟨_, rfl, _, rfl, _, _, rfl, rfl, true, congrArg V.bl (decide_eq_true (by omega)), if_t ⟨_, rfl, a, C, dx, _, _, rfl, ha, T.cl, T.no _ (by decide), rfl, _, _, rfl, rfl, true, congrArg V.bl (decide_eq_true (by omega)), if_f ?_⟩⟩
    refine ⟨_, rfl, _, rfl, _, rfl, a, y, xs, b, e, rfl, ⟨dx, g, z, ha, gd⟩, be, el, lo, few, fun t l p H1 s1 nl ht hl p0 p31 pw => ?_⟩
    have ha1 := s1 _ _ ha
    refine ⟨t, _, rfl, SqT.of ht, rfl, _, _, rfl, _, _, rfl, _, rfl, a, C, dx, _, rfl, ha1, T.cl, T.no _ (by decide), (by show 5 < 1000; decide), rfl, _, rfl, ?_⟩
    have la : l ≠ a := fun e => by
      unfold NL at hl
      rw [e, ha1] at hl
      cases hl
    refine q l _ ((Std.same s1).trans (Std.put (z' := p) ha1)) nl ?_ ⟨dx, g, p, upd_same, p0, p31, pw⟩
    unfold NL
    rw [upd_ne la]
    exact hl
theorem prt_one {xs : List Int} {i : Nat} {x : Int} (h : xs[i]? = some x) : prt xs i (i + 1) = [x] := by
  rw [prt_next (Nat.le_refl _) h, prt_none (Nat.le_refl _)]
  rfl
def spOn (K : PySem.W.Frag) (C : Addr) (T0 : List (Addr × Str)) : Sp := fun vs H Q _ => ∃ (a : Addr) (y : Wy) (xs : List Int) (i : Nat) (x : Int), vs = [.ref a, .int (i : Nat)] ∧ ColO K C H a y xs ∧ xs[i]? = some x ∧ Lo 70 xs ∧ xs.length ≤ 300 ∧
  ∀ H', Std C T0 H H' → (∃ dx g z, H' a = some (.ins C dx (colF g y xs z)) ∧ 0 ≤ z ∧ z ≤ 31 ∧ (y.walks = false → z = 0)) → Q (.int x) H'
theorem ok_con (F : Fun K "one" "Column.one" sCOn f fd) (T : TCol K C) (M_part : CalM P w K mg base k C "part" ["self", "start", "end"] (spPt K C T0)) : FnOk P w K mg base CX0 (k + 1) f fd ["self", "place"] (spOn K C T0) := by
  refine F.ok scCOn (fun vs H Q E h => ?_) (fun cdv A outer s H vs Q E hr h => ?_)
  · obtain ⟨a, y, xs, i, x, rfl, _⟩ := h
    rfl
  · obtain ⟨a, y, xs, i, x, rfl, col, ex, lo, few, q⟩ := h
    refine ⟨_, pss_cons (ps_if (pt_not (pt_chain op_le op_lt pe_int (pv 1) (pe_fld (pv 0) rfl)))
        (pss_one ps_dead)
        pss_nil)
      (pss_one (ps_ret (pe_ix ix_list (pe_calM (pv 0) T.cl M_part (hr.mono (by omega)) (pa_cons (pv 1) (pa_cons (pe_op op_add (pv 1) pe_int) pa_nil))) pe_int (fun _ _ => rfl)))), ?_⟩
    obtain ⟨dx, g, z, ha, gd⟩ := id col
    have lt := (List.getElem?_eq_some_iff.mp ex).1
    refine ⟨_, rfl, _, _, rfl, rfl, true, congrArg V.bl (decide_eq_true (by omega)), if_t ⟨_, rfl, a, C, dx, _, _, rfl, ha, T.cl, T.no _ (by decide), rfl, _, _, rfl, rfl, true, congrArg V.bl (decide_eq_true (by omega)), if_f ?_⟩⟩
    refine ⟨_, rfl, a, dx, _, rfl, ha, rfl, _, rfl, _, rfl, _, _, rfl, rfl, a, y, xs, i, i + 1, rfl, ⟨dx, g, z, ha, gd⟩, by omega, by omega, lo, few, fun l H1 s1 nl hl told => ?_⟩
    rw [prt_one ex] at hl
    exact ⟨l, _, _, _, rfl, rfl, SqL.of hl, atI_nat (j := 0) rfl, q H1 s1 told⟩
theorem cut_take (ns : List Int) (i : Nat) : cutV (ns.map V.int) none (some (i : Int)) = (ns.take i).map V.int := by
  unfold cutV
  have e : HT.sIx (ns.map V.int).length (ns.map V.int).length (some (i : Int)) = min i ns.length := by
    show (if (i : Int) < 0 then ((i : Int) + ((ns.map V.int).length : Nat)).toNat else min (i : Int).toNat (ns.map V.int).length) = _
    rw [if_neg (by omega), List.length_map]
    rfl
  rw [HT.sIx_none, e, List.drop_zero, Nat.sub_zero, List.map_take]
  rw [← List.length_map (f := V.int), List.take_eq_take_iff]
  omega
theorem cut_drop (ns : List Int) (i : Nat) : cutV (ns.map V.int) (some (i : Int)) none = (ns.drop i).map V.int := by
  unfold cutV
  have e : HT.sIx (ns.map V.int).length 0 (some (i : Int)) = min i ns.length := by
    show (if (i : Int) < 0 then ((i : Int) + ((ns.map V.int).length : Nat)).toNat else min (i : Int).toNat (ns.map V.int).length) = _
    rw [if_neg (by omega), List.length_map]
    rfl
  rw [HT.sIx_none, e, List.map_drop, List.length_map]
  rcases Nat.le_total i ns.length with c | c
  · rw [Nat.min_eq_left c]
    exact List.take_of_length_le (by rw [List.length_drop, List.length_map]; omega)
  · rw [Nat.min_eq_right c, Nat.sub_self, List.take_zero]
    exact (List.drop_eq_nil_of_le (by rw [List.length_map]; exact c)).symm
end
end Tg

set_option maxHeartbeats 2000000
namespace Tg
open PySem PySem.Spec PyProof.Rows L2 LamX
/-! ### blocks -/
abbrev sBL : Stmt := inCls (topS 39) 2
abbrev NBL : List Str := ["self", "rows", "row"]
theorem scBL : FnScope NBL ["self"] (defScope sBL) := ⟨rfl, rfl, rfl, by decide +kernel, rfl, by decide +kernel, by decide +kernel⟩
/-- a table: rows by places -/
abbrev Tb := List (Int × List Rw)
def dat (c : List PyData → PyData) (T : Tb) : List (Key × PyData) := T.map fun p => (.inl p.1, c (p.2.map rd))
abbrev datL (T : Tb) := dat .list T
abbrev datT (T : Tb) := dat .tuple T
def tot (T : Tb) : Nat := (T.map (·.2)).flatten.length
structure TBl (K : PySem.W.Frag) (C : Addr) : Prop where
  cl : Cls K C
  nk : NoAttr K C "kept"
  nw : NoAttr K C "weight"
/-- a block whose fields behind the first are fs -/
def BlF (K : PySem.W.Frag) (C : Addr) (H : Hp) (b : Addr) (T : Tb) (fs : List (Str × V)) : Prop := ∃ dx kd kvs, H b = some (.ins C dx (("kept", .ref kd) :: fs)) ∧ H kd = some (.dK kvs) ∧ DpK K H kvs (datT T)
abbrev BlO (K : PySem.W.Frag) (C : Addr) (H : Hp) (b : Addr) (T : Tb) (wt : Int) : Prop := BlF K C H b T [("weight", .int wt)]
theorem dat_at {c : List PyData → PyData} {T : Tb} {i : Nat} {q : Key × PyData} (h : (dat c T)[i]? = some q) : ∃ p rs, T[i]? = some (p, rs) ∧ q = (.inl p, c (rs.map rd)) := by
  unfold dat at h
  rw [List.getElem?_map] at h
  obtain ⟨⟨p, rs⟩, e1, e2⟩ := Option.map_eq_some_iff.mp h
  exact ⟨p, rs, e1, e2.symm⟩
theorem tot_succ {T : Tb} {i : Nat} {p : Int} {rs : List Rw} (h : T[i]? = some (p, rs)) : tot (T.take (i + 1)) = tot (T.take i) + rs.length := by
  unfold tot
  rw [List.take_add_one, h, List.map_append, List.flatten_append, List.length_append]
  simp
theorem tot_le {T : Tb} (i : Nat) : tot (T.take i) ≤ tot T := by
  unfold tot
  have e : T.map (·.2) = (T.take i).map (·.2) ++ (T.drop i).map (·.2) := by rw [← List.map_append, List.take_append_drop]
  rw [e, List.flatten_append, List.length_append]
  omega
section
variable {P : Program} {w : World} {K : PySem.W.Frag} {mg : Str → Option Value} {base : Heap} {f : Addr} {fd : FuncData} {k : Nat} {C : Addr}
def spBL (K : PySem.W.Frag) (C : Addr) : Sp := fun vs H Q _ => ∃ (b : Addr) (T : Tb) (fs : List (Str × V)), vs = [.ref b] ∧ BlF K C H b T fs ∧ tot T ≤ 5000 ∧ ∀ H', Same H H' → Q (.int (tot T : Nat)) H'
theorem ok_bl (F : Fun K "__len__" "Block.__len__" sBL f fd) (T : TBl K C) (m_len : mg "len" = none) : FnOk P w K mg base CX0 (k + 1) f fd ["self"] (spBL K C) := by
  refine F.ok scBL (fun vs H Q E h => ?_) (fun cdv A outer s H vs Q E hr h => ?_)
  · obtain ⟨b, TT, fs, rfl, _⟩ := h
    rfl
  · obtain ⟨b, TT, fs, rfl, ⟨dx, kd, kvs, hb, hk, dk⟩, few, q⟩ := h
    refine ⟨_, pss_one (ps_ret (pe_callB call_len_seq (by rfl) m_len (by decide +kernel) (pa_cons (pe_lock (pe_lc2 (own := [("rows", 1), ("row", 2)]) (vs1 := [2]) (g := (gName 1)) (tt := tYes) (wi1 := iTup K (tVar 1)) (g1 := (gName 2)) (tt1 := tYes) rfl scBL.nd (pi_values (pe_fld (pv 0) rfl)) (blkOk_by (own := [("rows", 1), ("row", 2)]) (N := NBL) (sc := defScope sBL) (by decide +kernel)) (by decide) (fun _ _ _ _ _ => (pg_name (i := 1) scBL.nd rfl (.inl rfl))) (fun _ _ _ _ _ => pts_nil) (fun _ _ _ _ _ => (pi_tup (pv 1))) (fun _ _ _ _ _ => (pg_name (i := 2) scBL.nd rfl (.inl rfl))) (fun _ _ _ _ _ => pts_nil) (fun _ _ _ _ _ => (pv 2)))) pa_nil))), ?_⟩
    refine ⟨kd, _, hk, trivial, fun od => ?_⟩
    have kb : b ≠ kd := fun z => by
      rw [z, hk] at hb
      cases hb
    have hk1 : (upd H kd (.frz od (.dK kvs))) kd = some (.frz od (.dK kvs)) := upd_same
    have dk1 := dpK_lt (LT.put (u := .frz od (.dK kvs)) hk nlt_dK) dk
    have lk : kvs.length = TT.length := (dpK_len dk).trans (List.length_map _)
    refine ⟨_, rfl, b, C, dx, _, .ref kd, rfl, (upd_ne kb).trans hb, T.cl, T.nk, rfl, kd, od, kvs, rfl, hk1, fun D nD => ?_⟩
    obtain ⟨H1, e1⟩ : ∃ H1, upd H kd (.frz od (.dK kvs)) = H1 := ⟨_, rfl⟩
    rw [e1] at nD hk1 dk1 ⊢
    have kD : kd ≠ D := ne_of_none hk1 nD
    refine walked_w walk_values (fun i Hc => Same H1 Hc ∧ ∃ ys, Hc D = some (.lst ys) ∧ ys.length = tot (TT.take i)) ⟨same_new nD, [], upd_same, rfl⟩ (fun i Hc _ h => h.1 _ _ hk1) ?_ ?_
    · rintro i v Hc Hd hi ⟨sc, ys, hD, ly⟩ ⟨rfl, key, ek⟩
      obtain ⟨q', eq', _, dp, _⟩ := dpK_at dk1 ek
      obtain ⟨p0, rs, eT, rfl⟩ := dat_at eq'
      obtain ⟨a, xs, rfl, sq, da⟩ := dp_tupI dp
      have lx : xs.length = rs.length := by rw [dpAll_len da, List.length_map]
      have ts := tot_succ eT
      have tl := tot_le (T := TT) (i + 1)
      refine ⟨rfl, yes_b (if_t ⟨_, rfl, a, rfl, ⟨_, sqT_same sc sq⟩, ?_⟩)⟩
      refine walked_w (walk_tup (K := K) (a := a) (xs := xs)) (fun j Hc => Same H1 Hc ∧ ∃ ys, Hc D = some (.lst ys) ∧ ys.length = tot (TT.take i) + j) ⟨sc, ys, hD, ly⟩ (fun j Hc _ h => sqT_same h.1 sq) ?_ ?_
      · rintro j y Hc Hd hj ⟨sc, ys, hD, ly⟩ ⟨rfl, ey⟩
        refine ⟨rfl, yes_b (if_t ⟨_, rfl, ys, hD, ?_, same_put nD sc, ys ++ [y], upd_same, by rw [List.length_append, ly]; rfl⟩)⟩
        have : 5000 < sizeLine := by decide
        omega
      · rintro Hc ⟨sc, ys, hD, ly⟩
        exact ⟨sc, ys, hD, by rw [ts, ly, lx]⟩
    · rintro Hc ⟨sc, ys, hD, ly⟩
      rw [lk, List.take_length] at ly
      refine ⟨sc _ _ hk1, ?_⟩
      have sF : Same H (upd Hc kd (.dK kvs)) := fun x o e => by
        by_cases z : x = kd
        · rw [z, hk] at e
          cases e
          rw [z]
          exact upd_same
        · rw [upd_ne z]
          refine sc _ _ ?_
          rw [← e1, upd_ne z]
          exact e
      have hD2 : (upd Hc kd (.dK kvs)) D = some (.lst ys) := by
        rw [upd_ne kD.symm]
        exact hD
      refine ⟨D, ys, rfl, .inl (SqL.of hD2), ?_⟩
      rw [ly]
      exact q _ sF
end
end Tg

set_option maxHeartbeats 2000000
namespace Tg
open PySem PySem.Spec PyProof.Rows L2 LamX
/-! ### a block made -/
abbrev sBI : Stmt := inCls (topS 39) 0
abbrev NBI : List Str := ["self", "rows", "weight", "place"]
theorem scBI : FnScope NBI ["self", "rows", "weight"] (defScope sBI) := ⟨rfl, rfl, rfl, by decide +kernel, rfl, by decide +kernel, by decide +kernel⟩
theorem call_tupleFK {X : Cx} {K : PySem.W.Frag} (h : X.K = K := by rfl) : CallR X (.type "tuple") (fun xs H Q => ∃ p ys, xs = [.ref p] ∧ SqL K H p ys ∧ ∀ (l : Addr) (o : Obj), o.dict = none → H l = none → Q (.ref l) (upd H l (.frz o (.tup ys)))) := h ▸ call_tupleF
/-- the rows at a place -/
def getR (T : Tb) (m : Int) : List Rw := ((T.find? fun p => decide (p.1 = m)).map (·.2)).getD []
theorem dpK_val {K : PySem.W.Frag} {H : Hp} {c : List PyData → PyData} {m : Int} : ∀ {T : Tb} {kvs : List (Key × V)}, DpK K H kvs (dat c T) →
    (∃ rs v, T.find? (fun p => decide (p.1 = m)) = some (m, rs) ∧ valV kvs (.inl m) = some v ∧ Dp K H v (c (rs.map rd))) ∨ (T.find? (fun p => decide (p.1 = m)) = none ∧ valV kvs (.inl m) = none)
  | [], [], _ => .inr ⟨rfl, rfl⟩
  | [], _ :: _, h => by cases h
  | _ :: _, [], h => by cases h
  | p :: T, q :: kvs, .cons a t => by
    obtain ⟨e, d, _⟩ := a
    have ih := dpK_val (m := m) t
    unfold valV at ih ⊢
    rw [List.find?_cons, List.find?_cons]
    by_cases z : p.1 = m
    · have zq : q.1 = .inl m := by rw [e, ← z]
      rw [decide_eq_true z, decide_eq_true zq]
      subst z
      exact .inl ⟨_, _, rfl, rfl, d⟩
    · have zq : ¬ q.1 = .inl m := fun y => z (Sum.inl.inj (e.symm.trans y))
      rw [decide_eq_false z, decide_eq_false zq]
      exact ih
theorem getR_mem {T : Tb} (nd : (T.map (·.1)).Nodup) {p : Int × List Rw} (h : p ∈ T) : getR T p.1 = p.2 := by
  induction T with
  | nil => cases h
  | cons q T ih =>
    have nd' := List.nodup_cons.mp nd
    unfold getR
    rw [List.find?_cons]
    rcases List.eq_or_mem_of_mem_cons h with rfl | h
    · rw [decide_eq_true rfl]
      rfl
    · have ne : ¬ q.1 = p.1 := fun z => nd'.1 (List.mem_map.mpr ⟨p, h, z.symm⟩)
      rw [decide_eq_false ne]
      exact ih nd'.2 h
theorem srt_perm {T : Tb} {ms : List Int} (nd : (T.map (·.1)).Nodup) (pm : ms.Perm (T.map (·.1))) : (ms.map fun m => (m, getR T m)).Perm T := by
  refine (pm.map _).trans ?_
  rw [List.map_map]
  have e : T.map ((fun m => (m, getR T m)) ∘ (·.1)) = T.map id := List.map_congr_left fun p hp => by
    show (p.1, getR T p.1) = p
    rw [getR_mem nd hp]
  rw [e, List.map_id]
theorem rds_formT (rs : List Rw) : SeqAt.shaped (.tuple (rs.map rd)) = true ∧ PyData.eqv (.tuple (rs.map rd)) (.tuple (rs.map rd)) = true := by
  obtain ⟨a, b, c⟩ := form_all lay_rd (fun r => Nat.le_of_eq (dep_rd r)) ref_rd rs
  refine ⟨shaped_of a ?_, c⟩
  show PyData.depthAll (rs.map rd) + 1 ≤ 64
  omega
theorem tot_perm {T T' : Tb} (pm : T'.Perm T) : tot T' = tot T := ((pm.map _).flatten).length_eq
/-- what is known of a block's len -/
theorem dpK_keys {K : PySem.W.Frag} {H : Hp} {c : List PyData → PyData} : ∀ {T : Tb} {kvs : List (Key × V)}, DpK K H kvs (dat c T) → kvs.map (·.1) = (T.map (·.1)).map Sum.inl
  | [], [], _ => rfl
  | [], _ :: _, h => by cases h
  | _ :: _, [], h => by cases h
  | p :: T, q :: kvs, .cons a t => by
    rw [List.map_cons, List.map_cons, List.map_cons, dpK_keys t]
    exact congrArg (· :: _) a.1
theorem dpK_app {K : PySem.W.Frag} {H : Hp} : ∀ {xs ys : List (Key × V)} {ds es : List (Key × PyData)}, DpK K H xs ds → DpK K H ys es → DpK K H (xs ++ ys) (ds ++ es)
  | _, _, _, _, .nil, h => h
  | _, _, _, _, .cons a t, h => .cons a (dpK_app t h)
structure BLen (P : Program) (w : World) (K : PySem.W.Frag) (mg : Str → Option Value) (base : Heap) (C fL : Addr) (fdL : FuncData) (k : Nat) : Prop where
  FL : FnOk P w K mg base CX0 k fL fdL ["self"] (spBL K C)
  atL : PySem.W.findIn K (.ref C) "__len__" = some (some (.ref fL))
  fnL : PySem.W.isFn K (.ref fL) = true
  hbL : Binds K fdL ["self"] []
def Srtd (T' T : Tb) : Prop := T'.Perm T ∧ (T'.map (·.1)).Pairwise (· ≤ ·)
theorem nx_at {D : Ends} {σ : L2.St} {H H2 : Hp} (e : H = H2) (h : D.nx σ H2) : D.nx σ H := e ▸ h
section
variable {P : Program} {w : World} {K : PySem.W.Frag} {mg : Str → Option Value} {base : Heap} {f fL : Addr} {fd fdL : FuncData} {k : Nat} {C : Addr}
/-- a dict of lists of rows -/
def TbO (K : PySem.W.Frag) (H : Hp) (d : Addr) (T : Tb) : Prop := ∃ kvs, H d = some (.dK kvs) ∧ DpK K H kvs (datL T)
structure GoodT (T : Tb) : Prop where
  nd : (T.map (·.1)).Nodup
  few : T.length ≤ 100
  tot : tot T ≤ 5000
/-- a block whose dict is new since H0 -/
def BlN (K : PySem.W.Frag) (C : Addr) (H0 H : Hp) (b : Addr) (T : Tb) (wt : Int) : Prop := ∃ dx kd kvs, H b = some (.ins C dx [("kept", .ref kd), ("weight", .int wt)]) ∧ H kd = some (.dK kvs) ∧ DpK K H kvs (datT T) ∧ H0 kd = none
theorem BlN.o {K : PySem.W.Frag} {C : Addr} {H0 H : Hp} {b : Addr} {T : Tb} {wt : Int} (h : BlN K C H0 H b T wt) : BlO K C H b T wt := let ⟨a, b, c, d, e, f, _⟩ := h; ⟨a, b, c, d, e, f⟩
def spBI (K : PySem.W.Frag) (C : Addr) : Sp := fun vs H Q _ => ∃ (x d dx : Addr) (T : Tb) (w : V) (wt : Int), vs = [.ref x, .ref d, w] ∧ H x = some (.ins C dx []) ∧ TbO K H d T ∧ GoodT T ∧ ((w = .non ∧ wt = (tot T : Nat)) ∨ w = .int wt) ∧
  ∀ T' H', Srtd T' T → BlN K C H H' x T' wt → (∀ b o, b ≠ x → H b = some o → H' b = some o) → Q .non H'
theorem ok_bi (F : FunD K "__init__" "Block.__init__" (defArgs sBI) (defBody sBI) (defScope sBI) [] [("weight", .non)] f fd) (T : TBl K C) (BL : BLen P w K mg base C fL fdL k) (m_len : mg "len" = none) (m_sorted : mg "sorted" = none) (m_tuple : mg "tuple" = none) : FnOk P w K mg base CX0 (k + 2) f fd ["self", "rows", "weight"] (spBI K C) := by
  refine F.ok (CX := CX0) scBI (fun vs H Q E h => ?_) (fun cdv A outer s H vs Q E hr h => ?_)
  · obtain ⟨x, d, dx, TT, v, wt, rfl, _⟩ := h
    rfl
  · obtain ⟨x, d, dx, TT, v, wt, rfl, hx, ⟨kvs, hd, dk⟩, g, hw, q⟩ := h
    have hu := hu_of hr
    suffices z : ∃ t, PSs (cxOf CX0 P w K mg base NBI "Block.__init__" (defScope sBI) f cdv A outer s H E).nox (defBody sBI) t ∧ t { nx := fun _ H' => Q .non H', rt := Q } (start NBI [.ref x, .ref d, v]) H by
      obtain ⟨t, h1, h2⟩ := z
      exact ⟨t, h1.nox, h2⟩
    refine ⟨_, pss_cons (ps_fld (pv 0) (pe_dc (own := [("place", 3)]) (g := (gName 3)) (tt := tYes) rfl scBI.nd (pi_list (pe_callB (cr_sortedDI rfl) (by rfl) m_sorted (by decide +kernel) (pa_cons (pv 1) pa_nil))) (blkOk_by (own := [("place", 3)]) (N := NBI) (sc := defScope sBI) (by decide +kernel)) (fun _ _ _ _ _ => (pg_name (i := 3) scBI.nd rfl (.inl rfl))) (fun _ _ _ _ _ => pts_nil) (fun _ _ _ _ _ => (pv 3)) (fun _ _ _ _ _ => (pe_callTy call_tupleFK (by rfl) m_tuple (by decide +kernel) (pa_cons (pe_dget hu (pv 1) (pv 3) (fun _ _ => rfl)) pa_nil)))) rfl)
      (pss_one (ps_fld (pv 0) (pe_ifExp (pt_cmpR op_isN (pv 2) pe_non (nomark _)) (pe_callB (cr_lenO BL.FL BL.atL BL.fnL BL.hbL pass0 (hr.mono (by omega))) (by rfl) m_len (by decide +kernel) (pa_cons (pv 0) pa_nil)) (pv 2)) rfl)), ?_⟩
    have ek := dpK_keys dk
    have nxd : x ≠ d := fun z => by
      rw [z, hd] at hx
      cases hx
    refine ⟨_, rfl, d, kvs, _, rfl, .inl hd, ek, fun ms p pm up np => ⟨p, rfl, ⟨_, SqL.of upd_same⟩, fun D nD => ?_⟩⟩
    have sp := same_new (o := .lst (ms.map V.int)) np
    obtain ⟨H1, e1⟩ : ∃ H1, upd H p (.lst (ms.map V.int)) = H1 := ⟨_, rfl⟩
    have hp1 : H1 p = some (.lst (ms.map V.int)) := by
      rw [← e1]
      exact upd_same
    rw [e1] at sp nD ⊢
    have lm : ms.length ≤ 100 := by
      rw [pm.length_eq, List.length_map]
      exact g.few
    refine walked_w (walk_list (K := K) (a := p) (xs := ms.map V.int)) (fun i Hc => Same H1 Hc ∧ ∃ zs, Hc D = some (.dK zs) ∧ DpK K Hc zs (datT ((ms.take i).map fun m => (m, getR TT m)))) ⟨same_new nD, [], upd_same, .nil⟩ (fun i Hc _ h => SqL.of (h.1 _ _ hp1)) ?_ ?_
    · rintro i y Hc Hd hi ⟨sc, zs, hD, dz⟩ ⟨rfl, ey⟩
      rw [List.getElem?_map] at ey
      obtain ⟨m, em, rfl⟩ := Option.map_eq_some_iff.mp ey
      have mk : m ∈ TT.map (·.1) := pm.mem_iff.mp (List.mem_of_getElem? em)
      obtain ⟨⟨m', rs⟩, hr', rfl⟩ := List.mem_map.mp mk
      have hdc := sc _ _ (sp _ _ hd)
      have dkc := dpK_same (sp.trans sc) dk
      rcases dpK_val (m := m') dkc with ⟨rs2, v2, ef, ev, dv⟩ | ⟨ef, _⟩
      · obtain ⟨a, xs, rfl, sq, da⟩ := dp_lstI dv
        refine ⟨rfl, yes_b (if_t ⟨_, rfl, _, rfl, _, rfl, d, _, rfl, ?_, a, xs, rfl, sq, fun l o no nl => ?_⟩)⟩
        · have gt := DGet.k (k := .inl m') hdc
          rw [ev] at gt
          exact gt
        have sl := same_new (o := .frz o (.tup xs)) nl
        have gr : getR TT m' = rs2 := by
          unfold getR
          rw [ef]
          rfl
        have lz : zs.length = i := by
          have := (dpK_len dz).trans (List.length_map _)
          rw [List.length_map, List.length_take] at this
          rw [List.length_map] at hi
          omega
        refine ⟨zs, .inl m', rfl, sl _ _ hD, small1000 (by rw [List.length_map] at hi; omega), same_put nD (sc.trans sl), _, upd_same, ?_⟩
        have fresh : (Sum.inl m' : Key) ∉ zs.map (·.1) := by
          rw [dpK_keys dz, List.map_map]
          intro hk
          obtain ⟨z, hz, e⟩ := List.mem_map.mp hk
          obtain ⟨z2, hz2, rfl⟩ := List.mem_map.mp hz
          have e2 : z2 = m' := Sum.inl.inj e
          rw [e2] at hz2
          have ndm : ms.Nodup := pm.nodup_iff.mpr g.nd
          obtain ⟨j, hj, ej⟩ := List.mem_iff_getElem.mp hz2
          rw [List.length_take] at hj
          rw [List.getElem_take] at ej
          have e3 : ms[j]? = some m' := by rw [List.getElem?_eq_getElem (by omega), ej]
          have := (List.getElem?_inj (by omega) ndm).mp (e3.trans em.symm)
          omega
        have lu : LT Hd (upd (upd Hd l (.frz o (.tup xs))) D (.dK (putK zs (.inl m') (.ref l)))) := (LT.of sl).trans (LT.put (sl _ _ hD) nlt_dK)
        have ta : (datT ((ms.take (i + 1)).map fun m => (m, getR TT m))) = datT ((ms.take i).map fun m => (m, getR TT m)) ++ [(.inl m', .tuple (rs2.map rd))] := by
          rw [List.take_add_one, em]
          delta datT dat
          rw [List.map_append, List.map_append]
          show _ ++ [(_, PyData.tuple ((getR TT m').map rd))] = _
          rw [gr]
        rw [ta, putK_new fresh]
        rw [putK_new fresh] at lu
        refine dpK_app (dpK_lt lu dz) (.cons ⟨rfl, .tup (sqT_lt (LT.put (sl _ _ hD) nlt_dK) (.inl (.inr ⟨o, upd_same⟩))) (dpAll_lt lu da), (rds_formT rs2).1⟩ .nil)
      · have := List.find?_eq_none.mp ef _ hr'
        simp at this
    · rintro Hc ⟨sc, zs, hD, dz⟩
      rw [List.length_map, List.take_length] at dz
      have sH := sp.trans sc
      have hxc := sH _ _ hx
      refine ⟨_, rfl, x, C, dx, [], rfl, hxc, T.cl, T.nk, (by show 0 < 1000; decide), ?_⟩
      obtain ⟨H3, e3⟩ : ∃ H3, upd Hc x (.ins C dx (putF "kept" (.ref D) [])) = H3 := ⟨_, rfl⟩
      have hx3 : H3 x = some (.ins C dx [("kept", .ref D)]) := by
        rw [← e3]
        exact upd_same
      have Dx : D ≠ x := fun z => by
        rw [z, hxc] at hD
        cases hD
      have hD3 : H3 D = some (.dK zs) := by
        rw [← e3, upd_ne Dx]
        exact hD
      have lt3 : LT Hc H3 := e3 ▸ LT.put hxc nlt_ins
      refine nx_at e3 ?_
      have Td : Srtd (ms.map fun m => (m, getR TT m)) TT := ⟨srt_perm g.nd pm, by
        rw [List.map_map]
        have e : (ms.map ((fun p : Int × List Rw => p.1) ∘ fun m => (m, getR TT m))) = ms := by
          rw [show ((fun p : Int × List Rw => p.1) ∘ fun m => (m, getR TT m)) = id from rfl, List.map_id]
        rw [e]
        exact up⟩
      have bl3 : BlF K C H3 x (ms.map fun m => (m, getR TT m)) [] := ⟨dx, D, zs, hx3, hD3, dpK_lt lt3 dz⟩
      have keep3 : ∀ b o, b ≠ x → H b = some o → H3 b = some o := fun b o n e => by
        rw [← e3, upd_ne n]
        exact sH _ _ e
      have last : ∀ H4 (wt' : Int), wt' = wt → Same H3 H4 → Q .non (upd H4 x (.ins C dx (putF "weight" (.int wt') [("kept", .ref D)]))) := fun H4 wt' ew s4 => by
        subst ew
        have hx4 := s4 _ _ hx3
        refine q _ _ Td ⟨dx, D, zs, upd_same, by rw [upd_ne Dx]; exact s4 _ _ hD3, dpK_lt ((LT.of s4).trans (LT.put hx4 nlt_ins)) (dpK_lt lt3 dz), sp.free nD⟩ fun b o n e => ?_
        rw [upd_ne n]
        exact s4 _ _ (keep3 b o n e)
      rcases hw with ⟨rfl, ew⟩ | rfl
      · have tt : tot (ms.map fun m => (m, getR TT m)) = tot TT := tot_perm (srt_perm g.nd pm)
        have few := g.tot
        refine ⟨_, rfl, rfl, true, rfl, if_t ⟨_, rfl, x, dx, _, rfl, hx3, x, _, [], rfl, bl3, by omega, fun H4 s4 => ⟨_, rfl, ?_, _, rfl, x, C, dx, _, rfl, s4 _ _ hx3, T.cl, T.nw, (by show 1 < 1000; decide), ?_⟩⟩⟩
        · rw [tt]
          exact Nat.lt_of_le_of_lt few (by decide)
        · exact last H4 _ (by rw [tt, ew]) s4
      · exact ⟨_, rfl, rfl, false, rfl, if_f ⟨_, rfl, _, rfl, x, C, dx, _, rfl, hx3, T.cl, T.nw, (by show 1 < 1000; decide), last H3 wt rfl (Same.refl _)⟩⟩
end
end Tg

set_option maxHeartbeats 2000000
namespace Tg
open PySem PySem.Spec PyProof.Rows L2 LamX
/-! ### places, rows_at, rows_in -/
abbrev sBP : Stmt := inCls (topS 39) 3
abbrev sBAt : Stmt := inCls (topS 39) 5
abbrev sBR : Stmt := inCls (topS 39) 6
abbrev NBR : List Str := ["self", "place", "start", "end", "row"]
theorem scBP : FnScope ["self"] ["self"] (defScope sBP) := ⟨rfl, rfl, rfl, by decide +kernel, rfl, by decide +kernel, by decide +kernel⟩
theorem scBAt : FnScope ["self", "place"] ["self", "place"] (defScope sBAt) := ⟨rfl, rfl, rfl, by decide +kernel, rfl, by decide +kernel, by decide +kernel⟩
theorem scBR : FnScope NBR ["self", "place", "start", "end"] (defScope sBR) := ⟨rfl, rfl, rfl, by decide +kernel, rfl, by decide +kernel, by decide +kernel⟩
/-- the rows of a stretch -/
def inR (s e : Int) (rs : List Rw) : List Rw := rs.filter fun r => decide (s ≤ r.1) && decide (r.1 < e)
theorem inR_succ {s e : Int} {rs : List Rw} {i : Nat} {r : Rw} (h : rs[i]? = some r) : inR s e (rs.take (i + 1)) = inR s e (rs.take i) ++ if (decide (s ≤ r.1) && decide (r.1 < e)) = true then [r] else [] := by
  unfold inR
  rw [List.take_add_one, List.filter_append, h]
  congr 1
  show List.filter _ [r] = _
  rw [List.filter_cons]
  split <;> rfl
theorem tot_mem {T : Tb} {p : Int × List Rw} (h : p ∈ T) : p.2.length ≤ tot T := by
  unfold tot
  exact (List.sublist_flatten_of_mem (List.mem_map.mpr ⟨p, h, rfl⟩)).length_le
theorem getR_len {T : Tb} (m : Int) : (getR T m).length ≤ tot T := by
  unfold getR
  cases e : T.find? fun p => decide (p.1 = m) with
  | none => exact Nat.zero_le _
  | some p => exact tot_mem (List.mem_of_find?_eq_some e)
section
variable {P : Program} {w : World} {K : PySem.W.Frag} {mg : Str → Option Value} {base : Heap} {f fL : Addr} {fd fdL : FuncData} {k : Nat} {C : Addr}
def spBP (K : PySem.W.Frag) (C : Addr) : Sp := fun vs H Q _ => ∃ (b : Addr) (T : Tb) (wt : Int), vs = [.ref b] ∧ BlO K C H b T wt ∧ ∀ p H', Same H H' → H p = none → H' p = some (.lst ((T.map (·.1)).map V.int)) → Q (.ref p) H'
theorem ok_bp (F : Fun K "places" "Block.places" sBP f fd) (T : TBl K C) (m_list : mg "list" = none) : FnOk P w K mg base CX0 (k + 1) f fd ["self"] (spBP K C) := by
  refine F.ok scBP (fun vs H Q E h => ?_) (fun cdv A outer s H vs Q E hr h => ?_)
  · obtain ⟨b, TT, wt, rfl, _⟩ := h
    rfl
  · obtain ⟨b, TT, wt, rfl, ⟨dx, kd, kvs, hb, hk, dk⟩, q⟩ := h
    refine ⟨_, pss_one (ps_ret (pe_callTy (call_listD rfl) (by rfl) m_list (by decide +kernel) (pa_cons (pe_fld (pv 0) rfl) pa_nil))), ?_⟩
    refine ⟨_, rfl, b, C, dx, _, .ref kd, rfl, hb, T.cl, T.nk, rfl, kd, kvs, rfl, .inl hk, fun p np => q p _ (same_new np) np ?_⟩
    rw [upd_same]
    have e : kvs.map (fun kv => kV kv.1) = (TT.map (·.1)).map V.int := by
      have z := congrArg (List.map kV) (dpK_keys dk)
      rw [List.map_map, List.map_map] at z
      exact z
    rw [e]
def spBAt (K : PySem.W.Frag) (C : Addr) : Sp := fun vs H Q _ => ∃ (b : Addr) (T : Tb) (wt m : Int), vs = [.ref b, .int m] ∧ BlO K C H b T wt ∧ ∀ p xs H', Same H H' → H p = none → H' p = some (.lst xs) → DpAll K H' xs ((getR T m).map rd) → Q (.ref p) H'
theorem ok_bat (F : Fun K "rows_at" "Block.rows_at" sBAt f fd) (T : TBl K C) (m_list : mg "list" = none) : FnOk P w K mg base CX0 (k + 1) f fd ["self", "place"] (spBAt K C) := by
  refine F.ok scBAt (fun vs H Q E h => ?_) (fun cdv A outer s H vs Q E hr h => ?_)
  · obtain ⟨b, TT, wt, m, rfl, _⟩ := h
    rfl
  · obtain ⟨b, TT, wt, m, rfl, ⟨dx, kd, kvs, hb, hk, dk⟩, q⟩ := h
    have hu := hu_of hr
    refine ⟨_, pss_one (ps_ret (pe_callTy call_list_of (by rfl) m_list (by decide +kernel) (pa_cons (pe_dget2 hu (pe_fld (pv 0) rfl) (pv 1) (pe_tup pa_nil) ⟨rfl, rfl, rfl, rfl⟩) pa_nil))), ?_⟩
    refine ⟨_, rfl, b, C, dx, _, .ref kd, rfl, hb, T.cl, T.nk, rfl, kd, rfl, .inl ⟨_, .inl hk⟩, _, rfl, by show 0 ≤ sizeLine; decide, fun t nt => ?_⟩
    have st := same_new (o := .tup []) nt
    refine ⟨_, DGet.k (k := .inl m) (st _ _ hk), ?_⟩
    rcases dpK_val (m := m) (dpK_same st dk) with ⟨rs, v, ef, ev, dv⟩ | ⟨ef, ev⟩
    · obtain ⟨a, xs, rfl, sq, da⟩ := dp_tupI dv
      rw [ev]
      have gr : getR TT m = rs := by
        unfold getR
        rw [ef]
        rfl
      refine ⟨a, xs, rfl, .inr sq, fun p np => q p xs _ (st.trans (same_new np)) (st.free np) upd_same ?_⟩
      rw [gr]
      exact dpAll_same (same_new np) da
    · rw [ev]
      have gr : getR TT m = [] := by
        unfold getR
        rw [ef]
        rfl
      refine ⟨t, [], rfl, .inr (SqT.of upd_same), fun p np => q p [] _ (st.trans (same_new np)) (st.free np) upd_same ?_⟩
      rw [gr]
      exact .nil
def spBR (K : PySem.W.Frag) (C : Addr) : Sp := fun vs H Q _ => ∃ (b : Addr) (T : Tb) (wt m s e : Int), vs = [.ref b, .int m, .int s, .int e] ∧ BlO K C H b T wt ∧ tot T ≤ 5000 ∧ ∀ p xs H', Same H H' → H p = none → H' p = some (.lst xs) → DpAll K H' xs ((inR s e (getR T m)).map rd) → Q (.ref p) H'
theorem ok_br (F : Fun K "rows_in" "Block.rows_in" sBR f fd) (T : TBl K C) (M_rows_at : CalM P w K mg base k C "rows_at" ["self", "place"] (spBAt K C)) : FnOk P w K mg base CX0 (k + 1) f fd ["self", "place", "start", "end"] (spBR K C) := by
  refine F.ok scBR (fun vs H Q E h => ?_) (fun cdv A outer s H vs Q E hr h => ?_)
  · obtain ⟨b, TT, wt, m, st, e, rfl, _⟩ := h
    rfl
  · obtain ⟨b, TT, wt, m, st, e, rfl, bl, few, q⟩ := h
    refine ⟨_, pss_one (ps_ret (pe_lc (own := [("row", 4)]) (g := (gName 4)) rfl scBR.nd (pi_list (pe_calM (pv 0) T.cl M_rows_at (hr.mono (by omega)) (pa_cons (pv 1) pa_nil))) (blkOk_by (own := [("row", 4)]) (N := NBR) (sc := defScope sBR) (by decide +kernel)) (fun _ _ _ _ _ => (pg_name (i := 4) scBR.nd rfl (.inl rfl))) (fun _ _ _ _ _ => pts_one (pt_chain op_le op_lt (pv 2) (pe_ix (r := rIxT K) ix_tup (pv 4) pe_int (fun _ _ => rfl)) (pv 3))) (fun _ _ _ _ _ => (pv 4)))), ?_⟩
    obtain ⟨dx, kd, kvs, hb, _⟩ := id bl
    refine ⟨_, rfl, b, dx, _, rfl, hb, rfl, _, rfl, b, TT, wt, m, rfl, bl, fun p xs H1 s1 np hp da => ?_⟩
    have lx : xs.length ≤ 5000 := by
      have := getR_len (T := TT) m
      rw [dpAll_len da, List.length_map]
      omega
    have len : xs.length = (getR TT m).length := by rw [dpAll_len da, List.length_map]
    refine ⟨p, rfl, ⟨_, SqL.of hp⟩, fun D nD => walked_w (walk_list (K := K) (a := p) (xs := xs)) (fun i Hc => Same H1 Hc ∧ ∃ ys, Hc D = some (.lst ys) ∧ ys.length ≤ i ∧ DpAll K Hc ys ((inR st e ((getR TT m).take i)).map rd)) ⟨same_new nD, [], upd_same, Nat.le_refl _, .nil⟩ (fun i Hc _ h => SqL.of (h.1 _ _ hp)) ?_ ?_⟩
    · rintro i v Hc Hd hi ⟨sc, ys, hD, ly, dy⟩ ⟨rfl, ev⟩
      obtain ⟨r, er, dv⟩ := dl_at da ev
      obtain ⟨a, rfl, sq⟩ := dp_rd dv
      have sq' := sqT_same sc sq
      have dvc := dp_same sc dv
      refine ⟨rfl, _, rfl, _, rfl, a, _, 0, .int r.1, rfl, rfl, sq', rfl, st, r.1, rfl, rfl, _, rfl, ?_⟩
      have big : 5000 < sizeLine := by decide
      have yes : (decide (st ≤ r.1) && decide (r.1 < e)) = true → ∃ acc, Hd D = some (.lst acc) ∧ acc.length < sizeLine ∧ Same H1 (upd Hd D (.lst (acc ++ [.ref a]))) ∧ ∃ ys, (upd Hd D (.lst (acc ++ [.ref a]))) D = some (.lst ys) ∧ ys.length ≤ i + 1 ∧ DpAll K (upd Hd D (.lst (acc ++ [.ref a]))) ys ((inR st e ((getR TT m).take (i + 1))).map rd) := fun c => by
        have sn : Same H1 (upd Hd D (.lst (ys ++ [.ref a]))) := same_put nD sc
        refine ⟨ys, hD, by omega, sn, _, upd_same, by rw [List.length_append]; show _ + 1 ≤ _; omega, ?_⟩
        rw [inR_succ er, c, if_pos rfl, List.map_append]
        have kt : KT Hd (upd Hd D (.lst (ys ++ [.ref a]))) := KT.put hD nfix_lst
        exact dpAll_app (dpAll_kt kt dy (td_rds _)) (.cons (dp_same sn dv) .nil)
      have no : (decide (st ≤ r.1) && decide (r.1 < e)) = false → Same H1 Hd ∧ ∃ ys, Hd D = some (.lst ys) ∧ ys.length ≤ i + 1 ∧ DpAll K Hd ys ((inR st e ((getR TT m).take (i + 1))).map rd) := fun c => by
        refine ⟨sc, ys, hD, by omega, ?_⟩
        rw [inR_succ er, c, if_neg (by decide), List.append_nil]
        exact dy
      by_cases c1 : st ≤ r.1
      · rw [decide_eq_true c1] at yes no
        rw [if_pos (decide_eq_true c1)]
        refine ⟨_, rfl, r.1, e, rfl, rfl, _, rfl, ?_⟩
        cases c2 : decide (r.1 < e) with
        | true => exact if_t ⟨_, rfl, yes (by rw [c2]; rfl)⟩
        | false => exact if_f (no (by rw [c2]; rfl))
      · rw [decide_eq_false c1] at no
        rw [if_neg (by rw [decide_eq_false c1]; decide)]
        exact ⟨false, rfl, if_f (no rfl)⟩
    · rintro Hc ⟨sc, ys, hD, ly, dy⟩
      rw [len, List.take_length] at dy
      exact q D ys Hc (s1.trans sc) (s1.free nD) hD dy
end
end Tg

set_option maxHeartbeats 2000000
namespace Tg
open PySem PySem.Spec PyProof.Rows L2 LamX
/-! ### extents -/
abbrev sBX : Stmt := inCls (topS 39) 7
abbrev NBX : List Str := ["self", "times", "rows", "row", "numbers"]
theorem scBX : FnScope NBX ["self"] (defScope sBX) := ⟨rfl, rfl, rfl, by decide +kernel, rfl, by decide +kernel, by decide +kernel⟩
def rowsOf (T : Tb) : List Rw := (T.map (·.2)).flatten
theorem rows_succ {T : Tb} {i : Nat} {p : Int} {rs : List Rw} (h : T[i]? = some (p, rs)) : rowsOf (T.take (i + 1)) = rowsOf (T.take i) ++ rs := by
  unfold rowsOf
  rw [List.take_add_one, h, List.map_append, List.flatten_append]
  simp
theorem rows_perm {T T' : Tb} (pm : T'.Perm T) : (rowsOf T').Perm (rowsOf T) := (pm.map _).flatten
theorem same_unlock {H H1 Hc : Hp} {kd : Addr} {od : Obj} {u : HO} (hk : H kd = some u) (e1 : upd H kd (.frz od u) = H1) (sc : Same H1 Hc) : Same H (upd Hc kd u) := fun x o e => by
  by_cases z : x = kd
  · rw [z, hk] at e
    cases e
    rw [z]
    exact upd_same
  · rw [upd_ne z]
    refine sc _ _ ?_
    rw [← e1, upd_ne z]
    exact e
/-- least and greatest of ints -/
def Least (ns : List Int) (m : Int) : Prop := m ∈ ns ∧ ∀ x, x ∈ ns → m ≤ x
def Greatest (ns : List Int) (m : Int) : Prop := m ∈ ns ∧ ∀ x, x ∈ ns → x ≤ m
/-- the extents of rows, as data -/
def IsExt (rs : List Rw) (d : PyData) : Prop := (rs = [] ∧ d = .none) ∨ ∃ a b c e, rs ≠ [] ∧ d = .tuple [.int a, .int b, .int c, .int e] ∧ Least (rs.map (·.1)) a ∧ Greatest (rs.map (·.1)) b ∧ Least (rs.map (·.2.1)) c ∧ Greatest (rs.map (·.2.1)) e
section
variable {P : Program} {w : World} {K : PySem.W.Frag} {mg : Str → Option Value} {base : Heap} {f fL : Addr} {fd fdL : FuncData} {k : Nat} {C : Addr}
def spBX (K : PySem.W.Frag) (C : Addr) : Sp := fun vs H Q _ => ∃ (b : Addr) (T : Tb) (wt : Int), vs = [.ref b] ∧ BlO K C H b T wt ∧ tot T ≤ 5000 ∧ ∀ v d H', Same H H' → Dp K H' v d → IsExt (rowsOf T) d → Q v H'
theorem ok_bx (F : Fun K "extents" "Block.extents" sBX f fd) (T : TBl K C) (m_min : mg "min" = none) (m_max : mg "max" = none) : FnOk P w K mg base CX0 (k + 1) f fd ["self"] (spBX K C) := by
  refine F.ok scBX (fun vs H Q E h => ?_) (fun cdv A outer s H vs Q E hr h => ?_)
  · obtain ⟨b, TT, wt, rfl, _⟩ := h
    rfl
  · obtain ⟨b, TT, wt, rfl, ⟨dx, kd, kvs, hb, hk, dk⟩, few, q⟩ := h
    refine ⟨_, pss_cons (ps_lock (ps_setLc2 (i := 1) (own := [("rows", 2), ("row", 3)]) (vs1 := [3]) (g := (gName 2)) (tt := tYes) (wi1 := iTup K (tVar 2)) (g1 := (gName 3)) (tt1 := tYes) rfl scBX.nd rfl rfl (sw_true rfl rfl rfl (by decide +kernel)) (pi_values (pe_fld (pv 0) rfl)) (blkOk_by (own := [("rows", 2), ("row", 3)]) (N := NBX) (sc := defScope sBX) (by decide +kernel)) (by decide) (fun _ _ _ _ _ => (pg_name (i := 2) scBX.nd rfl (.inl rfl))) (fun _ _ _ _ _ => pts_nil) (fun _ _ _ _ _ => (pi_tup (pv 2))) (fun _ _ _ _ _ => (pg_name (i := 3) scBX.nd rfl (.inl rfl))) (fun _ _ _ _ _ => pts_nil) (fun _ _ _ _ _ => (pe_ix (r := rIxT K) ix_tup (pv 3) pe_int (fun _ _ => rfl)))))
      (pss_cons (ps_lock (ps_setLc2 (i := 4) (own := [("rows", 2), ("row", 3)]) (vs1 := [3]) (g := (gName 2)) (tt := tYes) (wi1 := iTup K (tVar 2)) (g1 := (gName 3)) (tt1 := tYes) rfl scBX.nd rfl rfl (sw_true rfl rfl rfl (by decide +kernel)) (pi_values (pe_fld (pv 0) rfl)) (blkOk_by (own := [("rows", 2), ("row", 3)]) (N := NBX) (sc := defScope sBX) (by decide +kernel)) (by decide) (fun _ _ _ _ _ => (pg_name (i := 2) scBX.nd rfl (.inl rfl))) (fun _ _ _ _ _ => pts_nil) (fun _ _ _ _ _ => (pi_tup (pv 2))) (fun _ _ _ _ _ => (pg_name (i := 3) scBX.nd rfl (.inl rfl))) (fun _ _ _ _ _ => pts_nil) (fun _ _ _ _ _ => (pe_ix (r := rIxT K) ix_tup (pv 3) pe_int (fun _ _ => rfl)))))
      (pss_cons (ps_if (pt_not (pt_truth (pv 1) (fun _ => rfl)))
        (pss_one (ps_ret pe_non))
        pss_nil)
      (pss_one (ps_ret (pe_tup (pa_cons (pe_callB (cr_min rfl) (by rfl) m_min (by decide +kernel) (pa_cons (pv 1) pa_nil)) (pa_cons (pe_callB (cr_max rfl) (by rfl) m_max (by decide +kernel) (pa_cons (pv 1) pa_nil)) (pa_cons (pe_callB (cr_min rfl) (by rfl) m_min (by decide +kernel) (pa_cons (pv 4) pa_nil)) (pa_cons (pe_callB (cr_max rfl) (by rfl) m_max (by decide +kernel) (pa_cons (pv 4) pa_nil)) pa_nil))))))))), ?_⟩
    have kb : b ≠ kd := fun z => by
      rw [z, hk] at hb
      cases hb
    have big : 5000 < sizeLine := by decide
    have lk : kvs.length = TT.length := (dpK_len dk).trans (List.length_map _)
    have all : rowsOf (TT.take kvs.length) = rowsOf TT := by rw [lk, List.take_length]
    have le : ∀ i, (rowsOf (TT.take i)).length ≤ tot TT := fun i => tot_le i
    refine ⟨kd, _, hk, trivial, fun od => ?_⟩
    obtain ⟨H1, e1⟩ : ∃ H1, upd H kd (.frz od (.dK kvs)) = H1 := ⟨_, rfl⟩
    have hk1 : H1 kd = some (.frz od (.dK kvs)) := by
      rw [← e1]
      exact upd_same
    have hb1 : H1 b = some (.ins C dx (("kept", .ref kd) :: [("weight", .int wt)])) := by
      rw [← e1]
      exact (upd_ne kb).trans hb
    have dk1 : DpK K H1 kvs (datT TT) := e1 ▸ dpK_lt (LT.put hk nlt_dK) dk
    rw [e1]
    refine ⟨_, rfl, b, C, dx, _, .ref kd, rfl, hb1, T.cl, T.nk, rfl, kd, od, kvs, rfl, hk1, fun D nD => ?_⟩
    have kD : kd ≠ D := ne_of_none hk1 nD
    refine walked_w walk_values (fun i Hc => Same H1 Hc ∧ Hc D = some (.lst (((rowsOf (TT.take i)).map (·.1)).map V.int))) ⟨same_new nD, upd_same⟩ (fun i Hc _ h => h.1 _ _ hk1) ?_ ?_
    · rintro i v Hc Hd hi ⟨sc, hD⟩ ⟨rfl, key, ek⟩
      obtain ⟨q', eq', _, dp, _⟩ := dpK_at dk1 ek
      obtain ⟨p0, rs, eT, rfl⟩ := dat_at eq'
      obtain ⟨a, xs, rfl, sq, da⟩ := dp_tupI dp
      have lx : xs.length = rs.length := by rw [dpAll_len da, List.length_map]
      have rsu := rows_succ eT
      have l1 := le (i + 1)
      rw [rsu, List.length_append] at l1
      refine ⟨rfl, yes_b (if_t ⟨_, rfl, a, rfl, ⟨_, sqT_same sc sq⟩, ?_⟩)⟩
      refine walked_w (walk_tup (K := K) (a := a) (xs := xs)) (fun j Hc => Same H1 Hc ∧ Hc D = some (.lst (((rowsOf (TT.take i) ++ rs.take j).map (·.1)).map V.int))) ⟨sc, by rw [List.take_zero, List.append_nil]; exact hD⟩ (fun j Hc _ h => sqT_same h.1 sq) ?_ ?_
      · rintro j y Hc Hd hj ⟨sc, hD⟩ ⟨rfl, ey⟩
        obtain ⟨r, er, dv⟩ := dl_at da ey
        obtain ⟨ra, rfl, sr⟩ := dp_rd dv
        refine ⟨rfl, yes_b (if_t ⟨_, rfl, ra, _, 0, .int r.1, rfl, rfl, sqT_same sc sr, rfl, _, hD, ?_, same_put nD sc, ?_⟩)⟩
        · rw [List.length_map, List.length_map, List.length_append, List.length_take]
          omega
        · rw [upd_same, List.take_add_one, er, ← List.append_assoc]
          simp only [List.map_append]
          rfl
      · rintro Hc ⟨sc, hD⟩
        rw [lx, List.take_length, ← rsu] at hD
        exact ⟨sc, hD⟩
    rintro Hc ⟨sc, hD⟩
    rw [all] at hD
    refine ⟨sc _ _ hk1, ?_⟩
    have s2 := same_unlock hk e1 sc
    obtain ⟨H2, e2⟩ : ∃ H2, upd Hc kd (.dK kvs) = H2 := ⟨_, rfl⟩
    have hD2 : H2 D = some (.lst (((rowsOf TT).map (·.1)).map V.int)) := by
      rw [← e2, upd_ne kD.symm]
      exact hD
    rw [e2] at s2
    refine nx_at e2 ?_
    have hk2 := s2 _ _ hk
    have dk2 := dpK_same s2 dk
    refine ⟨kd, _, hk2, trivial, fun od2 => ?_⟩
    obtain ⟨H3, e3⟩ : ∃ H3, upd H2 kd (.frz od2 (.dK kvs)) = H3 := ⟨_, rfl⟩
    have hk3 : H3 kd = some (.frz od2 (.dK kvs)) := by
      rw [← e3]
      exact upd_same
    have hb3 : H3 b = some (.ins C dx (("kept", .ref kd) :: [("weight", .int wt)])) := by
      rw [← e3]
      exact (upd_ne kb).trans (s2 _ _ hb)
    have dk3 : DpK K H3 kvs (datT TT) := e3 ▸ dpK_lt (LT.put hk2 nlt_dK) dk2
    rw [e3]
    refine ⟨_, rfl, b, C, dx, _, .ref kd, rfl, hb3, T.cl, T.nk, rfl, kd, od2, kvs, rfl, hk3, fun D2 nD2 => ?_⟩
    have kD2 : kd ≠ D2 := ne_of_none hk3 nD2
    refine walked_w walk_values (fun i Hc => Same H3 Hc ∧ Hc D2 = some (.lst (((rowsOf (TT.take i)).map (·.2.1)).map V.int))) ⟨same_new nD2, upd_same⟩ (fun i Hc _ h => h.1 _ _ hk3) ?_ ?_
    · rintro i v Hc Hd hi ⟨sc, hD⟩ ⟨rfl, key, ek⟩
      obtain ⟨q', eq', _, dp, _⟩ := dpK_at dk3 ek
      obtain ⟨p0, rs, eT, rfl⟩ := dat_at eq'
      obtain ⟨a, xs, rfl, sq, da⟩ := dp_tupI dp
      have lx : xs.length = rs.length := by rw [dpAll_len da, List.length_map]
      have rsu := rows_succ eT
      have l1 := le (i + 1)
      rw [rsu, List.length_append] at l1
      refine ⟨rfl, yes_b (if_t ⟨_, rfl, a, rfl, ⟨_, sqT_same sc sq⟩, ?_⟩)⟩
      refine walked_w (walk_tup (K := K) (a := a) (xs := xs)) (fun j Hc => Same H3 Hc ∧ Hc D2 = some (.lst (((rowsOf (TT.take i) ++ rs.take j).map (·.2.1)).map V.int))) ⟨sc, by rw [List.take_zero, List.append_nil]; exact hD⟩ (fun j Hc _ h => sqT_same h.1 sq) ?_ ?_
      · rintro j y Hc Hd hj ⟨sc, hD⟩ ⟨rfl, ey⟩
        obtain ⟨r, er, dv⟩ := dl_at da ey
        obtain ⟨ra, rfl, sr⟩ := dp_rd dv
        refine ⟨rfl, yes_b (if_t ⟨_, rfl, ra, _, 1, .int r.2.1, rfl, rfl, sqT_same sc sr, rfl, _, hD, ?_, same_put nD2 sc, ?_⟩)⟩
        · rw [List.length_map, List.length_map, List.length_append, List.length_take]
          omega
        · rw [upd_same, List.take_add_one, er, ← List.append_assoc]
          simp only [List.map_append]
          rfl
      · rintro Hc ⟨sc, hD⟩
        rw [lx, List.take_length, ← rsu] at hD
        exact ⟨sc, hD⟩
    rintro Hc ⟨sc, hDc⟩
    rw [all] at hDc
    refine ⟨sc _ _ hk3, ?_⟩
    have s4 := same_unlock hk2 e3 sc
    obtain ⟨H4, e4⟩ : ∃ H4, upd Hc kd (.dK kvs) = H4 := ⟨_, rfl⟩
    have hN4 : H4 D2 = some (.lst (((rowsOf TT).map (·.2.1)).map V.int)) := by
      rw [← e4, upd_ne kD2.symm]
      exact hDc
    rw [e4] at s4
    refine nx_at e4 ?_
    have hT4 := s4 _ _ hD2
    obtain ⟨rss, er⟩ : ∃ rss, rowsOf TT = rss := ⟨_, rfl⟩
    rw [er] at hN4 hD2 q
    have hD4 : H4 D = some (.lst ((rss.map (·.1)).map V.int)) := s4 _ _ hD2
    have sAll : Same H H4 := s2.trans s4
    cases rss with
    | nil => exact ⟨_, rfl, false, .inl ⟨_, SqL.of hD4, rfl⟩, if_t (q _ _ _ sAll .non (.inl ⟨rfl, rfl⟩))⟩
    | cons r0 rs0 =>
      refine ⟨_, rfl, true, .inl ⟨_, SqL.of hD4, rfl⟩, if_f ?_⟩
      refine ⟨_, rfl, D, _, rfl, SqL.of hD4, by rw [List.length_map]; exact Nat.succ_pos _, fun a ia la => ?_⟩
      refine ⟨_, rfl, D, _, rfl, SqL.of hD4, by rw [List.length_map]; exact Nat.succ_pos _, fun b ib lb => ?_⟩
      refine ⟨_, rfl, D2, _, rfl, SqL.of hN4, by rw [List.length_map]; exact Nat.succ_pos _, fun c ic lc => ?_⟩
      refine ⟨_, rfl, D2, _, rfl, SqL.of hN4, by rw [List.length_map]; exact Nat.succ_pos _, fun e ie le => ?_⟩
      refine ⟨by show 4 ≤ sizeLine; decide, fun p np => ?_⟩
      exact q _ _ _ (sAll.trans (same_new np)) (.tup (SqT.of upd_same) (.cons (.int _) (.cons (.int _) (.cons (.int _) (.cons (.int _) .nil))))) (.inr ⟨a, b, c, e, by simp, rfl, ⟨ia, la⟩, ⟨ib, lb⟩, ⟨ic, lc⟩, ⟨ie, le⟩⟩)
end
end Tg

set_option maxHeartbeats 2000000
namespace Tg
open PySem PySem.Spec PyProof.Rows L2 LamX
/-! ### blocks alike; the columns of a place -/
abbrev sBE : Stmt := inCls (topS 39) 1
abbrev sBC : Stmt := inCls (topS 39) 4
abbrev NBC : List Str := ["self", "place", "rows", "times", "time", "number", "worth", "numbers", "there", "worths"]
theorem scBE : FnScope ["self", "other"] ["self", "other"] (defScope sBE) := ⟨rfl, rfl, rfl, by decide +kernel, rfl, by decide +kernel, by decide +kernel⟩
theorem scBC : FnScope NBC ["self", "place"] (defScope sBC) := ⟨rfl, rfl, rfl, by decide +kernel, rfl, by decide +kernel, by decide +kernel⟩
/-- whether blocks are alike -/
def alB (T T' : Tb) (wt wt' : Int) : Bool := eqvK (datT T) (datT T') && decide (V.int wt = V.int wt')
/-- what the own == of a block says -/
def EqBl (K : PySem.W.Frag) (C : Addr) (a : Addr) (v : V) (b : Bool) (H : Hp) : Prop :=
  (∃ (c : Addr) (T T' : Tb) (wt wt' : Int), v = .ref c ∧ BlO K C H a T wt ∧ BlO K C H c T' wt' ∧ b = alB T T' wt wt') ∨
  (∃ (T : Tb) (wt : Int) (t : Value), BlO K C H a T wt ∧ TyX K H v t ∧ PySem.W.kitOne K t (.ref C) = some false ∧ b = false)
section
variable {P : Program} {w : World} {K : PySem.W.Frag} {mg : Str → Option Value} {base : Heap} {f fL : Addr} {fd fdL : FuncData} {k : Nat} {C CC PT : Addr}
theorem ok_be (F : Fun K "__eq__" "Block.__eq__" sBE f fd) (T : TBl K C) (TI : TInC K C) (g_Block : mg "Block" = some (.ref C)) (m_isinstance : mg "isinstance" = none) : FnOk P w K mg base CX0 (k + 1) f fd ["self", "other"] (spEqB (EqBl K C)) := by
  refine F.ok scBE (fun vs H Q E h => ?_) (fun cdv A outer s H vs Q E hr h => ?_)
  · obtain ⟨a, y, b, rfl, _⟩ := h
    rfl
  · obtain ⟨a, v, b, rfl, said, q⟩ := h
    have hu : (A.deeper (envOfC (Str.ofString "Block.__eq__") (defScope sBE) s.heap.objs.size f cdv)).units + 65 < cLine := by have := hr.un; omega
    refine ⟨_, pss_one (ps_ret (pe_and (pe_callB call_isi (by rfl) m_isinstance (by decide +kernel) (pa_cons (pv 1) (pa_cons (pe_glob (v := .ref C) rfl g_Block rfl) pa_nil))) (pe_and (pe_cmpR (op_eqK hu) (pe_fld (pv 0) rfl) (pe_fld (pv 1) rfl) (nomark _)) (pe_one (pe_cmpR op_eq (pe_fld (pv 0) rfl) (pe_fld (pv 1) rfl) (nomark _)))))), ?_⟩
    rcases said with ⟨c, T1, T2, wt, wt', rfl, ⟨dA, kA, vA, eA, hA, pA⟩, ⟨dB, kB, vB, eB, hB, pB⟩, rfl⟩ | ⟨T1, wt, t, _, ty, kt, rfl⟩
    · refine ⟨_, rfl, .ref c, .ref C, .ref C, .ref C, true, rfl, .own _, .base (.ins eB T.cl TI.cc TI.get TI.takes TI.obj), TI.kit, true, rfl, if_t ?_⟩
      refine ⟨_, rfl, a, C, dA, _, _, rfl, eA, T.cl, T.nk, rfl, _, rfl, c, C, dB, _, _, rfl, eB, T.cl, T.nk, rfl, kA, kB, vA, vB, _, _, rfl, rfl, hA, hB, pA, pB, _, rfl, ?_⟩
      have z := q H Ext.rfl'
      unfold alB at z
      refine ite2 (fun g1 => ?_) (fun g1 => ?_)
      · refine ⟨_, rfl, a, C, dA, _, _, rfl, eA, T.cl, T.nw, rfl, _, rfl, c, C, dB, _, _, rfl, eB, T.cl, T.nw, rfl, rfl, ?_⟩
        rw [show eqvK (datT T1) (datT T2) = true from g1, Bool.true_and] at z
        exact z
      · rw [show eqvK (datT T1) (datT T2) = false from Bool.eq_false_iff.mpr g1, Bool.false_and] at z
        exact z
    · exact ⟨_, rfl, v, .ref C, t, .ref C, false, rfl, .own _, ty, kt, false, rfl, if_f (q H Ext.rfl')⟩
/-- the four lists of rows -/
def tms (rs : List Rw) : List Int := rs.map (·.1)
def nms (rs : List Rw) : List Int := rs.map (·.2.1)
def thw : Option Int → Int
  | none => 0
  | some _ => 1
def ths (rs : List Rw) : List Int := rs.map fun r => thw r.2.2
def wths (rs : List Rw) : List Int := rs.filterMap (·.2.2)
theorem tms_succ {rs : List Rw} {i : Nat} {r : Rw} (h : rs[i]? = some r) : tms (rs.take (i + 1)) = tms (rs.take i) ++ [r.1] := by
  unfold tms
  rw [List.take_add_one, h, List.map_append]
  rfl
theorem nms_succ {rs : List Rw} {i : Nat} {r : Rw} (h : rs[i]? = some r) : nms (rs.take (i + 1)) = nms (rs.take i) ++ [r.2.1] := by
  unfold nms
  rw [List.take_add_one, h, List.map_append]
  rfl
theorem ths_succ {rs : List Rw} {i : Nat} {r : Rw} (h : rs[i]? = some r) : ths (rs.take (i + 1)) = ths (rs.take i) ++ [thw r.2.2] := by
  unfold ths
  rw [List.take_add_one, h, List.map_append]
  rfl
theorem wths_succ {rs : List Rw} {i : Nat} {r : Rw} (h : rs[i]? = some r) : wths (rs.take (i + 1)) = wths (rs.take i) ++ match r.2.2 with
  | none => []
  | some z => [z] := by
  unfold wths
  rw [List.take_add_one, h, List.filterMap_append]
  congr 1
  show List.filterMap _ [r] = _
  rw [List.filterMap_cons]
  cases r.2.2 <;> rfl
theorem fl_0 (rs : List Rw) (i : Nat) : (tms (rs.take i)).length ≤ i := by
  unfold tms
  rw [List.length_map, List.length_take]
  exact Nat.min_le_left ..
theorem fl_1 (rs : List Rw) (i : Nat) : (nms (rs.take i)).length ≤ i := by
  unfold nms
  rw [List.length_map, List.length_take]
  exact Nat.min_le_left ..
theorem fl_2 (rs : List Rw) (i : Nat) : (ths (rs.take i)).length ≤ i := by
  unfold ths
  rw [List.length_map, List.length_take]
  exact Nat.min_le_left ..
theorem fl_3 (rs : List Rw) (i : Nat) : (wths (rs.take i)).length ≤ i := by
  unfold wths
  refine Nat.le_trans (List.length_filterMap_le ..) ?_
  rw [List.length_take]
  exact Nat.min_le_left ..
theorem colZ_ext {K : PySem.W.Frag} {C : Addr} {H H' : Hp} {a : Addr} {y : Wy} {xs : List Int} {z : Int} (s : ExtN H H') (h : ColZ K C H a y xs z) : ColZ K C H' a y xs z := by
  obtain ⟨dx, g, h1, q, eg, h2⟩ := h
  refine ⟨dx, g, s _ _ h1 (fun _ e => nomatch e), q, eg, fun ne => ?_⟩
  have h3 := h2 ne
  cases y with
  | plain => exact sqT_ext s h3
  | book =>
    obtain ⟨l, q1, q2⟩ := h3
    exact ⟨l, sqT_ext s q1, s _ _ q2 (fun _ e => nomatch e)⟩
  | «by» W =>
    obtain ⟨ts, q1, q2⟩ := h3
    exact ⟨ts, s _ _ q1 (fun _ e => nomatch e), q2.kt (ExtN.kt s)⟩
/-- what stands of four columns in a tuple -/
def Cols (K : PySem.W.Frag) (CC : Addr) (H : Hp) (rs : List Rw) (cs : List V) : Prop := ∃ c1 c2 c3 c4 y1 y2 y3 y4, cs = [.ref c1, .ref c2, .ref c3, .ref c4] ∧ ColZ K CC H c1 y1 (tms rs) 0 ∧ ColZ K CC H c2 y2 (nms rs) 0 ∧ ColZ K CC H c3 y3 (ths rs) 0 ∧ ColZ K CC H c4 y4 (wths rs) 0 ∧
  y1 = best (tms rs) ∧ y2 = best (nms rs) ∧ y3 = best (ths rs) ∧ y4 = best (wths rs)
def LoR (rs : List Rw) : Prop := Lo 70 (tms rs) ∧ Lo 70 (nms rs) ∧ Lo 70 (ths rs) ∧ Lo 70 (wths rs)
def spBC (K : PySem.W.Frag) (C CC PT : Addr) : Sp := fun vs H Q _ => ∃ (b : Addr) (T : Tb) (wt m : Int) (rs : List Rw), vs = [.ref b, .int m] ∧ BlO K C H b T wt ∧ T.find? (fun p => decide (p.1 = m)) = some (m, rs) ∧ rs.length ≤ 300 ∧ LoR rs ∧ Tabs (TT PT) H ∧ ∀ t cs H', Grow (TT PT) H H' → H' t = some (.tup cs) → Cols K CC H' rs cs → Q (.ref t) H'
theorem ok_bc (F : Fun K "columns_of" "Block.columns_of" sBC f fd) (T : TBl K C) (C_pack : CalD P w K mg base k "pack" ["numbers", "way"] [.non] (spPk K CC PT)) : FnOk P w K mg base CX0 (k + 1) f fd ["self", "place"] (spBC K C CC PT) := by
  refine F.ok scBC (fun vs H Q E h => ?_) (fun cdv A outer s H vs Q E hr h => ?_)
  · obtain ⟨b, TT, wt, m, rs, rfl, _⟩ := h
    rfl
  · obtain ⟨b, TT, wt, m, rs, rfl, ⟨dx, kd, kvs, hb, hk, dk⟩, ef, few, ⟨lo1, lo2, lo3, lo4⟩, tabs, q⟩ := h
    have hu := hu_of hr
    refine ⟨_, pss_cons (ps_set (i := 2) scBC.nd rfl (.inl rfl) (pe_dget hu (pe_fld (pv 0) rfl) (pv 1) (fun _ _ => rfl)))
      (pss_cons (ps_setLc (i := 3) (own := [("time", 4), ("number", 5), ("worth", 6)]) (g := (gTup K 3 (gCons (gName 4) (gCons (gName 5) (gCons (gName 6) gNil))))) (tt := tYes) rfl scBC.nd rfl rfl (sw_true rfl rfl rfl (by decide +kernel)) (pi_tup (pv 2)) (blkOk_by (own := [("time", 4), ("number", 5), ("worth", 6)]) (N := NBC) (sc := defScope sBC) (by decide +kernel)) (fun _ _ _ _ _ => (pg_tup rfl (pgs_cons (pg_name (i := 4) scBC.nd rfl (.inl rfl)) (pgs_cons (pg_name (i := 5) scBC.nd rfl (.inl rfl)) (pgs_cons (pg_name (i := 6) scBC.nd rfl (.inl rfl)) pgs_nil))))) (fun _ _ _ _ _ => pts_nil) (fun _ _ _ _ _ => (pv 4)))
      (pss_cons (ps_setLc (i := 7) (own := [("time", 4), ("number", 5), ("worth", 6)]) (g := (gTup K 3 (gCons (gName 4) (gCons (gName 5) (gCons (gName 6) gNil))))) (tt := tYes) rfl scBC.nd rfl rfl (sw_true rfl rfl rfl (by decide +kernel)) (pi_tup (pv 2)) (blkOk_by (own := [("time", 4), ("number", 5), ("worth", 6)]) (N := NBC) (sc := defScope sBC) (by decide +kernel)) (fun _ _ _ _ _ => (pg_tup rfl (pgs_cons (pg_name (i := 4) scBC.nd rfl (.inl rfl)) (pgs_cons (pg_name (i := 5) scBC.nd rfl (.inl rfl)) (pgs_cons (pg_name (i := 6) scBC.nd rfl (.inl rfl)) pgs_nil))))) (fun _ _ _ _ _ => pts_nil) (fun _ _ _ _ _ => (pv 5)))
      (pss_cons (ps_setLc (i := 8) (own := [("time", 4), ("number", 5), ("worth", 6)]) (g := (gTup K 3 (gCons (gName 4) (gCons (gName 5) (gCons (gName 6) gNil))))) (tt := tYes) rfl scBC.nd rfl rfl (sw_true rfl rfl rfl (by decide +kernel)) (pi_tup (pv 2)) (blkOk_by (own := [("time", 4), ("number", 5), ("worth", 6)]) (N := NBC) (sc := defScope sBC) (by decide +kernel)) (fun _ _ _ _ _ => (pg_tup rfl (pgs_cons (pg_name (i := 4) scBC.nd rfl (.inl rfl)) (pgs_cons (pg_name (i := 5) scBC.nd rfl (.inl rfl)) (pgs_cons (pg_name (i := 6) scBC.nd rfl (.inl rfl)) pgs_nil))))) (fun _ _ _ _ _ => pts_nil) (fun _ _ _ _ _ => (pe_ifExp (pt_cmpR op_isN (pv 6) pe_non (nomark _)) pe_int pe_int)))
      (pss_cons (ps_setLc (i := 9) (own := [("time", 4), ("number", 5), ("worth", 6)]) (g := (gTup K 3 (gCons (gName 4) (gCons (gName 5) (gCons (gName 6) gNil))))) rfl scBC.nd rfl rfl (sw_true rfl rfl rfl (by decide +kernel)) (pi_tup (pv 2)) (blkOk_by (own := [("time", 4), ("number", 5), ("worth", 6)]) (N := NBC) (sc := defScope sBC) (by decide +kernel)) (fun _ _ _ _ _ => (pg_tup rfl (pgs_cons (pg_name (i := 4) scBC.nd rfl (.inl rfl)) (pgs_cons (pg_name (i := 5) scBC.nd rfl (.inl rfl)) (pgs_cons (pg_name (i := 6) scBC.nd rfl (.inl rfl)) pgs_nil))))) (fun _ _ _ _ _ => pts_one (pt_cmpR op_notN (pv 6) pe_non (nomark _))) (fun _ _ _ _ _ => (pv 6)))
      (pss_one (ps_ret (pe_tup (pa_cons (pe_calD C_pack (hr.mono (by omega)) (by rfl) (pa_cons (pv 3) pa_nil)) (pa_cons (pe_calD C_pack (hr.mono (by omega)) (by rfl) (pa_cons (pv 7) pa_nil)) (pa_cons (pe_calD C_pack (hr.mono (by omega)) (by rfl) (pa_cons (pv 8) pa_nil)) (pa_cons (pe_calD C_pack (hr.mono (by omega)) (by rfl) (pa_cons (pv 9) pa_nil)) pa_nil))))))))))), ?_⟩
    rcases dpK_val (m := m) dk with ⟨rs', v, ef', ev, dv⟩ | ⟨ef', ev⟩
    · rw [ef] at ef'
      cases ef'
      obtain ⟨a, xs, rfl, sq, da⟩ := dp_tupI dv
      have lx : xs.length = rs.length := by rw [dpAll_len da, List.length_map]
      have s0 := Same.refl H
      refine ⟨_, rfl, b, C, dx, _, .ref kd, rfl, hb, T.cl, T.nk, rfl, _, rfl, kd, _, rfl, by rw [← ev]; exact DGet.k (k := .inl m) hk, ?_⟩
      refine ⟨_, rfl, a, rfl, ⟨_, sqT_same s0 sq⟩, fun D0 nD0 => ?_⟩
      refine walked_w (walk_tup (K := K) (a := a) (xs := xs)) (fun i Hc => Same H Hc ∧ Hc D0 = some (.lst ((tms (rs.take i)).map V.int))) ⟨same_new nD0, upd_same⟩ (fun i Hc _ h => sqT_same (s0.trans h.1) sq) ?_ ?_
      · rintro i v Hc Hd hi ⟨sc, hD⟩ ⟨rfl, ey⟩
        obtain ⟨r, er, dv⟩ := dl_at da ey
        obtain ⟨ra, rfl, sr⟩ := dp_rd dv
        have lt : (tms (rs.take i)).length < sizeLine := by
          have := fl_0 rs i
          have : 300 < sizeLine := by decide
          omega
        have su := tms_succ er
        refine ⟨ra, _, rfl, sqT_same (s0.trans sc) sr, rfl, _, _, rfl, _, _, rfl, _, _, rfl, rfl, rfl, ?_⟩
        exact yes_b (if_t ⟨_, rfl, _, hD, by rw [List.length_map]; exact lt, same_put nD0 sc, by rw [upd_same, su, List.map_append]; rfl⟩)
      rintro H1 ⟨sc0, hD0⟩
      rw [lx, List.take_length] at hD0
      have s1 := s0.trans sc0
      refine ⟨_, rfl, a, rfl, ⟨_, sqT_same s1 sq⟩, fun D1 nD1 => ?_⟩
      refine walked_w (walk_tup (K := K) (a := a) (xs := xs)) (fun i Hc => Same H1 Hc ∧ Hc D1 = some (.lst ((nms (rs.take i)).map V.int))) ⟨same_new nD1, upd_same⟩ (fun i Hc _ h => sqT_same (s1.trans h.1) sq) ?_ ?_
      · rintro i v Hc Hd hi ⟨sc, hD⟩ ⟨rfl, ey⟩
        obtain ⟨r, er, dv⟩ := dl_at da ey
        obtain ⟨ra, rfl, sr⟩ := dp_rd dv
        have lt : (nms (rs.take i)).length < sizeLine := by
          have := fl_1 rs i
          have : 300 < sizeLine := by decide
          omega
        have su := nms_succ er
        refine ⟨ra, _, rfl, sqT_same (s1.trans sc) sr, rfl, _, _, rfl, _, _, rfl, _, _, rfl, rfl, rfl, ?_⟩
        exact yes_b (if_t ⟨_, rfl, _, hD, by rw [List.length_map]; exact lt, same_put nD1 sc, by rw [upd_same, su, List.map_append]; rfl⟩)
      rintro H2 ⟨sc1, hD1⟩
      rw [lx, List.take_length] at hD1
      have s2 := s1.trans sc1
      refine ⟨_, rfl, a, rfl, ⟨_, sqT_same s2 sq⟩, fun D2 nD2 => ?_⟩
      refine walked_w (walk_tup (K := K) (a := a) (xs := xs)) (fun i Hc => Same H2 Hc ∧ Hc D2 = some (.lst ((ths (rs.take i)).map V.int))) ⟨same_new nD2, upd_same⟩ (fun i Hc _ h => sqT_same (s2.trans h.1) sq) ?_ ?_
      · rintro i v Hc Hd hi ⟨sc, hD⟩ ⟨rfl, ey⟩
        obtain ⟨r, er, dv⟩ := dl_at da ey
        obtain ⟨ra, rfl, sr⟩ := dp_rd dv
        have lt : (ths (rs.take i)).length < sizeLine := by
          have := fl_2 rs i
          have : 300 < sizeLine := by decide
          omega
        have su := ths_succ er
        refine ⟨ra, _, rfl, sqT_same (s2.trans sc) sr, rfl, _, _, rfl, _, _, rfl, _, _, rfl, rfl, rfl, ?_⟩
        cases w3 : r.2.2 with
        | none =>
          rw [w3] at su
          refine yes_b (if_t ⟨_, rfl, rfl, true, rfl, if_t ⟨_, hD, by rw [List.length_map]; exact lt, same_put nD2 sc, by rw [upd_same, su, List.map_append]; rfl⟩⟩)
        | some z =>
          rw [w3] at su
          refine yes_b (if_t ⟨_, rfl, rfl, false, rfl, if_f ⟨_, hD, by rw [List.length_map]; exact lt, same_put nD2 sc, by rw [upd_same, su, List.map_append]; rfl⟩⟩)
      rintro H3 ⟨sc2, hD2⟩
      rw [lx, List.take_length] at hD2
      have s3 := s2.trans sc2
      refine ⟨_, rfl, a, rfl, ⟨_, sqT_same s3 sq⟩, fun D3 nD3 => ?_⟩
      refine walked_w (walk_tup (K := K) (a := a) (xs := xs)) (fun i Hc => Same H3 Hc ∧ Hc D3 = some (.lst ((wths (rs.take i)).map V.int))) ⟨same_new nD3, upd_same⟩ (fun i Hc _ h => sqT_same (s3.trans h.1) sq) ?_ ?_
      · rintro i v Hc Hd hi ⟨sc, hD⟩ ⟨rfl, ey⟩
        obtain ⟨r, er, dv⟩ := dl_at da ey
        obtain ⟨ra, rfl, sr⟩ := dp_rd dv
        have lt : (wths (rs.take i)).length < sizeLine := by
          have := fl_3 rs i
          have : 300 < sizeLine := by decide
          omega
        have su := wths_succ er
        refine ⟨ra, _, rfl, sqT_same (s3.trans sc) sr, rfl, _, _, rfl, _, _, rfl, _, _, rfl, rfl, rfl, ?_⟩
        cases w3 : r.2.2 with
        | none =>
          rw [w3] at su
          rw [List.append_nil] at su
          refine ⟨_, rfl, rfl, false, rfl, if_f ⟨sc, by rw [hD, su]⟩⟩
        | some z =>
          rw [w3] at su
          refine ⟨_, rfl, rfl, true, rfl, if_t ⟨_, rfl, _, hD, by rw [List.length_map]; exact lt, same_put nD3 sc, by rw [upd_same, su, List.map_append]; rfl⟩⟩
      rintro H4 ⟨sc3, hD3⟩
      rw [lx, List.take_length] at hD3
      have s4 := s3.trans sc3
      refine ⟨_, rfl, D0, tms rs, .non, best (tms rs), rfl, .inr ⟨rfl, rfl⟩, tabs.ext s4, (sc1.trans (sc2.trans sc3)) _ _ hD0, lo1, by unfold tms; rw [List.length_map]; exact few, fun c1 G1 g1 _ z1 _ => ?_⟩
      refine ⟨_, rfl, D1, nms rs, .non, best (nms rs), rfl, .inr ⟨rfl, rfl⟩, g1.tabs, nl_ext g1.ext ((sc2.trans sc3) _ _ hD1), lo2, by unfold nms; rw [List.length_map]; exact few, fun c2 G2 g2 _ z2 _ => ?_⟩
      have g12 := g1.trans g2
      refine ⟨_, rfl, D2, ths rs, .non, best (ths rs), rfl, .inr ⟨rfl, rfl⟩, g12.tabs, nl_ext g12.ext (sc3 _ _ hD2), lo3, by unfold ths; rw [List.length_map]; exact few, fun c3 G3 g3 _ z3 _ => ?_⟩
      have g13 := g12.trans g3
      refine ⟨_, rfl, D3, wths rs, .non, best (wths rs), rfl, .inr ⟨rfl, rfl⟩, g13.tabs, nl_ext g13.ext hD3, lo4, Nat.le_trans (by have := fl_3 rs rs.length; rw [List.take_length] at this; exact this) few, fun c4 G4 g4 _ z4 _ => ?_⟩
      have g14 := g13.trans g4
      refine ⟨by show 4 ≤ sizeLine; decide, fun p np => ?_⟩
      have sn : ExtN G4 (upd G4 p (.tup [.ref c1, .ref c2, .ref c3, .ref c4])) := .of (same_new np)
      refine q p _ _ (((Grow.of tabs s4).trans g14).same (same_new np)) upd_same ⟨c1, c2, c3, c4, _, _, _, _, rfl, colZ_ext ((g2.ext.trans (g3.ext.trans g4.ext)).trans sn) z1, colZ_ext ((g3.ext.trans g4.ext).trans sn) z2, colZ_ext (g4.ext.trans sn) z3, colZ_ext sn z4, rfl, rfl, rfl, rfl⟩
    · rw [ef] at ef'
      cases ef'
end
end Tg

set_option maxHeartbeats 2000000
namespace Tg
open PySem PySem.Spec PyProof.Rows L2 LamX
abbrev sRows : Stmt := topS 43
abbrev NRw : List Str := ["_law_draws_here", "_law_most", "_law_told", "_law_few", "_law_k", "_law_pick", "_law_time", "_law_number", "_law_j", "_law_some", "_law_times", "_law_row", "_law_found", "_law_numbers"]
theorem scRows : FnScope NRw ["_law_draws_here", "_law_most"] (defScope sRows) := ⟨rfl, rfl, rfl, by decide +kernel, rfl, by decide +kernel, by decide +kernel⟩
/-- the names in the outer comprehension -/
abbrev scC : Scope := { kind := .function, names := [(".0", .local), ("_law_number", .cell), ("_law_time", .cell), ("_law_told", .cell)], isGenerator := false, isCoroutine := false }
theorem nx_at0 {κ : Type} {D : κ → Hp → Prop} {σ : κ} {H H2 : Hp} (e : H = H2) (h : D σ H2) : D σ H := e ▸ h
/-- what is drawn for a row -/
def OkR (m : Int) (r : Rw) : Prop := r.1.natAbs < 10 ^ 12 ∧ 0 < r.2.1 ∧ r.2.1 ≤ m ∧ ∀ z, r.2.2 = some z → z.natAbs < 10 ^ 16
theorem Dr.kt {H H' : Hp} {p : Addr} {n : Nat} (d : Dr H p n) (k : Kp p H H') : KT H H' := by
  obtain ⟨_, _, _, z2, _⟩ := d
  exact KT.kp k z2 nfix_lst
theorem Dr.mono {H : Hp} {p : Addr} {n m : Nat} (d : Dr H p n) (h : n ≤ m) : Dr H p m := by
  obtain ⟨a, k, b, e, r0, r1⟩ := d
  exact ⟨a, k, b, e, r0, by omega⟩
theorem Dr.ld {K : PySem.W.Frag} {H H' : Hp} {p l : Addr} {n : Nat} {ds : List PyData} (d : Dr H p n) (k : Kp p H H') (ne : l ≠ p) (t : ∀ x, x ∈ ds → TD x) (h : LD K H l ds) : LD K H' l ds := by
  obtain ⟨_, _, _, z2, _⟩ := d
  exact h.kp k z2 nfix_lst ne t
theorem atV_mem {xs : List V} {i : Int} (h0 : 0 ≤ i) (h1 : i < xs.length) : ∃ v, v ∈ xs ∧ atI xs i = some v := by
  obtain ⟨j, rfl⟩ : ∃ j : Nat, i = (j : Int) := ⟨i.toNat, by omega⟩
  have hj : j < xs.length := by omega
  exact ⟨xs[j], List.getElem_mem hj, atI_nat (List.getElem?_eq_getElem hj)⟩
/-- found rows go on in order -/
theorem srt_more {rs qs : List Rw} {t : Int} {ns : List Int} (h : Srt rs) (lt : ∀ r, r ∈ rs → r.1 < t) (hn : ns.Pairwise (· < ·)) (e : qs.map (fun r => (r.1, r.2.1)) = ns.map fun n => (t, n)) : Srt (rs ++ qs) := by
  have hq : ∀ q, q ∈ qs → q.1 = t := fun q hq => by
    have : (q.1, q.2.1) ∈ qs.map fun r => (r.1, r.2.1) := List.mem_map.mpr ⟨q, hq, rfl⟩
    rw [e] at this
    obtain ⟨n, _, z⟩ := List.mem_map.mp this
    exact (congrArg Prod.fst z).symm
  refine List.pairwise_append.mpr ⟨h, ?_, fun a ha b hb => .inl (by rw [hq b hb]; exact lt a ha)⟩
  have : (qs.map fun r => (r.1, r.2.1)).Pairwise fun x y => x.1 = y.1 ∧ x.2 < y.2 := by
    rw [e, List.pairwise_map]
    exact hn.imp fun l => ⟨rfl, l⟩
  rw [List.pairwise_map] at this
  exact this.imp fun l => .inr l
section
variable {P : Program} {w : World} {K : PySem.W.Frag} {mg : Str → Option Value} {base : Heap}
def spRows (K : PySem.W.Frag) : Sp := fun vs H Q _ => ∃ (p : Addr) (n : Nat) (m : Int), vs = [.ref p, .int m] ∧ Dr H p n ∧ n < 900000 ∧
  ∀ (l : Addr) (rs : List Rw) (H' : Hp), Kp p H H' → Dr H' p (n + 400) → H l = none → LD K H' l (rs.map rd) → Srt rs → rs.length ≤ 240 → (∀ r, r ∈ rs → OkR m r) → Q (.ref l) H'
theorem ok_rows {f : Addr} {fd : FuncData} {k : Nat} (F : Fun K "_law_rows" "_law_rows" sRows f fd) (L_next : Cal P w K mg base k "_law_next" ["_law_draws_here"] spNext) (m_range : mg "range" = none) (m_sorted : mg "sorted" = none) (m_set : mg "set" = none) :
    FnOk P w K mg base CX0 (k + 1) f fd ["_law_draws_here", "_law_most"] (spRows K) := by
  refine F.ok scRows (fun vs H Q E h => ?_) (fun cdv A outer s H vs Q E hr h => ?_)
  · obtain ⟨p, n, m, rfl, _⟩ := h
    rfl
  · obtain ⟨p, n, m, rfl, hp, hn, q⟩ := h
    have hu := hr.units
    refine ⟨_, pss_cons (ps_set (i := 2) scRows.nd rfl (.inr rfl) (pe_lst pa_nil))
      (pss_cons (ps_set (i := 3) scRows.nd rfl (.inl rfl) (pe_cal L_next (hr.mono (by omega)) (by rfl) (pa_cons (pv 0) pa_nil)))
      (pss_cons (ps_for PassesOwn.never rfl (pi_range1 (by rfl) m_range (pa_cons (pe_ix ix_list (pe_lst (pa_cons (pe_op op_mod (pe_op op_fdiv (pv 3) pe_int) pe_int) (pa_cons (pe_op op_mod (pe_op op_fdiv (pv 3) pe_int) pe_int) (pa_cons (pe_op op_mod (pe_op op_fdiv (pv 3) pe_int) pe_int) (pa_cons (pe_op op_add pe_int (pe_op op_mod (pe_op op_fdiv (pv 3) pe_int) pe_int)) pa_nil))))) (pe_op op_mod (pv 3) pe_int) (fun _ _ => rfl)) pa_nil)) (pg_name (i := 4) scRows.nd rfl (.inl rfl))
        (pss_cons (ps_set (i := 5) scRows.nd rfl (.inl rfl) (pe_cal L_next (hr.mono (by omega)) (by rfl) (pa_cons (pv 0) pa_nil)))
        (pss_cons (ps_set (i := 6) scRows.nd rfl (.inr rfl) (pe_op op_add (pe_ix ix_list (pe_lst (pa_cons (pv 4) (pa_cons (pe_op op_mul pe_int (pv 4)) (pa_cons (pe_op op_sub (pv 4) pe_int) (pa_cons (pe_op op_sub (pe_op op_mul (pv 4) (pe_op op_pow pe_int pe_int)) (pe_op op_pow pe_int pe_int)) pa_nil))))) (pe_op op_mod (pv 5) pe_int) (fun _ _ => rfl)) (pe_op op_mul pe_int (pe_op op_mod (pe_op op_fdiv (pv 5) pe_int) pe_int))))
        (pss_cons (ps_set (i := 7) scRows.nd rfl (.inl rfl) pe_int)
        (pss_one (ps_for PassesOwn.never rfl (pi_range1 (by rfl) m_range (pa_cons (pe_op op_add pe_int (pe_op op_mod (pe_cal L_next (hr.mono (by omega)) (by rfl) (pa_cons (pv 0) pa_nil)) pe_int)) pa_nil)) (pg_name (i := 8) scRows.nd rfl (.inl rfl))
          (pss_cons (ps_set (i := 9) scRows.nd rfl (.inl rfl) (pe_cal L_next (hr.mono (by omega)) (by rfl) (pa_cons (pv 0) pa_nil)))
          (pss_cons (ps_set (i := 7) scRows.nd rfl (.inl rfl) (pe_op op_add (pe_op op_add (pv 7) pe_int) (pe_op op_mod (pv 9) (pe_ix ix_list (pe_lst (pa_cons pe_int (pa_cons pe_int pa_nil))) (pe_op op_mod (pe_op op_fdiv (pv 9) pe_int) pe_int) (fun _ _ => rfl)))))
          (pss_one (ps_if (pt_cmpR op_le (pv 7) (pv 1) (nomark _))
            (pss_one (ps_expr (pe_bm PySem.F.plainAttrs_list PySem.F.slot_list_append PySem.F.type_list_append mt_append (pv 2) (pa_cons (pe_tup (pa_cons (pv 6) (pa_cons (pv 7) (pa_cons (pe_ix ix_list (pe_lst (pa_cons (pe_op op_sub (pe_op op_mod (pe_op op_fdiv (pv 9) pe_int) pe_int) pe_int) (pa_cons pe_non (pa_cons (pe_op op_mul (pv 9) (pe_op op_pow pe_int pe_int)) (pa_cons pe_int pa_nil))))) (pe_op op_mod (pe_op op_fdiv (pv 9) pe_int) pe_int) (fun _ _ => rfl)) pa_nil)))) pa_nil))))
            pss_nil))))))))))
      (pss_cons (ps_set (i := 10) scRows.nd rfl (.inl rfl) (pe_callB (cr_sortedSetA rfl) (by rfl) m_sorted boot_sorted (pa_cons (pe_callTy (cr_setL rfl) (by rfl) m_set (by decide +kernel) (pa_cons (pe_lc (own := [("_law_row", 11)]) (g := (gName 11)) (tt := tYes) rfl scRows.nd (pi_list (pv 2)) (blkOk_by (own := [("_law_row", 11)]) (N := NRw) (sc := defScope sRows) (by decide +kernel)) (fun _ _ _ _ _ => (pg_name (i := 11) scRows.nd rfl (.inl rfl))) (fun _ _ _ _ _ => pts_nil) (fun _ _ _ _ _ => (pe_ix (r := rIxT K) ix_tup (pv 11) pe_int (fun _ _ => rfl)))) pa_nil)) pa_nil)))
      (pss_cons (ps_set (i := 12) scRows.nd rfl (.inl rfl) (pe_lst pa_nil))
      (pss_cons (ps_for PassesOwn.never rfl (pi_list (pv 10)) (pg_name (i := 6) scRows.nd rfl (.inr rfl))
        (pss_cons (ps_set (i := 13) scRows.nd rfl (.inl rfl) (pe_callB (cr_sortedSetA rfl) (by rfl) m_sorted boot_sorted (pa_cons (pe_callTy (cr_setL rfl) (by rfl) m_set (by decide +kernel) (pa_cons (pe_lc (own := [("_law_row", 11)]) (g := (gName 11)) rfl scRows.nd (pi_list (pv 2)) (blkOk_by (own := [("_law_row", 11)]) (N := NRw) (sc := defScope sRows) (by decide +kernel)) (fun _ _ _ _ _ => (pg_name (i := 11) scRows.nd rfl (.inl rfl))) (fun _ _ _ _ _ => pts_one (pt_cmpR op_eq (pe_ix (r := rIxT K) ix_tup (pv 11) pe_int (fun _ _ => rfl)) (pv 6) (nomark _))) (fun _ _ _ _ _ => (pe_ix (r := rIxT K) ix_tup (pv 11) pe_int (fun _ _ => rfl)))) pa_nil)) pa_nil)))
        (pss_one (ps_set (i := 12) scRows.nd rfl (.inl rfl) (pe_op op_cat (pv 12) (pe_lc (own := [("_law_number", 7)]) (g := (gName 7)) (tt := tYes) rfl scRows.nd (pi_list (pv 13)) (blkOk_by (own := [("_law_number", 7)]) (N := NRw) (sc := defScope sRows) (by decide +kernel)) (fun _ _ _ _ _ => (pg_name (i := 7) scRows.nd rfl (.inr rfl))) (fun _ _ _ _ _ => pts_nil) (fun _ _ _ _ _ => (pe_ix (r := rIxL K) ix_list (pe_lc (own := [("_law_row", 11)]) (g := (gName 11)) (wi := iList K (tVar 2)) rfl scRows.nd (pi_list (pv 2)) (blkOk_by (own := [("_law_row", 11)]) (N := NRw) (sc := scC) (by decide +kernel)) (fun _ _ _ _ _ => (pg_name (i := 11) scRows.nd rfl (.inl rfl))) (fun _ _ _ _ _ => pts_one (pt_cmpR (r := rEqD K) (op_eqD hu) (pe_slice (r := rSlT K) sl_tup (pv 11) po_none (po_some pe_int)) (pe_tup (pa_cons (pv 6) (pa_cons (pv 7) pa_nil))) (nomark _))) (fun _ _ _ _ _ => (pv 11))) pe_int (fun _ _ => rfl)))))))))
      (pss_one (ps_ret (pv 12)))))))), ?_⟩
    -- told = []
    refine ⟨Nat.zero_le _, fun l nl => ?_⟩
    have nlp : l ≠ p := hp.ne nl
    have s1 : Same H (upd H l (.lst [])) := same_new nl
    refine ⟨_, rfl, p, n, rfl, hp.same s1, by omega, fun few H1 k1 d1 v10 v11 => ?_⟩
    have hl1 : H1 l = some (.lst []) := k1 _ _ nlp upd_same
    have m9 := Int.emod_nonneg (few / 4) (show (9 : Int) ≠ 0 by decide)
    have m9' := Int.emod_lt_of_pos (few / 4) (show (0 : Int) < 9 by decide)
    have m41 := Int.emod_nonneg (few / 4) (show (41 : Int) ≠ 0 by decide)
    have m41' := Int.emod_lt_of_pos (few / 4) (show (0 : Int) < 41 by decide)
    have s0 := fun (l2 : Addr) (n2 : H1 l2 = none) => same_new (o := .lst [.int (few / 4 % 9), .int (few / 4 % 9), .int (few / 4 % 9), .int (20 + few / 4 % 41)]) n2
    obtain ⟨cv, hcv, ecv⟩ := atI_mem (xs := [few / 4 % 9, few / 4 % 9, few / 4 % 9, 20 + few / 4 % 41]) (Int.emod_nonneg few (show (4 : Int) ≠ 0 by decide)) (Int.emod_lt_of_pos few (show (0 : Int) < 4 by decide))
    have cb : 0 ≤ cv ∧ cv ≤ 60 := by
      simp only [List.mem_cons, List.not_mem_nil, or_false] at hcv
      rcases hcv with rfl | rfl | rfl | rfl <;> omega
    refine ⟨_, rfl, _, _, rfl, rfl, ⟨by decide, by decide⟩, _, _, rfl, rfl, (by show (0 : Int) < 9; decide), _, rfl, _, _, rfl, rfl, ⟨by decide, by decide⟩, _, _, rfl, rfl, (by show (0 : Int) < 9; decide), _, rfl, _, _, rfl, rfl, ⟨by decide, by decide⟩, _, _, rfl, rfl, (by show (0 : Int) < 9; decide), _, rfl, _, _, rfl, rfl, ⟨by decide, by decide⟩, _, _, rfl, rfl, (by show (0 : Int) < 41; decide), _, _, rfl, rfl, by show 4 ≤ sizeLine; decide, fun l0 n0 => ?_⟩
    refine ⟨_, rfl, _, _, rfl, rfl, (by show (0 : Int) < 4; decide), l0, _, _, .int cv, rfl, rfl, SqL.of upd_same, ecv, _, rfl, by omega, by omega, ?_⟩
    have k00 := k1.trans (.of (s0 l0 n0))
    have hl0 := s0 l0 n0 _ _ hl1
    have d0 := d1.same (s0 l0 n0)
    obtain ⟨cn, ec⟩ : ∃ cn : Nat, cv.toNat = cn := ⟨_, rfl⟩
    have cn60 : cn ≤ 60 := by omega
    rw [ec]
    refine for_range (n := cn) (fun i σ Hc => ∃ (L : List Rw) (z3 z4 z5 z6 z7 z8 : Option V), σ = [some (.ref p), some (.int m), some (.ref l), some (.int few), z3, z4, z5, z6, z7, z8, none, none, none, none] ∧ Kp p H Hc ∧ Dr Hc p (n + 1 + 6 * i) ∧ LD K Hc l (L.map rd) ∧ L.length ≤ 4 * i ∧ ∀ r, r ∈ L → OkR m r) ?_ ?_ ?_
    · exact ⟨[], none, none, none, none, none, none, rfl, (Kp.of s1).trans k00, d0, ⟨[], hl0, .nil⟩, Nat.le_refl _, fun r h => absurd h List.not_mem_nil⟩
    · rintro i σ Hc hi ⟨L, z3, z4, z5, z6, z7, z8, rfl, kc, dc, ldc, hL, okL⟩
      -- pick
      refine ⟨_, rfl, p, _, rfl, dc, by omega, fun v2 H2 k2 d2 v20 v21 => ?_⟩
      have ld2 := dc.ld k2 nlp (td_rds L) ldc
      -- time
      refine ⟨_, rfl, _, rfl, _, _, rfl, rfl, .inl ⟨by decide, by decide⟩, _, rfl, _, _, rfl, rfl, _, rfl, 10, 9, rfl, rfl, ⟨by decide, by decide, by decide⟩, _, _, rfl, rfl, .inr ⟨by decide, by decide⟩, 10, 10, rfl, rfl, ⟨by decide, by decide, by decide⟩, _, _, rfl, rfl, by show 4 ≤ sizeLine; decide, fun l2 n2 => ?_⟩
      have s3 := same_new (o := .lst ([0 + (i : Int), 10 * (0 + (i : Int)), 0 + (i : Int) - 4, (0 + (i : Int)) * 10 ^ 9 - 10 ^ 10].map V.int)) n2
      obtain ⟨tb, htb, etb⟩ := atI_mem (xs := [0 + (i : Int), 10 * (0 + (i : Int)), 0 + (i : Int) - 4, (0 + (i : Int)) * 10 ^ 9 - 10 ^ 10]) (Int.emod_nonneg v2 (show (4 : Int) ≠ 0 by decide)) (Int.emod_lt_of_pos v2 (show (0 : Int) < 4 by decide))
      refine ⟨_, rfl, _, _, rfl, rfl, (by show (0 : Int) < 4; decide), l2, _, _, .int tb, rfl, rfl, SqL.of upd_same, etb, _, rfl, _, _, rfl, rfl, ⟨by decide, by decide⟩, _, _, rfl, rfl, (by show (0 : Int) < 3; decide), _, _, rfl, rfl, .inl ⟨by decide, by decide⟩, _, _, rfl, rfl, ?_⟩
      obtain ⟨tm, etm⟩ : ∃ tm : Int, tb + 40 * (v2 / 4 % 3) = tm := ⟨_, rfl⟩
      have tmB : tm.natAbs < 10 ^ 12 := by
        simp only [List.mem_cons, List.not_mem_nil, or_false] at htb
        have e9 : (10 : Int) ^ 9 = 1000000000 := by decide
        have e10 : (10 : Int) ^ 10 = 10000000000 := by decide
        have e12 : 10 ^ 12 = 1000000000000 := by decide
        rw [e12]
        rw [e9, e10] at htb
        have w0 := Int.emod_nonneg (v2 / 4) (show (3 : Int) ≠ 0 by decide)
        have w1 := Int.emod_lt_of_pos (v2 / 4) (show (0 : Int) < 3 by decide)
        rcases htb with rfl | rfl | rfl | rfl <;> omega
      have d3 := d2.same s3
      have ld3 := ld2.same s3
      have k3 : Kp p H (upd H2 l2 (.lst ([0 + (i : Int), 10 * (0 + (i : Int)), 0 + (i : Int) - 4, (0 + (i : Int)) * 10 ^ 9 - 10 ^ 10].map V.int))) := (kc.trans k2).trans (.of s3)
      -- how many
      refine ⟨_, rfl, p, _, rfl, d3, by omega, fun v4 H4 k4 d4 v40 v41 => ?_⟩
      have ld4 := d3.ld k4 nlp (td_rds L) ld3
      have k4H := k3.trans k4
      have r4 := Int.emod_nonneg v4 (show (4 : Int) ≠ 0 by decide)
      have r4' := Int.emod_lt_of_pos v4 (show (0 : Int) < 4 by decide)
      refine ⟨_, _, rfl, rfl, (by show (0 : Int) < 4; decide), _, _, rfl, rfl, _, rfl, by omega, by omega, ?_⟩
      obtain ⟨jn, ej⟩ : ∃ jn : Nat, (1 + v4 % 4).toNat = jn := ⟨_, rfl⟩
      rw [ej]
      refine for_range (n := jn) (fun j σ He => ∃ (L2 : List Rw) (an : Int) (z7 z8 : Option V), σ = [some (.ref p), some (.int m), some (.ref l), some (.int few), some (.int (0 + i)), some (.int v2), some (.int tm), some (.int an), z7, z8, none, none, none, none] ∧ Kp p H He ∧ Dr He p (n + 1 + 6 * i + 2 + j) ∧ LD K He l (L2.map rd) ∧ L2.length ≤ 4 * i + j ∧ 0 ≤ an ∧ ∀ r, r ∈ L2 → OkR m r) ?_ ?_ ?_
      · exact ⟨L, 0, z7, z8, by rw [← etm]; rfl, k4H, d4, ld4, hL, Int.le_refl _, okL⟩
      · rintro j σ He hj ⟨L2, an, y7, y8, rfl, ke, de, lde, hL2, an0, okL2⟩
        refine ⟨_, rfl, p, _, rfl, de, by omega, fun v5 H5 k5 d5 v50 v51 => ?_⟩
        have ld5 := de.ld k5 nlp (td_rds L2) lde
        refine ⟨_, rfl, _, _, rfl, rfl, _, rfl, by show 2 ≤ sizeLine; decide, fun l3 n3 => ?_⟩
        have s6 := same_new (o := .lst ([2, 9].map V.int)) n3
        obtain ⟨dv, hdv, edv⟩ := atI_mem (xs := [2, 9]) (Int.emod_nonneg (v5 / 16) (show (2 : Int) ≠ 0 by decide)) (Int.emod_lt_of_pos (v5 / 16) (show (0 : Int) < 2 by decide))
        have dv0 : 0 < dv := by
          simp only [List.mem_cons, List.not_mem_nil, or_false] at hdv
          rcases hdv with rfl | rfl <;> decide
        have mod0 := Int.emod_nonneg v5 (show dv ≠ 0 by omega)
        refine ⟨_, rfl, _, _, rfl, rfl, ⟨by decide, by decide⟩, _, _, rfl, rfl, (by show (0 : Int) < 2; decide), l3, _, _, .int dv, rfl, rfl, SqL.of upd_same, edv, _, _, rfl, rfl, dv0, _, _, rfl, rfl, ?_⟩
        have d6 := d5.same s6
        obtain ⟨xs, hx, hd⟩ := ld5.same s6
        have k6 : Kp p H (upd H5 l3 (.lst ([2, 9].map V.int))) := (ke.trans k5).trans (.of s6)
        have lx : xs.length = L2.length := dl_len hd
        refine ⟨_, rfl, _, rfl, _, _, rfl, rfl, _, rfl, ite2 (fun g => ?_) (fun g => ?_)⟩
        · refine ⟨_, rfl, .inl ⟨rfl, _, SqL.of hx⟩, _, rfl, _, rfl, _, rfl, _, _, rfl, rfl, ⟨by decide, by decide⟩, _, _, rfl, rfl, (by show (0 : Int) < 9; decide), _, _, rfl, rfl, _, rfl, 10, 6, rfl, rfl, ⟨by decide, by decide, by decide⟩, _, _, rfl, rfl, .inr ⟨by decide, by decide⟩, by show 4 ≤ sizeLine; decide, fun l4 n4 => ?_⟩
          have s7 := same_new (o := .lst [.int (v5 / 32 % 9 - 4), .non, .int (v5 * 10 ^ 6), .int 0]) n4
          obtain ⟨wv, hwv, ewv⟩ := atV_mem (xs := [.int (v5 / 32 % 9 - 4), .non, .int (v5 * 10 ^ 6), .int 0]) (Int.emod_nonneg (v5 / 8) (show (4 : Int) ≠ 0 by decide)) (Int.emod_lt_of_pos (v5 / 8) (show (0 : Int) < 4 by decide))
          obtain ⟨ow, rfl, okW⟩ : ∃ ow : Option Int, wv = vw ow ∧ ∀ z, ow = some z → z.natAbs < 10 ^ 16 := by
            simp only [List.mem_cons, List.not_mem_nil, or_false] at hwv
            have w0 := Int.emod_nonneg (v5 / 32) (show (9 : Int) ≠ 0 by decide)
            have w1 := Int.emod_lt_of_pos (v5 / 32) (show (0 : Int) < 9 by decide)
            have e16 : 10 ^ 16 = 10000000000000000 := by decide
            have e6 : (10 : Int) ^ 6 = 1000000 := by decide
            rw [e6] at hwv
            rw [e16]
            rcases hwv with rfl | rfl | rfl | rfl
            · exact ⟨some _, rfl, fun z e => by cases e; omega⟩
            · exact ⟨none, rfl, fun z e => by cases e⟩
            · exact ⟨some (v5 * 1000000), rfl, fun z e => by cases e; omega⟩
            · exact ⟨some _, rfl, fun z e => by cases e; decide⟩
          refine ⟨_, rfl, _, _, rfl, rfl, ⟨by decide, by decide⟩, _, _, rfl, rfl, (by show (0 : Int) < 4; decide), l4, _, _, vw ow, rfl, rfl, SqL.of upd_same, ewv, by show 3 ≤ sizeLine; decide, fun t nt => ?_⟩
          have s8 := same_new (o := .tup [.int tm, .int (an + 1 + v5 % dv), vw ow]) nt
          have hx8 := (s7.trans s8) _ _ hx
          refine ⟨l, _, _, rfl, rfl, hx8, small1000 (by omega), ?_⟩
          have d8 := d6.same (s7.trans s8)
          have dt := rd_new (K := K) (r := (tm, an + 1 + v5 % dv, ow)) (SqT.of (upd_same (H := upd (upd H5 l3 (.lst ([2, 9].map V.int))) l4 (.lst [.int (v5 / 32 % 9 - 4), .non, .int (v5 * 10 ^ 6), .int 0])) (a := t) (o := .tup [.int tm, .int (an + 1 + v5 % dv), vw ow])))
          have ld8 := LD.snoc (KT.of (s7.trans s8)) hx8 hd (td_rds L2) dt (td_rd _)
          refine ⟨L2 ++ [(tm, an + 1 + v5 % dv, ow)], _, _, _, rfl, fun c o hc e => ?_, ?_, ?_, ?_⟩
          · rw [upd_ne (ne_of_none e nl)]
            exact (s7.trans s8) _ _ (k6 _ _ hc e)
          · obtain ⟨da, dk, db, h1, h2, h3⟩ := d8
            exact ⟨da, dk, db, by rw [upd_ne nlp.symm]; exact h1, h2, by omega⟩
          · rw [List.map_append]
            exact ld8
          · refine ⟨by rw [List.length_append]; show L2.length + 1 ≤ _; omega, by omega, fun r hr9 => ?_⟩
            rcases List.mem_append.mp hr9 with h | h
            · exact okL2 r h
            · rw [List.mem_singleton.mp h]
              exact ⟨tmB, by show (0 : Int) < an + 1 + v5 % dv; omega, of_decide_eq_true g, okW⟩
        · exact ⟨L2, _, _, _, rfl, k6, d6.mono (by omega), ⟨xs, hx, hd⟩, by omega, by omega, okL2⟩
      · rintro σ He ⟨L2, an, y7, y8, rfl, ke, de, lde, hL2, _, okL2⟩
        exact ⟨L2, _, _, _, _, _, _, rfl, ke, de.mono (by omega), lde, by omega, okL2⟩
    · rintro σ Hb ⟨L, z3, z4, z5, z6, z7, z8, rfl, kb, db, ⟨xs, hx, hd⟩, hL, okL⟩
      have lx : xs.length = L.length := dl_len hd
      -- the times
      refine ⟨_, rfl, l, rfl, ⟨_, SqL.of hx⟩, fun D1 nD1 => lc_list (K := K) (a := l) (xs := xs) (fun j Hc => Same Hb Hc ∧ Hc D1 = some (.lst (((L.take j).map (·.1)).map V.int))) ⟨same_new nD1, upd_same⟩ (fun j Hc _ h => SqL.of (h.1 _ _ hx)) ?_ ?_⟩
      · rintro j v Hc hj ⟨sc, hD⟩
        obtain ⟨r, hr1, dr⟩ := dl_at hd hj
        obtain ⟨a, rfl, ha⟩ := dp_rd (dp_same sc dr)
        refine ⟨rfl, ?_⟩
        unfold tYes
        dsimp only
        rw [if_pos rfl]
        refine ⟨_, rfl, a, _, 0, .int r.1, rfl, rfl, ha, rfl, _, hD, ?_, same_put nD1 sc, ?_⟩
        · rw [List.length_map, List.length_map, List.length_take]
          exact small1000 (by omega)
        · rw [upd_same, take_snoc hr1, List.map_append, List.map_append]
          rfl
      · rintro Hc ⟨sc, hD⟩
        rw [lx, List.take_length] at hD
        refine ⟨D1, L.map (·.1), rfl, SqL.of hD, by rw [List.length_map]; omega, fun a1 c1 na1 hc10 => ?_⟩
        have hc1 := hc10 _ fun k hk => hk
        rw [List.length_map] at hc1
        have s3 := same_new (o := SetO w a1 (fun j => decide (j ∈ L.map (·.1))) c1) na1
        refine ⟨a1, _, c1, rfl, upd_same, Nat.le_of_lt (small1000 (by omega)), fun ts q1 ⟨hts, hmem, hlen⟩ nq1 => ?_⟩
        have s4 := same_new (o := .lst (ts.map V.int)) nq1
        have sB : Same Hb (upd (upd Hc a1 (SetO w a1 (fun j => decide (j ∈ L.map (·.1))) c1)) q1 (.lst (ts.map V.int))) := (sc.trans s3).trans s4
        have hq1 : (upd (upd Hc a1 (SetO w a1 (fun j => decide (j ∈ L.map (·.1))) c1)) q1 (.lst (ts.map V.int))) q1 = some (.lst (ts.map V.int)) := upd_same
        obtain ⟨He, eHe⟩ : ∃ He : Hp, upd (upd Hc a1 (SetO w a1 (fun j => decide (j ∈ L.map (·.1))) c1)) q1 (.lst (ts.map V.int)) = He := ⟨_, rfl⟩
        rw [eHe] at sB hq1
        -- found = []
        refine ⟨Nat.zero_le _, fun f0 nf00 => ?_⟩
        have nf0 : He f0 = none := by
          rw [← eHe]
          exact nf00
        have sf : Same He (upd (upd (upd Hc a1 (SetO w a1 (fun j => decide (j ∈ L.map (·.1))) c1)) q1 (.lst (ts.map V.int))) f0 (.lst [])) := by
          rw [eHe]
          exact same_new nf0
        refine ⟨_, rfl, q1, rfl, ⟨_, SqL.of (sf _ _ hq1)⟩, for_list (K := K) (a := q1) (xs := ts.map V.int) (fun j σ Hg => ∃ (rs : List Rw) (fa : Addr) (y3 y4 y5 y6 y7 y8 y12 : Option V), σ = [some (.ref p), some (.int m), some (.ref l), some (.int few), y3, y4, y5, y6, y7, y8, some (.ref q1), none, some (.ref fa), y12] ∧ Same He Hg ∧ LD K Hg fa (rs.map rd) ∧ He fa = none ∧ Srt rs ∧ (∀ r, r ∈ rs → r ∈ L ∧ r.1 ∈ ts.take j)) ?_ ?_ ?_ ?_⟩
        · exact ⟨[], f0, z3, z4, z5, z6, z7, z8, none, rfl, sf, ⟨[], upd_same, .nil⟩, nf0, .nil, fun r h => absurd h List.not_mem_nil⟩
        · rintro j σ Hg _ ⟨_, _, _, _, _, _, _, _, _, _, sg, _⟩
          exact SqL.of (sg _ _ hq1)
        · rintro j tv σ Hg hj ⟨rs, fa, y3, y4, y5, y6, y7, y8, y12, rfl, sg, ldf, nfa, hsrt, hrs⟩
          rw [List.getElem?_map] at hj
          obtain ⟨t, ht, rfl⟩ := Option.map_eq_some_iff.mp hj
          have sbg := sB.trans sg
          have hxg := sbg _ _ hx
          have hdg := dpAll_same sbg hd
          -- the numbers
          refine ⟨_, rfl, l, rfl, ⟨_, SqL.of hxg⟩, fun D2 nD2 => lc_list (K := K) (a := l) (xs := xs) (fun j Hi => Same Hg Hi ∧ Hi D2 = some (.lst ((((L.take j).filter fun r => decide (r.1 = t)).map (·.2.1)).map V.int))) ⟨same_new nD2, upd_same⟩ (fun j Hi _ h => SqL.of (h.1 _ _ hxg)) ?_ ?_⟩
          · rintro j v Hi hj ⟨si, hD⟩
            obtain ⟨r, hr1, dr⟩ := dl_at hdg hj
            obtain ⟨a, rfl, ha⟩ := dp_rd (dp_same si dr)
            have len : ((L.take j).filter fun r => decide (r.1 = t)).length ≤ 240 := by
              have h1 := List.length_filter_le (fun r : Rw => decide (r.1 = t)) (L.take j)
              rw [List.length_take] at h1
              omega
            refine ⟨rfl, _, rfl, a, _, 0, .int r.1, rfl, rfl, ha, rfl, _, rfl, rfl, _, rfl, ite2 (fun g => ?_) (fun g => ?_)⟩
            · have g1 : decide (r.1 = t) = true := by
                have := of_decide_eq_true g
                exact decide_eq_true (V.int.inj this)
              refine ⟨_, rfl, a, _, 1, .int r.2.1, rfl, rfl, ha, rfl, _, hD, ?_, same_put nD2 si, ?_⟩
              · rw [List.length_map, List.length_map]
                exact small1000 (by omega)
              · rw [upd_same, take_snoc hr1, List.filter_append, List.filter_cons, if_pos g1, List.filter_nil, List.map_append, List.map_append]
                rfl
            · have g1 : ¬ decide (r.1 = t) = true := fun z => g (decide_eq_true (congrArg V.int (of_decide_eq_true z)))
              refine ⟨si, ?_⟩
              rw [hD, take_snoc hr1, List.filter_append, List.filter_cons, if_neg g1, List.filter_nil, List.append_nil]
          · rintro Hi ⟨si, hD⟩
            rw [lx, List.take_length] at hD
            have lf := List.length_filter_le (fun r : Rw => decide (r.1 = t)) L
            refine ⟨D2, _, rfl, SqL.of hD, by rw [List.length_map]; omega, fun a2 c2 na2 hc20 => ?_⟩
            have hc2 := hc20 _ fun k hk => hk
            rw [List.length_map] at hc2
            have s5 := same_new (o := SetO w a2 (fun j => decide (j ∈ (L.filter fun r => decide (r.1 = t)).map (·.2.1))) c2) na2
            refine ⟨a2, _, c2, rfl, upd_same, Nat.le_of_lt (small1000 (by omega)), fun ns q2 ⟨hns, nmem, nlen⟩ nq2 => ?_⟩
            have s6 := same_new (o := .lst (ns.map V.int)) nq2
            have sj : Same Hg (upd (upd Hi a2 (SetO w a2 (fun j => decide (j ∈ (L.filter fun r => decide (r.1 = t)).map (·.2.1))) c2)) q2 (.lst (ns.map V.int))) := (si.trans s5).trans s6
            have hq2 : (upd (upd Hi a2 (SetO w a2 (fun j => decide (j ∈ (L.filter fun r => decide (r.1 = t)).map (·.2.1))) c2)) q2 (.lst (ns.map V.int))) q2 = some (.lst (ns.map V.int)) := upd_same
            obtain ⟨Hj, eHj⟩ : ∃ Hj : Hp, upd (upd Hi a2 (SetO w a2 (fun j => decide (j ∈ (L.filter fun r => decide (r.1 = t)).map (·.2.1))) c2)) q2 (.lst (ns.map V.int)) = Hj := ⟨_, rfl⟩
            have hq20 := hq2
            rw [eHj] at sj hq2
            have hxj := sj _ _ hxg
            have hdj := dpAll_same sj hdg
            -- the rows of the time
            refine ⟨_, rfl, _, rfl, q2, rfl, ⟨_, SqL.of hq20⟩, fun D3 nD30 => lc_list (K := K) (a := q2) (xs := ns.map V.int) (fun i Hk => Same Hj Hk ∧ ∃ qs : List Rw, LD K Hk D3 (qs.map rd) ∧ qs.map (fun r => (r.1, r.2.1)) = (ns.take i).map (fun n => (t, n)) ∧ ∀ r, r ∈ qs → r ∈ L) (by rw [← eHj]; exact ⟨same_new nD30, [], ⟨[], upd_same, .nil⟩, rfl, fun r h => absurd h List.not_mem_nil⟩) (fun i Hk _ h => SqL.of (h.1 _ _ hq2)) ?_ ?_⟩
            · have nD3 : Hj D3 = none := by
                rw [← eHj]
                exact nD30
              rintro i nv Hk hi ⟨sk, qs, ⟨ys, hD3, hdy⟩, eqs, hqs⟩
              rw [List.getElem?_map] at hi
              obtain ⟨nb, hnb, rfl⟩ := Option.map_eq_some_iff.mp hi
              refine ⟨rfl, ?_⟩
              unfold tYes
              dsimp only
              rw [if_pos rfl]
              have hxk := sk _ _ hxj
              have hdk := dpAll_same sk hdj
              refine ⟨_, rfl, l, rfl, ⟨_, SqL.of hxk⟩, fun D4 nD4 => lc_list (K := K) (a := l) (xs := xs) (fun j Hm => Same Hk Hm ∧ LD K Hm D4 (((L.take j).filter fun r => decide (r.1 = t ∧ r.2.1 = nb)).map rd)) ⟨same_new nD4, ⟨[], upd_same, .nil⟩⟩ (fun j Hm _ h => SqL.of (h.1 _ _ hxk)) ?_ ?_⟩
              · rintro j v Hm hj2 ⟨sm, us, hD4, hdu⟩
                obtain ⟨r, hr1, dr⟩ := dl_at hdk hj2
                have drm := dp_same sm dr
                obtain ⟨a, rfl, ha⟩ := dp_rd drm
                have lus : us.length ≤ 240 := by
                  have h0 := dl_len hdu
                  have h1 := List.length_filter_le (fun r : Rw => decide (r.1 = t ∧ r.2.1 = nb)) (L.take j)
                  rw [List.length_take] at h1
                  omega
                refine ⟨rfl, _, rfl, 2, rfl, a, _, rfl, ha, (by show ¬ (HT.sIx 3 0 none = 0 ∧ HT.sIx 3 3 (some 2) = 3); decide), fun sl1 nsl => ?_⟩
                have s7 := same_new (o := .tup [.int r.1, .int r.2.1]) nsl
                refine ⟨_, rfl, _, rfl, by show 2 ≤ sizeLine; decide, fun sl2 nsl2 => ?_⟩
                have s8 := same_new (o := .tup [.int t, .int nb]) nsl2
                have sq := s7.trans s8
                refine ⟨.tuple [.int r.1, .int r.2.1], .tuple [.int t, .int nb], .tup (SqT.of (s8 _ _ upd_same)) (.cons (.int _) (.cons (.int _) .nil)), .tup (SqT.of upd_same) (.cons (.int _) (.cons (.int _) .nil)), shaped_of rfl (by show 1 ≤ 64; decide), shaped_of rfl (by show 1 ≤ 64; decide), _, rfl, ite2 (fun g => ?_) (fun g => ?_)⟩
                · have g1 : r.1 = t ∧ r.2.1 = nb := by
                    have z : ((r.1 == t) && ((r.2.1 == nb) && true)) = true := g
                    rw [Bool.and_true, Bool.and_eq_true] at z
                    exact ⟨eq_of_beq z.1, eq_of_beq z.2⟩
                  have hD5 := sq _ _ hD4
                  refine ⟨_, rfl, _, hD5, small1000 (by omega), same_put nD4 (sm.trans sq), ?_⟩
                  rw [take_snoc hr1, List.filter_append, List.filter_cons, if_pos (decide_eq_true g1), List.filter_nil, List.map_append]
                  exact LD.snoc (KT.of sq) hD5 hdu (td_rds _) (dp_same sq drm) (td_rd _)
                · have g1 : ¬ (r.1 = t ∧ r.2.1 = nb) := fun z => g (by
                    show ((r.1 == t) && ((r.2.1 == nb) && true)) = true
                    rw [z.1, z.2, beq_self_eq_true, beq_self_eq_true]
                    rfl)
                  refine ⟨sm.trans sq, ?_⟩
                  rw [take_snoc hr1, List.filter_append, List.filter_cons, if_neg (fun z => g1 (of_decide_eq_true z)), List.filter_nil, List.append_nil]
                  exact LD.same sq ⟨us, hD4, hdu⟩
              · rintro Hm ⟨sm, us, hD4, hdu⟩
                rw [lx, List.take_length] at hdu
                obtain ⟨r0, hr0⟩ : ∃ r0, r0 ∈ L.filter fun r => decide (r.1 = t ∧ r.2.1 = nb) := by
                  have z := (nmem nb).mp (List.mem_of_getElem? hnb)
                  obtain ⟨r, h1, h2⟩ := List.mem_map.mp (of_decide_eq_true z)
                  obtain ⟨h3, h4⟩ := List.mem_filter.mp h1
                  exact ⟨r, List.mem_filter.mpr ⟨h3, decide_eq_true ⟨of_decide_eq_true h4, h2⟩⟩⟩
                obtain ⟨r1, rr, er⟩ : ∃ r1 rr, (L.filter fun r => decide (r.1 = t ∧ r.2.1 = nb)) = r1 :: rr := by
                  cases e : L.filter fun r => decide (r.1 = t ∧ r.2.1 = nb) with
                  | nil =>
                    rw [e] at hr0
                    cases hr0
                  | cons a b => exact ⟨a, b, rfl⟩
                obtain ⟨m1, m2⟩ := List.mem_filter.mp (show r1 ∈ L.filter fun r => decide (r.1 = t ∧ r.2.1 = nb) by rw [er]; exact List.mem_cons_self)
                obtain ⟨e1, e2⟩ := of_decide_eq_true m2
                rw [er] at hdu
                obtain ⟨v0, hv0, dv0⟩ := dl_get (i := 0) (x := r1) hdu rfl
                have hD3m := sm _ _ hD3
                refine ⟨D4, us, 0, v0, rfl, rfl, SqL.of hD4, ?_, _, hD3m, ?_, same_put nD3 (sk.trans sm), qs ++ [r1], ?_, ?_, ?_⟩
                · show atI us ((0 : Nat) : Int) = _
                  exact atI_nat hv0
                · have h1 := dl_len hdy
                  have h2 := congrArg List.length eqs
                  rw [List.length_map, List.length_map, List.length_take] at h2
                  exact small1000 (by omega)
                · rw [List.map_append]
                  exact LD.snoc (KT.of sm) hD3m hdy (td_rds _) dv0 (td_rd _)
                · rw [List.map_append, eqs, take_snoc hnb, List.map_append]
                  show _ ++ [(r1.1, r1.2.1)] = _
                  rw [e1, e2]
                  rfl
                · intro r hr3
                  rcases List.mem_append.mp hr3 with h | h
                  · exact hqs r h
                  · rw [List.mem_singleton.mp h]
                    exact m1
            · rintro Hk ⟨sk, qs, ⟨ys, hD3, hdy⟩, eqs, hqs⟩
              rw [List.length_map, List.take_length] at eqs
              obtain ⟨fs, hfa, hdf⟩ := ldf.same (sj.trans sk)
              have lt : ∀ r, r ∈ rs → r.1 < t := fun r hr2 => by
                obtain ⟨_, h1⟩ := hrs r hr2
                obtain ⟨i2, hi2, e2⟩ := List.getElem_of_mem h1
                rw [List.length_take] at hi2
                rw [List.getElem_take] at e2
                have jl := (List.getElem?_eq_some_iff.mp ht)
                obtain ⟨jl1, jl2⟩ := jl
                rw [← e2, ← jl2]
                exact List.pairwise_iff_getElem.mp hts i2 j (by omega) jl1 (by omega)
              have hs2 : Srt (rs ++ qs) := srt_more hsrt lt hns eqs
              have hin : ∀ r, r ∈ rs ++ qs → r ∈ L ∧ r.1 ∈ ts.take (j + 1) := fun r hr2 => by
                rw [take_snoc ht]
                rcases List.mem_append.mp hr2 with h | h
                · exact ⟨(hrs r h).1, List.mem_append_left _ (hrs r h).2⟩
                · refine ⟨hqs r h, List.mem_append_right _ ?_⟩
                  have : (r.1, r.2.1) ∈ qs.map fun r => (r.1, r.2.1) := List.mem_map.mpr ⟨r, h, rfl⟩
                  rw [eqs] at this
                  obtain ⟨n2, _, z⟩ := List.mem_map.mp this
                  exact List.mem_singleton.mpr (congrArg Prod.fst z).symm
              have l2 : (rs ++ qs).length ≤ L.length := nodup_len hs2.nodup fun r h => (hin r h).1
              rw [List.length_append] at l2
              have lfs := dl_len hdf
              have lys := dl_len hdy
              refine ⟨fa, D3, _, _, rfl, rfl, hfa, hD3, Nat.le_of_lt (small1000 (by omega)), fun g1 ng1 => ?_⟩
              have s9 := same_new (o := .lst (fs ++ ys)) ng1
              refine ⟨rs ++ qs, g1, _, _, _, _, _, _, _, rfl, ((sg.trans sj).trans sk).trans s9, ⟨fs ++ ys, upd_same, ?_⟩, ((sg.trans sj).trans sk).free ng1, hs2, hin⟩
              rw [List.map_append]
              exact dpAll_same s9 (dpAll_app hdf hdy)
        · rintro σ Hg ⟨rs, fa, y3, y4, y5, y6, y7, y8, y12, rfl, sg, ldf, nfa, hsrt, hrs⟩
          have l2 : rs.length ≤ L.length := nodup_len hsrt.nodup fun r h => (hrs r h).1
          have dg := db.same (sB.trans sg)
          have nfH2 : H fa = none := by
            cases e : H fa with
            | none => rfl
            | some o =>
              have fp : fa ≠ p := fun z => by
                obtain ⟨_, _, _, h1, _⟩ := db.same sB
                rw [z, h1] at nfa
                cases nfa
              rw [sB _ _ (kb _ _ fp e)] at nfa
              cases nfa
          exact ⟨_, rfl, q fa rs Hg (kb.trans (.of (sB.trans sg))) (dg.mono (by omega)) nfH2 ldf hsrt (by omega) fun r h => okL r (hrs r h).1⟩
end
end Tg

set_option maxHeartbeats 2000000
namespace Tg
open PySem PySem.Spec PyProof.Rows L2 LamX
/-! ### when tables are alike -/
theorem eq_rds : ∀ a b : List Rw, PyData.eqvAll (a.map rd) (b.map rd) = decide (a = b)
  | [], [] => rfl
  | [], _ :: _ => rfl
  | _ :: _, [] => rfl
  | x :: a, y :: b => by
    show (PyData.eqv (rd x) (rd y) && PyData.eqvAll (a.map rd) (b.map rd)) = _
    rw [eq_rd, eq_rds a b]
    by_cases h1 : x = y
    · by_cases h2 : a = b
      · rw [h1, h2, decide_eq_true rfl, decide_eq_true rfl, decide_eq_true rfl]
        rfl
      · rw [decide_eq_false h2, Bool.and_false, decide_eq_false (fun z => h2 (List.cons.inj z).2)]
    · rw [decide_eq_false h1, Bool.false_and, decide_eq_false (fun z => h1 (List.cons.inj z).1)]
def Alike (T T' : Tb) : Prop := T.length = T'.length ∧ ∀ p, p ∈ T → p ∈ T'
theorem findD_dat {c : List PyData → PyData} {T : Tb} {m : Int} : findD (dat c T) (.inl m) = (T.find? fun p => decide (p.1 = m)).map fun p => c (p.2.map rd) := by
  unfold findD dat
  rw [List.find?_map, Option.map_map]
  have e : ((fun p : Key × PyData => decide (p.1 = .inl m)) ∘ fun p : Int × List Rw => ((.inl p.1 : Key), c (p.2.map rd))) = fun p => decide (p.1 = m) := by
    funext p
    show decide ((Sum.inl p.1 : Key) = .inl m) = decide (p.1 = m)
    by_cases z : p.1 = m
    · rw [decide_eq_true z, decide_eq_true (congrArg Sum.inl z)]
    · rw [decide_eq_false z, decide_eq_false (fun y => z (Sum.inl.inj y))]
  rw [e]
  rfl
theorem find_key {T : Tb} (nd : (T.map (·.1)).Nodup) {p : Int × List Rw} (h : p ∈ T) : T.find? (fun q => decide (q.1 = p.1)) = some p := by
  induction T with
  | nil => cases h
  | cons q T ih =>
    have nd' := List.nodup_cons.mp nd
    rw [List.find?_cons]
    rcases List.eq_or_mem_of_mem_cons h with rfl | h
    · rw [decide_eq_true rfl]
    · have ne : ¬ q.1 = p.1 := fun z => nd'.1 (List.mem_map.mpr ⟨p, h, z.symm⟩)
      rw [decide_eq_false ne]
      exact ih nd'.2 h
theorem eqvK_iff {c : List PyData → PyData} (hc : ∀ ds es, PyData.eqv (c ds) (c es) = PyData.eqvAll ds es) {T T' : Tb} (nd : (T'.map (·.1)).Nodup) : eqvK (dat c T) (dat c T') = true ↔ Alike T T' := by
  unfold eqvK Alike
  rw [Bool.and_eq_true, beq_iff_eq]
  unfold hitsD
  rw [List.all_eq_true]
  refine and_congr (by unfold dat; rw [List.length_map, List.length_map]) ⟨fun h p hp => ?_, fun h q hq => ?_⟩
  · have z := h (.inl p.1, c (p.2.map rd)) (List.mem_map.mpr ⟨p, hp, rfl⟩)
    rw [findD_dat] at z
    cases e : T'.find? fun q => decide (q.1 = p.1) with
    | none =>
      rw [e] at z
      cases z
    | some q =>
      rw [e] at z
      have z2 : PyData.eqv (c (p.2.map rd)) (c (q.2.map rd)) = true := z
      rw [hc, eq_rds] at z2
      have k : q.1 = p.1 := of_decide_eq_true (List.find?_some (p := fun q : Int × List Rw => decide (q.1 = p.1)) e)
      have pq : p = q := Prod.ext k.symm (of_decide_eq_true z2)
      rw [pq]
      exact List.mem_of_find?_eq_some e
  · obtain ⟨p, hp, rfl⟩ := List.mem_map.mp hq
    show (match findD (dat c T') (.inl p.1) with
      | none => false
      | some e => PyData.eqv (c (p.2.map rd)) e) = true
    rw [findD_dat, find_key nd (h p hp)]
    show PyData.eqv (c (p.2.map rd)) (c (p.2.map rd)) = true
    rw [hc, eq_rds, decide_eq_true rfl]
theorem key_nd {T : Tb} (nd : (T.map (·.1)).Nodup) : T.Nodup := by
  induction T with
  | nil => exact .nil
  | cons p T ih =>
    have z := List.nodup_cons.mp nd
    exact List.nodup_cons.mpr ⟨fun h => z.1 (List.mem_map.mpr ⟨p, h, rfl⟩), ih z.2⟩
theorem alike_sym {T T' : Tb} (nd : T.Nodup) (h : Alike T T') : Alike T' T := by
  refine ⟨h.1.symm, fun q hq => ?_⟩
  by_cases z : q ∈ T
  · exact z
  · have l := nodup_len (rs := q :: T) (L := T') (List.nodup_cons.mpr ⟨z, nd⟩) fun r hr => by
      rcases List.eq_or_mem_of_mem_cons hr with rfl | hr
      · exact hq
      · exact h.2 r hr
    rw [List.length_cons] at l
    have := h.1
    omega
theorem alike_perm {T T' S S' : Tb} (a : T.Perm S) (b : T'.Perm S') : Alike T T' ↔ Alike S S' := by
  unfold Alike
  rw [a.length_eq, b.length_eq]
  exact and_congr Iff.rfl ⟨fun h p hp => b.mem_iff.mp (h p (a.mem_iff.mpr hp)), fun h p hp => b.mem_iff.mpr (h p (a.mem_iff.mp hp))⟩
theorem hc_l (ds es : List PyData) : PyData.eqv (.list ds) (.list es) = PyData.eqvAll ds es := rfl
theorem hc_t (ds es : List PyData) : PyData.eqv (.tuple ds) (.tuple es) = PyData.eqvAll ds es := rfl
/-- tables told alike, and blocks of them -/
theorem eqv_both {T T' S S' : Tb} (a : T.Perm S) (b : T'.Perm S') (nd : (S.map (·.1)).Nodup) (nd' : (S'.map (·.1)).Nodup) : eqvK (datT T) (datT T') = eqvK (datL S) (datL S') := by
  have n1 : (T'.map (·.1)).Nodup := (b.map _).nodup_iff.mpr nd'
  exact Bool.eq_iff_iff.mpr ((eqvK_iff hc_t n1).trans ((alike_perm a b).trans (eqvK_iff hc_l nd').symm))
theorem eqv_sym {T T' : Tb} (nd : (T.map (·.1)).Nodup) (nd' : (T'.map (·.1)).Nodup) : eqvK (datL T) (datL T') = eqvK (datL T') (datL T) :=
  Bool.eq_iff_iff.mpr ((eqvK_iff hc_l nd').trans (Iff.trans ⟨alike_sym (key_nd nd), alike_sym (key_nd nd')⟩ (eqvK_iff hc_l nd).symm))
theorem eqv_self {T T' : Tb} (a : T.Perm T') (nd : (T'.map (·.1)).Nodup) : eqvK (datT T) (datT T') = true := (eqvK_iff hc_t nd).mpr ⟨a.length_eq, fun p hp => a.mem_iff.mp hp⟩
/-! ### a row set at a key -/
def putT (T : Tb) (m : Int) (rs : List Rw) : Tb := if m ∈ T.map (·.1) then T.map (fun p => if p.1 = m then (p.1, rs) else p) else T ++ [(m, rs)]
theorem putT_keys {T : Tb} {m : Int} {rs : List Rw} : (putT T m rs).map (·.1) = if m ∈ T.map (·.1) then T.map (·.1) else T.map (·.1) ++ [m] := by
  unfold putT
  split
  · rw [List.map_map]
    refine List.map_congr_left fun p _ => ?_
    show (if p.1 = m then (p.1, rs) else p).1 = p.1
    split <;> rfl
  · rw [List.map_append]
    rfl
theorem putT_nd {T : Tb} {m : Int} {rs : List Rw} (nd : (T.map (·.1)).Nodup) : ((putT T m rs).map (·.1)).Nodup := by
  rw [putT_keys]
  split
  · exact nd
  next h =>
    refine List.nodup_append.mpr ⟨nd, List.nodup_cons.mpr ⟨List.not_mem_nil, List.nodup_nil⟩, fun a ha b hb => ?_⟩
    rw [List.mem_singleton.mp hb]
    exact fun z => h (z ▸ ha)
theorem putT_mem {T : Tb} {m : Int} {rs : List Rw} {p : Int × List Rw} (h : p ∈ putT T m rs) : p ∈ T ∨ p.2 = rs := by
  unfold putT at h
  split at h
  · obtain ⟨q, hq, rfl⟩ := List.mem_map.mp h
    by_cases z : q.1 = m
    · rw [if_pos z]
      exact .inr rfl
    · rw [if_neg z]
      exact .inl hq
  · obtain h | h := List.mem_append.mp h
    · exact .inl h
    · rw [List.mem_singleton.mp h]
      exact .inr rfl
theorem putT_len {T : Tb} {m : Int} {rs : List Rw} : (putT T m rs).length ≤ T.length + 1 := by
  have := congrArg List.length (putT_keys (T := T) (m := m) (rs := rs))
  rw [List.length_map] at this
  rw [this]
  split
  · rw [List.length_map]; omega
  · rw [List.length_append, List.length_map]; exact Nat.le_refl _
end Tg

set_option maxHeartbeats 2000000
namespace Tg
open PySem PySem.Spec PyProof.Rows L2 LamX
/-! ### _law_table -/
abbrev sTb : Stmt := topS 44
abbrev NTb : List Str := ["_law_draws_here", "_law_most", "_law_told", "_law_k", "_law_a_rows"]
theorem scTb : FnScope NTb ["_law_draws_here", "_law_most"] (defScope sTb) := ⟨rfl, rfl, rfl, by decide +kernel, rfl, by decide +kernel, by decide +kernel⟩
structure OkT (m : Int) (T : Tb) : Prop where
  nd : (T.map (·.1)).Nodup
  few : T.length ≤ 4
  ne : ∀ q, q ∈ T → q.2 ≠ []
  len : ∀ q, q ∈ T → q.2.length ≤ 240
  ok : ∀ q, q ∈ T → ∀ r, r ∈ q.2 → OkR m r
theorem draws_no {K : PySem.W.Frag} {H : Hp} {p : Addr} {n : Nat} {rs : List Rw} (d : Dr H p n) (h : LD K H p (rs.map rd)) : False := by
  obtain ⟨xs, e, h⟩ := h
  obtain ⟨x, y, b, e2, _⟩ := d
  rw [e] at e2
  cases e2
  cases rs with
  | nil => cases h
  | cons r rs =>
    cases h with
    | cons a1 _ => cases a1
/-- an entry of a table: a list of the heap -/
def RP (K : PySem.W.Frag) (H : Hp) (kv : Key × V) (q : Int × List Rw) : Prop := kv.1 = .inl q.1 ∧ ∃ a, kv.2 = .ref a ∧ LD K H a (q.2.map rd)
def TbR (K : PySem.W.Frag) (H : Hp) (d : Addr) (T : Tb) : Prop := ∃ kvs, H d = some (.dK kvs) ∧ Paired (RP K H) kvs T
theorem rp_dp {K : PySem.W.Frag} {H : Hp} : ∀ {kvs : List (Key × V)} {T : Tb}, Paired (RP K H) kvs T → DpK K H kvs (datL T)
  | _, _, .nil => .nil
  | _, _, .cons a t => by
    obtain ⟨e, l, e2, xs, h1, h2⟩ := a
    exact .cons ⟨e, by rw [e2]; exact .lst (SqL.of h1) h2, (rds_form _).1⟩ (rp_dp t)
theorem TbR.o {K : PySem.W.Frag} {H : Hp} {d : Addr} {T : Tb} (h : TbR K H d T) : TbO K H d T := let ⟨kvs, a, b⟩ := h; ⟨kvs, a, rp_dp b⟩
theorem RP.kp {K : PySem.W.Frag} {H H' : Hp} {p : Addr} {n : Nat} {kv : Key × V} {q : Int × List Rw} (d : Dr H p n) (k : Kp p H H') (h : RP K H kv q) : RP K H' kv q := by
  obtain ⟨e, l, e2, ld⟩ := h
  exact ⟨e, l, e2, d.ld k (fun z => draws_no d (z ▸ ld)) (td_rds _) ld⟩
theorem RP.same {K : PySem.W.Frag} {H H' : Hp} {kv : Key × V} {q : Int × List Rw} (s : Same H H') (h : RP K H kv q) : RP K H' kv q := by
  obtain ⟨e, l, e2, ld⟩ := h
  exact ⟨e, l, e2, ld.same s⟩
theorem RP.lt {K : PySem.W.Frag} {H H' : Hp} {kv : Key × V} {q : Int × List Rw} (s : LT H H') (h : RP K H kv q) : RP K H' kv q := by
  obtain ⟨e, l, e2, xs, h1, h2⟩ := h
  exact ⟨e, l, e2, xs, s _ _ trivial h1, dpAll_lt s h2⟩
theorem TbR.kp {K : PySem.W.Frag} {H H' : Hp} {p e : Addr} {n : Nat} {T : Tb} (d : Dr H p n) (k : Kp p H H') (h : TbR K H e T) : TbR K H' e T := by
  obtain ⟨kvs, h1, h2⟩ := h
  refine ⟨kvs, k _ _ (fun z => ?_) h1, L2.Paired.mapP h2 fun _ _ r => r.kp d k⟩
  obtain ⟨_, _, _, q, _⟩ := d
  rw [z, q] at h1
  cases h1
theorem TbR.same {K : PySem.W.Frag} {H H' : Hp} {e : Addr} {T : Tb} (s : Same H H') (h : TbR K H e T) : TbR K H' e T := by
  obtain ⟨kvs, h1, h2⟩ := h
  exact ⟨kvs, s _ _ h1, L2.Paired.mapP h2 fun _ _ r => r.same s⟩
theorem rp_keys {K : PySem.W.Frag} {H : Hp} {kvs : List (Key × V)} {T : Tb} (h : Paired (RP K H) kvs T) : kvs.map (·.1) = (T.map (·.1)).map Sum.inl := dpK_keys (rp_dp h)
theorem rp_app {K : PySem.W.Frag} {H : Hp} : ∀ {xs ys : List (Key × V)} {T S : Tb}, Paired (RP K H) xs T → Paired (RP K H) ys S → Paired (RP K H) (xs ++ ys) (T ++ S)
  | _, _, _, _, .nil, h => h
  | _, _, _, _, .cons a t, h => .cons a (rp_app t h)
theorem putR {K : PySem.W.Frag} {H : Hp} {T : Tb} {kvs : List (Key × V)} {m : Int} {rs : List Rw} {l : Addr} (d : Paired (RP K H) kvs T) (dv : LD K H l (rs.map rd)) : Paired (RP K H) (putK kvs (.inl m) (.ref l)) (putT T m rs) := by
  have ks := rp_keys d
  have any : (kvs.any fun kv => decide (kv.1 = .inl m)) = decide (m ∈ T.map (·.1)) := by
    refine Bool.eq_iff_iff.mpr ?_
    rw [List.any_eq_true, decide_eq_true_eq]
    constructor
    · rintro ⟨kv, h1, h2⟩
      have h3 : (Sum.inl m : Key) ∈ kvs.map (·.1) := List.mem_map.mpr ⟨kv, h1, of_decide_eq_true h2⟩
      rw [ks] at h3
      obtain ⟨x, hx, e⟩ := List.mem_map.mp h3
      rw [← Sum.inl.inj e]
      exact hx
    · intro h
      have h3 : (Sum.inl m : Key) ∈ kvs.map (·.1) := by
        rw [ks]
        exact List.mem_map.mpr ⟨m, h, rfl⟩
      obtain ⟨kv, h1, h2⟩ := List.mem_map.mp h3
      exact ⟨kv, h1, decide_eq_true h2⟩
  unfold putK putT
  rw [any]
  by_cases h : m ∈ T.map (·.1)
  · rw [if_pos (decide_eq_true h), if_pos h]
    clear any ks h
    induction T generalizing kvs with
    | nil =>
      cases d
      exact .nil
    | cons p T ih =>
      cases d with
      | cons a t =>
        rename_i kv kvs'
        have tl := ih t
        obtain ⟨e, dd⟩ := a
        have hd : ∀ (k2 : Key × V) (p2 : Int × List Rw), k2 = (if kv.1 = .inl m then (kv.1, .ref l) else kv) → p2 = (if p.1 = m then (p.1, rs) else p) → RP K H k2 p2 := fun k2 p2 e1 e2 => by
          by_cases z : p.1 = m
          · rw [if_pos (show kv.1 = .inl m from e.trans (congrArg Sum.inl z))] at e1
            rw [if_pos z] at e2
            subst e1 e2
            exact ⟨e, l, rfl, dv⟩
          · rw [if_neg (show ¬ kv.1 = .inl m from fun y => z (Sum.inl.inj (e.symm.trans y)))] at e1
            rw [if_neg z] at e2
            subst e1 e2
            exact ⟨e, dd⟩
        exact .cons (hd _ _ rfl rfl) tl
  · rw [if_neg (by rw [decide_eq_false h]; decide), if_neg h]
    exact rp_app d (.cons ⟨rfl, l, rfl, dv⟩ .nil)
section
variable {P : Program} {w : World} {K : PySem.W.Frag} {mg : Str → Option Value} {base : Heap}
def spTb (K : PySem.W.Frag) : Sp := fun vs H Q _ => ∃ (p : Addr) (n : Nat) (m : Int), vs = [.ref p, .int m] ∧ Dr H p n ∧ n < 800000 ∧
  ∀ (d : Addr) (T : Tb) (H' : Hp), Kp p H H' → Dr H' p (n + 2000) → H d = none → TbR K H' d T → OkT m T → Q (.ref d) H'
theorem ok_tb {f : Addr} {fd : FuncData} {k : Nat} (F : Fun K "_law_table" "_law_table" sTb f fd) (L_next : Cal P w K mg base k "_law_next" ["_law_draws_here"] spNext) (L_rows : Cal P w K mg base k "_law_rows" ["_law_draws_here", "_law_most"] (spRows K)) (m_range : mg "range" = none) :
    FnOk P w K mg base CX0 (k + 1) f fd ["_law_draws_here", "_law_most"] (spTb K) := by
  refine F.ok scTb (fun vs H Q E h => ?_) (fun cdv A outer s H vs Q E hr h => ?_)
  · obtain ⟨p, n, m, rfl, _⟩ := h
    rfl
  · obtain ⟨p, n, m, rfl, hp, hn, q⟩ := h
    have hu : (A.deeper (envOfC (Str.ofString "_law_table") (defScope sTb) s.heap.objs.size f cdv)).units + 64 < cLine := by have := hr.un; omega
    have hu1 := hu_of hr
    refine ⟨_, pss_cons (ps_set (i := 2) scTb.nd rfl (.inl rfl) pe_dnewK)
      (pss_cons (ps_for PassesOwn.never rfl (pi_range1 (by rfl) m_range (pa_cons (pe_op op_mod (pe_cal L_next (hr.mono (by omega)) (by rfl) (pa_cons (pv 0) pa_nil)) pe_int) pa_nil)) (pg_name (i := 3) scTb.nd rfl (.inl rfl))
        (pss_cons (ps_set (i := 4) scTb.nd rfl (.inl rfl) (pe_cal L_rows (hr.mono (by omega)) (by rfl) (pa_cons (pv 0) (pa_cons (pv 1) pa_nil))))
        (pss_one (ps_if (pt_cmpR (op_neD hu) (pv 4) (pe_lst pa_nil) (nomark _))
          (pss_one (ps_dput hu1 (pv 2) (pe_op op_mul (pe_op op_mod (pe_cal L_next (hr.mono (by omega)) (by rfl) (pa_cons (pv 0) pa_nil)) pe_int) (pe_op op_add pe_int (pe_op op_mul (pe_op op_fdiv (pv 3) pe_int) (pe_op op_pow pe_int pe_int)))) (pv 4) rfl))
          pss_nil))))
      (pss_one (ps_ret (pv 2)))), ?_⟩
    intro d nd
    have dp : d ≠ p := hp.ne nd
    have s1 := same_new (o := .dK []) nd
    refine ⟨_, rfl, p, n, rfl, hp.same s1, by omega, fun v1 H1 k1 d1 v10 v11 => ?_⟩
    have hd1 : H1 d = some (.dK []) := k1 _ _ dp upd_same
    have m5 := Int.emod_nonneg v1 (show (5 : Int) ≠ 0 by decide)
    have m5' := Int.emod_lt_of_pos v1 (show (0 : Int) < 5 by decide)
    refine ⟨_, _, rfl, rfl, (by show (0 : Int) < 5; decide), _, rfl, by omega, by omega, ?_⟩
    obtain ⟨cn, ec⟩ : ∃ cn : Nat, (v1 % 5).toNat = cn := ⟨_, rfl⟩
    have cn4 : cn ≤ 4 := by omega
    rw [ec]
    refine for_range (n := cn) (fun i σ Hc => ∃ (T : Tb) (z3 z4 : Option V), σ = [some (.ref p), some (.int m), some (.ref d), z3, z4] ∧ Kp p H Hc ∧ Dr Hc p (n + 1 + 401 * i) ∧ TbR K Hc d T ∧ (T.map (·.1)).Nodup ∧ T.length ≤ i ∧ ∀ q, q ∈ T → q.2 ≠ [] ∧ q.2.length ≤ 240 ∧ ∀ r, r ∈ q.2 → OkR m r) ?_ ?_ ?_
    · exact ⟨[], none, none, rfl, (Kp.of s1).trans k1, d1, ⟨[], hd1, .nil⟩, List.nodup_nil, Nat.le_refl _, fun q h => absurd h List.not_mem_nil⟩
    · rintro i σ Hc hi ⟨T, z3, z4, rfl, kc, dc, tb, nd', lt, good⟩
      refine ⟨_, rfl, _, rfl, p, _, m, rfl, dc, by omega, fun l rs H2 k2 d2 nl ld _ lrs okr => ?_⟩
      have tb2 := tb.kp dc k2
      refine ⟨_, rfl, Nat.zero_le _, fun e ne => ?_⟩
      have s3 := same_new (o := .lst []) ne
      have ld3 := ld.same s3
      obtain ⟨xs, hx, da⟩ := id ld3
      refine ⟨.list (rs.map rd), .list [], .lst (SqL.of hx) da, .lst (SqL.of upd_same) .nil, (rds_form rs).1, rfl, _, rfl, ite2 (fun g => ?_) (fun g => ?_)⟩
      · have rne : rs ≠ [] := fun z => by
          rw [z] at g
          cases g
        have d3 := d2.same s3
        refine ⟨_, rfl, _, rfl, _, rfl, p, _, rfl, d3, by omega, fun v4 H4 k4 d4 v40 v41 => ?_⟩
        have m6 := Int.emod_nonneg v4 (show (6 : Int) ≠ 0 by decide)
        have m6' := Int.emod_lt_of_pos v4 (show (0 : Int) < 6 by decide)
        obtain ⟨kk, hkk⟩ : ∃ kk : Int, v4 % 6 * (1 + (0 + (i : Int)) / 3 * 10 ^ 6) = kk := ⟨_, rfl⟩
        have ld4 := d3.ld k4 (fun z => by rw [z] at nl; obtain ⟨_, _, _, y, _⟩ := dc; rw [y] at nl; cases nl) (td_rds rs) ld3
        have tb4 := (tb2.same s3).kp d3 k4
        obtain ⟨kvs, hd4, dk4⟩ := id tb4
        obtain ⟨xs4, hx4, da4⟩ := id ld4
        refine ⟨_, _, rfl, rfl, (by show (0 : Int) < 6; decide), _, rfl, _, _, rfl, rfl, ⟨by decide, by decide⟩, 10, 6, rfl, rfl, ⟨by decide, by decide, by decide⟩, _, _, rfl, rfl, .inr ⟨by decide, by decide⟩, _, _, rfl, rfl, _, _, rfl, rfl, .inl ⟨by omega, by omega⟩, d, _, rfl, DPut.k (k := .inl (v4 % 6 * (1 + (0 + (i : Int)) / 3 * 10 ^ 6))) hd4 ?_, ?_⟩
        · have := Paired.length dk4
          exact small1000 (by omega)
        · have kx : Kp p H (upd H4 d (.dK (putK kvs (.inl (v4 % 6 * (1 + (0 + (i : Int)) / 3 * 10 ^ 6))) (.ref l)))) := fun c o hc e => by
            rw [upd_ne (ne_of_none e nd)]
            exact (((kc.trans k2).trans (.of s3)).trans k4) _ _ hc e
          have lk : LT H4 (upd H4 d (.dK (putK kvs (.inl (v4 % 6 * (1 + (0 + (i : Int)) / 3 * 10 ^ 6))) (.ref l)))) := LT.put hd4 nlt_dK
          refine ⟨putT T (v4 % 6 * (1 + (0 + (i : Int)) / 3 * 10 ^ 6)) rs, _, _, rfl, kx, ?_, ⟨_, upd_same, L2.Paired.mapP (putR dk4 ld4) fun _ _ r => r.lt lk⟩, putT_nd nd', Nat.le_trans putT_len (by omega), fun q9 h9 => ?_⟩
          · obtain ⟨a9, k9, b9, h1, h2, h3⟩ := d4
            exact ⟨a9, k9, b9, by rw [upd_ne dp.symm]; exact h1, h2, by omega⟩
          · rcases putT_mem h9 with h9 | h9
            · exact good q9 h9
            · rw [h9]
              exact ⟨rne, lrs, okr⟩
      · refine ⟨T, _, _, rfl, (kc.trans k2).trans (.of s3), (d2.same s3).mono (by omega), tb2.same s3, nd', by omega, good⟩
    · rintro σ Hb ⟨T, z3, z4, rfl, kb, db, tb, nd', lt, good⟩
      exact ⟨_, rfl, q d T Hb kb (db.mono (by omega)) nd tb ⟨nd', by omega, fun q h => (good q h).1, fun q h => (good q h).2.1, fun q h => (good q h).2.2⟩⟩
end
end Tg

set_option maxHeartbeats 2000000
namespace Tg
open PySem PySem.Spec PyProof.Rows L2 LamX
/-! ### _law_extents -/
abbrev sXt : Stmt := topS 47
abbrev NXt : List Str := ["_law_table_here", "_law_a_rows", "_law_a_place", "_law_times", "_law_numbers", "_law_row"]
theorem scXt : FnScope NXt ["_law_table_here"] (defScope sXt) := ⟨rfl, rfl, rfl, by decide +kernel, rfl, by decide +kernel, by decide +kernel⟩
theorem rp_at {K : PySem.W.Frag} {H : Hp} : ∀ {kvs : List (Key × V)} {T : Tb}, Paired (RP K H) kvs T → ∀ {i : Nat} {k : Key} {v : V}, kvs[i]? = some (k, v) → ∃ m rs, T[i]? = some (m, rs) ∧ k = .inl m ∧ ∃ a, v = .ref a ∧ LD K H a (rs.map rd)
  | _, _, .nil, _, _, _, e => nomatch e
  | _, _, .cons a _, 0, _, _, e => by
    cases e
    exact ⟨_, _, rfl, a.1, a.2⟩
  | _, _, .cons _ t, i + 1, _, _, e => rp_at t (i := i) e
theorem rp_val {K : PySem.W.Frag} {H : Hp} {m : Int} {rs : List Rw} : ∀ {kvs : List (Key × V)} {T : Tb}, Paired (RP K H) kvs T → T.find? (fun p => decide (p.1 = m)) = some (m, rs) → ∃ a, valV kvs (.inl m) = some (.ref a) ∧ LD K H a (rs.map rd)
  | _, _, .nil, e => nomatch e
  | _, _, .cons (b := q) a t, e => by
    obtain ⟨k, l, e2, ld⟩ := a
    rw [List.find?_cons] at e
    by_cases z : q.1 = m
    · rw [decide_eq_true z] at e
      cases e
      exact ⟨l, by rw [valV_pos k, e2], ld⟩
    · rw [decide_eq_false z] at e
      obtain ⟨b, h1, h2⟩ := rp_val t e
      exact ⟨b, by rw [valV_neg (fun y => z (Sum.inl.inj (k.symm.trans y)))]; exact h1, h2⟩
theorem rp_none {K : PySem.W.Frag} {H : Hp} {m : Int} : ∀ {kvs : List (Key × V)} {T : Tb}, Paired (RP K H) kvs T → T.find? (fun p => decide (p.1 = m)) = none → valV kvs (.inl m) = none
  | _, _, .nil, _ => rfl
  | _, _, .cons (b := q) a t, e => by
    obtain ⟨k, l, e2, ld⟩ := a
    rw [List.find?_cons] at e
    by_cases z : q.1 = m
    · rw [decide_eq_true z] at e
      cases e
    · rw [decide_eq_false z] at e
      rw [valV_neg (fun y => z (Sum.inl.inj (k.symm.trans y)))]
      exact rp_none t e
theorem DGet.f {H : Hp} {a : Addr} {od : Obj} {kvs : List (Key × V)} {k : Key} (e : H a = some (.frz od (.dK kvs))) : DGet H a (kV k) (valV kvs k) := .inl ⟨kvs, k, .inr ⟨od, e⟩, rfl, rfl⟩
theorem key_find {T : Tb} (nd : (T.map (·.1)).Nodup) {i : Nat} {m : Int} {rs : List Rw} (h : T[i]? = some (m, rs)) : T.find? (fun p => decide (p.1 = m)) = some (m, rs) := find_key nd (List.mem_of_getElem? h)
section
variable {P : Program} {w : World} {K : PySem.W.Frag} {mg : Str → Option Value} {base : Heap}
def spXt (K : PySem.W.Frag) : Sp := fun vs H Q _ => ∃ (d : Addr) (T : Tb), vs = [.ref d] ∧ TbR K H d T ∧ (T.map (·.1)).Nodup ∧ tot T ≤ 5000 ∧ ∀ v dd H', Same H H' → Dp K H' v dd → IsExt (rowsOf T) dd → Q v H'
theorem ok_xt {f : Addr} {fd : FuncData} {k : Nat} (F : Fun K "_law_extents" "_law_extents" sXt f fd) (m_min : mg "min" = none) (m_max : mg "max" = none) : FnOk P w K mg base CX0 (k + 1) f fd ["_law_table_here"] (spXt K) := by
  refine F.ok scXt (fun vs H Q E h => ?_) (fun cdv A outer s H vs Q E hr h => ?_)
  · obtain ⟨d, TT, rfl, _⟩ := h
    rfl
  · obtain ⟨d, TT, rfl, ⟨kvs, hd, rp⟩, nd, few, q⟩ := h
    have hu : (A.deeper (envOfC (Str.ofString "_law_extents") (defScope sXt) s.heap.objs.size f cdv)).units + 64 < cLine := by have := hr.un; omega
    have hu1 := hu_of hr
    refine ⟨_, pss_cons (ps_set (i := 1) scXt.nd rfl (.inl rfl) (pe_lst pa_nil))
      (pss_cons (ps_lock (ps_for PassesOwn.never rfl (pi_keys (pv 0)) (pg_name (i := 2) scXt.nd rfl (.inl rfl))
        (pss_one (ps_set (i := 1) scXt.nd rfl (.inl rfl) (pe_op op_cat (pv 1) (pe_dget hu1 (pv 0) (pv 2) (fun _ _ => rfl)))))))
      (pss_cons (ps_if (pt_cmpR (op_eqD hu) (pv 1) (pe_lst pa_nil) (nomark _))
        (pss_one (ps_ret pe_non))
        pss_nil)
      (pss_cons (ps_par (i := 3) (j := 4) rfl scXt.nd rfl rfl (by decide) rfl rfl (pa_cons (pe_lc (own := [("_law_row", 5)]) (g := (gName 5)) (tt := tYes) rfl scXt.nd (pi_list (pv 1)) (blkOk_by (own := [("_law_row", 5)]) (N := NXt) (sc := defScope sXt) (by decide +kernel)) (fun _ _ _ _ _ => (pg_name (i := 5) scXt.nd rfl (.inl rfl))) (fun _ _ _ _ _ => pts_nil) (fun _ _ _ _ _ => (pe_ix (r := rIxT K) ix_tup (pv 5) pe_int (fun _ _ => rfl)))) (pa_cons (pe_lc (own := [("_law_row", 5)]) (g := (gName 5)) (tt := tYes) rfl scXt.nd (pi_list (pv 1)) (blkOk_by (own := [("_law_row", 5)]) (N := NXt) (sc := defScope sXt) (by decide +kernel)) (fun _ _ _ _ _ => (pg_name (i := 5) scXt.nd rfl (.inl rfl))) (fun _ _ _ _ _ => pts_nil) (fun _ _ _ _ _ => (pe_ix (r := rIxT K) ix_tup (pv 5) pe_int (fun _ _ => rfl)))) pa_nil)) rfl)
      (pss_one (ps_ret (pe_tup (pa_cons (pe_callB (cr_min rfl) (by rfl) m_min (by decide +kernel) (pa_cons (pv 3) pa_nil)) (pa_cons (pe_callB (cr_max rfl) (by rfl) m_max (by decide +kernel) (pa_cons (pv 3) pa_nil)) (pa_cons (pe_callB (cr_min rfl) (by rfl) m_min (by decide +kernel) (pa_cons (pv 4) pa_nil)) (pa_cons (pe_callB (cr_max rfl) (by rfl) m_max (by decide +kernel) (pa_cons (pv 4) pa_nil)) pa_nil)))))))))), ?_⟩
    refine ⟨Nat.zero_le _, fun l0 nl0 => ?_⟩
    have s0 := same_new (o := .lst []) nl0
    have dl : d ≠ l0 := ne_of_none hd nl0
    obtain ⟨H0, e0⟩ : ∃ H0, upd H l0 (.lst []) = H0 := ⟨_, rfl⟩
    have hl0 : H0 l0 = some (.lst []) := by
      rw [← e0]
      exact upd_same
    rw [e0] at s0
    refine nx_at e0 ?_
    have hd0 := s0 _ _ hd
    refine ⟨d, _, hd0, trivial, fun od => ?_⟩
    obtain ⟨H1, e1⟩ : ∃ H1, upd H0 d (.frz od (.dK kvs)) = H1 := ⟨_, rfl⟩
    have hd1 : H1 d = some (.frz od (.dK kvs)) := by
      rw [← e1]
      exact upd_same
    have lt1 : LT H0 H1 := by
      rw [← e1]
      exact LT.put hd0 nlt_dK
    have hl1 : H1 l0 = some (.lst []) := lt1 _ _ trivial hl0
    have rp0 : Paired (RP K H0) kvs TT := L2.Paired.mapP rp fun _ _ r => r.same s0
    have lk : kvs.length = TT.length := Paired.length rp
    rw [e1]
    refine ⟨_, rfl, d, od, rfl, .inl ⟨kvs, hd1, ?_⟩⟩
    refine for_it walk_keys (fun i σ Hc => ∃ (l : Addr) (z2 : Option V), σ = [some (.ref d), some (.ref l), z2, none, none, none] ∧ Same H1 Hc ∧ (∃ xs, Hc l = some (.lst xs) ∧ DpAll K (upd Hc d (.dK kvs)) xs ((rowsOf (TT.take i)).map rd)) ∧ l ≠ d) ⟨l0, none, rfl, Same.refl H1, ⟨[], hl1, .nil⟩, dl.symm⟩ (fun i σ Hc _ h => let ⟨_, _, _, sc, _⟩ := h; sc _ _ hd1) ?_ ?_
    · rintro i x σ Hc Hd hi ⟨l, z2, rfl, sc, ⟨xs, hl, da⟩, nl⟩ ⟨rfl, kk, v, ek, rfl⟩
      obtain ⟨m, rs, eT, rfl, a, rfl, la⟩ := rp_at rp0 ek
      obtain ⟨a', e3, ys, ha, dy⟩ := rp_val rp0 (key_find nd eT)
      have hdc := sc _ _ hd1
      have g := DGet.f (k := .inl m) hdc
      rw [e3] at g
      have rsu := rows_succ eT
      have l1 := tot_le (T := TT) (i + 1)
      have l2 : (rowsOf (TT.take (i + 1))).length ≤ tot TT := l1
      rw [rsu, List.length_append] at l2
      have big : 5000 < sizeLine := by decide
      refine ⟨_, rfl, _, rfl, _, rfl, d, _, rfl, g, l, a', xs, ys, rfl, rfl, hl, sc _ _ (lt1 _ _ trivial ha), ?_, fun p np => ?_⟩
      · rw [dl_len da, dl_len dy]
        omega
      · have sp := sc.trans (same_new (o := .lst (xs ++ ys)) np)
        have pd : p ≠ d := fun z => by
          rw [z, hdc] at np
          cases np
        have su := same_unlock hd0 e1 sp
        refine ⟨p, _, rfl, sp, ⟨_, upd_same, ?_⟩, pd⟩
        have sx : Same (upd Hd d (.dK kvs)) (upd (upd Hd p (.lst (xs ++ ys))) d (.dK kvs)) := fun c o e => by
          by_cases z : c = d
          · rw [z, upd_same] at e ⊢
            exact e
          · rw [upd_ne z] at e ⊢
            exact (same_new np) _ _ e
        rw [rsu, List.map_append]
        exact dpAll_app (dpAll_same sx da) (dpAll_same su dy)
    · rintro σ Hc ⟨l, z2, rfl, sc, ld, nl⟩
      rw [lk, List.take_length] at ld
      refine ⟨sc _ _ hd1, ?_⟩
      have s2 := same_unlock hd0 e1 sc
      obtain ⟨H2, e2⟩ : ∃ H2, upd Hc d (.dK kvs) = H2 := ⟨_, rfl⟩
      rw [e2] at s2
      obtain ⟨xs, hl, da⟩ := ld
      have hl2 : H2 l = some (.lst xs) := by
        rw [← e2, upd_ne nl]
        exact hl
      rw [e2] at da
      have lx := dl_len da
      have sH := s0.trans s2
      have le : ∀ i, (rowsOf (TT.take i)).length ≤ tot TT := fun i => tot_le i
      have le2 := le TT.length
      rw [List.take_length] at le2
      have big : 5000 < sizeLine := by decide
      refine nx_at e2 ?_
      refine ⟨_, rfl, Nat.zero_le _, fun le nle => ?_⟩
      have s3 := same_new (o := .lst []) nle
      refine ⟨.list ((rowsOf TT).map rd), .list [], .lst (SqL.of (s3 _ _ hl2)) (dpAll_same s3 da), .lst (SqL.of upd_same) .nil, (rds_form _).1, rfl, _, rfl, ite2 (fun g => ?_) (fun g => ?_)⟩
      · refine q _ _ _ (sH.trans s3) .non (.inl ⟨?_, rfl⟩)
        cases e : rowsOf TT with
        | nil => rfl
        | cons a b =>
          rw [e] at g
          cases g
      have ne : rowsOf TT ≠ [] := fun z => by
        rw [z] at g
        exact g rfl
      obtain ⟨H3, e3⟩ : ∃ H3, upd H2 le (.lst []) = H3 := ⟨_, rfl⟩
      rw [e3] at s3
      refine nx_at e3 ?_
      have hl3 := s3 _ _ hl2
      have da3 := dpAll_same s3 da
      have s03 := sH.trans s3
      refine ⟨_, rfl, l, rfl, ⟨_, SqL.of (Same.refl H3 _ _ hl3)⟩, fun D0 nD0 => ?_⟩
      refine walked_w (walk_list (K := K) (a := l) (xs := xs)) (fun i Hc => Same H3 Hc ∧ Hc D0 = some (.lst ((tms ((rowsOf TT).take i)).map V.int))) ⟨same_new nD0, upd_same⟩ (fun i Hc _ h => SqL.of (h.1 _ _ (Same.refl H3 _ _ hl3))) ?_ ?_
      · rintro i v Hc Hd hi ⟨sc, hD⟩ ⟨rfl, ey⟩
        obtain ⟨r, er, dv⟩ := dl_at (dpAll_same (Same.refl H3) da3) ey
        obtain ⟨ra, rfl, sr⟩ := dp_rd dv
        refine ⟨rfl, yes_b (if_t ⟨_, rfl, ra, _, 0, .int r.1, rfl, rfl, sqT_same sc sr, rfl, _, hD, ?_, same_put nD0 sc, ?_⟩)⟩
        · have := fl_0 (rowsOf TT) i
          rw [List.length_map]
          omega
        · rw [upd_same, tms_succ er, List.map_append]
          rfl
      rintro H4 ⟨sc0, hD0⟩
      rw [lx, List.take_length] at hD0
      refine ⟨_, rfl, l, rfl, ⟨_, SqL.of (sc0 _ _ hl3)⟩, fun D1 nD1 => ?_⟩
      refine walked_w (walk_list (K := K) (a := l) (xs := xs)) (fun i Hc => Same H4 Hc ∧ Hc D1 = some (.lst ((nms ((rowsOf TT).take i)).map V.int))) ⟨same_new nD1, upd_same⟩ (fun i Hc _ h => SqL.of (h.1 _ _ (sc0 _ _ hl3))) ?_ ?_
      · rintro i v Hc Hd hi ⟨sc, hD⟩ ⟨rfl, ey⟩
        obtain ⟨r, er, dv⟩ := dl_at (dpAll_same (sc0) da3) ey
        obtain ⟨ra, rfl, sr⟩ := dp_rd dv
        refine ⟨rfl, yes_b (if_t ⟨_, rfl, ra, _, 1, .int r.2.1, rfl, rfl, sqT_same sc sr, rfl, _, hD, ?_, same_put nD1 sc, ?_⟩)⟩
        · have := fl_1 (rowsOf TT) i
          rw [List.length_map]
          omega
        · rw [upd_same, nms_succ er, List.map_append]
          rfl
      rintro H5 ⟨sc1, hD1⟩
      rw [lx, List.take_length] at hD1
      have s05 := s03.trans (sc0.trans sc1)
      have hD05 := sc1 _ _ hD0
      refine ⟨_, _, rfl, ?_⟩
      refine ⟨_, rfl, D0, _, rfl, SqL.of hD05, by unfold tms; rw [List.length_map]; exact List.length_pos_iff.mpr ne, fun a ia la => ?_⟩
      refine ⟨_, rfl, D0, _, rfl, SqL.of hD05, by unfold tms; rw [List.length_map]; exact List.length_pos_iff.mpr ne, fun b ib lb => ?_⟩
      refine ⟨_, rfl, D1, _, rfl, SqL.of hD1, by unfold nms; rw [List.length_map]; exact List.length_pos_iff.mpr ne, fun c ic lc => ?_⟩
      refine ⟨_, rfl, D1, _, rfl, SqL.of hD1, by unfold nms; rw [List.length_map]; exact List.length_pos_iff.mpr ne, fun e ie le => ?_⟩
      refine ⟨by show 4 ≤ sizeLine; decide, fun p np => ?_⟩
      exact q _ _ _ (s05.trans (same_new np)) (.tup (SqT.of upd_same) (.cons (.int _) (.cons (.int _) (.cons (.int _) (.cons (.int _) .nil))))) (.inr ⟨a, b, c, e, ne, rfl, ⟨ia, la⟩, ⟨ib, lb⟩, ⟨ic, lc⟩, ⟨ie, le⟩⟩)
end
end Tg

set_option maxHeartbeats 2000000
namespace Tg
open PySem PySem.Spec PyProof.Rows L2 LamX
/-! ### a table copied, list by list -/
section
variable {K : PySem.W.Frag} {H Hc : Hp} {d t : Addr} {od : Obj} {kvs : List (Key × V)} {TT : Tb} {i : Nat}
/-- own lists, new since H0 -/
def Own (H0 H : Hp) (kvs : List (Key × V)) : Prop := (kvs.map (·.2)).Nodup ∧ ∀ kv, kv ∈ kvs → ∃ a, kv.2 = .ref a ∧ H0 a = none ∧ H a ≠ none
def CpR (K : PySem.W.Frag) (H0 H : Hp) (t : Addr) (T : Tb) : Prop := ∃ kvs, H t = some (.dK kvs) ∧ Paired (RP K H) kvs T ∧ Own H0 H kvs
def CpI (K : PySem.W.Frag) (H : Hp) (d : Addr) (od : Obj) (kvs : List (Key × V)) (TT : Tb) (t : Addr) (i : Nat) (Hc : Hp) : Prop :=
  Same (upd H d (.frz od (.dK kvs))) Hc ∧ H t = none ∧ ∃ kvs', Hc t = some (.dK kvs') ∧ Paired (RP K (upd Hc d (.dK kvs))) kvs' (TT.take i) ∧ Own H Hc kvs'
theorem cp_first (hd : H d = some (.dK kvs)) (nt : H t = none) : CpI K H d od kvs TT t 0 (upd (upd H t (.dK [])) d (.frz od (.dK kvs))) := by
  refine ⟨fun c o e => ?_, nt, [], ?_, .nil, .nil, fun _ h => nomatch h⟩
  · by_cases z : c = d
    · rw [z, upd_same] at e ⊢
      exact e
    · rw [upd_ne z] at e ⊢
      rw [upd_ne (ne_of_none e nt)]
      exact e
  · rw [upd_ne (ne_of_none hd nt).symm]
    exact upd_same
theorem cp_step (hd : H d = some (.dK kvs)) (rp : Paired (RP K H) kvs TT) (nd : (TT.map (·.1)).Nodup) (I : CpI K H d od kvs TT t i Hc) {k : Key} {v : V} (ek : kvs[i]? = some (k, v)) :
    ∃ a ys kvs', DGet Hc d (kV k) (some (.ref a)) ∧ Hc a = some (.lst ys) ∧ Hc t = some (.dK kvs') ∧ kvs'.length ≤ i ∧ ∀ p, Hc p = none → (upd Hc p (.lst ys)) t = some (.dK kvs') ∧ CpI K H d od kvs TT t (i + 1) (upd (upd Hc p (.lst ys)) t (.dK (putK kvs' k (.ref p)))) := by
  obtain ⟨sc, nt, kvs', ht, rp', nv, own⟩ := I
  obtain ⟨m, rs, eT, rfl, _⟩ := rp_at rp ek
  obtain ⟨a, e3, ys, ha, dy⟩ := rp_val rp (key_find nd eT)
  have hdc : Hc d = some (.frz od (.dK kvs)) := sc _ _ upd_same
  have g := DGet.f (k := .inl m) hdc
  rw [e3] at g
  have ad : a ≠ d := fun z => by
    rw [z, hd] at ha
    cases ha
  have td : t ≠ d := fun z => by
    rw [z, hd] at nt
    cases nt
  have hac := sc a _ (by rw [upd_ne ad]; exact ha)
  have len : kvs'.length ≤ i := by
    have := Paired.length rp'
    rw [List.length_take] at this
    omega
  refine ⟨a, ys, kvs', g, hac, ht, len, fun p np => ?_⟩
  have pt : p ≠ t := fun z => by
    rw [z, ht] at np
    cases np
  have pd : p ≠ d := fun z => by
    rw [z, hdc] at np
    cases np
  have hp0 : H p = none := by
    cases e : H p with
    | none => rfl
    | some o =>
      have := sc p o (by rw [upd_ne pd]; exact e)
      rw [np] at this
      cases this
  have fresh : valV kvs' (.inl m) = none := by
    refine rp_none rp' ?_
    cases e : (TT.take i).find? fun p => decide (p.1 = m) with
    | none => rfl
    | some q =>
      exfalso
      have h1 := List.mem_of_find?_eq_some e
      have h2 : q.1 = m := of_decide_eq_true (List.find?_some (p := fun p : Int × List Rw => decide (p.1 = m)) e)
      obtain ⟨j, hj, ej⟩ := List.getElem_of_mem h1
      rw [List.length_take] at hj
      rw [List.getElem_take] at ej
      have il := (List.getElem?_eq_some_iff.mp eT)
      obtain ⟨il1, il2⟩ := il
      have nn := List.pairwise_iff_getElem.mp nd j i (by rw [List.length_map]; omega) (by rw [List.length_map]; exact il1) (by omega)
      rw [List.getElem_map, List.getElem_map, il2, ej] at nn
      exact nn h2
  have sp := same_new (o := .lst ys) np
  refine ⟨(sp _ _ ht), fun c o e => ?_, nt, putK kvs' (.inl m) (.ref p), upd_same, ?_, ?_⟩
  · have h := sp _ _ (sc _ _ e)
    rw [upd_ne]
    · exact h
    · intro z
      by_cases z2 : c = d
      · exact td (z.symm.trans z2)
      · rw [upd_ne z2, z, nt] at e
        cases e
  · obtain ⟨Hn, en⟩ : ∃ Hn, upd (upd (upd Hc p (.lst ys)) t (.dK (putK kvs' (.inl m) (.ref p)))) d (.dK kvs) = Hn := ⟨_, rfl⟩
    have lt1 : LT (upd Hc d (.dK kvs)) Hn := fun c o f e => by
      rw [← en]
      by_cases z : c = d
      · rw [z, upd_same] at e ⊢
        exact e
      · rw [upd_ne z] at e ⊢
        rw [upd_ne (fun y => by rw [y, ht] at e; cases e; exact f), upd_ne (ne_of_none e np)]
        exact e
    have s2 : LT H Hn := fun c o f e => by
      refine lt1 c o f ?_
      by_cases z : c = d
      · rw [z, hd] at e
        cases e
        exact absurd f nlt_dK
      · rw [upd_ne z]
        exact sc _ _ (by rw [upd_ne z]; exact e)
    have nput : putT (TT.take i) m rs = TT.take (i + 1) := by
      rw [take_snoc eT]
      unfold putT
      refine if_neg fun h => ?_
      have h2 : (Sum.inl m : Key) ∈ kvs'.map (·.1) := by
        rw [rp_keys rp']
        exact List.mem_map.mpr ⟨m, h, rfl⟩
      obtain ⟨kv, h3, h4⟩ := List.mem_map.mp h2
      have z := valV_any (.inl m) kvs'
      rw [fresh] at z
      have y : (kvs'.any fun kv => decide (kv.1 = .inl m)) = true := List.any_eq_true.mpr ⟨kv, h3, decide_eq_true h4⟩
      rw [y] at z
      cases z
    rw [en, ← nput]
    refine putR (L2.Paired.mapP rp' fun _ _ r => r.lt lt1) ⟨ys, ?_, dpAll_lt s2 dy⟩
    rw [← en, upd_ne pd, upd_ne pt]
    exact upd_same
  · rw [show putK kvs' (.inl m) (.ref p) = kvs' ++ [(.inl m, .ref p)] from L2.putK_new _ fresh]
    refine ⟨?_, fun kv hk => ?_⟩
    · rw [List.map_append]
      refine List.nodup_append.mpr ⟨nv, List.nodup_cons.mpr ⟨List.not_mem_nil, List.nodup_nil⟩, fun x hx y hy => ?_⟩
      rw [List.mem_singleton.mp hy]
      obtain ⟨kv, h1, rfl⟩ := List.mem_map.mp hx
      obtain ⟨b, e, _, h3⟩ := own kv h1
      intro z
      rw [e] at z
      have z2 : b = p := by
        injection z
      exact h3 (z2 ▸ np)
    · rcases List.mem_append.mp hk with hk | hk
      · obtain ⟨b, e, h2, h3⟩ := own kv hk
        refine ⟨b, e, h2, ?_⟩
        by_cases zt : b = t
        · rw [zt, upd_same]
          exact fun z => nomatch z
        · rw [upd_ne zt]
          cases eb : Hc b with
          | none => exact absurd eb h3
          | some o =>
            rw [sp _ _ eb]
            exact fun z => nomatch z
      · rw [List.mem_singleton.mp hk]
        refine ⟨p, rfl, hp0, ?_⟩
        rw [upd_ne pt, upd_same]
        exact fun z => nomatch z
theorem cp_last (hd : H d = some (.dK kvs)) (rp : Paired (RP K H) kvs TT) (I : CpI K H d od kvs TT t kvs.length Hc) : Hc d = some (.frz od (.dK kvs)) ∧ Same H (upd Hc d (.dK kvs)) ∧ CpR K H (upd Hc d (.dK kvs)) t TT := by
  obtain ⟨sc, nt, kvs', ht, rp', nv, own⟩ := I
  have td : t ≠ d := fun z => by
    rw [z, hd] at nt
    cases nt
  rw [Paired.length rp, List.take_length] at rp'
  refine ⟨sc _ _ upd_same, same_unlock hd rfl sc, kvs', by rw [upd_ne td]; exact ht, rp', nv, fun kv hk => ?_⟩
  obtain ⟨b, e, h2, h3⟩ := own kv hk
  refine ⟨b, e, h2, ?_⟩
  rw [upd_ne (fun z => by rw [z, hd] at h2; cases h2)]
  exact h3
end
end Tg

set_option maxHeartbeats 2000000
namespace Tg
open PySem PySem.Spec PyProof.Rows L2 LamX
/-! ### _law_other -/
abbrev sOt : Stmt := topS 48
abbrev NOt : List Str := ["_law_draws_here", "_law_table_here", "_law_told", "_law_a_place", "_law_time", "_law_number", "_law_worth", "_law_some"]
theorem scOt : FnScope NOt ["_law_draws_here", "_law_table_here"] (defScope sOt) := ⟨rfl, rfl, rfl, by decide +kernel, rfl, by decide +kernel, by decide +kernel⟩
theorem ixN_last {n : Nat} (h : 0 < n) : ixN n (-1) = some (n - 1) := by
  unfold ixN
  rw [if_neg (by decide)]
  have : -(n : Int) ≤ -1 := by omega
  rw [if_pos this]
  congr 1
  omega
theorem RP.put {K : PySem.W.Frag} {H : Hp} {a : Addr} {ys zs : List V} {kv : Key × V} {q : Int × List Rw} (e : H a = some (.lst ys)) (ne : kv.2 ≠ .ref a) (h : RP K H kv q) : RP K (upd H a (.lst zs)) kv q := by
  obtain ⟨e1, l, e2, xs, h1, h2⟩ := h
  refine ⟨e1, l, e2, xs, ?_, dpAll_kt (KT.put e nfix_lst) h2 (td_rds _)⟩
  rw [upd_ne (fun z : l = a => ne (by rw [e2, z]))]
  exact h1
theorem rp_set {K : PySem.W.Frag} {H : Hp} {a : Addr} {ys zs : List V} {m : Int} {rs' : List Rw} (e : H a = some (.lst ys)) (ld : LD K (upd H a (.lst zs)) a (rs'.map rd)) : ∀ {kvs : List (Key × V)} {T : Tb}, Paired (RP K H) kvs T → (kvs.map (·.2)).Nodup → valV kvs (.inl m) = some (.ref a) →
    ∃ S : Tb, Paired (RP K (upd H a (.lst zs))) kvs S ∧ S.map (·.1) = T.map (·.1) ∧ ∀ q, q ∈ S → q ∈ T ∨ q.2 = rs'
  | _, _, .nil, _, z => nomatch z
  | kv :: kvs, p :: T, .cons h t, nv, z => by
    rw [List.map_cons] at nv
    obtain ⟨n1, n2⟩ := List.nodup_cons.mp nv
    by_cases c : kv.1 = .inl m
    · rw [valV_pos c] at z
      have z2 : kv.2 = .ref a := Option.some.inj z
      refine ⟨(p.1, rs') :: T, .cons ⟨h.1, a, z2, ld⟩ ?_, rfl, fun q hq => ?_⟩
      · clear h c z nv n2
        induction t with
        | nil => exact .nil
        | cons b t ih =>
          rename_i kw q kvs2 T2
          rw [List.map_cons] at n1
          refine .cons (b.put e fun y => n1 (by rw [z2, ← y]; exact List.mem_cons_self)) (ih fun y => n1 (List.mem_cons_of_mem _ y))
      · obtain rfl | hq := List.mem_cons.mp hq
        · exact .inr rfl
        · exact .inl (List.mem_cons_of_mem _ hq)
    · rw [valV_neg c] at z
      obtain ⟨S, s1, s2, s3⟩ := rp_set e ld t n2 z
      have ne : kv.2 ≠ .ref a := fun y => n1 (by
        unfold valV at z
        obtain ⟨kw, h1, h2⟩ := Option.map_eq_some_iff.mp z
        rw [y, ← h2]
        exact List.mem_map.mpr ⟨kw, List.mem_of_find?_eq_some h1, rfl⟩)
      exact ⟨p :: S, .cons (h.put e ne) s1, by rw [List.map_cons, List.map_cons, s2], fun q hq => by
        obtain rfl | hq := List.mem_cons.mp hq
        · exact .inl List.mem_cons_self
        · rcases s3 q hq with h9 | h9
          · exact .inl (List.mem_cons_of_mem _ h9)
          · exact .inr h9⟩
theorem dpAll_setR {K : PySem.W.Frag} {H : Hp} {v : V} {r : Rw} (d : Dp K H v (rd r)) : ∀ {xs : List V} {rs : List Rw} (j : Nat), DpAll K H xs (rs.map rd) → DpAll K H (xs.set j v) ((rs.set j r).map rd)
  | [], [], _, _ => .nil
  | [], _ :: _, _, h => by cases h
  | _ :: _, [], _, none_ => by cases none_
  | _ :: _, _ :: _, 0, .cons _ t => .cons d t
  | _ :: _, _ :: _, j + 1, .cons a t => .cons a (dpAll_setR d j t)
/-- what is known of the other table -/
structure OthT (T : Tb) : Prop where
  nd : (T.map (·.1)).Nodup
  few : T.length ≤ 4
  len : ∀ q, q ∈ T → q.2.length ≤ 240
section
variable {P : Program} {w : World} {K : PySem.W.Frag} {mg : Str → Option Value} {base : Heap}
def spOt (K : PySem.W.Frag) : Sp := fun vs H Q _ => ∃ (p d : Addr) (n : Nat) (m : Int) (T : Tb), vs = [.ref p, .ref d] ∧ Dr H p n ∧ n < 900000 ∧ TbR K H d T ∧ OkT m T ∧
  ∀ (t : Addr) (S : Tb) (H' : Hp), Kp p H H' → Dr H' p (n + 3) → H t = none → TbR K H' t S → OthT S → Q (.ref t) H'
theorem ok_ot {f : Addr} {fd : FuncData} {k : Nat} (F : Fun K "_law_other" "_law_other" sOt f fd) (L_next : Cal P w K mg base k "_law_next" ["_law_draws_here"] spNext) (m_list : mg "list" = none) (m_len : mg "len" = none) (m_sorted : mg "sorted" = none) :
    FnOk P w K mg base CX0 (k + 1) f fd ["_law_draws_here", "_law_table_here"] (spOt K) := by
  refine F.ok scOt (fun vs H Q E h => ?_) (fun cdv A outer s H vs Q E hr h => ?_)
  · obtain ⟨p, d, n, m, T, rfl, _⟩ := h
    rfl
  · obtain ⟨p, d, n, m, TT, rfl, hp, hn, tb, ok, q⟩ := h
    have hu1 : (A.deeper (envOfC (Str.ofString "_law_other") (defScope sOt) s.heap.objs.size f cdv)).units + 65 < cLine := by have := hr.un; omega
    have hu := hu_of hr
    refine ⟨_, pss_cons (ps_set (i := 2) scOt.nd rfl (.inl rfl) pe_dnewK)
      (pss_cons (ps_lock (ps_for PassesOwn.never rfl (pi_keys (pv 1)) (pg_name (i := 3) scOt.nd rfl (.inl rfl))
        (pss_one (ps_dput hu (pv 2) (pv 3) (pe_callTy call_list_of (by rfl) m_list (by decide +kernel) (pa_cons (pe_dget hu (pv 1) (pv 3) (fun _ _ => rfl)) pa_nil)) rfl))))
      (pss_cons (ps_if (PW.pt (pw_or (pt_cmpR (op_eqK hu1) (pv 2) pe_dnewK (nomark _)) (pw_or1 (pt_cmpR op_eq (pe_op op_mod (pe_cal L_next (hr.mono (by omega)) (by rfl) (pa_cons (pv 0) pa_nil)) pe_int) pe_int (nomark _)))))
        (pss_one (ps_ret (pv 2)))
        pss_nil)
      (pss_cons (ps_set (i := 3) scOt.nd rfl (.inl rfl) (pe_ix ix_list (pe_callB (cr_sortedKV rfl) (by rfl) m_sorted (by decide +kernel) (pa_cons (pe_bm0 PySem.F.plainAttrs_dict PySem.F.slot_dict_keys PySem.F.type_dict_keys mt_keysV (pv 2)) pa_nil)) (pe_op op_mod (pe_cal L_next (hr.mono (by omega)) (by rfl) (pa_cons (pv 0) pa_nil)) (pe_callB call_lenD (by rfl) m_len (by decide +kernel) (pa_cons (pv 2) pa_nil))) (fun _ _ => rfl)))
      (pss_cons (ps_asg (pe_ix ix_list (pe_dget hu (pv 2) (pv 3) (fun _ _ => rfl)) (pe_un un_neg pe_int) (fun _ _ => rfl)) (pg_tup rfl (pgs_cons (pg_name (i := 4) scOt.nd rfl (.inl rfl)) (pgs_cons (pg_name (i := 5) scOt.nd rfl (.inl rfl)) (pgs_cons (pg_name (i := 6) scOt.nd rfl (.inl rfl)) pgs_nil)))))
      (pss_cons (ps_set (i := 7) scOt.nd rfl (.inl rfl) (pe_lst (pa_cons (pe_tup (pa_cons (pe_op op_add (pv 4) pe_int) (pa_cons (pv 5) (pa_cons (pv 6) pa_nil)))) (pa_cons (pe_tup (pa_cons (pv 4) (pa_cons (pe_op op_add (pv 5) pe_int) (pa_cons (pv 6) pa_nil)))) (pa_cons (pe_tup (pa_cons (pv 4) (pa_cons (pv 5) (pa_cons pe_int pa_nil)))) pa_nil)))))
      (pss_cons (ps_asg (pe_ix ix_list (pv 7) (pe_op op_mod (pe_cal L_next (hr.mono (by omega)) (by rfl) (pa_cons (pv 0) pa_nil)) pe_int) (fun _ _ => rfl)) (pg_sub (pe_dget hu (pv 2) (pv 3) (fun _ _ => rfl)) (pe_un un_neg pe_int) set_list))
      (pss_one (ps_ret (pv 2))))))))), ?_⟩
    obtain ⟨kvs, hd, rp⟩ := id tb
    intro t nt
    have tp : t ≠ p := hp.ne nt
    have hd0 : (upd H t (.dK [])) d = some (.dK kvs) := (upd_ne (ne_of_none hd nt)).trans hd
    refine ⟨d, _, hd0, trivial, fun od => ?_⟩
    refine ⟨_, rfl, d, od, rfl, .inl ⟨kvs, upd_same, ?_⟩⟩
    refine for_it walk_keys (fun i σ Hc => ∃ (z3 : Option V), σ = [some (.ref p), some (.ref d), some (.ref t), z3, none, none, none, none] ∧ CpI K H d od kvs TT t i Hc) ⟨none, rfl, cp_first hd nt⟩ (fun i σ Hc _ h => let ⟨_, _, sc, _⟩ := h; sc _ _ upd_same) ?_ ?_
    · rintro i x σ Hc Hd hi ⟨z3, rfl, I⟩ ⟨rfl, kk, v, ek, rfl⟩
      obtain ⟨a, ys, kvs', g, ha, ht, len, st⟩ := cp_step hd rp ok.nd I ek
      have big : 5000 < sizeLine := by decide
      have l4 := ok.few
      have lk : kvs.length = TT.length := Paired.length rp
      refine ⟨_, rfl, _, rfl, d, _, rfl, g, a, ys, rfl, .inl (SqL.of ha), fun l nl => ?_⟩
      obtain ⟨ht', nx⟩ := st l nl
      exact ⟨_, rfl, _, rfl, t, _, rfl, .inl ⟨kvs', kk, ht', rfl, by omega, rfl⟩, ⟨_, rfl, nx⟩⟩
    · rintro σ Hc ⟨z3, rfl, I⟩
      obtain ⟨hdc, s2, kvs', ht, rp', nv, own⟩ := cp_last hd rp I
      refine ⟨hdc, ?_⟩
      obtain ⟨H2, e2⟩ : ∃ H2, upd Hc d (.dK kvs) = H2 := ⟨_, rfl⟩
      rw [e2] at s2 ht rp' own
      refine nx_at e2 ?_
      have p2 := hp.same s2
      have k2 : Kp p H H2 := .of s2
      refine ⟨_, rfl, fun e ne => ?_⟩
      have s3 := same_new (o := .dK []) ne
      obtain ⟨H3, e3⟩ : ∃ H3, upd H2 e (.dK []) = H3 := ⟨_, rfl⟩
      have he3 : H3 e = some (.dK []) := by
        rw [← e3]
        exact upd_same
      rw [e3] at s3 ⊢
      have ht3 := s3 _ _ ht
      have rp3 : Paired (RP K H3) kvs' TT := L2.Paired.mapP rp' fun _ _ r => r.same s3
      have k3 := k2.trans (.of s3)
      have p3 := p2.same s3
      have oth : OthT TT := ⟨ok.nd, ok.few, ok.len⟩
      refine ⟨t, e, kvs', [], datL TT, [], rfl, rfl, ht3, he3, rp_dp rp3, .nil, ?_⟩
      cases eT : TT with
      | nil =>
        rw [← eT]
        refine ⟨true, by rw [eT]; rfl, if_t ⟨_, rfl, q t TT H3 k3 (p3.mono (by omega)) nt ⟨kvs', ht3, rp3⟩ oth⟩⟩
      | cons q0 T0 =>
        rw [← eT]
        refine ⟨false, by rw [eT]; rfl, if_f ⟨_, rfl, p, n, rfl, p3, by omega, fun v4 H4 k4 d4 v40 v41 => ?_⟩⟩
        have rp4 : Paired (RP K H4) kvs' TT := L2.Paired.mapP rp3 fun _ _ r => r.kp p3 k4
        have ht4 := k4 _ _ tp ht3
        have k14 := k3.trans k4
        refine ⟨_, _, rfl, rfl, (by show (0 : Int) < 3; decide), rfl, _, rfl, ite2 (fun g => ?_) (fun g => ?_)⟩
        · exact ⟨_, rfl, q t TT H4 k14 (d4.mono (by omega)) nt ⟨kvs', ht4, rp4⟩ oth⟩
        refine ⟨_, rfl, .inr (.inr (.inl ⟨rfl, .inl ⟨_, ht4⟩⟩)), t, kvs', rfl, rfl, ht4, fun kv nkv => ?_⟩
        have s5 := same_new (o := kvO kv t) nkv
        refine ⟨kv, t, kvs', TT.map (·.1), rfl, upd_same, s5 _ _ ht4, rp_keys rp4, fun ms ls pm up nls => ?_⟩
        have s6 := same_new (o := .lst (ms.map V.int)) nls
        obtain ⟨H5, e5⟩ : ∃ H5, upd (upd H4 kv (kvO kv t)) ls (.lst (ms.map V.int)) = H5 := ⟨_, rfl⟩
        have s45 : Same H4 H5 := by
          rw [← e5]
          exact s5.trans s6
        have hls5 : H5 ls = some (.lst (ms.map V.int)) := by
          rw [← e5]
          exact upd_same
        have nls4 : H4 ls = none := s5.free nls
        rw [e5]
        have lsp : ls ≠ p := d4.ne nls4
        have d5 := d4.same s45
        refine ⟨_, rfl, p, _, rfl, d5, by omega, fun v6 H6 k6 d6 v60 v61 => ?_⟩
        have hls6 := k6 _ _ lsp hls5
        have ht6 := k6 _ _ tp (s45 _ _ ht4)
        have rp6 : Paired (RP K H6) kvs' TT := L2.Paired.mapP rp4 fun _ _ r => (r.same s45).kp d5 k6
        have k16 := (k14.trans (.of s45)).trans k6
        have lT : TT.length = T0.length + 1 := by rw [eT]; rfl
        have lk' : kvs'.length = TT.length := Paired.length rp6
        have lm : ms.length = TT.length := by rw [pm.length_eq, List.length_map]
        have pos : (0 : Int) < (kvs'.length : Nat) := by omega
        obtain ⟨mk, hmk, emk⟩ := atI_mem (xs := ms) (i := v6 % (kvs'.length : Nat)) (Int.emod_nonneg _ (by omega)) (by have := Int.emod_lt_of_pos v6 pos; omega)
        refine ⟨_, rfl, t, kvs', rfl, ht6, _, _, rfl, rfl, pos, ls, _, _, .int mk, rfl, rfl, SqL.of hls6, emk, ?_⟩
        have mkT : mk ∈ TT.map (·.1) := pm.mem_iff.mp hmk
        obtain ⟨⟨mk', rs⟩, hq, rfl⟩ := List.mem_map.mp mkT
        have fk := find_key ok.nd hq
        obtain ⟨a, e3, ys, ha, dy⟩ := rp_val rp6 fk
        have g := DGet.k (k := .inl mk') ht6
        rw [e3] at g
        have ly : ys.length = rs.length := dl_len dy
        have rne := ok.ne _ hq
        have rl := ok.len _ hq
        have ypos : 0 < ys.length := by
          rw [ly]
          exact List.length_pos_iff.mpr rne
        obtain ⟨yv, ey⟩ : ∃ yv, ys[ys.length - 1]? = some yv := ⟨_, List.getElem?_eq_getElem (by omega)⟩
        have ay : atI ys (-1) = some yv := by
          unfold atI
          rw [ixN_last ypos]
          exact ey
        obtain ⟨r, er, dr⟩ := dl_at dy ey
        obtain ⟨ra, rfl, sr⟩ := dp_rd dr
        refine ⟨_, rfl, _, rfl, t, _, rfl, g, 1, rfl, a, ys, _, _, rfl, rfl, SqL.of ha, ay, ra, _, rfl, sr, rfl, _, _, rfl, _, _, rfl, _, _, rfl, rfl, ?_⟩
        refine ⟨_, rfl, _, _, rfl, rfl, _, rfl, _, rfl, by show 3 ≤ sizeLine; decide, fun t1 n1 => ?_⟩
        have q1 := same_new (o := .tup [.int (r.1 + 1), .int r.2.1, vw r.2.2]) n1
        refine ⟨_, rfl, _, rfl, _, _, rfl, rfl, _, rfl, by show 3 ≤ sizeLine; decide, fun t2 n2 => ?_⟩
        have q2 := same_new (o := .tup [.int r.1, .int (r.2.1 + 1), vw r.2.2]) n2
        refine ⟨_, rfl, _, rfl, by show 3 ≤ sizeLine; decide, fun t3 n3 => ?_⟩
        have q3 := same_new (o := .tup [.int r.1, .int r.2.1, .int 7777]) n3
        refine ⟨by show 3 ≤ sizeLine; decide, fun l nl => ?_⟩
        have q4 := same_new (o := .lst [.ref t1, .ref t2, .ref t3]) nl
        obtain ⟨H7, e7⟩ : ∃ H7, upd (upd (upd (upd H6 t1 (.tup [.int (r.1 + 1), .int r.2.1, vw r.2.2])) t2 (.tup [.int r.1, .int (r.2.1 + 1), vw r.2.2])) t3 (.tup [.int r.1, .int r.2.1, .int 7777])) l (.lst [.ref t1, .ref t2, .ref t3]) = H7 := ⟨_, rfl⟩
        have s67 : Same H6 H7 := by
          rw [← e7]
          exact ((q1.trans q2).trans q3).trans q4
        have hl7 : H7 l = some (.lst [.ref t1, .ref t2, .ref t3]) := by
          rw [← e7]
          exact upd_same
        have b1 : Dp K H7 (.ref t1) (rd (r.1 + 1, r.2.1, r.2.2)) := by
          rw [← e7]
          exact rd_new (SqT.of ((q2.trans (q3.trans q4)) _ _ upd_same))
        have b2 : Dp K H7 (.ref t2) (rd (r.1, r.2.1 + 1, r.2.2)) := by
          rw [← e7]
          exact rd_new (SqT.of ((q3.trans q4) _ _ upd_same))
        have b3 : Dp K H7 (.ref t3) (rd (r.1, r.2.1, some 7777)) := by
          rw [← e7]
          exact rd_new (SqT.of (q4 _ _ upd_same))
        have nl6 : H6 l = none := ((q1.trans q2).trans q3).free nl
        have lp : l ≠ p := d6.ne nl6
        refine nx_at e7 ?_
        have d7 := d6.same s67
        refine ⟨_, rfl, _, rfl, p, _, rfl, d7, by omega, fun v8 H8 k8 d8 v80 v81 => ?_⟩
        have hl8 := k8 _ _ lp hl7
        have ht8 := k8 _ _ tp (s67 _ _ ht6)
        have rp8 : Paired (RP K H8) kvs' TT := L2.Paired.mapP rp6 fun _ _ r => (r.same s67).kp d7 k8
        obtain ⟨a8, e8, ys8, ha8, dy8⟩ := rp_val rp8 fk
        have aa : a8 = a := by
          rw [e3] at e8
          have := Option.some.inj e8
          injection this with this
          exact this.symm
        subst aa
        have ly8 : ys8.length = rs.length := dl_len dy8
        obtain ⟨tv, htv, etv⟩ := atV_mem (xs := [V.ref t1, .ref t2, .ref t3]) (Int.emod_nonneg v8 (show (3 : Int) ≠ 0 by decide)) (Int.emod_lt_of_pos v8 (show (0 : Int) < 3 by decide))
        have kt8 : KT H7 H8 := d7.kt k8
        obtain ⟨r', dr'⟩ : ∃ r', Dp K H8 tv (rd r') := by
          simp only [List.mem_cons, List.not_mem_nil, or_false] at htv
          rcases htv with rfl | rfl | rfl
          · exact ⟨_, dp_kt kt8 b1 (td_rd _)⟩
          · exact ⟨_, dp_kt kt8 b2 (td_rd _)⟩
          · exact ⟨_, dp_kt kt8 b3 (td_rd _)⟩
        have g8 := DGet.k (k := .inl mk') ht8
        rw [e3] at g8
        refine ⟨_, _, rfl, rfl, (by show (0 : Int) < 3; decide), l, _, _, tv, rfl, rfl, SqL.of hl8, etv, _, rfl, _, rfl, t, _, rfl, g8, 1, rfl, a8, ys8, _, ys8.length - 1, rfl, rfl, ha8, ixN_last (by omega), ?_⟩
        have ta : t ≠ a8 := fun z => by
          rw [z, ha8] at ht8
          cases ht8
        have pa : p ≠ a8 := fun z => draws_no (rs := rs) (K := K) d8 (by rw [z]; exact ⟨ys8, ha8, dy8⟩)
        have na : H a8 = none := by
          unfold valV at e3
          obtain ⟨kw, h1, h2⟩ := Option.map_eq_some_iff.mp e3
          obtain ⟨b, e9, h9, _⟩ := own kw (List.mem_of_find?_eq_some h1)
          rw [e9] at h2
          injection h2 with h2
          rw [← h2]
          exact h9
        have kt9 : KT H8 (upd H8 a8 (.lst (ys8.set (ys8.length - 1) tv))) := KT.put ha8 nfix_lst
        obtain ⟨S, w1, w2, w3⟩ := rp_set (zs := ys8.set (ys8.length - 1) tv) (rs' := rs.set (ys8.length - 1) r') ha8 ⟨_, upd_same, dpAll_kt kt9 (dpAll_setR dr' _ dy8) (td_rds _)⟩ rp8 nv e3
        refine ⟨_, rfl, q t S _ (fun c o hc e => ?_) ?_ nt ⟨kvs', ?_, w1⟩ ⟨by rw [w2]; exact ok.nd, ?_, fun q9 h9 => ?_⟩⟩
        · rw [upd_ne (ne_of_none e na)]
          exact k8 _ _ hc (s67 _ _ (k16 _ _ hc e))
        · obtain ⟨da, dk, db, h1, h2, h3⟩ := d8
          exact ⟨da, dk, db, by rw [upd_ne pa]; exact h1, h2, by omega⟩
        · rw [upd_ne ta]
          exact ht8
        · have := congrArg List.length w2
          rw [List.length_map, List.length_map] at this
          rw [this]
          exact ok.few
        · rcases w3 q9 h9 with h9 | h9
          · exact ok.len q9 h9
          · rw [h9, List.length_set]
            exact rl
end
end Tg

set_option maxHeartbeats 2000000
namespace Tg
open PySem PySem.Spec PyProof.Rows L2 LamX
/-! ### _law_rows_right -/
abbrev sRI9 : Stmt := topS 46
abbrev NRI9 : List Str := ["_law_draws_here", "_law_block", "_law_table_here", "_law_ends", "_law_k", "_law_a_start", "_law_a_end", "_law_a_place", "_law_due", "_law_row", "_law_told"]
theorem scRI9 : FnScope NRI9 ["_law_draws_here", "_law_block", "_law_table_here"] (defScope sRI9) := ⟨rfl, rfl, rfl, by decide +kernel, rfl, by decide +kernel, by decide +kernel⟩
theorem dpKT_kt {K : PySem.W.Frag} {H H' : Hp} (k : KT H H') : ∀ {T : Tb} {kvs : List (Key × V)}, DpK K H kvs (datT T) → DpK K H' kvs (datT T)
  | [], [], _ => .nil
  | [], _ :: _, h => by cases h
  | _ :: _, [], h => by cases h
  | p :: _, _ :: _, .cons a t => .cons ⟨a.1, dp_kt k a.2.1 (.tup (td_rds p.2)), a.2.2⟩ (dpKT_kt k t)
theorem blO_kp {K : PySem.W.Frag} {C : Addr} {H H' : Hp} {p b : Addr} {n : Nat} {T : Tb} {fs : List (Str × V)} (d : Dr H p n) (k : Kp p H H') (h : BlF K C H b T fs) : BlF K C H' b T fs := by
  obtain ⟨dx, kd, kvs, h1, h2, h3⟩ := h
  have kt := d.kt k
  obtain ⟨_, _, _, q, _⟩ := d
  exact ⟨dx, kd, kvs, k _ _ (fun z => by rw [z, q] at h1; cases h1) h1, k _ _ (fun z => by rw [z, q] at h2; cases h2) h2, dpKT_kt kt h3⟩
theorem blO_same {K : PySem.W.Frag} {C : Addr} {H H' : Hp} {b : Addr} {T : Tb} {fs : List (Str × V)} (s : Same H H') (h : BlF K C H b T fs) : BlF K C H' b T fs := by
  obtain ⟨dx, kd, kvs, h1, h2, h3⟩ := h
  exact ⟨dx, kd, kvs, s _ _ h1, s _ _ h2, dpK_same s h3⟩
theorem getR_none {T : Tb} {m : Int} (h : m ∉ T.map (·.1)) : getR T m = [] := by
  unfold getR
  cases e : T.find? fun p => decide (p.1 = m) with
  | none => rfl
  | some q => exact absurd (List.mem_map.mpr ⟨q, List.mem_of_find?_eq_some e, of_decide_eq_true (List.find?_some (p := fun p : Int × List Rw => decide (p.1 = m)) e)⟩) h
theorem getR_perm {T S : Tb} {m : Int} (a : T.Perm S) (nd : (S.map (·.1)).Nodup) : getR T m = getR S m := by
  have nd' : (T.map (·.1)).Nodup := (a.map _).nodup_iff.mpr nd
  by_cases h : m ∈ S.map (·.1)
  · obtain ⟨q, hq, rfl⟩ := List.mem_map.mp h
    rw [getR_mem nd hq, getR_mem nd' (a.mem_iff.mpr hq)]
  · rw [getR_none h, getR_none (fun z => h ((a.map _).mem_iff.mp z))]
theorem getR_ok {m0 : Int} {T : Tb} (ok : OkT m0 T) (m : Int) : (getR T m).length ≤ 240 ∧ ∀ r, r ∈ getR T m → OkR m0 r := by
  by_cases h : m ∈ T.map (·.1)
  · obtain ⟨q, hq, rfl⟩ := List.mem_map.mp h
    rw [getR_mem ok.nd hq]
    exact ⟨ok.len q hq, ok.ok q hq⟩
  · rw [getR_none h]
    exact ⟨Nat.zero_le _, fun r hr => absurd hr List.not_mem_nil⟩
theorem tot4 : ∀ {T : Tb}, (∀ q, q ∈ T → q.2.length ≤ 240) → tot T ≤ 240 * T.length
  | [], _ => Nat.le_refl _
  | p :: T, h => by
    have ih := tot4 (T := T) fun q hq => h q (List.mem_cons_of_mem _ hq)
    have h1 := h p List.mem_cons_self
    unfold tot at ih ⊢
    rw [List.map_cons, List.flatten_cons, List.length_append, List.length_cons]
    omega
section
variable {P : Program} {w : World} {K : PySem.W.Frag} {mg : Str → Option Value} {base : Heap} {C : Addr}
def spRI9 (K : PySem.W.Frag) (C : Addr) : Sp := fun vs H Q _ => ∃ (p b d : Addr) (n : Nat) (m wt : Int) (T1 T : Tb), vs = [.ref p, .ref b, .ref d] ∧ Dr H p n ∧ n < 900000 ∧ BlO K C H b T1 wt ∧ TbR K H d T ∧ OkT m T ∧ T1.Perm T ∧
  ∀ H', Kp p H H' → Dr H' p (n + 24) → Q (.bl true) H'
theorem ok_ri9 {f : Addr} {fd : FuncData} {k : Nat} (F : Fun K "_law_rows_right" "_law_rows_right" sRI9 f fd) (T : TBl K C) (L_next : Cal P w K mg base k "_law_next" ["_law_draws_here"] spNext) (M_rows_in : CalM P w K mg base k C "rows_in" ["self", "place", "start", "end"] (spBR K C))
    (M_rows_in_k : CalMK P w K mg base k C "rows_in" ["self", "place", "start", "end"] ["end", "place", "start"] [1, 2, 0] (spBR K C)) (m_list : mg "list" = none) (m_sorted : mg "sorted" = none) (m_range : mg "range" = none) (m_isinstance : mg "isinstance" = none) :
    FnOk P w K mg base CX0 (k + 1) f fd ["_law_draws_here", "_law_block", "_law_table_here"] (spRI9 K C) := by
  refine F.ok scRI9 (fun vs H Q E h => ?_) (fun cdv A outer s H vs Q E hr h => ?_)
  · obtain ⟨p, b, d, n, m, wt, T1, TT, rfl, _⟩ := h
    rfl
  · obtain ⟨p, b, d, n, m, wt, T1, TT, rfl, hp, hn, bl, tb, ok, pm, q⟩ := h
    have hu : (A.deeper (envOfC (Str.ofString "_law_rows_right") (defScope sRI9) s.heap.objs.size f cdv)).units + 64 < cLine := by have := hr.un; omega
    have hu1 := hu_of hr
    refine ⟨_, pss_cons (ps_set (i := 3) scRI9.nd rfl (.inl rfl) (pe_lst (pa_cons (pe_un un_neg pe_int) (pa_cons pe_int (pa_cons pe_int (pa_cons pe_int (pa_cons pe_int (pa_cons pe_int (pa_cons (pe_op op_pow pe_int pe_int) (pa_cons (pe_op op_sub pe_int (pe_op op_pow pe_int pe_int)) (pa_cons (pe_op op_pow pe_int pe_int) pa_nil)))))))))))
      (pss_cons (ps_for PassesOwn.never rfl (pi_range1 (by rfl) m_range (pa_cons pe_int pa_nil)) (pg_name (i := 4) scRI9.nd rfl (.inl rfl))
        (pss_cons (ps_set (i := 5) scRI9.nd rfl (.inr rfl) (pe_op op_add (pe_ix ix_list (pv 3) (pe_op op_mod (pe_cal L_next (hr.mono (by omega)) (by rfl) (pa_cons (pv 0) pa_nil)) pe_int) (fun _ _ => rfl)) (pe_op op_mod (pe_cal L_next (hr.mono (by omega)) (by rfl) (pa_cons (pv 0) pa_nil)) pe_int)))
        (pss_cons (ps_set (i := 6) scRI9.nd rfl (.inr rfl) (pe_op op_add (pe_ix ix_list (pv 3) (pe_op op_mod (pe_cal L_next (hr.mono (by omega)) (by rfl) (pa_cons (pv 0) pa_nil)) pe_int) (fun _ _ => rfl)) (pe_op op_mod (pe_cal L_next (hr.mono (by omega)) (by rfl) (pa_cons (pv 0) pa_nil)) pe_int)))
        (pss_one (ps_for PassesOwn.never rfl (pi_list (pe_op op_cat (pe_callB (cr_sortedKV rfl) (by rfl) m_sorted (by decide +kernel) (pa_cons (pe_bm0 PySem.F.plainAttrs_dict PySem.F.slot_dict_keys PySem.F.type_dict_keys mt_keysV (pv 2)) pa_nil)) (pe_lst (pa_cons pe_int (pa_cons (pe_un un_neg pe_int) pa_nil))))) (pg_name (i := 7) scRI9.nd rfl (.inl rfl))
          (pss_cons (ps_setLc (i := 8) (own := [("_law_row", 9)]) (g := (gName 9)) rfl scRI9.nd rfl rfl (sw_true rfl rfl rfl (by decide +kernel)) (pi_list (pe_dget2 hu1 (pv 2) (pv 7) (pe_lst pa_nil) ⟨rfl, rfl, rfl, rfl⟩)) (blkOk_by (own := [("_law_row", 9)]) (N := NRI9) (sc := defScope sRI9) (by decide +kernel)) (fun _ _ _ _ _ => (pg_name (i := 9) scRI9.nd rfl (.inl rfl))) (fun _ _ _ _ _ => pts_one (pt_chain op_le op_lt (pv 5) (pe_ix (r := rIxT K) ix_tup (pv 9) pe_int (fun _ _ => rfl)) (pv 6))) (fun _ _ _ _ _ => (pv 9)))
          (pss_cons (ps_set (i := 10) scRI9.nd rfl (.inl rfl) (pe_calM (pv 1) T.cl M_rows_in (hr.mono (by omega)) (pa_cons (pv 7) (pa_cons (pv 5) (pa_cons (pv 6) pa_nil)))))
          (pss_cons (ps_if (PW.pt (pw_or (pt_not (pt_val (pe_callB call_isi (by rfl) m_isinstance (by decide +kernel) (pa_cons (pv 10) (pa_cons (pe_bltn (v := .ty "list") (by rfl) m_list (by decide +kernel) rfl) pa_nil))))) (pw_or1 (pt_cmpR (op_neD hu) (pv 10) (pv 8) (nomark _)))))
            (pss_one (ps_ret pe_bl))
            pss_nil)
          (pss_cons (ps_expr (pe_bm PySem.F.plainAttrs_list PySem.F.slot_list_append PySem.F.type_list_append mt_append (pv 10) (pa_cons pe_non pa_nil)))
          (pss_one (ps_if (pt_cmpR (op_neD hu) (pe_calMK (pv 1) T.cl M_rows_in_k (hr.mono (by omega)) (pk_cons (pv 6) (pk_cons (pv 7) (pk_cons (pv 5) pk_nil)))) (pv 8) (nomark _))
            (pss_one (ps_ret pe_bl))
            pss_nil)))))))))))
      (pss_one (ps_ret pe_bl))), ?_⟩
    have big : 5000 < sizeLine := by decide
    have few1 : tot T1 ≤ 5000 := by
      have h1 := tot_perm pm
      have h2 := tot4 ok.len
      have h3 := ok.few
      omega
    refine ⟨_, rfl, 10, 9, rfl, rfl, ⟨by decide, by decide, by decide⟩, 10, 12, rfl, rfl, ⟨by decide, by decide, by decide⟩, _, _, rfl, rfl, 10, 12, rfl, rfl, ⟨by decide, by decide, by decide⟩, by show 9 ≤ sizeLine; decide, fun l nl => ?_⟩
    obtain ⟨es, ees⟩ : ∃ es : List Int, es = [-5, 0, 3, 11, 45, 90, 10 ^ 9, 0 - 10 ^ 12, 10 ^ 12] := ⟨_, rfl⟩
    have les : es.length = 9 := by rw [ees]; rfl
    have s1 : Same H (upd H l (.lst (es.map V.int))) := same_new nl
    have hl1 : (upd H l (.lst (es.map V.int))) l = some (.lst (es.map V.int)) := upd_same
    have lp : l ≠ p := hp.ne nl
    rw [ees] at hl1 s1
    refine ⟨_, rfl, by decide, by decide, ?_⟩
    refine for_range (n := 6) (fun i σ Hc => ∃ (z4 z5 z6 z7 z8 z10 : Option V), σ = [some (.ref p), some (.ref b), some (.ref d), some (.ref l), z4, z5, z6, z7, z8, none, z10] ∧ Kp p H Hc ∧ Dr Hc p (n + 4 * i) ∧ BlO K C Hc b T1 wt ∧ TbR K Hc d TT ∧ Hc l = some (.lst (es.map V.int))) ?_ ?_ ?_
    · exact ⟨none, none, none, none, none, none, rfl, .of s1, hp.same s1, blO_same s1 bl, tb.same s1, by rw [ees]; exact hl1⟩
    · rintro i σ Hc hi ⟨z4, z5, z6, z7, z8, z10, rfl, kc, dc, blc, tbc, hlc⟩
      have n9 := fun x : Int => Int.emod_nonneg x (show (9 : Int) ≠ 0 by decide)
      have n9' := fun x : Int => Int.emod_lt_of_pos x (show (0 : Int) < 9 by decide)
      -- the start
      refine ⟨_, rfl, _, rfl, p, _, rfl, dc, by omega, fun v2 H2 k2 d2 _ _ => ?_⟩
      have hl2 := k2 _ _ lp hlc
      obtain ⟨x1, _, ex1⟩ := atI_mem (xs := es) (i := v2 % 9) (n9 _) (by rw [les]; exact n9' _)
      refine ⟨_, _, rfl, rfl, (by show (0 : Int) < 9; decide), l, _, _, .int x1, rfl, rfl, SqL.of hl2, ex1, _, rfl, p, _, rfl, d2, by omega, fun v3 H3 k3 d3 _ _ => ?_⟩
      have hl3 := k3 _ _ lp hl2
      refine ⟨_, _, rfl, rfl, (by show (0 : Int) < 3; decide), _, _, rfl, rfl, ?_⟩
      obtain ⟨st, est⟩ : ∃ st : Int, x1 + v3 % 3 = st := ⟨_, rfl⟩
      -- the end
      refine ⟨_, rfl, _, rfl, p, _, rfl, d3, by omega, fun v4 H4 k4 d4 _ _ => ?_⟩
      have hl4 := k4 _ _ lp hl3
      obtain ⟨x2, _, ex2⟩ := atI_mem (xs := es) (i := v4 % 9) (n9 _) (by rw [les]; exact n9' _)
      refine ⟨_, _, rfl, rfl, (by show (0 : Int) < 9; decide), l, _, _, .int x2, rfl, rfl, SqL.of hl4, ex2, _, rfl, p, _, rfl, d4, by omega, fun v5 H5 k5 d5 _ _ => ?_⟩
      have hl5 := k5 _ _ lp hl4
      refine ⟨_, _, rfl, rfl, (by show (0 : Int) < 3; decide), _, _, rfl, rfl, ?_⟩
      obtain ⟨en, een⟩ : ∃ en : Int, x2 + v5 % 3 = en := ⟨_, rfl⟩
      have k15 := (((kc.trans k2).trans k3).trans k4).trans k5
      have bl5 := blO_kp d4 k5 (blO_kp d3 k4 (blO_kp d2 k3 (blO_kp dc k2 blc)))
      have tb5 := (((tbc.kp dc k2).kp d2 k3).kp d3 k4).kp d4 k5
      obtain ⟨kvs, hd5, rp5⟩ := id tb5
      -- the places
      refine ⟨_, rfl, .inr (.inr (.inl ⟨rfl, .inl ⟨_, hd5⟩⟩)), d, kvs, rfl, rfl, hd5, fun kv nkv => ?_⟩
      have s5 := same_new (o := kvO kv d) nkv
      refine ⟨kv, d, kvs, TT.map (·.1), rfl, upd_same, s5 _ _ hd5, rp_keys rp5, fun ms ls pm2 up nls => ?_⟩
      have s6 := same_new (o := .lst (ms.map V.int)) nls
      refine ⟨1, rfl, by show 2 ≤ sizeLine; decide, fun l7 nl7 => ?_⟩
      have s7 := same_new (o := .lst [.int 7, .int (-1)]) nl7
      have lm : ms.length ≤ 4 := by
        rw [pm2.length_eq, List.length_map]
        exact ok.few
      refine ⟨ls, l7, _, _, rfl, rfl, s7 _ _ upd_same, upd_same, ?_, fun g ng => ?_⟩
      · rw [List.length_map]
        show ms.length + 2 ≤ _
        omega
      have s8 := same_new (o := .lst (ms.map V.int ++ [.int 7, .int (-1)])) ng
      obtain ⟨H9, e9⟩ : ∃ H9, upd (upd (upd (upd H5 kv (kvO kv d)) ls (.lst (ms.map V.int))) l7 (.lst [.int 7, .int (-1)])) g (.lst (ms.map V.int ++ [.int 7, .int (-1)])) = H9 := ⟨_, rfl⟩
      have s59 : Same H5 H9 := by
        rw [← e9]
        exact ((s5.trans s6).trans s7).trans s8
      have hg9 : H9 g = some (.lst ((ms ++ [7, -1]).map V.int)) := by
        rw [← e9, upd_same, List.map_append]
        rfl
      rw [← e9] at hg9
      refine ⟨g, rfl, ⟨_, SqL.of hg9⟩, ?_⟩
      have bl9 := blO_same s59 bl5
      have tb9 := tb5.same s59
      have d9 := d5.same s59
      have hl9 := s59 _ _ hl5
      rw [e9] at hg9
      refine for_list (K := K) (a := g) (xs := (ms ++ [7, -1]).map V.int) (fun j σ Hg => ∃ (z7 z8 z10 : Option V), σ = [some (.ref p), some (.ref b), some (.ref d), some (.ref l), some (.int (0 + i)), some (.int st), some (.int en), z7, z8, none, z10] ∧ Same H9 Hg) ?_ ?_ ?_ ?_
      · rw [← est, ← een, ← e9]
        exact ⟨z7, z8, z10, rfl, Same.refl _⟩
      · rintro j σ Hg _ ⟨_, _, _, _, sg⟩
        exact SqL.of (sg _ _ hg9)
      · rintro j v σ Hg hj ⟨y7, y8, y10, rfl, sg⟩
        rw [List.getElem?_map] at hj
        obtain ⟨pl, _, rfl⟩ := Option.map_eq_some_iff.mp hj
        have blg := blO_same sg bl9
        have tbg := tb9.same sg
        obtain ⟨kvs, hdg, rpg⟩ := id tbg
        obtain ⟨few9, _⟩ := getR_ok ok pl
        -- the rows due
        refine ⟨_, rfl, d, rfl, .inl ⟨_, .inl hdg⟩, _, rfl, by show 0 ≤ sizeLine; decide, fun t nt => ?_⟩
        have s10 := same_new (o := .lst []) nt
        obtain ⟨Hh, eh⟩ : ∃ Hh, upd Hg t (.lst []) = Hh := ⟨_, rfl⟩
        have ht : Hh t = some (.lst []) := by
          rw [← eh]
          exact upd_same
        rw [eh] at s10 ⊢
        obtain ⟨a, xs, ev, hx, da⟩ : ∃ a xs, (valV kvs (.inl pl)).getD (.ref t) = .ref a ∧ Hh a = some (.lst xs) ∧ DpAll K Hh xs ((getR TT pl).map rd) := by
          by_cases hm : pl ∈ TT.map (·.1)
          · obtain ⟨q0, hq0, rfl⟩ := List.mem_map.mp hm
            obtain ⟨a, e3, ys, ha, dy⟩ := rp_val rpg (find_key ok.nd hq0)
            rw [getR_mem ok.nd hq0]
            exact ⟨a, ys, by rw [e3]; rfl, s10 _ _ ha, dpAll_same s10 dy⟩
          · have e3 : valV kvs (.inl pl) = none := by
              refine rp_none rpg ?_
              cases e : TT.find? fun p => decide (p.1 = pl) with
              | none => rfl
              | some q0 => exact absurd (List.mem_map.mpr ⟨q0, List.mem_of_find?_eq_some e, of_decide_eq_true (List.find?_some (p := fun p : Int × List Rw => decide (p.1 = pl)) e)⟩) hm
            rw [getR_none hm]
            exact ⟨t, [], by rw [e3]; rfl, ht, .nil⟩
        refine ⟨_, DGet.k (k := .inl pl) (s10 _ _ hdg), a, ev, ⟨_, SqL.of hx⟩, fun D nD => ?_⟩
        have len : xs.length = (getR TT pl).length := dl_len da
        refine walked_w (walk_list (K := K) (a := a) (xs := xs)) (fun i Hc => Same Hh Hc ∧ ∃ ys, Hc D = some (.lst ys) ∧ ys.length ≤ i ∧ DpAll K Hc ys ((inR st en ((getR TT pl).take i)).map rd)) ⟨same_new nD, [], upd_same, Nat.le_refl _, .nil⟩ (fun i Hc _ h => SqL.of (h.1 _ _ hx)) ?_ ?_
        · rintro i v Hc Hd hi ⟨sc, ys, hD, ly, dy⟩ ⟨rfl, ev⟩
          obtain ⟨r, er, dv⟩ := dl_at da ev
          obtain ⟨ra, rfl, sq⟩ := dp_rd dv
          have sq' := sqT_same sc sq
          have dvc := dp_same sc dv
          refine ⟨rfl, _, rfl, _, rfl, ra, _, 0, .int r.1, rfl, rfl, sq', rfl, st, r.1, rfl, rfl, _, rfl, ?_⟩
          have yes : (decide (st ≤ r.1) && decide (r.1 < en)) = true → ∃ acc, Hd D = some (.lst acc) ∧ acc.length < sizeLine ∧ Same Hh (upd Hd D (.lst (acc ++ [.ref ra]))) ∧ ∃ ys, (upd Hd D (.lst (acc ++ [.ref ra]))) D = some (.lst ys) ∧ ys.length ≤ i + 1 ∧ DpAll K (upd Hd D (.lst (acc ++ [.ref ra]))) ys ((inR st en ((getR TT pl).take (i + 1))).map rd) := fun c => by
            have sn : Same Hh (upd Hd D (.lst (ys ++ [.ref ra]))) := same_put nD sc
            refine ⟨ys, hD, by omega, sn, _, upd_same, by rw [List.length_append]; show _ + 1 ≤ _; omega, ?_⟩
            rw [inR_succ er, c, if_pos rfl, List.map_append]
            have kt : KT Hd (upd Hd D (.lst (ys ++ [.ref ra]))) := KT.put hD nfix_lst
            exact dpAll_app (dpAll_kt kt dy (td_rds _)) (.cons (dp_same sn dv) .nil)
          have no : (decide (st ≤ r.1) && decide (r.1 < en)) = false → Same Hh Hd ∧ ∃ ys, Hd D = some (.lst ys) ∧ ys.length ≤ i + 1 ∧ DpAll K Hd ys ((inR st en ((getR TT pl).take (i + 1))).map rd) := fun c => by
            refine ⟨sc, ys, hD, by omega, ?_⟩
            rw [inR_succ er, c, if_neg (by decide), List.append_nil]
            exact dy
          by_cases c1 : st ≤ r.1
          · rw [decide_eq_true c1] at yes no
            rw [if_pos (decide_eq_true c1)]
            refine ⟨_, rfl, r.1, en, rfl, rfl, _, rfl, ?_⟩
            cases c2 : decide (r.1 < en) with
            | true => exact if_t ⟨_, rfl, yes (by rw [c2]; rfl)⟩
            | false => exact if_f (no (by rw [c2]; rfl))
          · rw [decide_eq_false c1] at no
            rw [if_neg (by rw [decide_eq_false c1]; decide)]
            exact ⟨false, rfl, if_f (no rfl)⟩
        rintro Hc ⟨sc, ys, hD, _, dy⟩
        rw [len, List.take_length] at dy
        have sgc := s10.trans sc
        have blc := blO_same sgc blg
        obtain ⟨dx, kd, kvs1, hbc, hkc, dkc⟩ := id blc
        have gp := getR_perm (m := pl) pm ok.nd
        have due : Dp K Hc (.ref D) (.list ((inR st en (getR TT pl)).map rd)) := .lst (SqL.of hD) dy
        refine ⟨_, rfl, b, dx, _, rfl, hbc, rfl, _, rfl, _, rfl, _, rfl, b, T1, wt, pl, st, en, rfl, blc, few1, fun p9 xs9 Hk s9 np9 hp9 dp9 => ?_⟩
        rw [gp] at dp9
        have due9 := dp_same s9 due
        refine ⟨_, rfl, .ref p9, .ty "list", .type "list", .type "list", true, rfl, .ty _, .base (.lst hp9), kit_ty (by decide +kernel), true, rfl, if_f ?_⟩
        refine ⟨_, rfl, _, rfl, _, _, .lst (SqL.of hp9) dp9, due9, (rds_form _).1, (rds_form _).1, false, by rw [(rds_form _).2]; rfl, if_f ?_⟩
        have l9 : xs9.length ≤ 240 := by
          have h1 := dl_len dp9
          have h2 := List.length_filter_le (fun r : Rw => decide (st ≤ r.1) && decide (r.1 < en)) (getR TT pl)
          unfold inR at h1
          omega
        refine ⟨_, rfl, .inl ⟨rfl, _, SqL.of hp9⟩, p9, xs9, .non, rfl, rfl, hp9, by omega, ?_⟩
        have sk : Same Hc (upd Hk p9 (.lst (xs9 ++ [.non]))) := same_put np9 s9
        have blk := blO_same sk blc
        obtain ⟨dx2, kd2, kvs2, hbk, _⟩ := id blk
        refine ⟨_, rfl, b, dx2, _, rfl, hbk, rfl, _, rfl, _, rfl, _, rfl, rfl, b, T1, wt, pl, st, en, rfl, blk, few1, fun p8 xs8 Hj s8 np8 hp8 dp8 => ?_⟩
        rw [gp] at dp8
        refine ⟨_, rfl, _, _, .lst (SqL.of hp8) dp8, dp_same s8 (dp_same sk due), (rds_form _).1, (rds_form _).1, false, by rw [(rds_form _).2]; rfl, if_f ?_⟩
        exact ⟨_, _, _, rfl, sg.trans (sgc.trans (sk.trans s8))⟩
      · rintro σ Hg ⟨y7, y8, y10, rfl, sg⟩
        have s5g := s59.trans sg
        exact ⟨_, _, _, _, _, _, rfl, k15.trans (.of s5g), (d5.same s5g).mono (by omega), blO_same sg bl9, tb9.same sg, sg _ _ hl9⟩
    · rintro σ Hb ⟨z4, z5, z6, z7, z8, z10, rfl, kb, db, _⟩
      exact q Hb kb (db.mono (by omega))
end
end Tg

set_option maxHeartbeats 2000000
namespace Tg
open PySem PySem.Spec PyProof.Rows L2 LamX
/-! ### _law_columns_right -/
abbrev sLkd9 : Stmt := inCls (topS 34) 6
abbrev sCR9 : Stmt := topS 45
abbrev NCR9 : List Str := ["_law_block", "_law_a_place", "_law_a_rows", "_law_due", "_law_row", "_law_told", "_law_column", "_law_some"]
theorem scLkd9 : FnScope ["self"] ["self"] (defScope sLkd9) := ⟨rfl, rfl, rfl, by decide +kernel, rfl, by decide +kernel, by decide +kernel⟩
theorem scCR9 : FnScope NCR9 ["_law_block", "_law_a_place", "_law_a_rows"] (defScope sCR9) := ⟨rfl, rfl, rfl, by decide +kernel, rfl, by decide +kernel, by decide +kernel⟩
/-- the own == of columns -/
structure CEq (P : Program) (w : World) (K : PySem.W.Frag) (mg : Str → Option Value) (base : Heap) (CC fE : Addr) (fdE : FuncData) (j : Nat) : Prop where
  FE : FnOk P w K mg base CX0 j fE fdE ["self", "other"] (spEqB (EqC K CC))
  atE : PySem.W.findIn K (.ref CC) "__eq__" = some (some (.ref fE))
  fnE : PySem.W.isFn K (.ref fE) = true
  hbE : Binds K fdE ["self", "other"] []
def ColR (K : PySem.W.Frag) (CC : Addr) (a b : Addr) (H : Hp) : Prop := ∃ y xs, ColO K CC H a y xs ∧ ColO K CC H b y xs
theorem colR_mon {K : PySem.W.Frag} {CC : Addr} (a b : Addr) (H H' : Hp) (e : Ext H H') (r : ColR K CC a b H) : ColR K CC a b H' := by
  obtain ⟨y, xs, h1, h2⟩ := r
  exact ⟨y, xs, colO_ext (.of e) h1, colO_ext (.of e) h2⟩
theorem alk_self (y : Wy) (xs : List Int) : alk y xs y xs = true := by
  unfold alk
  rw [decide_eq_true rfl, decide_eq_true rfl, decide_eq_true rfl]
  rfl
theorem eqG_col {X : Cx} {CC fE : Addr} {fdE : FuncData} {j : Nat} (c : CEq X.prog X.w X.K X.mg X.base CC fE fdE j) : EqG X j (DIns CC (ColR X.K CC)) :=
  eqG_ins (E := E0) (c.FE.imp fun vs H Q E ⟨a, b, e, ⟨y, xs, h1, h2⟩, q⟩ => ⟨a, .ref b, true, e, .inl ⟨b, y, xs, y, xs, rfl, h1, h2, (alk_self y xs).symm⟩, q⟩) c.atE c.fnE c.hbE pass0
theorem colZ_o {K : PySem.W.Frag} {C : Addr} {H : Hp} {a : Addr} {y : Wy} {xs : List Int} {z : Int} (h : ColZ K C H a y xs z) : ColO K C H a y xs := by
  obtain ⟨dx, g, h1, h2⟩ := h
  exact ⟨dx, g, z, h1, h2⟩
theorem lt_ext {H H' : Hp} (e : ExtN H H') : LT H H' := fun a o f h => e a o h fun ps z => by
  rw [z] at f
  exact f
theorem blO_ext {K : PySem.W.Frag} {C : Addr} {H H' : Hp} {b : Addr} {T : Tb} {fs : List (Str × V)} (s : ExtN H H') (h : BlF K C H b T fs) : BlF K C H' b T fs := by
  obtain ⟨dx, kd, kvs, h1, h2, h3⟩ := h
  exact ⟨dx, kd, kvs, s _ _ h1 (fun _ z => nomatch z), s _ _ h2 (fun _ z => nomatch z), dpK_lt (lt_ext s) h3⟩
theorem ld_ext {K : PySem.W.Frag} {H H' : Hp} {a : Addr} {ds : List PyData} (s : ExtN H H') (h : LD K H a ds) : LD K H' a ds := by
  obtain ⟨xs, h1, h2⟩ := h
  exact ⟨xs, s _ _ h1 (fun _ z => nomatch z), dpAll_ext s h2⟩
theorem lo_rows {m : Int} (m4 : m ≤ 40) {rs : List Rw} (h : ∀ r, r ∈ rs → OkR m r) : LoR rs := by
  have b : (10 : Nat) ^ 16 < 2 ^ 70 := by decide
  have b12 : (10 : Nat) ^ 12 < 2 ^ 70 := by decide
  have b40 : 41 < 2 ^ 70 := by decide
  refine ⟨fun x hx => ?_, fun x hx => ?_, fun x hx => ?_, fun x hx => ?_⟩
  · obtain ⟨r, hr, rfl⟩ := List.mem_map.mp hx
    have := (h r hr).1
    omega
  · obtain ⟨r, hr, rfl⟩ := List.mem_map.mp hx
    obtain ⟨_, h1, h2, _⟩ := h r hr
    omega
  · obtain ⟨r, hr, rfl⟩ := List.mem_map.mp hx
    cases r.2.2 with
    | none => show (0 : Int).natAbs < _; decide
    | some z => show (1 : Int).natAbs < _; decide
  · obtain ⟨r, hr, e⟩ := List.mem_filterMap.mp hx
    have := (h r hr).2.2.2 x e
    omega
/-- the columns due -/
def Due4 (K : PySem.W.Frag) (CC : Addr) (H : Hp) (rs : List Rw) (c1 c2 c3 c4 : Addr) : Prop := ColO K CC H c1 (best (tms rs)) (tms rs) ∧ ColO K CC H c2 (best (nms rs)) (nms rs) ∧ ColO K CC H c3 (best (ths rs)) (ths rs) ∧ ColO K CC H c4 (best (wths rs)) (wths rs)
theorem due_ext {K : PySem.W.Frag} {CC : Addr} {H H' : Hp} {rs : List Rw} {c1 c2 c3 c4 : Addr} (e : ExtN H H') (d : Due4 K CC H rs c1 c2 c3 c4) : Due4 K CC H' rs c1 c2 c3 c4 := ⟨colO_ext e d.1, colO_ext e d.2.1, colO_ext e d.2.2.1, colO_ext e d.2.2.2⟩
theorem cols_ext {K : PySem.W.Frag} {CC : Addr} {H H' : Hp} {rs : List Rw} {cs : List V} (e : ExtN H H') (c : Cols K CC H rs cs) : Cols K CC H' rs cs := by
  obtain ⟨e1, e2, e3, e4, y1, y2, y3, y4, rfl, z1, z2, z3, z4, r⟩ := c
  exact ⟨e1, e2, e3, e4, y1, y2, y3, y4, rfl, colZ_ext e z1, colZ_ext e z2, colZ_ext e z3, colZ_ext e z4, r⟩
theorem dins_of {K : PySem.W.Frag} {CC : Addr} {H : Hp} {a b : Addr} {y : Wy} {xs : List Int} (h1 : ColO K CC H a y xs) (h2 : ColO K CC H b y xs) : DIns CC (ColR K CC) (.ref a) (.ref b) H := by
  obtain ⟨d1, g1, z1, a1, _⟩ := id h1
  obtain ⟨d2, g2, z2, a2, _⟩ := id h2
  exact ⟨a, b, d1, d2, _, _, rfl, rfl, a1, a2, y, xs, h1, h2⟩
theorem cols_prs {K : PySem.W.Frag} {CC : Addr} {H : Hp} {rs : List Rw} {cs : List V} {c1 c2 c3 c4 : Addr} (c : Cols K CC H rs cs) (d : Due4 K CC H rs c1 c2 c3 c4) : Prs (DIns CC (ColR K CC)) cs [.ref c1, .ref c2, .ref c3, .ref c4] H := by
  obtain ⟨e1, e2, e3, e4, y1, y2, y3, y4, rfl, z1, z2, z3, z4, rfl, rfl, rfl, rfl⟩ := c
  obtain ⟨d1, d2, d3, d4⟩ := d
  exact .cons (dins_of (colZ_o z1) d1) (.cons (dins_of (colZ_o z2) d2) (.cons (dins_of (colZ_o z3) d3) (.cons (dins_of (colZ_o z4) d4) .nil)))
theorem cols_at {K : PySem.W.Frag} {CC : Addr} {H : Hp} {rs : List Rw} {cs : List V} (c : Cols K CC H rs cs) : cs.length = 4 ∧ ∀ (i : Nat) y, cs[i]? = some y → ∃ e yy xx, y = .ref e ∧ ColZ K CC H e yy xx 0 := by
  obtain ⟨e1, e2, e3, e4, y1, y2, y3, y4, rfl, z1, z2, z3, z4, _⟩ := c
  refine ⟨rfl, fun i y h => ?_⟩
  match i, h with
  | 0, h => cases h; exact ⟨_, _, _, rfl, z1⟩
  | 1, h => cases h; exact ⟨_, _, _, rfl, z2⟩
  | 2, h => cases h; exact ⟨_, _, _, rfl, z3⟩
  | 3, h => cases h; exact ⟨_, _, _, rfl, z4⟩
  | i + 4, h => cases h
section
variable {P : Program} {w : World} {K : PySem.W.Frag} {mg : Str → Option Value} {base : Heap} {C CC PT : Addr}
def spLkd9 (C : Addr) : Sp := fun vs H Q _ => ∃ (a dx : Addr) (g : V) (y : Wy) (xs : List Int) (z : Int), vs = [.ref a] ∧ H a = some (.ins C dx (colF g y xs z)) ∧ Q (.int z) H
theorem ok_lkd9 {f : Addr} {fd : FuncData} {k : Nat} (F : Fun K "looked" "Column.looked" sLkd9 f fd) (T : TCol K C) : FnOk P w K mg base CX0 (k + 1) f fd ["self"] (spLkd9 C) := by
  refine F.ok scLkd9 (fun vs H Q E h => ?_) (fun cdv A outer s H vs Q E hr h => ?_)
  · obtain ⟨a, dx, g, y, xs, z, rfl, _⟩ := h
    rfl
  · obtain ⟨a, dx, g, y, xs, z, rfl, ha, q⟩ := h
    exact ⟨_, pss_one (ps_ret (pe_fld (pv 0) rfl)), _, rfl, a, C, dx, _, _, rfl, ha, T.cl, T.no _ (by decide), rfl, q⟩
def spCR9 (K : PySem.W.Frag) (C PT : Addr) : Sp := fun vs H Q _ => ∃ (b l : Addr) (m m0 wt : Int) (T1 : Tb) (rs : List Rw), vs = [.ref b, .int m, .ref l] ∧ BlO K C H b T1 wt ∧ tot T1 ≤ 5000 ∧ T1.find? (fun p => decide (p.1 = m)) = some (m, rs) ∧ LD K H l (rs.map rd) ∧ rs ≠ [] ∧ rs.length ≤ 240 ∧ m0 ≤ 40 ∧ (∀ r, r ∈ rs → OkR m0 r) ∧ Tabs (TT PT) H ∧
  ∀ H', Grow (TT PT) H H' → Q (.bl true) H'
theorem ok_cr9 {f fE : Addr} {fd fdE : FuncData} {k j : Nat} (F : Fun K "_law_columns_right" "_law_columns_right" sCR9 f fd) (T : TBl K C) (TC : TCol K CC) (Z : CEq P w K mg base CC fE fdE j) (jk : j + 1 ≤ k) (C_pack : CalD P w K mg base k "pack" ["numbers", "way"] [.non] (spPk K CC PT))
    (M_rows_in : CalM P w K mg base k C "rows_in" ["self", "place", "start", "end"] (spBR K C)) (M_columns_of : CalM P w K mg base k C "columns_of" ["self", "place"] (spBC K C CC PT)) (M_columns_of_k : CalMK P w K mg base k C "columns_of" ["self", "place"] ["place"] [0] (spBC K C CC PT))
    (M_looked : CalM P w K mg base k CC "looked" ["self"] (spLkd9 CC)) (M_unpacked : CalM P w K mg base k CC "unpacked" ["self"] (spCU K CC)) (m_int : mg "int" = none) (m_list : mg "list" = none) (m_tuple : mg "tuple" = none) (m_isinstance : mg "isinstance" = none) :
    FnOk P w K mg base CX0 (k + 1) f fd ["_law_block", "_law_a_place", "_law_a_rows"] (spCR9 K C PT) := by
  refine F.ok scCR9 (fun vs H Q E h => ?_) (fun cdv A outer s H vs Q E hr h => ?_)
  · obtain ⟨b, l, m, m0, wt, T1, rs, rfl, _⟩ := h
    rfl
  · obtain ⟨b, l, m, m0, wt, T1, rs, rfl, bl, few, fk, ld, ne, len, m4, okr, tabs, q⟩ := h
    have hu : (A.deeper (envOfC (Str.ofString "_law_columns_right") (defScope sCR9) s.heap.objs.size f cdv)).units + 64 < cLine := by have := hr.un; omega
    have mC := mon_ins (C := CC) (R := ColR K CC) colR_mon
    have rC := hr.mono jk
    have eC : EqG (cxOf CX0 P w K mg base NCR9 (Str.ofString "_law_columns_right") (defScope sCR9) f cdv A outer s H E).nox j (DIns CC (ColR K CC)) := eqG_col (X := (cxOf CX0 P w K mg base NCR9 (Str.ofString "_law_columns_right") (defScope sCR9) f cdv A outer s H E).nox) Z
    refine ⟨_, pss_cons (ps_set (i := 3) scCR9.nd rfl (.inl rfl) (pe_lst (pa_cons (pe_calD C_pack (hr.mono (by omega)) (by rfl) (pa_cons (pe_lc (own := [("_law_row", 4)]) (g := (gName 4)) (tt := tYes) rfl scCR9.nd (pi_list (pv 2)) (blkOk_by (own := [("_law_row", 4)]) (N := NCR9) (sc := defScope sCR9) (by decide +kernel)) (fun _ _ _ _ _ => (pg_name (i := 4) scCR9.nd rfl (.inl rfl))) (fun _ _ _ _ _ => pts_nil) (fun _ _ _ _ _ => (pe_ix (r := rIxT K) ix_tup (pv 4) pe_int (fun _ _ => rfl)))) pa_nil)) (pa_cons (pe_calD C_pack (hr.mono (by omega)) (by rfl) (pa_cons (pe_lc (own := [("_law_row", 4)]) (g := (gName 4)) (tt := tYes) rfl scCR9.nd (pi_list (pv 2)) (blkOk_by (own := [("_law_row", 4)]) (N := NCR9) (sc := defScope sCR9) (by decide +kernel)) (fun _ _ _ _ _ => (pg_name (i := 4) scCR9.nd rfl (.inl rfl))) (fun _ _ _ _ _ => pts_nil) (fun _ _ _ _ _ => (pe_ix (r := rIxT K) ix_tup (pv 4) pe_int (fun _ _ => rfl)))) pa_nil)) pa_nil))))
      (pss_cons (ps_expr (pe_bm PySem.F.plainAttrs_list PySem.F.slot_list_append PySem.F.type_list_append mt_append (pv 3) (pa_cons (pe_calD C_pack (hr.mono (by omega)) (by rfl) (pa_cons (pe_lc (own := [("_law_row", 4)]) (g := (gName 4)) (tt := tYes) rfl scCR9.nd (pi_list (pv 2)) (blkOk_by (own := [("_law_row", 4)]) (N := NCR9) (sc := defScope sCR9) (by decide +kernel)) (fun _ _ _ _ _ => (pg_name (i := 4) scCR9.nd rfl (.inl rfl))) (fun _ _ _ _ _ => pts_nil) (fun _ _ _ _ _ => (pe_callTy call_int1 (by rfl) m_int (by decide +kernel) (pa_cons (pe_cmpR op_notN (pe_ix (r := rIxT K) ix_tup (pv 4) pe_int (fun _ _ => rfl)) pe_non (nomark _)) pa_nil)))) pa_nil)) pa_nil)))
      (pss_cons (ps_expr (pe_bm PySem.F.plainAttrs_list PySem.F.slot_list_append PySem.F.type_list_append mt_append (pv 3) (pa_cons (pe_calD C_pack (hr.mono (by omega)) (by rfl) (pa_cons (pe_lc (own := [("_law_row", 4)]) (g := (gName 4)) rfl scCR9.nd (pi_list (pv 2)) (blkOk_by (own := [("_law_row", 4)]) (N := NCR9) (sc := defScope sCR9) (by decide +kernel)) (fun _ _ _ _ _ => (pg_name (i := 4) scCR9.nd rfl (.inl rfl))) (fun _ _ _ _ _ => pts_one (pt_cmpR op_notN (pe_ix (r := rIxT K) ix_tup (pv 4) pe_int (fun _ _ => rfl)) pe_non (nomark _))) (fun _ _ _ _ _ => (pe_ix (r := rIxT K) ix_tup (pv 4) pe_int (fun _ _ => rfl)))) pa_nil)) pa_nil)))
      (pss_cons (ps_expr (pe_calM (pv 0) T.cl M_rows_in (hr.mono (by omega)) (pa_cons (pv 1) (pa_cons (pe_ix ix_tup (pe_ix ix_list (pv 2) (pe_un un_neg pe_int) (fun _ _ => rfl)) pe_int (fun _ _ => rfl)) (pa_cons (pe_op op_add (pe_ix ix_tup (pe_ix ix_list (pv 2) (pe_un un_neg pe_int) (fun _ _ => rfl)) pe_int (fun _ _ => rfl)) pe_int) pa_nil)))))
      (pss_cons (ps_set (i := 5) scCR9.nd rfl (.inl rfl) (pe_calM (pv 0) T.cl M_columns_of (hr.mono (by omega)) (pa_cons (pv 1) pa_nil)))
      (pss_cons (ps_if (PW.pt (pw_or (pt_not (pt_val (pe_callB call_isi (by rfl) m_isinstance (by decide +kernel) (pa_cons (pv 5) (pa_cons (pe_bltn (v := .ty "tuple") (by rfl) m_tuple (by decide +kernel) rfl) pa_nil))))) (pw_or (pt_cmpR (op_neGL mC eC rC) (pe_callTy call_list_of (by rfl) m_list (by decide +kernel) (pa_cons (pv 5) pa_nil)) (pv 3) (nomark _)) (pw_or1 (pt_cmpR (op_neD hu) (pe_lc (own := [("_law_column", 6)]) (g := (gName 6)) (tt := tYes) rfl scCR9.nd (pi_tup (pv 5)) (blkOk_by (own := [("_law_column", 6)]) (N := NCR9) (sc := defScope sCR9) (by decide +kernel)) (fun _ _ _ _ _ => (pg_name (i := 6) scCR9.nd rfl (.inl rfl))) (fun _ _ _ _ _ => pts_nil) (fun _ _ _ _ _ => (pe_calM0 (pv 6) TC.cl M_looked (hr.mono (by omega))))) (pe_lst (pa_cons pe_int (pa_cons pe_int (pa_cons pe_int (pa_cons pe_int pa_nil))))) (nomark _))))))
        (pss_one (ps_ret pe_bl))
        pss_nil)
      (pss_cons (ps_set (i := 7) scCR9.nd rfl (.inl rfl) (pe_calM0 (pe_ix ix_tup (pv 5) pe_int (fun _ _ => rfl)) TC.cl M_unpacked (hr.mono (by omega))))
      (pss_cons (ps_expr (pe_bm PySem.F.plainAttrs_list PySem.F.slot_list_append PySem.F.type_list_append mt_append (pv 7) (pa_cons pe_non pa_nil)))
      (pss_one (ps_ret (pe_cmpR (op_eqG (rcG_list mC eC) rC) (pe_callTy call_list_of (by rfl) m_list (by decide +kernel) (pa_cons (pe_calMK (pv 0) T.cl M_columns_of_k (hr.mono (by omega)) (pk_cons (pv 1) pk_nil)) pa_nil)) (pv 3) (nomark _))))))))))), ?_⟩
    obtain ⟨lo1, lo2, lo3, lo4⟩ := lo_rows m4 okr
    obtain ⟨xs, hx, da⟩ := id ld
    have lx : xs.length = rs.length := dl_len da
    refine ⟨_, rfl, l, rfl, ⟨_, SqL.of hx⟩, fun D0 nD0 => ?_⟩
    refine walked_w (walk_list (K := K) (a := l) (xs := xs)) (fun i Hc => Same H Hc ∧ Hc D0 = some (.lst ((tms (rs.take i)).map V.int))) ⟨same_new nD0, upd_same⟩ (fun i Hc _ h => SqL.of (h.1 _ _ hx)) ?_ ?_
    · rintro i v Hc Hd hi ⟨sc, hD⟩ ⟨rfl, ey⟩
      obtain ⟨r, er, dv⟩ := dl_at da ey
      obtain ⟨ra, rfl, sr⟩ := dp_rd dv
      have sr' := sqT_same sc sr
      have lt : (tms (rs.take i)).length < sizeLine := by
        have := fl_0 rs i
        have : 300 < sizeLine := by decide
        omega
      have su := tms_succ er
      exact ⟨rfl, yes_b (if_t ⟨_, rfl, ra, _, 0, .int r.1, rfl, rfl, sr', rfl, _, hD, by rw [List.length_map]; exact lt, same_put nD0 sc, by rw [upd_same, su, List.map_append]; rfl⟩)⟩
    rintro A0 ⟨sa0, hD0⟩
    rw [lx, List.take_length] at hD0
    refine ⟨D0, tms rs, .non, best (tms rs), rfl, .inr ⟨rfl, rfl⟩, tabs.ext sa0, hD0, lo1, by unfold tms; rw [List.length_map]; omega, fun c1 G1 g1 _ z1 kp1 => ?_⟩
    have E1 : ExtN H G1 := (ExtN.of sa0).trans g1.ext
    have hx1 := E1 _ _ hx (fun _ z => nomatch z)
    have da1 := dpAll_ext E1 da
    refine ⟨_, rfl, l, rfl, ⟨_, SqL.of hx1⟩, fun D1 nD1 => ?_⟩
    refine walked_w (walk_list (K := K) (a := l) (xs := xs)) (fun i Hc => Same G1 Hc ∧ Hc D1 = some (.lst ((nms (rs.take i)).map V.int))) ⟨same_new nD1, upd_same⟩ (fun i Hc _ h => SqL.of (h.1 _ _ hx1)) ?_ ?_
    · rintro i v Hc Hd hi ⟨sc, hD⟩ ⟨rfl, ey⟩
      obtain ⟨r, er, dv⟩ := dl_at da1 ey
      obtain ⟨ra, rfl, sr⟩ := dp_rd dv
      have sr' := sqT_same sc sr
      have lt : (nms (rs.take i)).length < sizeLine := by
        have := fl_1 rs i
        have : 300 < sizeLine := by decide
        omega
      have su := nms_succ er
      exact ⟨rfl, yes_b (if_t ⟨_, rfl, ra, _, 1, .int r.2.1, rfl, rfl, sr', rfl, _, hD, by rw [List.length_map]; exact lt, same_put nD1 sc, by rw [upd_same, su, List.map_append]; rfl⟩)⟩
    rintro A1 ⟨sa1, hD1⟩
    rw [lx, List.take_length] at hD1
    refine ⟨D1, nms rs, .non, best (nms rs), rfl, .inr ⟨rfl, rfl⟩, g1.tabs.ext sa1, hD1, lo2, by unfold nms; rw [List.length_map]; omega, fun c2 G2 g2 _ z2 kp2 => ?_⟩
    have E12 : ExtN G1 G2 := (ExtN.of sa1).trans g2.ext
    have E2 : ExtN H G2 := E1.trans E12
    refine ⟨by show 2 ≤ sizeLine; decide, fun q0 nq0 => ?_⟩
    have sX2 := same_new (o := .lst [.ref c1, .ref c2]) nq0
    obtain ⟨X2, eX2⟩ : ∃ X2, upd G2 q0 (.lst [.ref c1, .ref c2]) = X2 := ⟨_, rfl⟩
    have hq2 : X2 q0 = some (.lst [.ref c1, .ref c2]) := by
      rw [← eX2]
      exact upd_same
    rw [eX2] at sX2
    refine nx_at eX2 ?_
    have EX2 : ExtN H X2 := E2.trans (.of sX2)
    have hx2 := EX2 _ _ hx (fun _ z => nomatch z)
    have da2 := dpAll_ext EX2 da
    have t2 := g2.tabs.ext sX2
    have o1 : ColO K CC G2 c1 (best (tms rs)) (tms rs) := colO_ext E12 (colZ_o z1)
    have o2 : ColO K CC G2 c2 (best (nms rs)) (nms rs) := colZ_o z2
    refine ⟨_, rfl, .inl ⟨rfl, _, SqL.of hq2⟩, _, rfl, l, rfl, ⟨_, SqL.of hx2⟩, fun D2 nD2 => ?_⟩
    refine walked_w (walk_list (K := K) (a := l) (xs := xs)) (fun i Hc => Same X2 Hc ∧ Hc D2 = some (.lst ((ths (rs.take i)).map V.int))) ⟨same_new nD2, upd_same⟩ (fun i Hc _ h => SqL.of (h.1 _ _ hx2)) ?_ ?_
    · rintro i v Hc Hd hi ⟨sc, hD⟩ ⟨rfl, ey⟩
      obtain ⟨r, er, dv⟩ := dl_at da2 ey
      obtain ⟨ra, rfl, sr⟩ := dp_rd dv
      have sr' := sqT_same sc sr
      have lt : (ths (rs.take i)).length < sizeLine := by
        have := fl_2 rs i
        have : 300 < sizeLine := by decide
        omega
      have su := ths_succ er
      cases w3 : r.2.2 with
      | none =>
        rw [w3] at su sr'
        exact ⟨rfl, yes_b (if_t ⟨_, rfl, ra, _, 2, .non, rfl, rfl, sr', rfl, rfl, .inr ⟨false, rfl, _, hD, by rw [List.length_map]; exact lt, same_put nD2 sc, by rw [upd_same, su, List.map_append]; rfl⟩⟩)⟩
      | some z =>
        rw [w3] at su sr'
        exact ⟨rfl, yes_b (if_t ⟨_, rfl, ra, _, 2, .int z, rfl, rfl, sr', rfl, rfl, .inr ⟨true, rfl, _, hD, by rw [List.length_map]; exact lt, same_put nD2 sc, by rw [upd_same, su, List.map_append]; rfl⟩⟩)⟩
    rintro A2 ⟨sa2, hD2⟩
    rw [lx, List.take_length] at hD2
    refine ⟨D2, ths rs, .non, best (ths rs), rfl, .inr ⟨rfl, rfl⟩, t2.ext sa2, hD2, lo3, by unfold ths; rw [List.length_map]; omega, fun c3 G3 g3 _ z3 kp3 => ?_⟩
    have E23 : ExtN X2 G3 := (ExtN.of sa2).trans g3.ext
    have hq3' := E23 _ _ hq2 (fun _ z => nomatch z)
    refine ⟨q0, _, .ref c3, rfl, rfl, hq3', by show 2 < sizeLine; decide, ?_⟩
    have k3 := fun zs => kp3 q0 _ zs ⟨_, sa2 _ _ hq2, fun _ z => nomatch z⟩ hq3'
    have t3 : Tabs (TT PT) (upd G3 q0 (.lst ([.ref c1, .ref c2] ++ [.ref c3]))) := tabs_kp (p := q0) (fun b o hb e => by rw [upd_ne hb]; exact e) hq3' (fun _ z => nomatch z) (fun _ z => nomatch z) g3.tabs
    have EX3 : ExtN G2 (upd G3 q0 (.lst ([.ref c1, .ref c2] ++ [.ref c3]))) := ext_new ((ExtN.of sX2).trans E23) nq0
    obtain ⟨X3, eX3⟩ : ∃ X3, upd G3 q0 (.lst ([.ref c1, .ref c2] ++ [.ref c3])) = X3 := ⟨_, rfl⟩
    have hq3 : X3 q0 = some (.lst ([.ref c1, .ref c2] ++ [.ref c3])) := by
      rw [← eX3]
      exact upd_same
    rw [eX3] at t3 EX3
    refine nx_at eX3 ?_
    have hx3 := EX3 _ _ (E2 _ _ hx (fun _ z => nomatch z)) (fun _ z => nomatch z)
    have da3 := dpAll_ext (E2.trans EX3) da
    refine ⟨_, rfl, .inl ⟨rfl, _, SqL.of hq3⟩, _, rfl, l, rfl, ⟨_, SqL.of hx3⟩, fun D3 nD3 => ?_⟩
    refine walked_w (walk_list (K := K) (a := l) (xs := xs)) (fun i Hc => Same X3 Hc ∧ Hc D3 = some (.lst ((wths (rs.take i)).map V.int))) ⟨same_new nD3, upd_same⟩ (fun i Hc _ h => SqL.of (h.1 _ _ hx3)) ?_ ?_
    · rintro i v Hc Hd hi ⟨sc, hD⟩ ⟨rfl, ey⟩
      obtain ⟨r, er, dv⟩ := dl_at da3 ey
      obtain ⟨ra, rfl, sr⟩ := dp_rd dv
      have sr' := sqT_same sc sr
      have lt : (wths (rs.take i)).length < sizeLine := by
        have := fl_3 rs i
        have : 300 < sizeLine := by decide
        omega
      have su := wths_succ er
      cases w3 : r.2.2 with
      | none =>
        rw [w3] at su sr'
        rw [List.append_nil] at su
        exact ⟨rfl, _, rfl, ra, _, 2, .non, rfl, rfl, sr', rfl, rfl, false, rfl, if_f ⟨sc, by rw [hD, su]⟩⟩
      | some z =>
        rw [w3] at su sr'
        exact ⟨rfl, _, rfl, ra, _, 2, .int z, rfl, rfl, sr', rfl, rfl, true, rfl, if_t ⟨_, rfl, ra, _, 2, .int z, rfl, rfl, sr', rfl, _, hD, by rw [List.length_map]; exact lt, same_put nD3 sc, by rw [upd_same, su, List.map_append]; rfl⟩⟩
    rintro A3 ⟨sa3, hD3⟩
    rw [lx, List.take_length] at hD3
    refine ⟨D3, wths rs, .non, best (wths rs), rfl, .inr ⟨rfl, rfl⟩, t3.ext sa3, hD3, lo4, Nat.le_trans (by have := fl_3 rs rs.length; rw [List.take_length] at this; exact this) (by omega), fun c4 G4 g4 _ z4 kp4 => ?_⟩
    have E34 : ExtN X3 G4 := (ExtN.of sa3).trans g4.ext
    have hq4' := E34 _ _ hq3 (fun _ z => nomatch z)
    refine ⟨q0, _, .ref c4, rfl, rfl, hq4', by show 3 < sizeLine; decide, ?_⟩
    have o4 := kp4 q0 _ ([.ref c1, .ref c2] ++ [.ref c3] ++ [.ref c4]) ⟨_, sa3 _ _ hq3, fun _ z => nomatch z⟩ hq4'
    have t4 : Tabs (TT PT) (upd G4 q0 (.lst ([.ref c1, .ref c2] ++ [.ref c3] ++ [.ref c4]))) := tabs_kp (p := q0) (fun b o hb e => by rw [upd_ne hb]; exact e) hq4' (fun _ z => nomatch z) (fun _ z => nomatch z) g4.tabs
    have EX4 : ExtN G2 (upd G4 q0 (.lst ([.ref c1, .ref c2] ++ [.ref c3] ++ [.ref c4]))) := ext_new (EX3.trans E34) nq0
    have o3 : ColO K CC (upd G4 q0 (.lst ([.ref c1, .ref c2] ++ [.ref c3] ++ [.ref c4]))) c3 (best (ths rs)) (ths rs) := by
      refine colO_ext (fun b o h n => ?_) (k3 ([.ref c1, .ref c2] ++ [.ref c3] ++ [.ref c4]))
      by_cases z : b = q0
      · rw [z, upd_same] at h ⊢
        exact h
      · rw [upd_ne z] at h ⊢
        refine E34 _ _ ?_ n
        rw [← eX3, upd_ne z]
        exact h
    obtain ⟨X4, eX4⟩ : ∃ X4, upd G4 q0 (.lst ([.ref c1, .ref c2] ++ [.ref c3] ++ [.ref c4])) = X4 := ⟨_, rfl⟩
    have hq4 : X4 q0 = some (.lst [.ref c1, .ref c2, .ref c3, .ref c4]) := by
      rw [← eX4]
      exact upd_same
    rw [eX4] at t4 EX4 o3 o4
    refine nx_at eX4 ?_
    have o14 := colO_ext EX4 o1
    have o24 := colO_ext EX4 o2
    have E4 : ExtN H X4 := E2.trans EX4
    have hx4 := E4 _ _ hx (fun _ z => nomatch z)
    have da4 := dpAll_ext E4 da
    have bl4 := blO_ext E4 bl
    obtain ⟨dx4, kd4, kvs4, hb4, _⟩ := id bl4
    have ypos : 0 < xs.length := by
      rw [lx]
      exact List.length_pos_iff.mpr ne
    obtain ⟨yv, ey⟩ : ∃ yv, xs[xs.length - 1]? = some yv := ⟨_, List.getElem?_eq_getElem (by omega)⟩
    have ay : atI xs (-1) = some yv := by
      unfold atI
      rw [ixN_last ypos]
      exact ey
    obtain ⟨r, er, dr⟩ := dl_at da4 ey
    obtain ⟨ra, rfl, sr⟩ := dp_rd dr
    refine ⟨_, rfl, b, dx4, _, rfl, hb4, rfl, _, rfl, _, rfl, 1, rfl, l, xs, _, _, rfl, rfl, SqL.of hx4, ay, ra, _, 0, .int r.1, rfl, rfl, sr, rfl, _, rfl, 1, rfl, l, xs, _, _, rfl, rfl, SqL.of hx4, ay, ra, _, 0, .int r.1, rfl, rfl, sr, rfl, _, 1, rfl, rfl, b, T1, wt, m, r.1, r.1 + 1, rfl, bl4, few, fun p9 xs9 H5 s5 _ _ _ => ?_⟩
    have bl5 := blO_same s5 bl4
    obtain ⟨dx5, kd5, kvs5, hb5, _⟩ := id bl5
    refine ⟨_, rfl, b, dx5, _, rfl, hb5, rfl, _, rfl, b, T1, wt, m, rs, rfl, bl5, fk, by omega, ⟨lo1, lo2, lo3, lo4⟩, t4.ext s5, fun t cs H6 g6 ht6 cols6 => ?_⟩
    have EX46 : ExtN X4 H6 := (ExtN.of s5).trans g6.ext
    refine ⟨_, rfl, .ref t, .ty "tuple", .type "tuple", .type "tuple", true, rfl, .ty _, .base (.tup ht6), kit_ty (by decide +kernel), true, rfl, if_f ?_⟩
    have due6 : Due4 K CC H6 rs c1 c2 c3 c4 := due_ext EX46 ⟨o14, o24, o3, o4⟩
    have hq6 := EX46 _ _ hq4 (fun _ z => nomatch z)
    refine ⟨_, rfl, t, cs, rfl, .inr (SqT.of ht6), fun u nu => ?_⟩
    have s7 := same_new (o := .lst cs) nu
    refine ⟨_, rfl, ⟨u, q0, cs, _, rfl, rfl, upd_same, s7 _ _ hq6, cols_prs (cols_ext (.of s7) cols6) (due_ext (.of s7) due6)⟩, fun H8 e8 => ⟨false, rfl, if_f ?_⟩⟩
    have s68 : Same H6 H8 := s7.trans e8
    have ht8 := s68 _ _ ht6
    have cols8 := cols_ext (.of s68) cols6
    obtain ⟨lc, cat⟩ := cols_at cols8
    -- what was looked at
    refine ⟨_, rfl, t, rfl, ⟨_, SqT.of ht8⟩, fun D nD => ?_⟩
    refine walked_w (walk_tup (K := K) (a := t) (xs := cs)) (fun i Hc => Same H8 Hc ∧ Hc D = some (.lst ((List.replicate i (0 : Int)).map V.int))) ⟨same_new nD, upd_same⟩ (fun i Hc _ h => SqT.of (h.1 _ _ ht8)) ?_ ?_
    · rintro i v Hc Hd hi ⟨sc, hD⟩ ⟨rfl, ey⟩
      obtain ⟨e, yy, xx, rfl, dx, g, he, _⟩ := cat i _ ey
      refine ⟨rfl, yes_b (if_t ⟨_, rfl, e, dx, _, rfl, sc _ _ he, rfl, e, dx, g, yy, xx, 0, rfl, sc _ _ he, _, hD, ?_, same_put nD sc, ?_⟩)⟩
      · rw [List.length_map, List.length_replicate]
        exact small1000 (by omega)
      · rw [upd_same, List.replicate_succ', List.map_append]
        rfl
    rintro H9 ⟨s9, hD9⟩
    rw [lc] at hD9
    refine ⟨by show 4 ≤ sizeLine; decide, fun q5 nq5 => ?_⟩
    have s10 := same_new (o := .lst [.int 0, .int 0, .int 0, .int 0]) nq5
    refine ⟨.list [.int 0, .int 0, .int 0, .int 0], .list [.int 0, .int 0, .int 0, .int 0], .lst (SqL.of (s10 _ _ hD9)) (.cons (.int _) (.cons (.int _) (.cons (.int _) (.cons (.int _) .nil)))), .lst (SqL.of upd_same) (.cons (.int _) (.cons (.int _) (.cons (.int _) (.cons (.int _) .nil)))), by decide +kernel, by decide +kernel, false, by rfl, if_f ?_⟩
    have s610 := s68.trans (s9.trans s10)
    have ht10 := s610 _ _ ht6
    obtain ⟨e1, e2, e3, e4, y1, y2, y3, y4, ecs, z1', _⟩ := cols_ext (.of s610) cols6
    rw [ecs] at ht10
    obtain ⟨dxe, ge, hge, _⟩ := id z1'
    refine ⟨_, rfl, t, _, 0, .ref e1, rfl, rfl, SqT.of ht10, rfl, e1, dxe, _, rfl, hge, rfl, e1, y1, tms rs, rfl, colZ_o z1', lo1, by unfold tms; rw [List.length_map]; omega, fun u2 Hk sk nu2 hu2 => ?_⟩
    refine ⟨_, rfl, .inl ⟨rfl, _, SqL.of hu2⟩, u2, _, .non, rfl, rfl, hu2, by unfold tms; rw [List.length_map, List.length_map]; exact small1000 (by omega), ?_⟩
    have sk2 := same_put (o := .lst ((tms rs).map V.int ++ [.non])) nu2 sk
    have s6z := s610.trans sk2
    obtain ⟨Hz, ez⟩ : ∃ Hz, upd Hk u2 (.lst ((tms rs).map V.int ++ [.non])) = Hz := ⟨_, rfl⟩
    rw [ez] at s6z
    refine nx_at ez ?_
    have G6 : Grow (TT PT) H H6 := ((⟨E4, t4⟩ : Grow (TT PT) H X4).same s5).trans g6
    have Gz := G6.same s6z
    have blz := blO_ext Gz.ext bl
    obtain ⟨dxz, kdz, kvsz, hbz, _⟩ := id blz
    refine ⟨_, rfl, b, dxz, _, rfl, hbz, rfl, _, rfl, rfl, b, T1, wt, m, rs, rfl, blz, fk, by omega, ⟨lo1, lo2, lo3, lo4⟩, Gz.tabs, fun t2 cs2 Hy gy hty colsy => ?_⟩
    refine ⟨t2, cs2, rfl, .inr (SqT.of hty), fun u3 nu3 => ?_⟩
    have s11 := same_new (o := .lst cs2) nu3
    have Ezy : ExtN H6 Hy := (ExtN.of s6z).trans gy.ext
    have duey := due_ext (Ezy.trans (.of s11)) due6
    refine ⟨_, rfl, ⟨u3, q0, cs2, _, rfl, rfl, upd_same, s11 _ _ (Ezy _ _ hq6 (fun _ z => nomatch z)), cols_prs (cols_ext (.of s11) colsy) duey⟩, fun H11 e11 => q H11 ?_⟩
    exact (Gz.trans gy).same (s11.trans e11)
end
end Tg

set_option maxHeartbeats 2000000
namespace Tg
open PySem PySem.Spec PyProof.Rows L2 LamX
/-! ### blocks made, each way -/
section
variable (P : Program) (w : World) (K : PySem.W.Frag) (mg : Str → Option Value) (base : Heap)
def BMk (k : Nat) (C : Addr) : Prop := ∃ f fd ds, FnOk P w K mg base CX0 k f fd ["self", "rows", "weight"] (spBI K C) ∧ mg "Block" = some (.ref C) ∧ Mk K C f ∧ Vals [.non] ds ∧ Binds K fd ["self", "rows", "weight"] ds ∧
  KBn K fd ["self", "rows", "weight"] 1 ["weight", "rows"] (fun us ws => us ++ prm [1, 0] ws) (fun vs zs => vs ++ prm [1, 0] zs) ∧ KBn K fd ["self", "rows", "weight"] 1 ["rows", "weight"] (fun us ws => us ++ prm [0, 1] ws) (fun vs zs => vs ++ prm [0, 1] zs) ∧
  KBn K fd ["self", "rows", "weight"] 2 ["weight"] (fun us ws => us ++ prm [0] ws) (fun vs zs => vs ++ prm [0] zs)
end
section
variable {X : Cx} {k : Nat} {C : Addr} {e : Expr} {es : List Expr} {t tk : TA} {p pos : Pos} {kws : List Keyword}
theorem pe_b0 (c : BMk X.prog X.w X.K X.mg X.base k C) (hr : Room (k + 1) X.A) (gl : Gl X "Block") (ha : PA X (e :: es) t)
    (he : starEach (e :: es) X.env = (false, eval e X.env) :: starEach es X.env := by rfl) (plain_ : (backTo pos (starEach es X.env)).any (·.1) = false := by rfl) : PE X (.Call (.Name "Block" p) (e :: es) [] pos) (tMake C (spBI X.K C) [.non] E0 t) := by
  obtain ⟨f, fd, ds, F, hm, M, hv, hb, _⟩ := c
  exact pe_make M F hr gl hm hb hv pass0 ha (by decide) he plain_
theorem pe_b1 (c : BMk X.prog X.w X.K X.mg X.base k C) (hr : Room (k + 1) X.A) (gl : Gl X "Block") (hkw : PK X kws tk) (hall : (backToKw pos (keywordEach kws X.env)).all (·.1.isSome) = true := by rfl)
    (hks : (backToKw pos (keywordEach kws X.env)).filterMap (·.1) = (["weight", "rows"] : List Str) := by rfl) (plain_ : ((backTo pos (starEach [] X.env)).any (·.1) || (backToKw pos (keywordEach kws X.env)).any (·.1.isNone)) = false := by rfl) :
    PE X (.Call (.Name "Block" p) [] kws pos) (tMakeK C 0 2 (spBI X.K C) (fun vs zs => vs ++ prm [1, 0] zs) E0 tNil tk) := by
  obtain ⟨f, fd, ds, F, hm, M, _, _, b1, _⟩ := c
  exact pe_makeK0 M F hr gl hm b1 pass0 hkw hall hks (by decide) plain_
theorem pe_b2 (c : BMk X.prog X.w X.K X.mg X.base k C) (hr : Room (k + 1) X.A) (gl : Gl X "Block") (hkw : PK X kws tk) (hall : (backToKw pos (keywordEach kws X.env)).all (·.1.isSome) = true := by rfl)
    (hks : (backToKw pos (keywordEach kws X.env)).filterMap (·.1) = (["rows", "weight"] : List Str) := by rfl) (plain_ : ((backTo pos (starEach [] X.env)).any (·.1) || (backToKw pos (keywordEach kws X.env)).any (·.1.isNone)) = false := by rfl) :
    PE X (.Call (.Name "Block" p) [] kws pos) (tMakeK C 0 2 (spBI X.K C) (fun vs zs => vs ++ prm [0, 1] zs) E0 tNil tk) := by
  obtain ⟨f, fd, ds, F, hm, M, _, _, _, b2, _⟩ := c
  exact pe_makeK0 M F hr gl hm b2 pass0 hkw hall hks (by decide) plain_
theorem pe_b3 (c : BMk X.prog X.w X.K X.mg X.base k C) (hr : Room (k + 1) X.A) (gl : Gl X "Block") (ha : PA X (e :: es) t) (hkw : PK X kws tk) (hall : (backToKw pos (keywordEach kws X.env)).all (·.1.isSome) = true := by rfl)
    (hks : (backToKw pos (keywordEach kws X.env)).filterMap (·.1) = (["weight"] : List Str) := by rfl) (he : starEach (e :: es) X.env = (false, eval e X.env) :: starEach es X.env := by rfl)
    (plain_ : ((backTo pos (starEach (e :: es) X.env)).any (·.1) || (backToKw pos (keywordEach kws X.env)).any (·.1.isNone)) = false := by rfl) :
    PE X (.Call (.Name "Block" p) (e :: es) kws pos) (tMakeK C 1 1 (spBI X.K C) (fun vs zs => vs ++ prm [0] zs) E0 t tk) := by
  obtain ⟨f, fd, ds, F, hm, M, _, _, _, _, b3⟩ := c
  exact pe_makeK M F hr gl hm b3 pass0 ha hkw hall hks (by decide) he plain_
end
/-- what is asked of the class Block -/
structure BlC (P : Program) (w : World) (K : PySem.W.Frag) (mg : Str → Option Value) (base : Heap) (C fE : Addr) (fdE : FuncData) (j : Nat) : Prop where
  FE : FnOk P w K mg base CX0 j fE fdE ["self", "other"] (spEqB (EqBl K C))
  atE : PySem.W.findIn K (.ref C) "__eq__" = some (some (.ref fE))
  fnE : PySem.W.isFn K (.ref fE) = true
  hbE : Binds K fdE ["self", "other"] []
  NE : NeC K C fE
  nfo : PySem.W.notFirst K C (.ref C) = true
  nfd : PySem.W.notFirst K C (.type "dict") = true
  kd : PySem.W.kitOne K (.type "dict") (.ref C) = some false
/-- a making that was asked for -/
theorem made {K : PySem.W.Frag} {C : Addr} {H : Hp} {d : Addr} {T : Tb} {v : V} {wt : Int} {vs : List V} {R : VK} {E : XK} {x dx : Addr} (nx : H x = none) (nd : H dx = none) (ne : dx ≠ x) (ev : vs = [.ref x, .ref d, v]) (tb : TbO K H d T) (g : GoodT T) (hw : (v = .non ∧ wt = (tot T : Nat)) ∨ v = .int wt)
    (q : ∀ T' H', Same H H' → Srtd T' T → BlN K C H H' x T' wt → R .non H') : spBI K C vs (upd (upd H dx (.own x)) x (.ins C dx [])) R E := by
  subst ev
  have s1 : Same H (upd (upd H dx (.own x)) x (.ins C dx [])) := fun c o e => by
    rw [upd_ne (ne_of_none e nx), upd_ne (ne_of_none e nd)]
    exact e
  obtain ⟨kvs, h1, h2⟩ := tb
  refine ⟨x, d, dx, T, v, wt, rfl, upd_same, ⟨kvs, s1 _ _ h1, dpK_same s1 h2⟩, g, hw, fun T' H' sr bn keep => q T' H' (fun c o e => keep c o (ne_of_none e nx) (s1 _ _ e)) sr ?_⟩
  obtain ⟨dx', kd, kvs', b1, b2, b3, b4⟩ := bn
  exact ⟨dx', kd, kvs', b1, b2, b3, s1.free b4⟩
end Tg

set_option maxHeartbeats 2000000
namespace Tg
open PySem PySem.Spec PyProof.Rows L2 LamX
/-! ### _law_right, the last rows -/
abbrev sRt : Stmt := topS 49
abbrev NRt : List Str := ["_law_draws_here", "_law_table_here", "_law_handed", "_law_a_place", "_law_many", "_law_a_weight", "_law_block", "_law_places", "_law_other_here", "_law_two"]
theorem scRt : FnScope NRt ["_law_draws_here"] (defScope sRt) := ⟨rfl, rfl, rfl, by decide +kernel, rfl, by decide +kernel, by decide +kernel⟩
theorem ext_kp {H0 H H' : Hp} {p : Addr} (e : ExtN H0 H) (n : H0 p = none) (k : Kp p H H') : ExtN H0 H' := fun c o h nt => k _ _ (ne_of_none h n) (e _ _ h nt)
theorem Dr.tabs {H H' : Hp} {p : Addr} {n : Nat} {T : List (Addr × Str)} (d : Dr H p n) (k : Kp p H H') (t : Tabs T H) : Tabs T H' := by
  obtain ⟨_, _, _, q, _⟩ := d
  exact tabs_kp k q (fun _ z => nomatch z) (fun _ z => nomatch z) t
theorem OthT.good {T : Tb} (h : OthT T) : GoodT T := ⟨h.nd, Nat.le_trans h.few (by decide), by
  have h1 := tot4 h.len
  have h2 := h.few
  omega⟩
theorem OkT.oth {m : Int} {T : Tb} (h : OkT m T) : OthT T := ⟨h.nd, h.few, h.len⟩
theorem ty_bl {K : PySem.W.Frag} {C : Addr} {H : Hp} {b : Addr} {T : Tb} {fs : List (Str × V)} (t : TBl K C) (TI : TInC K C) (h : BlF K C H b T fs) : TyX K H (.ref b) (.ref C) := by
  obtain ⟨dx, kd, kvs, h1, _⟩ := h
  exact .base (.ins h1 t.cl TI.cc TI.get TI.takes TI.obj)
section
variable {P : Program} {w : World} {K : PySem.W.Frag} {mg : Str → Option Value} {base : Heap} {f fE : Addr} {fd fdE : FuncData} {k j : Nat} {cdv : Value} {A : Around} {outer : List Env} {s : Shared} {Hs : Hp} {E : XK} {C PT : Addr}
def R14 (K : PySem.W.Frag) (C PT : Addr) : TS := fun D σ H => ∃ (H0 : Hp) (p d b : Addr) (n : Nat) (m wt : Int) (T T1 : Tb) (z2 z3 z4 z5 z7 z8 z9 : Option V), σ = [some (.ref p), some (.ref d), z2, z3, z4, z5, some (.ref b), z7, z8, z9] ∧ ExtN H0 H ∧ H0 p = none ∧ Dr H p n ∧ n < 800000 ∧ Tabs (TT PT) H ∧
  BlO K C H b T1 wt ∧ TbR K H d T ∧ OkT m T ∧ T1.Perm T ∧ ∀ H', Grow (TT PT) H0 H' → D.rt (.bl true) H'
theorem rt_14 (hr : Room k (A.deeper (envOfC "_law_right" (defScope sRt) s.heap.objs.size f cdv))) (T : TBl K C) (TI : TInC K C) (Z : BlC P w K mg base C fE fdE j) (jk : j + 2 ≤ k) (K_Block : BMk P w K mg base (k - 1) C) (k1 : 1 ≤ k)
    (L_other : Cal P w K mg base k "_law_other" ["_law_draws_here", "_law_table_here"] (spOt K)) (L_rows_right : Cal P w K mg base k "_law_rows_right" ["_law_draws_here", "_law_block", "_law_table_here"] (spRI9 K C)) :
    PSs (cxOf CX0 P w K mg base NRt "_law_right" (defScope sRt) f cdv A outer s Hs E).nox ((defBody sRt).drop 14) (R14 K C PT) := by
  have rJ := hr.mono (show j ≤ k by omega)
  have rJ1 := hr.mono (show j + 1 ≤ k by omega)
  have hu1 : (A.deeper (envOfC (Str.ofString "_law_right") (defScope sRt) s.heap.objs.size f cdv)).units + 65 < cLine := by have := hr.un; omega
  refine pss_by (pss_cons (ps_set (i := 8) scRt.nd rfl (.inl rfl) (pe_cal L_other (hr.mono (by omega)) (by rfl) (pa_cons (pv 0) (pa_cons (pv 1) pa_nil))))
      (pss_cons (ps_set (i := 9) scRt.nd rfl (.inl rfl) (pe_b2 K_Block (hr.mono (by omega)) (by rfl) (pk_cons (pv 8) (pk_cons (pe_fld (pv 6) rfl) pk_nil))))
      (pss_cons (ps_if (PW.pt (pw_or (pt_cmpR op_ne (pe_cmpR (op_eqB Z.FE Z.atE Z.fnE Z.hbE pass0 rJ) (pv 6) (pv 9) (nomark _)) (pe_cmpR (op_eqK hu1) (pv 8) (pv 1) (nomark _)) (nomark _)) (pw_or (pt_cmpR op_ne (pe_cmpR (op_neB Z.FE Z.NE Z.hbE pass0 rJ1) (pv 9) (pv 6) (nomark _)) (pe_cmpR (op_neK hu1) (pv 8) (pv 1) (nomark _)) (nomark _)) (pw_or1 (pt_cmpR (op_eqB Z.FE Z.atE Z.fnE Z.hbE pass0 rJ) (pv 6) (pv 1) (nomark _))))))
        (pss_one (ps_ret pe_bl))
        pss_nil)
      (pss_cons (ps_if (PW.pt (pw_or (pt_cmpR (op_eqB Z.FE Z.atE Z.fnE Z.hbE pass0 rJ) (pv 6) (pe_b3 K_Block (hr.mono (by omega)) (by rfl) (pa_cons (pv 1) pa_nil) (pk_cons (pe_op op_add (pe_fld (pv 6) rfl) pe_int) pk_nil)) (nomark _)) (pw_or1 (pt_cmpR (op_neB Z.FE Z.NE Z.hbE pass0 rJ1) (pv 6) (pe_b3 K_Block (hr.mono (by omega)) (by rfl) (pa_cons (pv 1) pa_nil) (pk_cons (pe_fld (pv 6) rfl) pk_nil)) (nomark _)))))
        (pss_one (ps_ret pe_bl))
        pss_nil)
      (pss_one (ps_ret (pe_cal L_rows_right (hr.mono (by omega)) (by rfl) (pa_cons (pv 0) (pa_cons (pv 6) (pa_cons (pv 1) pa_nil)))))))))) ?_
  rintro D σ H ⟨H0, p, d, b, n, m, wt, TT_, T1, z2, z3, z4, z5, z7, z8, z9, rfl, ext, fp, dr, hn, tabs, bl, tb, ok, pm, q⟩
  refine ⟨_, rfl, _, rfl, p, d, n, m, TT_, rfl, dr, by omega, tb, ok, fun t S H1 k1' d1 nt ts os => ?_⟩
  have ext1 := ext_kp ext fp k1'
  have tb1 := tb.kp dr k1'
  have bl1 := blO_kp dr k1' bl
  have tabs1 := dr.tabs k1' tabs
  obtain ⟨dxb, kdb, kvb, hb1, _⟩ := id bl1
  -- the other block
  refine ⟨_, rfl, _, rfl, b, C, dxb, _, .int wt, rfl, hb1, T.cl, T.nw, rfl, rfl, rfl, ?_⟩
  refine fun x dx nx ndx nex => made nx ndx nex rfl ts.o os.good (.inr rfl) fun T2 H2 s2 sr2 bn2 => ⟨rfl, ?_⟩
  have bl2 := blO_same s2 bl1
  have tb2 := tb1.same s2
  have ts2 := ts.same s2
  have bx2 := bn2.o
  obtain ⟨dx2, kd2, kv2, hb2, _⟩ := id bl2
  obtain ⟨dx2', kd2', kv2', hx2, _⟩ := id bx2
  obtain ⟨kvt, ht2, rt2⟩ := id ts2
  obtain ⟨kvd, hd2, rd2⟩ := id tb2
  have nd1 : (T1.map (·.1)).Nodup := (pm.map _).nodup_iff.mpr ok.nd
  have al12 : alB T1 T2 wt wt = eqvK (datL S) (datL TT_) := by
    unfold alB
    rw [decide_eq_true rfl, Bool.and_true, eqv_both pm sr2.1 ok.nd os.nd, eqv_sym ok.nd os.nd]
  have al21 : alB T2 T1 wt wt = eqvK (datL S) (datL TT_) := by
    unfold alB
    rw [decide_eq_true rfl, Bool.and_true, eqv_both sr2.1 pm os.nd ok.nd]
  refine ⟨_, rfl, _, rfl, b, dx2, _, .ref C, _, rfl, hb2, ty_bl T TI bx2, Z.nfo, .inl ⟨x, T1, T2, wt, wt, rfl, bl2, bx2, rfl⟩, fun H3 e3 => ?_⟩
  have s3 : Same H2 H3 := e3
  refine ⟨_, rfl, _, rfl, t, d, kvt, kvd, datL S, datL TT_, rfl, rfl, s3 _ _ ht2, s3 _ _ hd2, rp_dp (L2.Paired.mapP rt2 fun _ _ r => r.same s3), rp_dp (L2.Paired.mapP rd2 fun _ _ r => r.same s3), rfl, false, ?_, if_f ?_⟩
  · rw [al12]
    exact congrArg (fun x => V.bl (!x)) (decide_eq_true rfl)
  have bl3 := blO_same s3 bl2
  have bx3 := blO_same s3 bx2
  obtain ⟨dx3, kd3, kv3, hb3, _⟩ := id bl3
  obtain ⟨dx3', kd3', kv3', hx3, _⟩ := id bx3
  refine ⟨_, rfl, _, rfl, x, dx3', _, .ref C, _, rfl, hx3, ty_bl T TI bl3, Z.nfo, .inl ⟨b, T2, T1, wt, wt, rfl, bx3, bl3, rfl⟩, fun H4 e4 => ?_⟩
  have s4 : Same H3 H4 := e4
  have s24 := s3.trans s4
  refine ⟨_, rfl, _, rfl, t, d, kvt, kvd, datL S, datL TT_, rfl, rfl, s24 _ _ ht2, s24 _ _ hd2, rp_dp (L2.Paired.mapP rt2 fun _ _ r => r.same s24), rp_dp (L2.Paired.mapP rd2 fun _ _ r => r.same s24), rfl, false, ?_, if_f ?_⟩
  · rw [al21]
    exact congrArg (fun x => V.bl (!x)) (decide_eq_true rfl)
  have bl4 := blO_same s4 bl3
  obtain ⟨dx4, kd4, kv4, hb4, _⟩ := id bl4
  have hd4 := s24 _ _ hd2
  refine ⟨_, rfl, _, rfl, b, dx4, _, .type "dict", false, rfl, hb4, .base (.dK hd4), Z.nfd, .inr ⟨T1, wt, .type "dict", bl4, .base (.dK hd4), Z.kd, rfl⟩, fun H5 e5 => ⟨false, rfl, if_f ?_⟩⟩
  have s5 : Same H4 H5 := e5
  have s15 := s2.trans (s24.trans s5)
  have bl5 := blO_same s5 bl4
  have tb5 := tb1.same s15
  obtain ⟨dx5, kd5, kv5, hb5, _⟩ := id bl5
  -- a block of one more
  refine ⟨_, rfl, _, rfl, _, rfl, b, C, dx5, _, .int wt, rfl, hb5, T.cl, T.nw, rfl, _, _, rfl, rfl, rfl, rfl, ?_⟩
  refine fun y dy ny ndy ney => made ny ndy ney rfl tb5.o ok.oth.good (.inr rfl) fun T3 H6 s6 sr3 bn3 => ⟨rfl, ?_⟩
  have bl6 := blO_same s6 bl5
  obtain ⟨dx6, kd6, kv6, hb6, _⟩ := id bl6
  refine ⟨b, dx6, _, .ref C, _, rfl, hb6, ty_bl T TI bn3.o, Z.nfo, .inl ⟨y, T1, T3, wt, wt + 1, rfl, bl6, bn3.o, rfl⟩, fun H7 e7 => ⟨false, ?_, if_f ?_⟩⟩
  · unfold alB
    rw [decide_eq_false (fun z => by have := V.int.inj z; omega), Bool.and_false]
  have s7 : Same H6 H7 := e7
  have bl7 := blO_same s7 bl6
  have s17 := s15.trans (s6.trans s7)
  have tb7 := tb1.same s17
  obtain ⟨dx7, kd7, kv7, hb7, _⟩ := id bl7
  -- a block alike
  refine ⟨_, rfl, _, rfl, _, rfl, b, C, dx7, _, .int wt, rfl, hb7, T.cl, T.nw, rfl, rfl, rfl, ?_⟩
  refine fun u du nu ndu neu => made nu ndu neu rfl tb7.o ok.oth.good (.inr rfl) fun T4 H8 s8 sr4 bn4 => ⟨rfl, ?_⟩
  have bl8 := blO_same s8 bl7
  obtain ⟨dx8, kd8, kv8, hb8, _⟩ := id bl8
  have pm4 : T1.Perm T4 := pm.trans sr4.1.symm
  have nd4 : (T4.map (·.1)).Nodup := (sr4.1.map _).nodup_iff.mpr ok.nd
  refine ⟨b, dx8, _, .ref C, _, rfl, hb8, ty_bl T TI bn4.o, Z.nfo, .inl ⟨u, T1, T4, wt, wt, rfl, bl8, bn4.o, rfl⟩, fun H9 e9 => ⟨false, ?_, if_f ?_⟩⟩
  · unfold alB
    rw [eqv_self pm4 nd4, decide_eq_true rfl]
    rfl
  have s9 : Same H8 H9 := e9
  have s19 := s17.trans (s8.trans s9)
  have d9 := d1.same s19
  refine ⟨_, rfl, _, rfl, _, rfl, p, b, d, n + 3, m, wt, T1, TT_, rfl, d9, by omega, blO_same s9 bl8, tb1.same s19, ok, pm, fun Hz kz _ => q Hz ⟨ext_kp (ext1.trans (.of s19)) fp kz, d9.tabs kz (tabs1.ext s19)⟩⟩
end
end Tg

set_option maxHeartbeats 2000000
namespace Tg
open PySem PySem.Spec PyProof.Rows L2 LamX
/-! ### _law_right, the rows in the middle -/
theorem sorted_one : ∀ {xs ys : List Int}, xs.Perm ys → xs.Pairwise (· ≤ ·) → ys.Pairwise (· ≤ ·) → xs = ys
  | [], ys, p, _, _ => (List.nil_perm.mp p).symm
  | x :: xs, [], p, _, _ => absurd p.length_eq (by simp)
  | x :: xs, y :: ys, p, hx, hy => by
    have hx' := List.pairwise_cons.mp hx
    have hy' := List.pairwise_cons.mp hy
    have xy : x = y := by
      have h1 : y ≤ x := by
        rcases List.mem_cons.mp (p.mem_iff.mp List.mem_cons_self) with e | e
        · omega
        · exact hy'.1 x e
      have h2 : x ≤ y := by
        rcases List.mem_cons.mp (p.mem_iff.mpr List.mem_cons_self) with e | e
        · omega
        · exact hx'.1 y e
      omega
    subst xy
    rw [sorted_one ((List.perm_cons x).mp p) hx'.2 hy'.2]
theorem dpAll_int {K : PySem.W.Frag} {H : Hp} : ∀ ns : List Int, DpAll K H (ns.map V.int) (ns.map PyData.int)
  | [] => .nil
  | n :: ns => .cons (.int n) (dpAll_int ns)
theorem eqv_int : ∀ ns : List Int, PyData.eqvAll (ns.map PyData.int) (ns.map PyData.int) = true
  | [] => rfl
  | n :: ns => by
    show ((n == n) && PyData.eqvAll (ns.map PyData.int) (ns.map PyData.int)) = true
    rw [eqv_int ns, beq_self_eq_true]
    rfl
theorem least_one {ns ms : List Int} {a b : Int} (h : ∀ x, x ∈ ns ↔ x ∈ ms) (ha : Least ns a) (hb : Least ms b) : a = b := by
  have h1 := ha.2 b ((h b).mpr hb.1)
  have h2 := hb.2 a ((h a).mp ha.1)
  omega
theorem greatest_one {ns ms : List Int} {a b : Int} (h : ∀ x, x ∈ ns ↔ x ∈ ms) (ha : Greatest ns a) (hb : Greatest ms b) : a = b := by
  have h1 := ha.2 b ((h b).mpr hb.1)
  have h2 := hb.2 a ((h a).mp ha.1)
  omega
theorem mem_map_iff {α β : Type} {f : α → β} {xs ys : List α} (h : ∀ x, x ∈ xs ↔ x ∈ ys) (b : β) : b ∈ xs.map f ↔ b ∈ ys.map f := by
  rw [List.mem_map, List.mem_map]
  exact ⟨fun ⟨a, h1, h2⟩ => ⟨a, (h a).mp h1, h2⟩, fun ⟨a, h1, h2⟩ => ⟨a, (h a).mpr h1, h2⟩⟩
theorem ext_one {rs qs : List Rw} {d e : PyData} (p : rs.Perm qs) (h1 : IsExt rs d) (h2 : IsExt qs e) : d = e ∧ SeqAt.shaped d = true ∧ PyData.eqv d d = true := by
  have hm : ∀ r, r ∈ rs ↔ r ∈ qs := fun r => p.mem_iff
  rcases h1 with ⟨e1, rfl⟩ | ⟨a, b, c, g, n1, rfl, l1, l2, l3, l4⟩
  · rcases h2 with ⟨_, rfl⟩ | ⟨a, b, c, g, n2, _⟩
    · exact ⟨rfl, rfl, rfl⟩
    · subst e1
      exact absurd (List.nil_perm.mp p) n2
  · rcases h2 with ⟨e2, rfl⟩ | ⟨a', b', c', g', n2, rfl, m1, m2, m3, m4⟩
    · subst e2
      exact absurd (List.perm_nil.mp p) n1
    · rw [least_one (mem_map_iff hm) l1 m1, greatest_one (mem_map_iff hm) l2 m2, least_one (mem_map_iff hm) l3 m3, greatest_one (mem_map_iff hm) l4 m4]
      refine ⟨rfl, shaped_of rfl (by show 1 ≤ 64; decide), ?_⟩
      exact eqv_int [a', b', c', g']
end Tg

set_option maxHeartbeats 2000000
namespace Tg
open PySem PySem.Spec PyProof.Rows L2 LamX
/-- a block whose dict isn't d -/
def BlD (K : PySem.W.Frag) (C : Addr) (H : Hp) (b : Addr) (T : Tb) (wt : Int) (d : Addr) : Prop := ∃ dx kd kvs, H b = some (.ins C dx [("kept", .ref kd), ("weight", .int wt)]) ∧ H kd = some (.dK kvs) ∧ DpK K H kvs (datT T) ∧ kd ≠ d
theorem BlD.o {K : PySem.W.Frag} {C : Addr} {H : Hp} {b d : Addr} {T : Tb} {wt : Int} (h : BlD K C H b T wt d) : BlO K C H b T wt := let ⟨a, b, c, d, e, f, _⟩ := h; ⟨a, b, c, d, e, f⟩
theorem BlD.ext {K : PySem.W.Frag} {C : Addr} {H H' : Hp} {b d : Addr} {T : Tb} {wt : Int} (s : ExtN H H') (h : BlD K C H b T wt d) : BlD K C H' b T wt d := by
  obtain ⟨dx, kd, kvs, h1, h2, h3, h4⟩ := h
  exact ⟨dx, kd, kvs, s _ _ h1 (fun _ z => nomatch z), s _ _ h2 (fun _ z => nomatch z), dpK_lt (lt_ext s) h3, h4⟩
theorem BlD.same {K : PySem.W.Frag} {C : Addr} {H H' : Hp} {b d : Addr} {T : Tb} {wt : Int} (s : Same H H') (h : BlD K C H b T wt d) : BlD K C H' b T wt d := h.ext (.of s)
/-- it stands where d is locked -/
theorem BlD.lock {K : PySem.W.Frag} {C : Addr} {H : Hp} {b d : Addr} {T : Tb} {wt : Int} {od : Obj} {kvs : List (Key × V)} (hd : H d = some (.dK kvs)) (h : BlD K C H b T wt d) : BlO K C (upd H d (.frz od (.dK kvs))) b T wt := by
  obtain ⟨dx, kd, kv, h1, h2, h3, h4⟩ := h
  refine ⟨dx, kd, kv, ?_, ?_, dpK_lt (LT.put hd nlt_dK) h3⟩
  · rw [upd_ne (fun z => by rw [z, hd] at h1; cases h1)]
    exact h1
  · rw [upd_ne h4]
    exact h2
theorem ext_unlock {H H1 Hc : Hp} {d : Addr} {od : Obj} {kvs : List (Key × V)} (hd : H d = some (.dK kvs)) (e1 : upd H d (.frz od (.dK kvs)) = H1) (e : ExtN H1 Hc) : ExtN H (upd Hc d (.dK kvs)) := fun c o h n => by
  by_cases z : c = d
  · rw [z, hd] at h
    cases h
    rw [z, upd_same]
  · rw [upd_ne z]
    refine e _ _ ?_ n
    rw [← e1, upd_ne z]
    exact h
section
variable {P : Program} {w : World} {K : PySem.W.Frag} {mg : Str → Option Value} {base : Heap} {f fE fL : Addr} {fd fdE fdL : FuncData} {k j kl : Nat} {cdv : Value} {A : Around} {outer : List Env} {s : Shared} {Hs : Hp} {E : XK} {C PT : Addr}
def R9 (K : PySem.W.Frag) (C PT : Addr) : TS := fun D σ H => ∃ (H0 : Hp) (p d b : Addr) (n : Nat) (wt : Int) (aw : V) (T T1 : Tb) (z2 z3 z7 z8 z9 : Option V), σ = [some (.ref p), some (.ref d), z2, z3, some (.int (tot T : Nat)), some aw, some (.ref b), z7, z8, z9] ∧ ExtN H0 H ∧ H0 p = none ∧ Dr H p n ∧ n < 800000 ∧ Tabs (TT PT) H ∧
  BlD K C H b T1 wt d ∧ TbR K H d T ∧ OkT 40 T ∧ Srtd T1 T ∧ ((aw = .non ∧ wt = (tot T : Nat)) ∨ aw = .int wt) ∧ ∀ H', Grow (TT PT) H0 H' → D.rt (.bl true) H'
theorem rt_9 (hr : Room k (A.deeper (envOfC "_law_right" (defScope sRt) s.heap.objs.size f cdv))) (T : TBl K C) (TI : TInC K C) (Z : BlC P w K mg base C fE fdE j) (jk : j + 2 ≤ k) (K_Block : BMk P w K mg base (k - 1) C) (k1 : 1 ≤ k) (BL : BLen P w K mg base C fL fdL kl) (klk : kl + 1 ≤ k)
    (L_other : Cal P w K mg base k "_law_other" ["_law_draws_here", "_law_table_here"] (spOt K)) (L_rows_right : Cal P w K mg base k "_law_rows_right" ["_law_draws_here", "_law_block", "_law_table_here"] (spRI9 K C))
    (L_extents : Cal P w K mg base k "_law_extents" ["_law_table_here"] (spXt K)) (L_columns_right : Cal P w K mg base k "_law_columns_right" ["_law_block", "_law_a_place", "_law_a_rows"] (spCR9 K C PT))
    (M_places_0 : CalM P w K mg base k C "places" ["self"] (spBP K C)) (M_extents_0 : CalM P w K mg base k C "extents" ["self"] (spBX K C)) (m_len : mg "len" = none) (m_int : mg "int" = none) (m_sorted : mg "sorted" = none) :
    PSs (cxOf CX0 P w K mg base NRt "_law_right" (defScope sRt) f cdv A outer s Hs E).nox ((defBody sRt).drop 9) (R9 K C PT) := by
  have hu1 := hu_of hr
  have hu : (A.deeper (envOfC (Str.ofString "_law_right") (defScope sRt) s.heap.objs.size f cdv)).units + 64 < cLine := by have := hr.un; omega
  refine pss_by (pss_cons (ps_set (i := 7) scRt.nd rfl (.inl rfl) (pe_calM0 (pv 6) T.cl M_places_0 (hr.mono (by omega))))
      (pss_cons (ps_expr (pe_bm PySem.F.plainAttrs_list PySem.F.slot_list_append PySem.F.type_list_append mt_append (pv 7) (pa_cons pe_non pa_nil)))
      (pss_cons (ps_if (PW.pt (pw_or (pt_cmpR (op_neD hu) (pe_calM0 (pv 6) T.cl M_places_0 (hr.mono (by omega))) (pe_callB (cr_sortedKV rfl) (by rfl) m_sorted (by decide +kernel) (pa_cons (pe_bm0 PySem.F.plainAttrs_dict PySem.F.slot_dict_keys PySem.F.type_dict_keys mt_keysV (pv 1)) pa_nil)) (nomark _)) (pw_or (pt_cmpR op_ne (pe_callB (cr_lenO BL.FL BL.atL BL.fnL BL.hbL pass0 (hr.mono (by omega))) (by rfl) m_len (by decide +kernel) (pa_cons (pv 6) pa_nil)) (pv 4) (nomark _)) (pw_or1 (pt_cmpR (op_neD hu) (pe_calM0 (pv 6) T.cl M_extents_0 (hr.mono (by omega))) (pe_cal L_extents (hr.mono (by omega)) (by rfl) (pa_cons (pv 1) pa_nil)) (nomark _))))))
        (pss_one (ps_ret pe_bl))
        pss_nil)
      (pss_cons (ps_if (pt_cmpR op_ne (pe_fld (pv 6) rfl) (pe_ix ix_list (pe_lst (pa_cons (pv 5) (pa_cons (pv 4) pa_nil))) (pe_callTy call_int1 (by rfl) m_int (by decide +kernel) (pa_cons (pe_cmpR op_isN (pv 5) pe_non (nomark _)) pa_nil)) (fun _ _ => rfl)) (nomark _))
        (pss_one (ps_ret pe_bl))
        pss_nil)
      (pss_cons (ps_lock (ps_for PassesOwn.never rfl (pi_keys (pv 1)) (pg_name (i := 3) scRt.nd rfl (.inl rfl))
        (pss_one (ps_if (pt_not (pt_val (pe_cal L_columns_right (hr.mono (by omega)) (by rfl) (pa_cons (pv 6) (pa_cons (pv 3) (pa_cons (pe_dget hu1 (pv 1) (pv 3) (fun _ _ => rfl)) pa_nil))))))
          (pss_one (ps_ret pe_bl))
          pss_nil))))
      (rt_14 (PT := PT) hr T TI Z jk K_Block k1 L_other L_rows_right)))))) ?_
  rintro D σ H ⟨H0, p, d, b, n, wt, aw, TT_, T1, z2, z3, z7, z8, z9, rfl, ext, fp, dr, hn, tabs, bl, tb, ok, sr, haw, q⟩
  obtain ⟨pm, up⟩ := sr
  have few1 : tot T1 ≤ 5000 := by
    have h1 := tot_perm pm
    have h2 := ok.oth.good.tot
    omega
  have l1 : T1.length ≤ 4 := by
    rw [pm.length_eq]
    exact ok.few
  obtain ⟨dx0, kd0, kv0, hb0, _⟩ := id bl
  refine ⟨_, rfl, b, dx0, _, rfl, hb0, rfl, b, T1, wt, rfl, bl.o, fun p9 H1 s1 np9 hp9 => ?_⟩
  refine ⟨_, rfl, .inl ⟨rfl, _, SqL.of hp9⟩, p9, _, .non, rfl, rfl, hp9, by rw [List.length_map, List.length_map]; exact small1000 (by omega), ?_⟩
  have s2 : Same H (upd H1 p9 (.lst ((T1.map (·.1)).map V.int ++ [.non]))) := same_put np9 s1
  obtain ⟨H2, e2⟩ : ∃ H2, upd H1 p9 (.lst ((T1.map (·.1)).map V.int ++ [.non])) = H2 := ⟨_, rfl⟩
  rw [e2] at s2
  refine nx_at e2 ?_
  have bl2 := bl.same s2
  obtain ⟨dx2, kd2, kv2, hb2, _⟩ := id bl2
  -- the places
  refine ⟨_, rfl, b, dx2, _, rfl, hb2, rfl, b, T1, wt, rfl, bl2.o, fun p8 H3 s3 np8 hp8 => ?_⟩
  have tb3 := (tb.same s2).same s3
  obtain ⟨kvd, hd3, rd3⟩ := id tb3
  refine ⟨_, rfl, .inr (.inr (.inl ⟨rfl, .inl ⟨_, hd3⟩⟩)), d, kvd, rfl, rfl, hd3, fun kv nkv => ?_⟩
  have s4 := same_new (o := kvO kv d) nkv
  refine ⟨kv, d, kvd, TT_.map (·.1), rfl, upd_same, s4 _ _ hd3, rp_keys rd3, fun ms ls pm2 up2 nls => ?_⟩
  have s5 := same_new (o := .lst (ms.map V.int)) nls
  have em : T1.map (·.1) = ms := sorted_one ((pm.map _).trans pm2.symm) up up2
  have s35 : Same H3 (upd (upd H3 kv (kvO kv d)) ls (.lst (ms.map V.int))) := s4.trans s5
  refine ⟨.list ((T1.map (·.1)).map .int), .list (ms.map .int), .lst (SqL.of (s35 _ _ hp8)) (dpAll_int _), .lst (SqL.of upd_same) (dpAll_int _), shaped_ints _, shaped_ints _, false, ?_, if_f ?_⟩
  · rw [em]
    exact congrArg (fun x => V.bl (!x)) (eqv_int ms)
  obtain ⟨H5, e5⟩ : ∃ H5, upd (upd H3 kv (kvO kv d)) ls (.lst (ms.map V.int)) = H5 := ⟨_, rfl⟩
  rw [e5] at s35 ⊢
  have s05 := s2.trans (s3.trans s35)
  have bl5 := bl.same s05
  obtain ⟨dx5, kd5, kv5, hb5, _⟩ := id bl5
  -- the length
  refine ⟨_, rfl, b, dx5, _, rfl, hb5, b, T1, _, rfl, bl5.o, few1, fun H6 s6 => ⟨_, rfl, Nat.lt_of_le_of_lt few1 (by decide), ?_⟩⟩
  refine ⟨_, rfl, rfl, false, ?_, if_f ?_⟩
  · rw [tot_perm pm]
    exact congrArg (fun x => V.bl (!x)) (decide_eq_true rfl)
  have s06 := s05.trans s6
  have bl6 := bl.same s06
  obtain ⟨dx6, kd6, kv6, hb6, _⟩ := id bl6
  refine ⟨_, rfl, b, dx6, _, rfl, hb6, rfl, b, T1, wt, rfl, bl6.o, few1, fun v7 d7 H7 s7 dv7 ie7 => ?_⟩
  refine ⟨_, rfl, d, TT_, rfl, tb.same (s06.trans s7), ok.nd, ok.oth.good.tot, fun v8 d8 H8 s8 dv8 ie8 => ?_⟩
  obtain ⟨e78, sh, self⟩ := ext_one (rows_perm pm) ie7 ie8
  subst e78
  refine ⟨d7, d7, dp_same s8 dv7, dv8, sh, sh, false, by rw [self]; rfl, if_f ?_⟩
  -- the weight
  have s08 := s06.trans (s7.trans s8)
  have bl8 := bl.same s08
  obtain ⟨dx8, kd8, kv8, hb8, _⟩ := id bl8
  refine ⟨_, rfl, b, C, dx8, _, .int wt, rfl, hb8, T.cl, T.nw, rfl, _, rfl, _, rfl, by show 2 ≤ sizeLine; decide, fun lw nlw => ?_⟩
  have s9 := same_new (o := .lst [aw, .int (tot TT_ : Nat)]) nlw
  have aty : atI [aw, V.int (tot TT_ : Nat)] (if decide (aw = V.non) = true then 1 else 0) = some (.int wt) := by
    rcases haw with ⟨rfl, e⟩ | rfl
    · rw [e]
      rfl
    · rfl
  refine ⟨_, rfl, rfl, .inr ⟨_, rfl, lw, _, _, .int wt, rfl, rfl, SqL.of upd_same, aty, rfl, false, congrArg (fun x => V.bl (!x)) (decide_eq_true rfl), if_f ?_⟩⟩
  have s09 := s08.trans s9
  obtain ⟨H9, e9⟩ : ∃ H9, upd H8 lw (.lst [aw, .int (tot TT_ : Nat)]) = H9 := ⟨_, rfl⟩
  rw [e9] at s09
  refine nx_at e9 ?_
  -- the columns
  have tb9 := tb.same s09
  have bl9 := bl.same s09
  have dr9 := dr.same s09
  obtain ⟨kvs, hd9, rd9⟩ := id tb9
  have tabs9 := tabs.ext s09
  refine ⟨d, _, hd9, trivial, fun od => ?_⟩
  have blk := bl9.lock (od := od) hd9
  have ltk : LT H9 (upd H9 d (.frz od (.dK kvs))) := LT.put hd9 nlt_dK
  have tabk : Tabs (TT PT) (upd H9 d (.frz od (.dK kvs))) := tabs_kp (p := d) (fun c o hc e => by rw [upd_ne hc]; exact e) hd9 (fun _ z => nomatch z) (fun _ z => nomatch z) tabs9
  refine ⟨_, rfl, d, od, rfl, .inl ⟨kvs, upd_same, ?_⟩⟩
  obtain ⟨Hk, ek⟩ : ∃ Hk, upd H9 d (.frz od (.dK kvs)) = Hk := ⟨_, rfl⟩
  have hdk : Hk d = some (.frz od (.dK kvs)) := by
    rw [← ek]
    exact upd_same
  rw [ek] at blk ltk tabk
  have nd1 : (T1.map (·.1)).Nodup := (pm.map _).nodup_iff.mpr ok.nd
  refine for_it walk_keys (fun i σ Hc => ∃ z3, σ = [some (.ref p), some (.ref d), z2, z3, some (.int (tot TT_ : Nat)), some aw, some (.ref b), some (.ref p9), z8, z9] ∧ Grow (TT PT) Hk Hc) ⟨z3, rfl, by rw [ek]; exact .of tabk (Same.refl _)⟩ (fun i σ Hc _ h => let ⟨_, _, g⟩ := h; g.ext _ _ hdk (fun _ z => nomatch z)) ?_ ?_
  · rintro i x σ Hc Hd hi ⟨y3, rfl, g⟩ ⟨rfl, kk, v, ekk, rfl⟩
    obtain ⟨m, rs, eT, rfl, _⟩ := rp_at rd9 ekk
    obtain ⟨a, e3, ld⟩ := rp_val rd9 (key_find ok.nd eT)
    have mem := List.mem_of_getElem? eT
    have gd := DGet.f (k := .inl m) (g.ext _ _ hdk (fun _ z => nomatch z))
    rw [e3] at gd
    have ldk : LD K Hk a (rs.map rd) := by
      obtain ⟨xs, h1, h2⟩ := ld
      exact ⟨xs, ltk _ _ trivial h1, dpAll_lt ltk h2⟩
    refine ⟨_, rfl, _, rfl, _, rfl, _, rfl, d, _, rfl, gd, b, a, m, 40, wt, T1, rs, rfl, blO_ext g.ext blk, few1, find_key nd1 (pm.mem_iff.mpr mem), ld_ext g.ext ldk, ok.ne _ mem, ok.len _ mem, Int.le_refl _, ok.ok _ mem, g.tabs, fun Hn gn => ⟨true, rfl, if_f ⟨_, rfl, g.trans gn⟩⟩⟩
  · rintro σ Hc ⟨y3, rfl, g⟩
    have hdc := g.ext _ _ hdk (fun _ z => nomatch z)
    have eu := ext_unlock hd9 ek g.ext
    have tu : Tabs (TT PT) (upd Hc d (.dK kvs)) := tabs_kp (p := d) (fun c o hc e => by rw [upd_ne hc]; exact e) hdc (fun _ z => nomatch z) (fun _ z => nomatch z) g.tabs
    refine ⟨hdc, H0, p, d, b, n, 40, wt, TT_, T1, _, _, _, _, _, _, _, rfl, (ext.trans (.of s09)).trans eu, fp, ?_, hn, tu, blO_ext eu bl9.o, ⟨kvs, upd_same, L2.Paired.mapP rd9 fun _ _ r => r.lt (lt_ext eu)⟩, ok, pm, q⟩
    obtain ⟨a1, k1', b1, h1, h2⟩ := dr9
    exact ⟨a1, k1', b1, eu _ _ h1 (fun _ z => nomatch z), h2⟩
end
end Tg

set_option maxHeartbeats 2000000
namespace Tg
open PySem PySem.Spec PyProof.Rows L2 LamX
/-- a block whose dict is none of two -/
def Bl2 (K : PySem.W.Frag) (C : Addr) (H : Hp) (b : Addr) (T : Tb) (wt : Int) (d t : Addr) : Prop := ∃ dx kd kvs, H b = some (.ins C dx [("kept", .ref kd), ("weight", .int wt)]) ∧ H kd = some (.dK kvs) ∧ DpK K H kvs (datT T) ∧ kd ≠ d ∧ kd ≠ t
theorem Bl2.d {K : PySem.W.Frag} {C : Addr} {H : Hp} {b : Addr} {T : Tb} {wt : Int} {d t : Addr} (h : Bl2 K C H b T wt d t) : BlD K C H b T wt d := let ⟨a, b, c, d, e, f, g, _⟩ := h; ⟨a, b, c, d, e, f, g⟩
theorem Bl2.same {K : PySem.W.Frag} {C : Addr} {H H' : Hp} {b : Addr} {T : Tb} {wt : Int} {d t : Addr} (s : Same H H') (h : Bl2 K C H b T wt d t) : Bl2 K C H' b T wt d t := by
  obtain ⟨dx, kd, kvs, h1, h2, h3, h4⟩ := h
  exact ⟨dx, kd, kvs, s _ _ h1, s _ _ h2, dpK_same s h3, h4⟩
theorem Bl2.put {K : PySem.W.Frag} {C : Addr} {H : Hp} {b a : Addr} {T : Tb} {wt : Int} {d t : Addr} {ys zs : List V} (e : H a = some (.lst ys)) (h : Bl2 K C H b T wt d t) : Bl2 K C (upd H a (.lst zs)) b T wt d t := by
  obtain ⟨dx, kd, kvs, h1, h2, h3, h4⟩ := h
  refine ⟨dx, kd, kvs, ?_, ?_, dpKT_kt (KT.put e nfix_lst) h3, h4⟩
  · rw [upd_ne (fun z => by rw [z, e] at h1; cases h1)]
    exact h1
  · rw [upd_ne (fun z => by rw [z, e] at h2; cases h2)]
    exact h2
/-- it stands where t is locked, unlocked and emptied -/
theorem Bl2.setT {K : PySem.W.Frag} {C : Addr} {H : Hp} {b : Addr} {T : Tb} {wt : Int} {d t : Addr} {kvs : List (Key × V)} {o : HO} (ht : H t = some (.dK kvs)) (h : Bl2 K C H b T wt d t) : Bl2 K C (upd H t o) b T wt d t := by
  obtain ⟨dx, kd, kv, h1, h2, h3, h4, h5⟩ := h
  refine ⟨dx, kd, kv, ?_, ?_, dpK_lt (LT.put ht nlt_dK) h3, h4, h5⟩
  · rw [upd_ne (fun z => by rw [z, ht] at h1; cases h1)]
    exact h1
  · rw [upd_ne h5]
    exact h2
theorem upd_swap {H : Hp} {a b : Addr} {o u : HO} (n : a ≠ b) : upd (upd H a o) b u = upd (upd H b u) a o := by
  funext c
  by_cases z : c = b
  · rw [z, upd_same, upd_ne n.symm, upd_same]
  · rw [upd_ne z]
    by_cases y : c = a
    · rw [y, upd_same, upd_same]
    · rw [upd_ne y, upd_ne y, upd_ne z]
/-- the entries of the handed table: own lists -/
def OwnL (Hb H : Hp) (kvs : List (Key × V)) (N : Nat) : Prop := ∀ kv, kv ∈ kvs → ∃ a xs, kv.2 = .ref a ∧ Hb a = none ∧ H a = some (.lst xs) ∧ xs.length ≤ N
theorem valV_mem {kvs : List (Key × V)} {k : Key} {v : V} (h : (k, v) ∈ kvs) : ∃ v', valV kvs k = some v' ∧ (k, v') ∈ kvs := by
  unfold valV
  cases e : kvs.find? fun kv => decide (kv.1 = k) with
  | none =>
    have := List.find?_eq_none.mp e _ h
    simp at this
  | some q =>
    have h1 := List.mem_of_find?_eq_some e
    have h2 : q.1 = k := of_decide_eq_true (List.find?_some (p := fun kv : Key × V => decide (kv.1 = k)) e)
    exact ⟨q.2, rfl, by rw [← h2]; exact h1⟩
section
variable {P : Program} {w : World} {K : PySem.W.Frag} {mg : Str → Option Value} {base : Heap} {f fE fL : Addr} {fd fdE fdL : FuncData} {k j kl : Nat} {cdv : Value} {A : Around} {outer : List Env} {s : Shared} {Hs : Hp} {E : XK} {C PT : Addr}
def R7 (K : PySem.W.Frag) (C PT : Addr) : TS := fun D σ H => ∃ (H0 Hb : Hp) (p d t b : Addr) (n0 n : Nat) (wt : Int) (aw : V) (T T1 : Tb) (kvs' : List (Key × V)) (z3 : Option V), σ = [some (.ref p), some (.ref d), some (.ref t), z3, some (.int (tot T : Nat)), some aw, some (.ref b), none, none, none] ∧ ExtN H0 Hb ∧ H0 p = none ∧ Dr Hb p n0 ∧ Kp p Hb H ∧ Dr H p n ∧ n < 800000 ∧ Tabs (TT PT) Hb ∧
  Bl2 K C H b T1 wt d t ∧ TbR K Hb d T ∧ OkT 40 T ∧ Srtd T1 T ∧ ((aw = .non ∧ wt = (tot T : Nat)) ∨ aw = .int wt) ∧ Hb t = none ∧ H t = some (.dK kvs') ∧ OwnL Hb H kvs' 240 ∧ kvs'.length ≤ 4 ∧ ∀ H', Grow (TT PT) H0 H' → D.rt (.bl true) H'
theorem rt_7 (hr : Room k (A.deeper (envOfC "_law_right" (defScope sRt) s.heap.objs.size f cdv))) (T : TBl K C) (TI : TInC K C) (Z : BlC P w K mg base C fE fdE j) (jk : j + 2 ≤ k) (K_Block : BMk P w K mg base (k - 1) C) (k1 : 1 ≤ k) (BL : BLen P w K mg base C fL fdL kl) (klk : kl + 1 ≤ k)
    (L_other : Cal P w K mg base k "_law_other" ["_law_draws_here", "_law_table_here"] (spOt K)) (L_rows_right : Cal P w K mg base k "_law_rows_right" ["_law_draws_here", "_law_block", "_law_table_here"] (spRI9 K C))
    (L_extents : Cal P w K mg base k "_law_extents" ["_law_table_here"] (spXt K)) (L_columns_right : Cal P w K mg base k "_law_columns_right" ["_law_block", "_law_a_place", "_law_a_rows"] (spCR9 K C PT))
    (M_places_0 : CalM P w K mg base k C "places" ["self"] (spBP K C)) (M_extents_0 : CalM P w K mg base k C "extents" ["self"] (spBX K C)) (m_len : mg "len" = none) (m_int : mg "int" = none) (m_sorted : mg "sorted" = none) :
    PSs (cxOf CX0 P w K mg base NRt "_law_right" (defScope sRt) f cdv A outer s Hs E).nox ((defBody sRt).drop 7) (R7 K C PT) := by
  have hu1 := hu_of hr
  refine pss_by (pss_cons (ps_lock (ps_for PassesOwn.never rfl (pi_keys (pv 2)) (pg_name (i := 3) scRt.nd rfl (.inl rfl))
        (pss_one (ps_expr (pe_bm PySem.F.plainAttrs_list PySem.F.slot_list_append PySem.F.type_list_append mt_append (pe_dget hu1 (pv 2) (pv 3) (fun _ _ => rfl)) (pa_cons (pe_tup (pa_cons (pe_op op_pow pe_int pe_int) (pa_cons pe_int (pa_cons pe_int pa_nil)))) pa_nil))))))
      (pss_cons (ps_expr (pe_dclear (pv 2)))
      (rt_9 (PT := PT) hr T TI Z jk K_Block k1 BL klk L_other L_rows_right L_extents L_columns_right M_places_0 M_extents_0 m_len m_int m_sorted))) ?_
  rintro D σ H ⟨H0, Hb, p, d, t, b, n0, n, wt, aw, TT_, T1, kvs', z3, rfl, ext, fp, drb, kp, dr, hn, tabs, bl, tb, ok, sr, haw, nbt, ht, own, l4, q⟩
  have pb : ∀ {a : Addr}, Hb a = none → a ≠ p := fun n z => by
    obtain ⟨_, _, _, y, _⟩ := drb
    rw [z, y] at n
    cases n
  have tp := pb nbt
  refine ⟨t, _, ht, trivial, fun od => ?_⟩
  refine ⟨_, rfl, t, od, rfl, .inl ⟨kvs', upd_same, ?_⟩⟩
  refine for_it walk_keys (fun i σ Hc => ∃ z3, σ = [some (.ref p), some (.ref d), some (.ref t), z3, some (.int (tot TT_ : Nat)), some aw, some (.ref b), none, none, none] ∧ Kp p Hb Hc ∧ Dr Hc p n ∧ Bl2 K C (upd Hc t (.dK kvs')) b T1 wt d t ∧ Hc t = some (.frz od (.dK kvs')) ∧ OwnL Hb Hc kvs' (240 + i)) ?_ (fun i σ Hc _ h => let ⟨_, _, _, _, _, h, _⟩ := h; h) ?_ ?_
  · refine ⟨z3, rfl, fun c o hc e => ?_, ?_, by rw [upd_upd]; exact bl.setT ht, upd_same, fun kv hk => ?_⟩
    · rw [upd_ne (ne_of_none e nbt)]
      exact kp _ _ hc e
    · obtain ⟨a1, k1', b1, h1, h2⟩ := dr
      exact ⟨a1, k1', b1, by rw [upd_ne tp.symm]; exact h1, h2⟩
    · obtain ⟨a, xs, e1, e2, e3, e4⟩ := own kv hk
      exact ⟨a, xs, e1, e2, by rw [upd_ne (fun z => by rw [z, ht] at e3; cases e3)]; exact e3, e4⟩
  · rintro i x σ Hc Hd hi ⟨y3, rfl, kc, dc, bc, htc, oc⟩ ⟨rfl, kk, v, ek, rfl⟩
    obtain ⟨v', ev, mem⟩ := valV_mem (List.mem_of_getElem? ek)
    obtain ⟨a, xs, rfl, na, ha, lx⟩ := oc _ mem
    have gd := DGet.f (k := kk) htc
    rw [ev] at gd
    refine ⟨_, rfl, _, rfl, t, _, rfl, gd, .inl ⟨rfl, _, SqL.of ha⟩, 10, 14, rfl, rfl, ⟨by decide, by decide, by decide⟩, by show 3 ≤ sizeLine; decide, fun tu ntu => ?_⟩
    have su := same_new (o := .tup [.int (10 ^ 14), .int 1, .int 1]) ntu
    have ha' := su _ _ ha
    have at_ : a ≠ t := fun z => by
      rw [z, htc] at ha
      cases ha
    have tut : tu ≠ t := fun z => by
      rw [z, htc] at ntu
      cases ntu
    have ap := pb na
    have il : i < 4 := by omega
    refine ⟨a, xs, .ref tu, rfl, rfl, ha', small1000 (by omega), _, rfl, fun c o hc e => ?_, ?_, ?_, ?_, fun kv hk => ?_⟩
    · rw [upd_ne (ne_of_none e na)]
      exact su _ _ (kc _ _ hc e)
    · obtain ⟨a1, k1', b1, h1, h2⟩ := dc
      exact ⟨a1, k1', b1, by rw [upd_ne ap.symm]; exact su _ _ h1, h2⟩
    · have nt2 : (upd Hd t (.dK kvs')) tu = none := (upd_ne tut).trans ntu
      have hb2 : (upd (upd Hd t (.dK kvs')) tu (.tup [.int (10 ^ 14), .int 1, .int 1])) a = some (.lst xs) := same_new nt2 _ _ ((upd_ne at_).trans ha)
      rw [upd_swap at_, upd_swap tut]
      exact (bc.same (same_new nt2)).put hb2
    · rw [upd_ne at_.symm]
      exact su _ _ htc
    · obtain ⟨a2, xs2, e1, e2, e3, e4⟩ := oc kv hk
      by_cases z : a2 = a
      · subst z
        rw [ha] at e3
        cases e3
        exact ⟨a2, _, e1, e2, upd_same, by rw [List.length_append]; show _ + 1 ≤ _; omega⟩
      · exact ⟨a2, xs2, e1, e2, by rw [upd_ne z]; exact su _ _ e3, by omega⟩
  · rintro σ Hc ⟨y3, rfl, kc, dc, bc, htc, oc⟩
    refine ⟨htc, ?_⟩
    have hu : (upd Hc t (.dK kvs')) t = some (.dK kvs') := upd_same
    refine ⟨_, rfl, .inr (.inr (.inl ⟨rfl, .inl ⟨_, hu⟩⟩)), t, kvs', rfl, rfl, hu, ?_⟩
    have bz := (bc.setT (o := .dK []) hu).d
    rw [upd_upd] at bz ⊢
    have kz : Kp p Hb (upd Hc t (.dK [])) := fun c o hc e => by
      rw [upd_ne (ne_of_none e nbt)]
      exact kc _ _ hc e
    refine ⟨H0, p, d, b, n, wt, aw, TT_, T1, _, _, _, _, _, rfl, ext_kp ext fp kz, fp, ?_, hn, drb.tabs kz tabs, bz, tb.kp drb kz, ok, sr, haw, q⟩
    obtain ⟨a1, k1', b1, h1, h2⟩ := dc
    exact ⟨a1, k1', b1, by rw [upd_ne tp.symm]; exact h1, h2⟩
end
end Tg

set_option maxHeartbeats 2000000
namespace Tg
open PySem PySem.Spec PyProof.Rows L2 LamX
theorem rp_in {K : PySem.W.Frag} {H : Hp} : ∀ {kvs : List (Key × V)} {T : Tb}, Paired (RP K H) kvs T → ∀ kv, kv ∈ kvs → ∃ q, q ∈ T ∧ RP K H kv q
  | _, _, .nil, _, no => nomatch no
  | _, _, .cons a t, kv, h => by
    rcases List.eq_or_mem_of_mem_cons h with rfl | h
    · exact ⟨_, List.mem_cons_self, a⟩
    · obtain ⟨q, h1, h2⟩ := rp_in t kv h
      exact ⟨q, List.mem_cons_of_mem _ h1, h2⟩
def lens (T : Tb) : List Int := T.map fun q => ((q.2.length : Nat) : Int)
theorem lens_sum : ∀ T : Tb, (lens T).sum = ((tot T : Nat) : Int)
  | [] => rfl
  | p :: T => by
    have ih := lens_sum T
    unfold lens tot at ih ⊢
    rw [List.map_cons, List.sum_cons, ih, List.map_cons, List.flatten_cons, List.length_append]
    omega
theorem lens_succ {T : Tb} {i : Nat} {m : Int} {rs : List Rw} (h : T[i]? = some (m, rs)) : lens (T.take (i + 1)) = lens (T.take i) ++ [((rs.length : Nat) : Int)] := by
  unfold lens
  rw [take_snoc h, List.map_append]
  rfl
theorem bl2_of {K : PySem.W.Frag} {C : Addr} {H0 H : Hp} {b d t : Addr} {T : Tb} {wt : Int} {o u : HO} (h : BlN K C H0 H b T wt) (hd : H0 d = some o) (ht : H0 t = some u) : Bl2 K C H b T wt d t := by
  obtain ⟨dx, kd, kvs, h1, h2, h3, h4⟩ := h
  refine ⟨dx, kd, kvs, h1, h2, h3, fun z => ?_, fun z => ?_⟩
  · rw [z, hd] at h4
    cases h4
  · rw [z, ht] at h4
    cases h4
section
variable {P : Program} {w : World} {K : PySem.W.Frag} {mg : Str → Option Value} {base : Heap} {f fE fL : Addr} {fd fdE fdL : FuncData} {k j kl : Nat} {C PT : Addr}
def spRt9 (K : PySem.W.Frag) (PT : Addr) : Sp := fun vs H Q _ => ∃ (H0 : Hp) (p : Addr) (n : Nat), vs = [.ref p] ∧ ExtN H0 H ∧ H0 p = none ∧ Dr H p n ∧ n < 100 ∧ Tabs (TT PT) H ∧ ∀ H', Grow (TT PT) H0 H' → Q (.bl true) H'
theorem ok_rt9 (F : Fun K "_law_right" "_law_right" sRt f fd) (T : TBl K C) (TI : TInC K C) (Z : BlC P w K mg base C fE fdE j) (jk : j + 2 ≤ k) (K_Block : BMk P w K mg base (k - 1) C) (k1 : 1 ≤ k) (BL : BLen P w K mg base C fL fdL kl) (klk : kl + 1 ≤ k)
    (L_next : Cal P w K mg base k "_law_next" ["_law_draws_here"] spNext) (L_table : Cal P w K mg base k "_law_table" ["_law_draws_here", "_law_most"] (spTb K))
    (L_other : Cal P w K mg base k "_law_other" ["_law_draws_here", "_law_table_here"] (spOt K)) (L_rows_right : Cal P w K mg base k "_law_rows_right" ["_law_draws_here", "_law_block", "_law_table_here"] (spRI9 K C))
    (L_extents : Cal P w K mg base k "_law_extents" ["_law_table_here"] (spXt K)) (L_columns_right : Cal P w K mg base k "_law_columns_right" ["_law_block", "_law_a_place", "_law_a_rows"] (spCR9 K C PT))
    (M_places_0 : CalM P w K mg base k C "places" ["self"] (spBP K C)) (M_extents_0 : CalM P w K mg base k C "extents" ["self"] (spBX K C)) (m_len : mg "len" = none) (m_int : mg "int" = none) (m_sorted : mg "sorted" = none) (m_list : mg "list" = none) (m_sum : mg "sum" = none) :
    FnOk P w K mg base CX0 (k + 1) f fd ["_law_draws_here"] (spRt9 K PT) := by
  refine F.ok scRt (fun vs H Q E h => ?_) (fun cdv A outer s H vs Q E hr h => ?_)
  · obtain ⟨H0, p, n, rfl, _⟩ := h
    rfl
  · obtain ⟨H0, p, n, rfl, ext, fp, dr, hn, tabs, q⟩ := h
    have hu1 := hu_of hr
    refine ⟨_, pss_cons (ps_set (i := 1) scRt.nd rfl (.inr rfl) (pe_cal L_table (hr.mono (by omega)) (by rfl) (pa_cons (pv 0) (pa_cons pe_int pa_nil))))
      (pss_cons (ps_set (i := 2) scRt.nd rfl (.inl rfl) pe_dnewK)
      (pss_cons (ps_lock (ps_for PassesOwn.never rfl (pi_keys (pv 1)) (pg_name (i := 3) scRt.nd rfl (.inl rfl))
        (pss_one (ps_dput hu1 (pv 2) (pv 3) (pe_callTy call_list_of (by rfl) m_list (by decide +kernel) (pa_cons (pe_dget hu1 (pv 1) (pv 3) (fun _ _ => rfl)) pa_nil)) rfl))))
      (pss_cons (ps_set (i := 4) scRt.nd rfl (.inl rfl) (pe_callB (cr_sum rfl) (by rfl) m_sum (by decide +kernel) (pa_cons (pe_lock (pe_lc (own := [("_law_a_place", 3)]) (g := (gName 3)) (tt := tYes) rfl scRt.nd (pi_keys (pv 1)) (blkOk_by (own := [("_law_a_place", 3)]) (N := NRt) (sc := defScope sRt) (by decide +kernel)) (fun _ _ _ _ _ => (pg_name (i := 3) scRt.nd rfl (.inl rfl))) (fun _ _ _ _ _ => pts_nil) (fun _ _ _ _ _ => (pe_callB (call_lenK (K := K)) (by rfl) m_len (by decide +kernel) (pa_cons (pe_dget hu1 (pv 1) (pv 3) (fun _ _ => rfl)) pa_nil))))) pa_nil)))
      (pss_cons (ps_set (i := 5) scRt.nd rfl (.inl rfl) (pe_ix ix_list (pe_lst (pa_cons pe_non (pa_cons (pv 4) (pa_cons (pe_op op_add (pv 4) (pe_op op_mod (pe_cal L_next (hr.mono (by omega)) (by rfl) (pa_cons (pv 0) pa_nil)) pe_int)) (pa_cons pe_int pa_nil))))) (pe_op op_mod (pe_cal L_next (hr.mono (by omega)) (by rfl) (pa_cons (pv 0) pa_nil)) pe_int) (fun _ _ => rfl)))
      (pss_cons (ps_set (i := 6) scRt.nd rfl (.inl rfl) (pe_b0 K_Block (hr.mono (by omega)) (by rfl) (pa_cons (pv 2) pa_nil)))
      (pss_cons (ps_if (pt_cmpR op_notN (pv 5) pe_non (nomark _))
        (pss_one (ps_set (i := 6) scRt.nd rfl (.inl rfl) (pe_b1 K_Block (hr.mono (by omega)) (by rfl) (pk_cons (pv 5) (pk_cons (pv 2) pk_nil)))))
        pss_nil)
      (rt_7 (PT := PT) hr T TI Z jk K_Block k1 BL klk L_other L_rows_right L_extents L_columns_right M_places_0 M_extents_0 m_len m_int m_sorted))))))), ?_⟩
    refine ⟨_, rfl, p, n, 40, rfl, dr, by omega, fun d TT_ H1 k1' d1 nd tb ok => ?_⟩
    obtain ⟨kvs, hd, rp⟩ := id tb
    intro t nt
    have big : 5000 < sizeLine := by decide
    have l4 := ok.few
    have lk : kvs.length = TT_.length := Paired.length rp
    have hd0 : (upd H1 t (.dK [])) d = some (.dK kvs) := (upd_ne (ne_of_none hd nt)).trans hd
    refine ⟨d, _, hd0, trivial, fun od => ?_⟩
    refine ⟨_, rfl, d, od, rfl, .inl ⟨kvs, upd_same, ?_⟩⟩
    refine for_it walk_keys (fun i σ Hc => ∃ (z3 : Option V), σ = [some (.ref p), some (.ref d), some (.ref t), z3, none, none, none, none, none, none] ∧ CpI K H1 d od kvs TT_ t i Hc) ⟨none, rfl, cp_first hd nt⟩ (fun i σ Hc _ h => let ⟨_, _, sc, _⟩ := h; sc _ _ upd_same) ?_ ?_
    · rintro i x σ Hc Hd hi ⟨z3, rfl, I⟩ ⟨rfl, kk, v, ek, rfl⟩
      obtain ⟨a, ys, kvs', g, ha, ht, len, st⟩ := cp_step hd rp ok.nd I ek
      refine ⟨_, rfl, _, rfl, d, _, rfl, g, a, ys, rfl, .inl (SqL.of ha), fun l nl => ?_⟩
      obtain ⟨ht', nx⟩ := st l nl
      exact ⟨_, rfl, _, rfl, t, _, rfl, .inl ⟨kvs', kk, ht', rfl, by omega, rfl⟩, ⟨_, rfl, nx⟩⟩
    · rintro σ Hc ⟨z3, rfl, I⟩
      obtain ⟨hdc, s2, kvs', ht, rp', nv, own⟩ := cp_last hd rp I
      refine ⟨hdc, ?_⟩
      obtain ⟨H2, e2⟩ : ∃ H2, upd Hc d (.dK kvs) = H2 := ⟨_, rfl⟩
      rw [e2] at s2 ht rp' own
      refine nx_at e2 ?_
      have hd2 := s2 _ _ hd
      -- how many
      refine ⟨d, _, hd2, trivial, fun od2 => ?_⟩
      refine ⟨_, rfl, d, od2, rfl, .inl ⟨kvs, upd_same, fun D nD => ?_⟩⟩
      obtain ⟨Hk, ek⟩ : ∃ Hk, upd H2 d (.frz od2 (.dK kvs)) = Hk := ⟨_, rfl⟩
      have hdk : Hk d = some (.frz od2 (.dK kvs)) := by
        rw [← ek]
        exact upd_same
      have ltk : LT H2 Hk := by
        rw [← ek]
        exact LT.put hd2 nlt_dK
      rw [ek] at nD ⊢
      refine walked_w walk_keys (fun i Hc => Same Hk Hc ∧ Hc D = some (.lst ((lens (TT_.take i)).map V.int))) ⟨same_new nD, upd_same⟩ (fun i Hc _ h => h.1 _ _ hdk) ?_ ?_
      · rintro i x Hc Hd hi ⟨sc, hD⟩ ⟨rfl, kk, v, ekk, rfl⟩
        obtain ⟨m, rs, eT, rfl, _⟩ := rp_at rp ekk
        obtain ⟨a, e3, ys, ha, dy⟩ := rp_val rp (key_find ok.nd eT)
        have g := DGet.f (k := .inl m) (sc _ _ hdk)
        rw [e3] at g
        have hac := sc _ _ (ltk a (.lst ys) trivial (s2 _ _ ha))
        refine ⟨rfl, yes_b (if_t ⟨_, rfl, _, rfl, d, _, rfl, g, a, ys, rfl, .inl (SqL.of hac), _, hD, ?_, same_put nD sc, ?_⟩)⟩
        · rw [List.length_map]
          unfold lens
          rw [List.length_map, List.length_take]
          exact small1000 (by omega)
        · rw [upd_same, lens_succ eT, List.map_append, dl_len dy]
          rfl
      rintro Hg ⟨sg, hD⟩
      rw [lk, List.take_length] at hD
      refine ⟨sg _ _ hdk, ?_⟩
      have s3 := same_unlock hd2 ek sg
      have Dd : D ≠ d := fun z => by
        rw [z, hdk] at nD
        cases nD
      have hD3 : (upd Hg d (.dK kvs)) D = some (.lst ((lens TT_).map V.int)) := (upd_ne Dd).trans hD
      refine ⟨D, _, rfl, SqL.of hD3, ?_⟩
      rw [lens_sum]
      obtain ⟨H3, e3⟩ : ∃ H3, upd Hg d (.dK kvs) = H3 := ⟨_, rfl⟩
      rw [e3] at s3 ⊢
      have s13 := s2.trans s3
      have d3 := d1.same s13
      -- the weight
      refine ⟨_, rfl, _, rfl, _, rfl, p, _, rfl, d3, by omega, fun v4 H4 k4 d4 _ _ => ?_⟩
      refine ⟨_, _, rfl, rfl, (by show (0 : Int) < 9; decide), _, _, rfl, rfl, by show 4 ≤ sizeLine; decide, fun l5 nl5 => ?_⟩
      have s5 := same_new (o := .lst [.non, .int (tot TT_ : Nat), .int ((tot TT_ : Nat) + v4 % 9), .int 0]) nl5
      have hl5 : (upd H4 l5 (.lst [.non, .int (tot TT_ : Nat), .int ((tot TT_ : Nat) + v4 % 9), .int 0])) l5 = some (.lst [.non, .int (tot TT_ : Nat), .int ((tot TT_ : Nat) + v4 % 9), .int 0]) := upd_same
      have lp : l5 ≠ p := d4.ne nl5
      have d5 := d4.same s5
      refine ⟨_, rfl, p, _, rfl, d5, by omega, fun v6 H6 k6 d6 _ _ => ?_⟩
      have hl6 := k6 _ _ lp hl5
      obtain ⟨aw, hawm, eaw⟩ := atV_mem (xs := [V.non, .int (tot TT_ : Nat), .int ((tot TT_ : Nat) + v4 % 9), .int 0]) (Int.emod_nonneg v6 (show (4 : Int) ≠ 0 by decide)) (Int.emod_lt_of_pos v6 (show (0 : Int) < 4 by decide))
      refine ⟨_, _, rfl, rfl, (by show (0 : Int) < 4; decide), l5, _, _, aw, rfl, rfl, SqL.of hl6, eaw, ?_⟩
      have tp : t ≠ p := d1.ne nt
      have k36 : Kp p H3 H6 := (k4.trans (.of s5)).trans k6
      have k16 : Kp p H1 H6 := (Kp.of s13).trans k36
      have ht3 := s3 _ _ ht
      have ht6 := k36 _ _ tp ht3
      have rp3 : Paired (RP K H3) kvs' TT_ := L2.Paired.mapP rp' fun _ _ r => r.same s3
      have rp6 : Paired (RP K H6) kvs' TT_ := L2.Paired.mapP rp3 fun _ _ r => ((r.kp d3 k4).same s5).kp d5 k6
      have tb6 : TbO K H6 t TT_ := ⟨kvs', ht6, rp_dp rp6⟩
      have hd6 : H6 d = some (.dK kvs) := k16 _ _ (fun z => by obtain ⟨_, _, _, y, _⟩ := d1; rw [← z, hd] at y; cases y) hd
      -- what the rest asks
      have rest : ∀ (b : Addr) (Hx Hz : Hp) (T1 : Tb) (wt : Int), Same H6 Hx → Same Hx Hz → Srtd T1 TT_ → BlN K C Hx Hz b T1 wt → ((aw = .non ∧ wt = (tot TT_ : Nat)) ∨ aw = .int wt) → R7 K C PT { nx := fun x H' => Q V.non H', rt := Q } [some (.ref p), some (.ref d), some (.ref t), z3, some (.int (tot TT_ : Nat)), some aw, some (.ref b), none, none, none] Hz := fun b Hx Hz T1 wt sx sz sr bn ha => by
        have s6z := sx.trans sz
        have lk' : kvs'.length = TT_.length := Paired.length rp'
        refine ⟨H0, H1, p, d, t, b, _, _, wt, aw, TT_, T1, kvs', z3, rfl, ext_kp ext fp k1', fp, d1, k16.trans (.of s6z), d6.same s6z, by omega, dr.tabs k1' tabs, bl2_of bn (sx _ _ hd6) (sx _ _ ht6), tb, ok, sr, ha, nt, s6z _ _ ht6, fun kv hk => ?_, by omega, q⟩
        obtain ⟨a, e1, e2', _⟩ := own kv hk
        obtain ⟨q0, h0, _, l, e3, xs, h1, h2⟩ := rp_in rp6 kv hk
        rw [e1] at e3
        injection e3 with e3
        subst e3
        exact ⟨a, xs, e1, e2', s6z _ _ h1, by rw [dl_len h2]; exact ok.len q0 h0⟩
      -- the block
      refine ⟨_, rfl, fun x dx nx ndx nex => made nx ndx nex rfl tb6 ok.oth.good (.inl ⟨rfl, rfl⟩) fun T1 H7 s7 sr bn => ⟨rfl, ?_⟩⟩
      have awc : aw = .non ∨ ∃ wi, aw = .int wi := by
        simp only [List.mem_cons, List.not_mem_nil, or_false] at hawm
        rcases hawm with rfl | rfl | rfl | rfl
        · exact .inl rfl
        · exact .inr ⟨_, rfl⟩
        · exact .inr ⟨_, rfl⟩
        · exact .inr ⟨_, rfl⟩
      rcases awc with rfl | ⟨wi, rfl⟩
      · exact ⟨_, rfl, rfl, false, rfl, if_f (rest x H6 H7 T1 _ (Same.refl _) s7 sr bn (.inl ⟨rfl, rfl⟩))⟩
      · refine ⟨_, rfl, rfl, true, rfl, if_t ⟨_, rfl, _, rfl, rfl, rfl, ?_⟩⟩
        have tb7 : TbO K H7 t TT_ := ⟨kvs', s7 _ _ ht6, dpK_same s7 (rp_dp rp6)⟩
        exact fun y dy ny ndy ney => made ny ndy ney rfl tb7 ok.oth.good (.inr rfl) fun T2 H8 s8 sr2 bn2 => ⟨rfl, rest y H7 H8 T2 wi s7 s8 sr2 bn2 (.inr rfl)⟩
end
end Tg

set_option maxHeartbeats 2000000
namespace Tg
open PySem PySem.Spec PyProof.Rows L2 LamX
/-! ### the law -/
abbrev sLaw : Stmt := topS 50
theorem scLaw : FnScope ["_law_script", "_law_cell"] ["_law_script"] (defScope sLaw) := ⟨rfl, rfl, rfl, by decide +kernel, rfl, by decide +kernel, by decide +kernel⟩
theorem cut_ints (ns : List Int) (lo hi : Option Int) : ∃ ms : List Int, cutV (ns.map V.int) lo hi = ms.map V.int ∧ ms.length ≤ ns.length := by
  unfold cutV
  refine ⟨(ns.drop (HT.sIx (ns.map V.int).length 0 lo)).take (HT.sIx (ns.map V.int).length (ns.map V.int).length hi - HT.sIx (ns.map V.int).length 0 lo), ?_, ?_⟩
  · rw [List.map_take, List.map_drop]
  · rw [List.length_take, List.length_drop]
    omega
section
variable {P : Program} {w : World} {K : PySem.W.Frag} {mg : Str → Option Value} {base : Heap}
def spLaw (K : PySem.W.Frag) (PT : Addr) : Sp := fun vs H Q _ => ∃ (a : Addr) (ns : List Int), vs = [.ref a] ∧ SqL K H a (ns.map V.int) ∧ ns.length ≤ 500 ∧ Tabs (TT PT) H ∧ ∀ H', Q (.bl true) H'
theorem ok_law {f PT : Addr} {fd : FuncData} {k : Nat} (F : Fun K "law" "law" sLaw f fd) (L_draws : Cal P w K mg base k "_law_draws" ["_law_cell"] spDraws) (L_right : Cal P w K mg base k "_law_right" ["_law_draws_here"] (spRt9 K PT)) :
    FnOk P w K mg base CX0 (k + 1) f fd ["_law_script"] (spLaw K PT) := by
  refine F.ok scLaw (fun vs H Q E h => ?_) (fun cdv A outer s H vs Q E hr h => ?_)
  · obtain ⟨a, ns, rfl, _⟩ := h
    rfl
  · obtain ⟨a, ns, rfl, hS, hlen, tabs, q⟩ := h
    refine ⟨_, pss_cons (ps_for PassesOwn.never rfl (pi_list (pe_op op_cat (pe_slice sl_list (pv 0) po_none (po_some pe_int)) (pe_lst (pa_cons pe_int pa_nil)))) (pg_name (i := 1) scLaw.nd rfl (.inl rfl))
        (pss_one (ps_if (pt_not (pt_val (pe_cal L_right (hr.mono (by omega)) (by rfl) (pa_cons (pe_cal L_draws (hr.mono (by omega)) (by rfl) (pa_cons (pv 1) pa_nil)) pa_nil))))
          (pss_one (ps_ret pe_bl))
          pss_nil)))
      (pss_one (ps_ret pe_bl)), ?_⟩
    obtain ⟨ms, em, lm⟩ := cut_ints ns none (some 4)
    refine ⟨_, rfl, 4, rfl, a, _, rfl, hS, fun l1 n1 => ?_⟩
    rw [em]
    have s1 := same_new (o := .lst (ms.map V.int)) n1
    refine ⟨by show 1 ≤ sizeLine; decide, fun l2 n2 => ?_⟩
    have s2 := same_new (o := .lst [.int 0]) n2
    have m1 : (upd (upd H l1 (.lst (ms.map V.int))) l2 (.lst [.int 0])) l1 = some (.lst (ms.map V.int)) := s2 _ _ upd_same
    refine ⟨l1, l2, _, _, rfl, rfl, m1, upd_same, ?_, fun l3 n3 => ?_⟩
    · rw [List.length_map]
      exact Nat.le_of_lt (small1000 (by show ms.length + 1 ≤ 1000; omega))
    have e3 : (ms.map V.int ++ [V.int 0]) = (ms ++ [0]).map V.int := by
      rw [List.map_append]
      rfl
    rw [e3]
    have s3 := same_new (o := .lst ((ms ++ [0]).map V.int)) n3
    have t3 := tabs.ext ((s1.trans s2).trans s3)
    have m3 : (upd (upd (upd H l1 (.lst (ms.map V.int))) l2 (.lst [.int 0])) l3 (.lst ((ms ++ [0]).map V.int))) l3 = some (.lst ((ms ++ [0]).map V.int)) := upd_same
    revert m3 t3
    generalize upd (upd (upd H l1 (.lst (ms.map V.int))) l2 (.lst [.int 0])) l3 (.lst ((ms ++ [0]).map V.int)) = H3
    intro t3 m3
    refine ⟨l3, rfl, ⟨_, SqL.of m3⟩, for_list (K := K) (a := l3) (xs := (ms ++ [0]).map V.int) (fun i σ Hc => ∃ z1 : Option V, σ = [some (.ref a), z1] ∧ Grow (TT PT) H3 Hc) ⟨none, rfl, .of t3 (Same.refl _)⟩ ?_ ?_ ?_⟩
    · rintro i σ Hc _ ⟨_, _, g⟩
      exact SqL.of (g.ext _ _ m3 (fun _ z => nomatch z))
    · rintro i xv σ Hc hx ⟨z1, rfl, g⟩
      obtain ⟨c, rfl⟩ : ∃ c : Int, xv = .int c := by
        rw [List.getElem?_map] at hx
        obtain ⟨c, _, e⟩ := Option.map_eq_some_iff.mp hx
        exact ⟨c, e.symm⟩
      refine ⟨_, rfl, c, rfl, fun p da db np => ?_⟩
      have sp := same_new (o := .lst [.int da, .int 0, .bl db]) np
      have d0 : Dr (upd Hc p (.lst [.int da, .int 0, .bl db])) p 0 := ⟨da, 0, db, upd_same, by decide, by decide⟩
      exact ⟨Hc, p, 0, rfl, .of sp, np, d0, by decide, g.tabs.ext sp, fun H' g' => ⟨true, rfl, if_f ⟨_, rfl, g.trans g'⟩⟩⟩
    · rintro σ Hc ⟨z1, rfl, g⟩
      exact q Hc
end
end Tg

namespace Tg
open PySem PySem.Spec PyProof.Rows L2 LamX
theorem gd_at {vs : Array Value} {i : Nat} {v : Value} (h : vs[i]? = some v) : vs.getD i .none = v := by
  rw [Array.getD_eq_getD_getElem?, h]
  rfl
section
variable {K : PySem.W.Frag} {f : Addr} {fd : FuncData}
theorem kn_pk (F : Fun K "pack" "pack" sPk f fd) : KBn K fd ["numbers", "way"] 1 ["way"] (fun us ws => us ++ ws) (fun vs zs => vs ++ zs) := by
  obtain ⟨_, _, kV, doc, pm, an, cdv, ct, _, rfl, _, _⟩ := F.ex
  exact ⟨fun s us ws _ h0 h2 => match us, ws, h0, h2 with | [_], [_], _, _ => .of_eq rfl, fun r1 r2 => r1.append r2⟩
theorem kd_pk (F : FunD K "pack" "pack" (defArgs sPk) (defBody sPk) (defScope sPk) [] [("way", .non)] f fd) : ∃ ds, Vals [V.non] ds ∧ Binds K fd ["numbers", "way"] ds :=
  F.binds0 (ps := ["numbers", "way"]) 1 (fun z => nomatch z) rfl (fun D doc pm an cdv ct us ks h1 h2 => match us, ks, h1, h2 with | [_], [_], _, _ => ⟨_, _, _, _, _, _, rfl, rfl, rfl⟩)
theorem kn_bi1 (F : Fun K "__init__" "Block.__init__" sBI f fd) : KBn K fd ["self", "rows", "weight"] 1 ["weight", "rows"] (fun us ws => us ++ prm [1, 0] ws) (fun vs zs => vs ++ prm [1, 0] zs) := by
  obtain ⟨_, _, kV, doc, pm, an, cdv, ct, _, rfl, _, _⟩ := F.ex
  exact ⟨fun s us ws _ h0 h2 => match us, ws, h0, h2 with | [_], [_, _], _, _ => .of_eq rfl, fun r1 r => r1.append (prm_rel r _)⟩
theorem kn_bi2 (F : Fun K "__init__" "Block.__init__" sBI f fd) : KBn K fd ["self", "rows", "weight"] 1 ["rows", "weight"] (fun us ws => us ++ prm [0, 1] ws) (fun vs zs => vs ++ prm [0, 1] zs) := by
  obtain ⟨_, _, kV, doc, pm, an, cdv, ct, _, rfl, _, _⟩ := F.ex
  exact ⟨fun s us ws _ h0 h2 => match us, ws, h0, h2 with | [_], [_, _], _, _ => .of_eq rfl, fun r1 r => r1.append (prm_rel r _)⟩
theorem kn_bi3 (F : Fun K "__init__" "Block.__init__" sBI f fd) : KBn K fd ["self", "rows", "weight"] 2 ["weight"] (fun us ws => us ++ prm [0] ws) (fun vs zs => vs ++ prm [0] zs) := by
  obtain ⟨_, _, kV, doc, pm, an, cdv, ct, _, rfl, _, _⟩ := F.ex
  exact ⟨fun s us ws _ h0 h2 => match us, ws, h0, h2 with | [_, _], [_], _, _ => .of_eq rfl, fun r1 r => r1.append (prm_rel r _)⟩
theorem kn_br (F : Fun K "rows_in" "Block.rows_in" sBR f fd) : KBn K fd ["self", "place", "start", "end"] 1 ["end", "place", "start"] (fun us ws => us ++ prm [1, 2, 0] ws) (fun vs zs => vs ++ prm [1, 2, 0] zs) := by
  obtain ⟨_, _, kV, doc, pm, an, cdv, ct, _, rfl, _, _⟩ := F.ex
  exact ⟨fun s us ws _ h0 h2 => match us, ws, h0, h2 with | [_], [_, _, _], _, _ => .of_eq rfl, fun r1 r => r1.append (prm_rel r _)⟩
theorem kn_bc (F : Fun K "columns_of" "Block.columns_of" sBC f fd) : KBn K fd ["self", "place"] 1 ["place"] (fun us ws => us ++ prm [0] ws) (fun vs zs => vs ++ prm [0] zs) := by
  obtain ⟨_, _, kV, doc, pm, an, cdv, ct, _, rfl, _, _⟩ := F.ex
  exact ⟨fun s us ws _ h0 h2 => match us, ws, h0, h2 with | [_], [_], _, _ => .of_eq rfl, fun r1 r => r1.append (prm_rel r _)⟩
theorem kd_bi (F : FunD K "__init__" "Block.__init__" (defArgs sBI) (defBody sBI) (defScope sBI) [] [("weight", .non)] f fd) : ∃ ds, Vals [V.non] ds ∧ Binds K fd ["self", "rows", "weight"] ds :=
  F.binds0 (ps := ["self", "rows", "weight"]) 2 (fun z => nomatch z) rfl (fun D doc pm an cdv ct us ks h1 h2 => match us, ks, h1, h2 with | [_, _], [_], _, _ => ⟨_, _, _, _, _, _, rfl, rfl, rfl⟩)
end
/-! ### what the top has written; the law's own head -/
set_option maxHeartbeats 0 in
theorem all_mk {l : PySem.W.OpenLaw} {w : World} {K : PySem.W.Frag} {h : Heap} {mg : Str → Option Value} {fa C1 C2 f1 f2 f3 f4 f5 f6 f7 f8 f9 f10 f11 f12 f13 f14 f15 f16 f17 f18 f19 f20 f21 f22 f23 f24 f25 f26 f27 f28 f29 f30 f31 f32 f33 f34 f35 f36 f37 f38 f39 f40 f41 f42 f43 f44 f45 f46 f47 f48 f49 : Addr} {tk32 : Tok} {WD RD BG WT NF : Addr} {esW esR : Array DictEntry} {nW nR nT nB : Nat} {cT cB : Value} {dT dB : Option Addr} {itT itB : Array Value} {sT sB : Array (Option Value)} {nmF qF : Str} {bsF subF : List Value} {hdF abF : Bool} {snF : List Str} {colF : Option Bool} {ddF : Option Addr} {v0F v1F v2F v3F v5F : Option Value} {idF : String} {cN : Value} {dN : Option Addr} {esN : Array DictEntry} {epN : Nat} {slN : Array (Option Value)} {KD KB : Addr} {cc39 PT39 : Addr} {vv39 : Array Value} {dd39 : Option Addr} {sl_39 : Array (Option Value)} {fi39 : Str} {tf39 tg39 tx39 : Tok} {fl39 te39 : Int} {inF39 : Bool} (X : K.In h) (G : h.Ns mainGlobals mg) (hfa : mg "law" = some (.ref fa))
    {od1 an1 od2 an2 od3 an3 od4 an4 od5 an5 od6 an6 od7 an7 od8 an8 od9 an9 od10 an10 od11 an11 od12 an12 od13 an13 od14 an14 od15 an15 od16 an16 od17 an17 od18 an18 od19 an19 od20 an20 od21 an21 od22 an22 od23 an23 od24 an24 od25 an25 od26 an26 od27 an27 od28 an28 od29 an29 od30 an30 od31 an31 od32 an32 od33 an33 od34 an34 od35 an35 od36 an36 od37 an37 od38 an38 od39 an39 od40 an40 od41 an41 od42 an42 od43 an43 od44 an44 od45 an45 od46 an46 od47 an47 od48 an48 od49 an49 : Option Addr} {sl1 sl2 sl3 sl4 sl5 sl6 sl7 sl8 sl9 sl10 sl11 sl12 sl13 sl14 sl15 sl16 sl17 sl18 sl19 sl20 sl21 sl22 sl23 sl24 sl25 sl26 sl27 sl28 sl29 sl30 sl31 sl32 sl33 sl34 sl35 sl36 sl37 sl38 sl39 sl40 sl41 sl42 sl43 sl44 sl45 sl46 sl47 sl48 sl49 : Array (Option Value)} {oc1 kV1 dc1 pm1 cd1 ct1 oc2 kV2 dc2 pm2 cd2 ct2 oc3 kV3 dc3 pm3 cd3 ct3 oc4 kV4 dc4 pm4 cd4 ct4 oc5 dc5 pm5 cd5 ct5 oc6 kV6 dc6 pm6 cd6 ct6 oc7 kV7 dc7 pm7 cd7 ct7 oc8 kV8 dc8 pm8 cd8 ct8 oc9 kV9 dc9 pm9 cd9 ct9 oc10 kV10 dc10 pm10 cd10 ct10 oc11 kV11 dc11 pm11 cd11 ct11 oc12 kV12 dc12 pm12 cd12 ct12 oc13 kV13 dc13 pm13 cd13 ct13 oc14 kV14 dc14 pm14 cd14 ct14 oc15 kV15 dc15 pm15 cd15 ct15 oc16 kV16 dc16 pm16 cd16 ct16 oc17 kV17 dc17 pm17 cd17 ct17 oc18 kV18 dc18 pm18 cd18 ct18 oc19 kV19 dc19 pm19 cd19 ct19 oc20 kV20 dc20 pm20 cd20 ct20 oc21 kV21 dc21 pm21 cd21 ct21 oc22 kV22 dc22 pm22 cd22 ct22 oc23 kV23 dc23 pm23 cd23 ct23 oc24 kV24 dc24 pm24 cd24 ct24 oc25 kV25 dc25 pm25 cd25 ct25 oc26 kV26 dc26 pm26 cd26 ct26 oc27 kV27 dc27 pm27 cd27 ct27 oc28 kV28 dc28 pm28 cd28 ct28 oc29 kV29 dc29 pm29 cd29 ct29 oc30 kV30 dc30 pm30 cd30 ct30 oc31 kV31 dc31 pm31 cd31 ct31 oc32 kV32 dc32 pm32 cd32 ct32 oc33 kV33 dc33 pm33 cd33 ct33 oc34 kV34 dc34 pm34 cd34 ct34 oc35 kV35 dc35 pm35 cd35 ct35 oc36 kV36 dc36 pm36 cd36 ct36 oc37 kV37 dc37 pm37 cd37 ct37 oc38 kV38 dc38 pm38 cd38 ct38 oc39 dc39 pm39 ct39 oc40 kV40 dc40 pm40 cd40 ct40 oc41 kV41 dc41 pm41 cd41 ct41 oc42 kV42 dc42 pm42 cd42 ct42 oc43 kV43 dc43 pm43 cd43 ct43 oc44 kV44 dc44 pm44 cd44 ct44 oc45 kV45 dc45 pm45 cd45 ct45 oc46 kV46 dc46 pm46 cd46 ct46 oc47 kV47 dc47 pm47 cd47 ct47 oc48 kV48 dc48 pm48 cd48 ct48 oc49 kV49 dc49 pm49 cd49 ct49 : Value}
    (aC1 : PySem.W.nsIn K mainGlobals "Column" = some (some (.ref C1)))
    (pgC1 : PySem.W.plainGet K C1 Str.empty = true)
    (hdC1 : PySem.W.hasDictIn K C1 = true)
    (poC1 : PySem.W.plainOver K C1 = true)
    (saC1 : PySem.W.findIn K (.ref C1) "__setattr__" = some (some (.builtin "object.__setattr__")))
    (mkC1 : PySem.W.makesIn K C1 = true)
    (kcC1 : PySem.W.keepIn K (.ref C1) = true)
    (noC1_guide : PySem.W.findIn K (.ref C1) "guide" = some none)
    (noC1_way : PySem.W.findIn K (.ref C1) "way" = some none)
    (noC1_bits : PySem.W.findIn K (.ref C1) "bits" = some none)
    (noC1_many : PySem.W.findIn K (.ref C1) "many" = some none)
    (noC1_passed : PySem.W.findIn K (.ref C1) "passed" = some none)
    (aC2 : PySem.W.nsIn K mainGlobals "Block" = some (some (.ref C2)))
    (pgC2 : PySem.W.plainGet K C2 Str.empty = true)
    (hdC2 : PySem.W.hasDictIn K C2 = true)
    (poC2 : PySem.W.plainOver K C2 = true)
    (saC2 : PySem.W.findIn K (.ref C2) "__setattr__" = some (some (.builtin "object.__setattr__")))
    (mkC2 : PySem.W.makesIn K C2 = true)
    (kcC2 : PySem.W.keepIn K (.ref C2) = true)
    (noC2_kept : PySem.W.findIn K (.ref C2) "kept" = some none)
    (noC2_weight : PySem.W.findIn K (.ref C2) "weight" = some none)
    (a1 : PySem.W.findIn K (.ref C1) "__init__" = some (some (.ref f1)))
    (i1 : PySem.W.isFn K (.ref f1) = true)
    (l1 : K.lookup f1 = some ⟨oc1, od1, .func (PySem.W.fnOf "__init__" "Column.__init__" (defArgs sCI) (defBody sCI) (defScope sCI) .none kV1 dc1 pm1 an1 cd1 ct1), sl1⟩)
    (c1 : PySem.W.codeIn K cd1 "Column.__init__" = true)
    (k1 : PySem.W.keepIn K (.ref f1) = true)
    (a2 : PySem.W.findIn K (.ref C1) "__eq__" = some (some (.ref f2)))
    (i2 : PySem.W.isFn K (.ref f2) = true)
    (l2 : K.lookup f2 = some ⟨oc2, od2, .func (PySem.W.fnOf "__eq__" "Column.__eq__" (defArgs sCE) (defBody sCE) (defScope sCE) .none kV2 dc2 pm2 an2 cd2 ct2), sl2⟩)
    (c2 : PySem.W.codeIn K cd2 "Column.__eq__" = true)
    (k2 : PySem.W.keepIn K (.ref f2) = true)
    (a3 : PySem.W.findIn K (.ref C1) "unpacked" = some (some (.ref f3)))
    (i3 : PySem.W.isFn K (.ref f3) = true)
    (l3 : K.lookup f3 = some ⟨oc3, od3, .func (PySem.W.fnOf "unpacked" "Column.unpacked" (defArgs sCU) (defBody sCU) (defScope sCU) .none kV3 dc3 pm3 an3 cd3 ct3), sl3⟩)
    (c3 : PySem.W.codeIn K cd3 "Column.unpacked" = true)
    (k3 : PySem.W.keepIn K (.ref f3) = true)
    (a4 : PySem.W.findIn K (.ref C1) "looked" = some (some (.ref f4)))
    (i4 : PySem.W.isFn K (.ref f4) = true)
    (l4 : K.lookup f4 = some ⟨oc4, od4, .func (PySem.W.fnOf "looked" "Column.looked" (defArgs sLkd9) (defBody sLkd9) (defScope sLkd9) .none kV4 dc4 pm4 an4 cd4 ct4), sl4⟩)
    (c4 : PySem.W.codeIn K cd4 "Column.looked" = true)
    (k4 : PySem.W.keepIn K (.ref f4) = true)
    (a5 : PySem.W.findIn K (.ref C2) "__init__" = some (some (.ref f5)))
    (i5 : PySem.W.isFn K (.ref f5) = true)
    (l5 : K.lookup f5 = some ⟨oc5, od5, .func (PySem.W.fnOf "__init__" "Block.__init__" (defArgs sBI) (defBody sBI) (defScope sBI) .none (.ref KB) dc5 pm5 an5 cd5 ct5), sl5⟩)
    (d_weight : PySem.W.nsIn K KB "weight" = some (some .none))
    (c5 : PySem.W.codeIn K cd5 "Block.__init__" = true)
    (k5 : PySem.W.keepIn K (.ref f5) = true)
    (a6 : PySem.W.findIn K (.ref C2) "__eq__" = some (some (.ref f6)))
    (i6 : PySem.W.isFn K (.ref f6) = true)
    (l6 : K.lookup f6 = some ⟨oc6, od6, .func (PySem.W.fnOf "__eq__" "Block.__eq__" (defArgs sBE) (defBody sBE) (defScope sBE) .none kV6 dc6 pm6 an6 cd6 ct6), sl6⟩)
    (c6 : PySem.W.codeIn K cd6 "Block.__eq__" = true)
    (k6 : PySem.W.keepIn K (.ref f6) = true)
    (a7 : PySem.W.findIn K (.ref C2) "__len__" = some (some (.ref f7)))
    (i7 : PySem.W.isFn K (.ref f7) = true)
    (l7 : K.lookup f7 = some ⟨oc7, od7, .func (PySem.W.fnOf "__len__" "Block.__len__" (defArgs sBL) (defBody sBL) (defScope sBL) .none kV7 dc7 pm7 an7 cd7 ct7), sl7⟩)
    (c7 : PySem.W.codeIn K cd7 "Block.__len__" = true)
    (k7 : PySem.W.keepIn K (.ref f7) = true)
    (a8 : PySem.W.findIn K (.ref C2) "places" = some (some (.ref f8)))
    (i8 : PySem.W.isFn K (.ref f8) = true)
    (l8 : K.lookup f8 = some ⟨oc8, od8, .func (PySem.W.fnOf "places" "Block.places" (defArgs sBP) (defBody sBP) (defScope sBP) .none kV8 dc8 pm8 an8 cd8 ct8), sl8⟩)
    (c8 : PySem.W.codeIn K cd8 "Block.places" = true)
    (k8 : PySem.W.keepIn K (.ref f8) = true)
    (a9 : PySem.W.findIn K (.ref C2) "columns_of" = some (some (.ref f9)))
    (i9 : PySem.W.isFn K (.ref f9) = true)
    (l9 : K.lookup f9 = some ⟨oc9, od9, .func (PySem.W.fnOf "columns_of" "Block.columns_of" (defArgs sBC) (defBody sBC) (defScope sBC) .none kV9 dc9 pm9 an9 cd9 ct9), sl9⟩)
    (c9 : PySem.W.codeIn K cd9 "Block.columns_of" = true)
    (k9 : PySem.W.keepIn K (.ref f9) = true)
    (a10 : PySem.W.findIn K (.ref C2) "rows_at" = some (some (.ref f10)))
    (i10 : PySem.W.isFn K (.ref f10) = true)
    (l10 : K.lookup f10 = some ⟨oc10, od10, .func (PySem.W.fnOf "rows_at" "Block.rows_at" (defArgs sBAt) (defBody sBAt) (defScope sBAt) .none kV10 dc10 pm10 an10 cd10 ct10), sl10⟩)
    (c10 : PySem.W.codeIn K cd10 "Block.rows_at" = true)
    (k10 : PySem.W.keepIn K (.ref f10) = true)
    (a11 : PySem.W.findIn K (.ref C2) "rows_in" = some (some (.ref f11)))
    (i11 : PySem.W.isFn K (.ref f11) = true)
    (l11 : K.lookup f11 = some ⟨oc11, od11, .func (PySem.W.fnOf "rows_in" "Block.rows_in" (defArgs sBR) (defBody sBR) (defScope sBR) .none kV11 dc11 pm11 an11 cd11 ct11), sl11⟩)
    (c11 : PySem.W.codeIn K cd11 "Block.rows_in" = true)
    (k11 : PySem.W.keepIn K (.ref f11) = true)
    (a12 : PySem.W.findIn K (.ref C2) "extents" = some (some (.ref f12)))
    (i12 : PySem.W.isFn K (.ref f12) = true)
    (l12 : K.lookup f12 = some ⟨oc12, od12, .func (PySem.W.fnOf "extents" "Block.extents" (defArgs sBX) (defBody sBX) (defScope sBX) .none kV12 dc12 pm12 an12 cd12 ct12), sl12⟩)
    (c12 : PySem.W.codeIn K cd12 "Block.extents" = true)
    (k12 : PySem.W.keepIn K (.ref f12) = true)
    (a13 : PySem.W.nsIn K mainGlobals "plain" = some (some (.ref f13)))
    (l13 : K.lookup f13 = some ⟨oc13, od13, .func (PySem.W.fnOf "plain" "plain" (defArgs sPl) (defBody sPl) (defScope sPl) .none kV13 dc13 pm13 an13 cd13 ct13), sl13⟩)
    (c13 : PySem.W.codeIn K cd13 "plain" = true)
    (k13 : PySem.W.keepIn K (.ref f13) = true)
    (a14 : PySem.W.nsIn K mainGlobals "turned" = some (some (.ref f14)))
    (l14 : K.lookup f14 = some ⟨oc14, od14, .func (PySem.W.fnOf "turned" "turned" (defArgs sTu) (defBody sTu) (defScope sTu) .none kV14 dc14 pm14 an14 cd14 ct14), sl14⟩)
    (c14 : PySem.W.codeIn K cd14 "turned" = true)
    (k14 : PySem.W.keepIn K (.ref f14) = true)
    (a15 : PySem.W.nsIn K mainGlobals "back" = some (some (.ref f15)))
    (l15 : K.lookup f15 = some ⟨oc15, od15, .func (PySem.W.fnOf "back" "back" (defArgs sBa) (defBody sBa) (defScope sBa) .none kV15 dc15 pm15 an15 cd15 ct15), sl15⟩)
    (c15 : PySem.W.codeIn K cd15 "back" = true)
    (k15 : PySem.W.keepIn K (.ref f15) = true)
    (a16 : PySem.W.nsIn K mainGlobals "own" = some (some (.ref f16)))
    (l16 : K.lookup f16 = some ⟨oc16, od16, .func (PySem.W.fnOf "own" "own" (defArgs sOw) (defBody sOw) (defScope sOw) .none kV16 dc16 pm16 an16 cd16 ct16), sl16⟩)
    (c16 : PySem.W.codeIn K cd16 "own" = true)
    (k16 : PySem.W.keepIn K (.ref f16) = true)
    (a17 : PySem.W.nsIn K mainGlobals "read_own" = some (some (.ref f17)))
    (l17 : K.lookup f17 = some ⟨oc17, od17, .func (PySem.W.fnOf "read_own" "read_own" (defArgs sRO) (defBody sRO) (defScope sRO) .none kV17 dc17 pm17 an17 cd17 ct17), sl17⟩)
    (c17 : PySem.W.codeIn K cd17 "read_own" = true)
    (k17 : PySem.W.keepIn K (.ref f17) = true)
    (a18 : PySem.W.nsIn K mainGlobals "own_codes" = some (some (.ref f18)))
    (l18 : K.lookup f18 = some ⟨oc18, od18, .func (PySem.W.fnOf "own_codes" "own_codes" (defArgs sOC) (defBody sOC) (defScope sOC) .none kV18 dc18 pm18 an18 cd18 ct18), sl18⟩)
    (c18 : PySem.W.codeIn K cd18 "own_codes" = true)
    (k18 : PySem.W.keepIn K (.ref f18) = true)
    (a19 : PySem.W.nsIn K mainGlobals "steps_of" = some (some (.ref f19)))
    (l19 : K.lookup f19 = some ⟨oc19, od19, .func (PySem.W.fnOf "steps_of" "steps_of" (defArgs sSO) (defBody sSO) (defScope sSO) .none kV19 dc19 pm19 an19 cd19 ct19), sl19⟩)
    (c19 : PySem.W.codeIn K cd19 "steps_of" = true)
    (k19 : PySem.W.keepIn K (.ref f19) = true)
    (a20 : PySem.W.nsIn K mainGlobals "runs_of" = some (some (.ref f20)))
    (l20 : K.lookup f20 = some ⟨oc20, od20, .func (PySem.W.fnOf "runs_of" "runs_of" (defArgs sRu) (defBody sRu) (defScope sRu) .none kV20 dc20 pm20 an20 cd20 ct20), sl20⟩)
    (c20 : PySem.W.codeIn K cd20 "runs_of" = true)
    (k20 : PySem.W.keepIn K (.ref f20) = true)
    (a21 : PySem.W.nsIn K mainGlobals "write_plain" = some (some (.ref f21)))
    (l21 : K.lookup f21 = some ⟨oc21, od21, .func (PySem.W.fnOf "write_plain" "write_plain" (defArgs sWP) (defBody sWP) (defScope sWP) .none kV21 dc21 pm21 an21 cd21 ct21), sl21⟩)
    (c21 : PySem.W.codeIn K cd21 "write_plain" = true)
    (k21 : PySem.W.keepIn K (.ref f21) = true)
    (a22 : PySem.W.nsIn K mainGlobals "write_steps" = some (some (.ref f22)))
    (l22 : K.lookup f22 = some ⟨oc22, od22, .func (PySem.W.fnOf "write_steps" "write_steps" (defArgs sWS) (defBody sWS) (defScope sWS) .none kV22 dc22 pm22 an22 cd22 ct22), sl22⟩)
    (c22 : PySem.W.codeIn K cd22 "write_steps" = true)
    (k22 : PySem.W.keepIn K (.ref f22) = true)
    (a23 : PySem.W.nsIn K mainGlobals "write_turns" = some (some (.ref f23)))
    (l23 : K.lookup f23 = some ⟨oc23, od23, .func (PySem.W.fnOf "write_turns" "write_turns" (defArgs sWT) (defBody sWT) (defScope sWT) .none kV23 dc23 pm23 an23 cd23 ct23), sl23⟩)
    (c23 : PySem.W.codeIn K cd23 "write_turns" = true)
    (k23 : PySem.W.keepIn K (.ref f23) = true)
    (a24 : PySem.W.nsIn K mainGlobals "write_runs" = some (some (.ref f24)))
    (l24 : K.lookup f24 = some ⟨oc24, od24, .func (PySem.W.fnOf "write_runs" "write_runs" (defArgs sWR) (defBody sWR) (defScope sWR) .none kV24 dc24 pm24 an24 cd24 ct24), sl24⟩)
    (c24 : PySem.W.codeIn K cd24 "write_runs" = true)
    (k24 : PySem.W.keepIn K (.ref f24) = true)
    (a25 : PySem.W.nsIn K mainGlobals "write_book" = some (some (.ref f25)))
    (l25 : K.lookup f25 = some ⟨oc25, od25, .func (PySem.W.fnOf "write_book" "write_book" (defArgs sWB) (defBody sWB) (defScope sWB) .none kV25 dc25 pm25 an25 cd25 ct25), sl25⟩)
    (c25 : PySem.W.codeIn K cd25 "write_book" = true)
    (k25 : PySem.W.keepIn K (.ref f25) = true)
    (a26 : PySem.W.nsIn K mainGlobals "bits_by" = some (some (.ref f26)))
    (l26 : K.lookup f26 = some ⟨oc26, od26, .func (PySem.W.fnOf "bits_by" "bits_by" (defArgs sBB) (defBody sBB) (defScope sBB) .none kV26 dc26 pm26 an26 cd26 ct26), sl26⟩)
    (c26 : PySem.W.codeIn K cd26 "bits_by" = true)
    (k26 : PySem.W.keepIn K (.ref f26) = true)
    (a27 : PySem.W.nsIn K mainGlobals "size_by" = some (some (.ref f27)))
    (l27 : K.lookup f27 = some ⟨oc27, od27, .func (PySem.W.fnOf "size_by" "size_by" (defArgs sSB) (defBody sSB) (defScope sSB) .none kV27 dc27 pm27 an27 cd27 ct27), sl27⟩)
    (c27 : PySem.W.codeIn K cd27 "size_by" = true)
    (k27 : PySem.W.keepIn K (.ref f27) = true)
    (a28 : PySem.W.nsIn K mainGlobals "read_step" = some (some (.ref f28)))
    (l28 : K.lookup f28 = some ⟨oc28, od28, .func (PySem.W.fnOf "read_step" "read_step" (defArgs sRS) (defBody sRS) (defScope sRS) .none kV28 dc28 pm28 an28 cd28 ct28), sl28⟩)
    (c28 : PySem.W.codeIn K cd28 "read_step" = true)
    (k28 : PySem.W.keepIn K (.ref f28) = true)
    (a29 : PySem.W.nsIn K mainGlobals "read_turn" = some (some (.ref f29)))
    (l29 : K.lookup f29 = some ⟨oc29, od29, .func (PySem.W.fnOf "read_turn" "read_turn" (defArgs sRT) (defBody sRT) (defScope sRT) .none kV29 dc29 pm29 an29 cd29 ct29), sl29⟩)
    (c29 : PySem.W.codeIn K cd29 "read_turn" = true)
    (k29 : PySem.W.keepIn K (.ref f29) = true)
    (a30 : PySem.W.nsIn K mainGlobals "read_run" = some (some (.ref f30)))
    (l30 : K.lookup f30 = some ⟨oc30, od30, .func (PySem.W.fnOf "read_run" "read_run" (defArgs sRR) (defBody sRR) (defScope sRR) .none kV30 dc30 pm30 an30 cd30 ct30), sl30⟩)
    (c30 : PySem.W.codeIn K cd30 "read_run" = true)
    (k30 : PySem.W.keepIn K (.ref f30) = true)
    (a31 : PySem.W.nsIn K mainGlobals "marks_by" = some (some (.ref f31)))
    (l31 : K.lookup f31 = some ⟨oc31, od31, .func (PySem.W.fnOf "marks_by" "marks_by" (defArgs sMB) (defBody sMB) (defScope sMB) .none kV31 dc31 pm31 an31 cd31 ct31), sl31⟩)
    (c31 : PySem.W.codeIn K cd31 "marks_by" = true)
    (k31 : PySem.W.keepIn K (.ref f31) = true)
    (a32 : PySem.W.nsIn K mainGlobals "check_codes" = some (some (.ref f32)))
    (l32 : K.lookup f32 = some ⟨oc32, od32, .func (PySem.W.fnOf "check_codes" "check_codes" (defArgs sCC) (defBody sCC) (defScope sCC) .none kV32 dc32 pm32 an32 cd32 ct32), sl32⟩)
    (c32 : PySem.W.codeIn K cd32 "check_codes" = true)
    (k32 : PySem.W.keepIn K (.ref f32) = true)
    (a33 : PySem.W.nsIn K mainGlobals "read_codes" = some (some (.ref f33)))
    (l33 : K.lookup f33 = some ⟨oc33, od33, .func (PySem.W.fnOf "read_codes" "read_codes" (defArgs sRC) (defBody sRC) (defScope sRC) .none kV33 dc33 pm33 an33 cd33 ct33), sl33⟩)
    (c33 : PySem.W.codeIn K cd33 "read_codes" = true)
    (k33 : PySem.W.keepIn K (.ref f33) = true)
    (a34 : PySem.W.nsIn K mainGlobals "plain_head" = some (some (.ref f34)))
    (l34 : K.lookup f34 = some ⟨oc34, od34, .func (PySem.W.fnOf "plain_head" "plain_head" (defArgs sPH) (defBody sPH) (defScope sPH) .none kV34 dc34 pm34 an34 cd34 ct34), sl34⟩)
    (c34 : PySem.W.codeIn K cd34 "plain_head" = true)
    (k34 : PySem.W.keepIn K (.ref f34) = true)
    (a35 : PySem.W.nsIn K mainGlobals "book_head" = some (some (.ref f35)))
    (l35 : K.lookup f35 = some ⟨oc35, od35, .func (PySem.W.fnOf "book_head" "book_head" (defArgs sBH) (defBody sBH) (defScope sBH) .none kV35 dc35 pm35 an35 cd35 ct35), sl35⟩)
    (c35 : PySem.W.codeIn K cd35 "book_head" = true)
    (k35 : PySem.W.keepIn K (.ref f35) = true)
    (a36 : PySem.W.nsIn K mainGlobals "guide_of" = some (some (.ref f36)))
    (l36 : K.lookup f36 = some ⟨oc36, od36, .func (PySem.W.fnOf "guide_of" "guide_of" (defArgs sGO) (defBody sGO) (defScope sGO) .none kV36 dc36 pm36 an36 cd36 ct36), sl36⟩)
    (c36 : PySem.W.codeIn K cd36 "guide_of" = true)
    (k36 : PySem.W.keepIn K (.ref f36) = true)
    (a37 : PySem.W.nsIn K mainGlobals "numbers_in" = some (some (.ref f37)))
    (l37 : K.lookup f37 = some ⟨oc37, od37, .func (PySem.W.fnOf "numbers_in" "numbers_in" (defArgs sNI) (defBody sNI) (defScope sNI) .none kV37 dc37 pm37 an37 cd37 ct37), sl37⟩)
    (c37 : PySem.W.codeIn K cd37 "numbers_in" = true)
    (k37 : PySem.W.keepIn K (.ref f37) = true)
    (a38 : PySem.W.nsIn K mainGlobals "walked_in" = some (some (.ref f38)))
    (l38 : K.lookup f38 = some ⟨oc38, od38, .func (PySem.W.fnOf "walked_in" "walked_in" (defArgs sWI) (defBody sWI) (defScope sWI) .none kV38 dc38 pm38 an38 cd38 ct38), sl38⟩)
    (c38 : PySem.W.codeIn K cd38 "walked_in" = true)
    (k38 : PySem.W.keepIn K (.ref f38) = true)
    (a39 : PySem.W.nsIn K mainGlobals "pack" = some (some (.ref f39)))
    (l39 : K.lookup f39 = some ⟨oc39, od39, .func (PySem.W.fnOf "pack" "pack" (defArgs sPk) (defBody sPk) (defScope sPk) .none (.ref KD) dc39 pm39 an39 (.ref cc39) ct39), sl39⟩)
    (d_way : PySem.W.nsIn K KD "way" = some (some .none))
    (lc39 : K.lookup cc39 = some ⟨.type "code", dd39, .fields vv39, sl_39⟩)
    (v11_39 : vv39[11]? = some (.ref PT39))
    (v18_39 : vv39.getD 18 .none = .str fi39 tf39)
    (v7_39 : vv39.getD 7 .none = .int fl39 tg39)
    (v9_39 : vv39.getD 9 .none = .bool inF39)
    (v10_39 : vv39.getD 10 .none = .int te39 tx39)
    (ne39 : cc39 ≠ PT39)
    (nP39 : K.lookup PT39 = none)
    (tb39 : h.get? PT39 = some { cls := .none, data := .fields #[] })
    (c39 : PySem.W.codeIn K (.ref cc39) "pack" = true)
    (k39 : PySem.W.keepIn K (.ref f39) = true)
    (a40 : PySem.W.nsIn K mainGlobals "_law_draws" = some (some (.ref f40)))
    (l40 : K.lookup f40 = some ⟨oc40, od40, .func (PySem.W.fnOf "_law_draws" "_law_draws" (defArgs sDraws) (defBody sDraws) (defScope sDraws) .none kV40 dc40 pm40 an40 cd40 ct40), sl40⟩)
    (c40 : PySem.W.codeIn K cd40 "_law_draws" = true)
    (k40 : PySem.W.keepIn K (.ref f40) = true)
    (a41 : PySem.W.nsIn K mainGlobals "_law_next" = some (some (.ref f41)))
    (l41 : K.lookup f41 = some ⟨oc41, od41, .func (PySem.W.fnOf "_law_next" "_law_next" (defArgs sNext) (defBody sNext) (defScope sNext) .none kV41 dc41 pm41 an41 cd41 ct41), sl41⟩)
    (c41 : PySem.W.codeIn K cd41 "_law_next" = true)
    (k41 : PySem.W.keepIn K (.ref f41) = true)
    (a42 : PySem.W.nsIn K mainGlobals "_law_rows" = some (some (.ref f42)))
    (l42 : K.lookup f42 = some ⟨oc42, od42, .func (PySem.W.fnOf "_law_rows" "_law_rows" (defArgs sRows) (defBody sRows) (defScope sRows) .none kV42 dc42 pm42 an42 cd42 ct42), sl42⟩)
    (c42 : PySem.W.codeIn K cd42 "_law_rows" = true)
    (k42 : PySem.W.keepIn K (.ref f42) = true)
    (a43 : PySem.W.nsIn K mainGlobals "_law_table" = some (some (.ref f43)))
    (l43 : K.lookup f43 = some ⟨oc43, od43, .func (PySem.W.fnOf "_law_table" "_law_table" (defArgs sTb) (defBody sTb) (defScope sTb) .none kV43 dc43 pm43 an43 cd43 ct43), sl43⟩)
    (c43 : PySem.W.codeIn K cd43 "_law_table" = true)
    (k43 : PySem.W.keepIn K (.ref f43) = true)
    (a44 : PySem.W.nsIn K mainGlobals "_law_columns_right" = some (some (.ref f44)))
    (l44 : K.lookup f44 = some ⟨oc44, od44, .func (PySem.W.fnOf "_law_columns_right" "_law_columns_right" (defArgs sCR9) (defBody sCR9) (defScope sCR9) .none kV44 dc44 pm44 an44 cd44 ct44), sl44⟩)
    (c44 : PySem.W.codeIn K cd44 "_law_columns_right" = true)
    (k44 : PySem.W.keepIn K (.ref f44) = true)
    (a45 : PySem.W.nsIn K mainGlobals "_law_rows_right" = some (some (.ref f45)))
    (l45 : K.lookup f45 = some ⟨oc45, od45, .func (PySem.W.fnOf "_law_rows_right" "_law_rows_right" (defArgs sRI9) (defBody sRI9) (defScope sRI9) .none kV45 dc45 pm45 an45 cd45 ct45), sl45⟩)
    (c45 : PySem.W.codeIn K cd45 "_law_rows_right" = true)
    (k45 : PySem.W.keepIn K (.ref f45) = true)
    (a46 : PySem.W.nsIn K mainGlobals "_law_extents" = some (some (.ref f46)))
    (l46 : K.lookup f46 = some ⟨oc46, od46, .func (PySem.W.fnOf "_law_extents" "_law_extents" (defArgs sXt) (defBody sXt) (defScope sXt) .none kV46 dc46 pm46 an46 cd46 ct46), sl46⟩)
    (c46 : PySem.W.codeIn K cd46 "_law_extents" = true)
    (k46 : PySem.W.keepIn K (.ref f46) = true)
    (a47 : PySem.W.nsIn K mainGlobals "_law_other" = some (some (.ref f47)))
    (l47 : K.lookup f47 = some ⟨oc47, od47, .func (PySem.W.fnOf "_law_other" "_law_other" (defArgs sOt) (defBody sOt) (defScope sOt) .none kV47 dc47 pm47 an47 cd47 ct47), sl47⟩)
    (c47 : PySem.W.codeIn K cd47 "_law_other" = true)
    (k47 : PySem.W.keepIn K (.ref f47) = true)
    (a48 : PySem.W.nsIn K mainGlobals "_law_right" = some (some (.ref f48)))
    (l48 : K.lookup f48 = some ⟨oc48, od48, .func (PySem.W.fnOf "_law_right" "_law_right" (defArgs sRt) (defBody sRt) (defScope sRt) .none kV48 dc48 pm48 an48 cd48 ct48), sl48⟩)
    (c48 : PySem.W.codeIn K cd48 "_law_right" = true)
    (k48 : PySem.W.keepIn K (.ref f48) = true)
    (a49 : PySem.W.nsIn K mainGlobals "law" = some (some (.ref f49)))
    (l49 : K.lookup f49 = some ⟨oc49, od49, .func (PySem.W.fnOf "law" "law" (defArgs sLaw) (defBody sLaw) (defScope sLaw) .none kV49 dc49 pm49 an49 cd49 ct49), sl49⟩)
    (c49 : PySem.W.codeIn K cd49 "law" = true)
    (k49 : PySem.W.keepIn K (.ref f49) = true)
    (z_range : PySem.W.nsIn K mainGlobals "range" = some none)
    (z_len : PySem.W.nsIn K mainGlobals "len" = some none)
    (z_max : PySem.W.nsIn K mainGlobals "max" = some none)
    (z_min : PySem.W.nsIn K mainGlobals "min" = some none)
    (z_int : PySem.W.nsIn K mainGlobals "int" = some none)
    (z_list : PySem.W.nsIn K mainGlobals "list" = some none)
    (z_tuple : PySem.W.nsIn K mainGlobals "tuple" = some none)
    (z_zip : PySem.W.nsIn K mainGlobals "zip" = some none)
    (z_sorted : PySem.W.nsIn K mainGlobals "sorted" = some none)
    (z_set : PySem.W.nsIn K mainGlobals "set" = some none)
    (z_enumerate : PySem.W.nsIn K mainGlobals "enumerate" = some none)
    (z_isinstance : PySem.W.nsIn K mainGlobals "isinstance" = some none)
    (z_sum : PySem.W.nsIn K mainGlobals "sum" = some none)
    (v_SPAN : PySem.W.nsIn K mainGlobals "SPAN" = some (some (.int 32 tk32)))
    (v_WRITERS : PySem.W.nsIn K mainGlobals "WRITERS" = some (some (.ref WD)))
    (v_READERS : PySem.W.nsIn K mainGlobals "READERS" = some (some (.ref RD)))
    (v_BEGIN : PySem.W.nsIn K mainGlobals "BEGIN" = some (some (.ref BG)))
    (v_WAYS : PySem.W.nsIn K mainGlobals "WAYS" = some (some (.ref WT)))
    (lWD : K.lookup WD = some ⟨.type "dict", none, .dict esW nW, #[]⟩)
    (tWD : PySem.W.KeysLit w.params esW.toList)
    (lRD : K.lookup RD = some ⟨.type "dict", none, .dict esR nR, #[]⟩)
    (tRD : PySem.W.KeysLit w.params esR.toList)
    (sRD : (RD == sysModules) = false)
    (w_plain : PySem.W.nsIn K WD "plain" = some (some (.ref f21)))
    (w_steps : PySem.W.nsIn K WD "steps" = some (some (.ref f22)))
    (w_turns : PySem.W.nsIn K WD "turns" = some (some (.ref f23)))
    (w_runs : PySem.W.nsIn K WD "runs" = some (some (.ref f24)))
    (w_book : PySem.W.nsIn K WD "book" = some (some (.ref f25)))
    (r_steps : PySem.W.nsIn K RD "steps" = some (some (.ref f28)))
    (r_turns : PySem.W.nsIn K RD "turns" = some (some (.ref f29)))
    (r_runs : PySem.W.nsIn K RD "runs" = some (some (.ref f30)))
    (r_plain : PySem.W.nsIn K RD "plain" = some none)
    (r_book : PySem.W.nsIn K RD "book" = some none)
    (lT : K.lookup WT = some ⟨cT, dT, .seq itT nT, sT⟩)
    (cT_ : cT = .type "tuple")
    (nT_ : itT.size ≤ sizeLine)
    (vT : Vals wayV itT.toList)
    (lB : K.lookup BG = some ⟨cB, dB, .seq itB nB, sB⟩)
    (cB_ : cB = .type "tuple")
    (nB_ : itB.size ≤ sizeLine)
    (vB : Vals (mkV (0, 0, none)) itB.toList)
    (hnC : PySem.W.specialIn K (.builtin "object.__class__") "__get__" = some (some (.builtin "getset_descriptor.__get__")))
    (htC : PySem.W.takesIn K (.builtin "object.__class__") = some true)
    (ccC1 : PySem.W.findIn K (.ref C1) "__class__" = some (some (.builtin "object.__class__")))
    (moC1 : PySem.W.mroIn K C1 (.type "object") = some true)
    (ktC1 : PySem.W.kitOne K (.ref C1) (.ref C1) = some true)
    (xF : K.lookup C2 = some (excClassObj nmF qF C2 NF bsF [.type "object"] hdF snF subF abF colF ddF v0F v1F v2F v3F v5F idF))
    (lNF : K.lookup NF = some ⟨cN, dN, .dict esN epN, slN⟩)
    (okE : (esN.toList.all fun e => match e.key with | .str _ _ => true | _ => false) = true)
    (eqF : PySem.W.nsIn K NF "__eq__" = some (some (.ref f6)))
    (neF : PySem.W.nsIn K NF "__ne__" = some none)
    (ocE : oc6 = .type "function")
    (ccF : PySem.W.findIn K (.ref C2) "__class__" = some (some (.builtin "object.__class__")))
    (hnF : PySem.W.specialIn K (.builtin "object.__class__") "__get__" = some (some (.builtin "getset_descriptor.__get__")))
    (htF : PySem.W.takesIn K (.builtin "object.__class__") = some true)
    (hmF : PySem.W.mroIn K C2 (.type "object") = some true)
    (kitF : PySem.W.kitOne K (.ref C2) (.ref C2) = some true)
    (nfo : PySem.W.notFirst K C2 (.ref C2) = true)
    (nfd : PySem.W.notFirst K C2 (.type "dict") = true)
    (ktd : PySem.W.kitOne K (.type "dict") (.ref C2) = some false)
    : LamX.LawAtS l w K L2.CX0 12 63 "_law_script" mg fa h := by
  have e := hfa.symm.trans (PySem.W.mg_of X G a49)
  cases e
  have F1 := fun_mk (st := sCI) l1 c1 k1
  have F2 := fun_mk (st := sCE) l2 c2 k2
  have F3 := fun_mk (st := sCU) l3 c3 k3
  have F4 := fun_mk (st := sLkd9) l4 c4 k4
  have F5 := fun_mk (st := sBI) l5 c5 k5
  have FD5 : FunD K "__init__" "Block.__init__" (defArgs sBI) (defBody sBI) (defScope sBI) [] [("weight", .non)] f5 _ := ⟨⟨oc5, od5, .none, .ref KB, dc5, pm5, an5, cd5, ct5, sl5, rfl, l5, c5, .inl ⟨rfl, rfl⟩, .inr ⟨KB, rfl, fun q lack => by
    obtain rfl := List.mem_singleton.mp lack
    exact ⟨_, d_weight, rfl⟩⟩⟩, k5⟩
  have F6 := fun_mk (st := sBE) l6 c6 k6
  have F7 := fun_mk (st := sBL) l7 c7 k7
  have F8 := fun_mk (st := sBP) l8 c8 k8
  have F9 := fun_mk (st := sBC) l9 c9 k9
  have F10 := fun_mk (st := sBAt) l10 c10 k10
  have F11 := fun_mk (st := sBR) l11 c11 k11
  have F12 := fun_mk (st := sBX) l12 c12 k12
  have F13 := fun_mk (st := sPl) l13 c13 k13
  have F14 := fun_mk (st := sTu) l14 c14 k14
  have F15 := fun_mk (st := sBa) l15 c15 k15
  have F16 := fun_mk (st := sOw) l16 c16 k16
  have F17 := fun_mk (st := sRO) l17 c17 k17
  have F18 := fun_mk (st := sOC) l18 c18 k18
  have F19 := fun_mk (st := sSO) l19 c19 k19
  have F20 := fun_mk (st := sRu) l20 c20 k20
  have F21 := fun_mk (st := sWP) l21 c21 k21
  have F22 := fun_mk (st := sWS) l22 c22 k22
  have F23 := fun_mk (st := sWT) l23 c23 k23
  have F24 := fun_mk (st := sWR) l24 c24 k24
  have F25 := fun_mk (st := sWB) l25 c25 k25
  have F26 := fun_mk (st := sBB) l26 c26 k26
  have F27 := fun_mk (st := sSB) l27 c27 k27
  have F28 := fun_mk (st := sRS) l28 c28 k28
  have F29 := fun_mk (st := sRT) l29 c29 k29
  have F30 := fun_mk (st := sRR) l30 c30 k30
  have F31 := fun_mk (st := sMB) l31 c31 k31
  have F32 := fun_mk (st := sCC) l32 c32 k32
  have F33 := fun_mk (st := sRC) l33 c33 k33
  have F34 := fun_mk (st := sPH) l34 c34 k34
  have F35 := fun_mk (st := sBH) l35 c35 k35
  have F36 := fun_mk (st := sGO) l36 c36 k36
  have F37 := fun_mk (st := sNI) l37 c37 k37
  have F38 := fun_mk (st := sWI) l38 c38 k38
  have FC39 := func_mk (st := sPk) l39 c39 k39
  have F39 := FC39.fn
  have FD39 : FunD K "pack" "pack" (defArgs sPk) (defBody sPk) (defScope sPk) [] [("way", .non)] f39 _ := ⟨⟨oc39, od39, .none, .ref KD, dc39, pm39, an39, .ref cc39, ct39, sl39, rfl, l39, c39, .inl ⟨rfl, rfl⟩, .inr ⟨KD, rfl, fun q lack => by
    obtain rfl := List.mem_singleton.mp lack
    exact ⟨_, d_way, rfl⟩⟩⟩, k39⟩
  have F40 := fun_mk (st := sDraws) l40 c40 k40
  have F41 := fun_mk (st := sNext) l41 c41 k41
  have F42 := fun_mk (st := sRows) l42 c42 k42
  have F43 := fun_mk (st := sTb) l43 c43 k43
  have F44 := fun_mk (st := sCR9) l44 c44 k44
  have F45 := fun_mk (st := sRI9) l45 c45 k45
  have F46 := fun_mk (st := sXt) l46 c46 k46
  have F47 := fun_mk (st := sOt) l47 c47 k47
  have F48 := fun_mk (st := sRt) l48 c48 k48
  have F49 := fun_mk (st := sLaw) l49 c49 k49
  have b1 := F1.binds (ps := ["self", "way", "bits", "many"]) fun _ _ _ _ _ _ us hl => match us, hl with | [_, _, _, _], _ => rfl
  have b2 := F2.binds (ps := ["self", "other"]) fun _ _ _ _ _ _ us hl => match us, hl with | [_, _], _ => rfl
  have b3 := F3.binds (ps := ["self"]) fun _ _ _ _ _ _ us hl => match us, hl with | [_], _ => rfl
  have b4 := F4.binds (ps := ["self"]) fun _ _ _ _ _ _ us hl => match us, hl with | [_], _ => rfl
  have b6 := F6.binds (ps := ["self", "other"]) fun _ _ _ _ _ _ us hl => match us, hl with | [_, _], _ => rfl
  have b7 := F7.binds (ps := ["self"]) fun _ _ _ _ _ _ us hl => match us, hl with | [_], _ => rfl
  have b8 := F8.binds (ps := ["self"]) fun _ _ _ _ _ _ us hl => match us, hl with | [_], _ => rfl
  have b9 := F9.binds (ps := ["self", "place"]) fun _ _ _ _ _ _ us hl => match us, hl with | [_, _], _ => rfl
  have b10 := F10.binds (ps := ["self", "place"]) fun _ _ _ _ _ _ us hl => match us, hl with | [_, _], _ => rfl
  have b11 := F11.binds (ps := ["self", "place", "start", "end"]) fun _ _ _ _ _ _ us hl => match us, hl with | [_, _, _, _], _ => rfl
  have b12 := F12.binds (ps := ["self"]) fun _ _ _ _ _ _ us hl => match us, hl with | [_], _ => rfl
  have b13 := F13.binds (ps := ["number", "width"]) fun _ _ _ _ _ _ us hl => match us, hl with | [_, _], _ => rfl
  have b14 := F14.binds (ps := ["number"]) fun _ _ _ _ _ _ us hl => match us, hl with | [_], _ => rfl
  have b15 := F15.binds (ps := ["number"]) fun _ _ _ _ _ _ us hl => match us, hl with | [_], _ => rfl
  have b16 := F16.binds (ps := ["number"]) fun _ _ _ _ _ _ us hl => match us, hl with | [_], _ => rfl
  have b17 := F17.binds (ps := ["bits", "at"]) fun _ _ _ _ _ _ us hl => match us, hl with | [_, _], _ => rfl
  have b18 := F18.binds (ps := ["numbers"]) fun _ _ _ _ _ _ us hl => match us, hl with | [_], _ => rfl
  have b19 := F19.binds (ps := ["numbers"]) fun _ _ _ _ _ _ us hl => match us, hl with | [_], _ => rfl
  have b20 := F20.binds (ps := ["numbers"]) fun _ _ _ _ _ _ us hl => match us, hl with | [_], _ => rfl
  have b21 := F21.binds (ps := ["numbers"]) fun _ _ _ _ _ _ us hl => match us, hl with | [_], _ => rfl
  have b22 := F22.binds (ps := ["numbers"]) fun _ _ _ _ _ _ us hl => match us, hl with | [_], _ => rfl
  have b23 := F23.binds (ps := ["numbers"]) fun _ _ _ _ _ _ us hl => match us, hl with | [_], _ => rfl
  have b24 := F24.binds (ps := ["numbers"]) fun _ _ _ _ _ _ us hl => match us, hl with | [_], _ => rfl
  have b25 := F25.binds (ps := ["numbers"]) fun _ _ _ _ _ _ us hl => match us, hl with | [_], _ => rfl
  have b26 := F26.binds (ps := ["numbers", "way"]) fun _ _ _ _ _ _ us hl => match us, hl with | [_, _], _ => rfl
  have b27 := F27.binds (ps := ["numbers", "way"]) fun _ _ _ _ _ _ us hl => match us, hl with | [_, _], _ => rfl
  have b28 := F28.binds (ps := ["bits", "mark", "room"]) fun _ _ _ _ _ _ us hl => match us, hl with | [_, _, _], _ => rfl
  have b29 := F29.binds (ps := ["bits", "mark", "room"]) fun _ _ _ _ _ _ us hl => match us, hl with | [_, _, _], _ => rfl
  have b30 := F30.binds (ps := ["bits", "mark", "room"]) fun _ _ _ _ _ _ us hl => match us, hl with | [_, _, _], _ => rfl
  have b31 := F31.binds (ps := ["way", "bits", "many"]) fun _ _ _ _ _ _ us hl => match us, hl with | [_, _, _], _ => rfl
  have b32 := F32.binds (ps := ["bits", "at", "width", "many"]) fun _ _ _ _ _ _ us hl => match us, hl with | [_, _, _, _], _ => rfl
  have b33 := F33.binds (ps := ["bits", "at", "width", "many"]) fun _ _ _ _ _ _ us hl => match us, hl with | [_, _, _, _], _ => rfl
  have b34 := F34.binds (ps := ["bits", "many"]) fun _ _ _ _ _ _ us hl => match us, hl with | [_, _], _ => rfl
  have b35 := F35.binds (ps := ["bits", "many"]) fun _ _ _ _ _ _ us hl => match us, hl with | [_, _], _ => rfl
  have b36 := F36.binds (ps := ["way", "bits", "many"]) fun _ _ _ _ _ _ us hl => match us, hl with | [_, _, _], _ => rfl
  have b37 := F37.binds (ps := ["column", "start", "end"]) fun _ _ _ _ _ _ us hl => match us, hl with | [_, _, _], _ => rfl
  have b38 := F38.binds (ps := ["column", "start", "end"]) fun _ _ _ _ _ _ us hl => match us, hl with | [_, _, _], _ => rfl
  have b40 := F40.binds (ps := ["_law_cell"]) fun _ _ _ _ _ _ us hl => match us, hl with | [_], _ => rfl
  have b41 := F41.binds (ps := ["_law_draws_here"]) fun _ _ _ _ _ _ us hl => match us, hl with | [_], _ => rfl
  have b42 := F42.binds (ps := ["_law_draws_here", "_law_most"]) fun _ _ _ _ _ _ us hl => match us, hl with | [_, _], _ => rfl
  have b43 := F43.binds (ps := ["_law_draws_here", "_law_most"]) fun _ _ _ _ _ _ us hl => match us, hl with | [_, _], _ => rfl
  have b44 := F44.binds (ps := ["_law_block", "_law_a_place", "_law_a_rows"]) fun _ _ _ _ _ _ us hl => match us, hl with | [_, _, _], _ => rfl
  have b45 := F45.binds (ps := ["_law_draws_here", "_law_block", "_law_table_here"]) fun _ _ _ _ _ _ us hl => match us, hl with | [_, _, _], _ => rfl
  have b46 := F46.binds (ps := ["_law_table_here"]) fun _ _ _ _ _ _ us hl => match us, hl with | [_], _ => rfl
  have b47 := F47.binds (ps := ["_law_draws_here", "_law_table_here"]) fun _ _ _ _ _ _ us hl => match us, hl with | [_, _], _ => rfl
  have b48 := F48.binds (ps := ["_law_draws_here"]) fun _ _ _ _ _ _ us hl => match us, hl with | [_], _ => rfl
  have g13 := PySem.W.mg_of X G a13
  have g14 := PySem.W.mg_of X G a14
  have g15 := PySem.W.mg_of X G a15
  have g16 := PySem.W.mg_of X G a16
  have g17 := PySem.W.mg_of X G a17
  have g18 := PySem.W.mg_of X G a18
  have g19 := PySem.W.mg_of X G a19
  have g20 := PySem.W.mg_of X G a20
  have g21 := PySem.W.mg_of X G a21
  have g22 := PySem.W.mg_of X G a22
  have g23 := PySem.W.mg_of X G a23
  have g24 := PySem.W.mg_of X G a24
  have g25 := PySem.W.mg_of X G a25
  have g26 := PySem.W.mg_of X G a26
  have g27 := PySem.W.mg_of X G a27
  have g28 := PySem.W.mg_of X G a28
  have g29 := PySem.W.mg_of X G a29
  have g30 := PySem.W.mg_of X G a30
  have g31 := PySem.W.mg_of X G a31
  have g32 := PySem.W.mg_of X G a32
  have g33 := PySem.W.mg_of X G a33
  have g34 := PySem.W.mg_of X G a34
  have g35 := PySem.W.mg_of X G a35
  have g36 := PySem.W.mg_of X G a36
  have g37 := PySem.W.mg_of X G a37
  have g38 := PySem.W.mg_of X G a38
  have g39 := PySem.W.mg_of X G a39
  have g40 := PySem.W.mg_of X G a40
  have g41 := PySem.W.mg_of X G a41
  have g42 := PySem.W.mg_of X G a42
  have g43 := PySem.W.mg_of X G a43
  have g44 := PySem.W.mg_of X G a44
  have g45 := PySem.W.mg_of X G a45
  have g46 := PySem.W.mg_of X G a46
  have g47 := PySem.W.mg_of X G a47
  have g48 := PySem.W.mg_of X G a48
  have gC1 := PySem.W.mg_of X G aC1
  have gC2 := PySem.W.mg_of X G aC2
  have m_range := PySem.W.mg_none_of X G z_range
  have m_len := PySem.W.mg_none_of X G z_len
  have m_max := PySem.W.mg_none_of X G z_max
  have m_min := PySem.W.mg_none_of X G z_min
  have m_int := PySem.W.mg_none_of X G z_int
  have m_list := PySem.W.mg_none_of X G z_list
  have m_tuple := PySem.W.mg_none_of X G z_tuple
  have m_zip := PySem.W.mg_none_of X G z_zip
  have m_sorted := PySem.W.mg_none_of X G z_sorted
  have m_set := PySem.W.mg_none_of X G z_set
  have m_enumerate := PySem.W.mg_none_of X G z_enumerate
  have m_isinstance := PySem.W.mg_none_of X G z_isinstance
  have m_sum := PySem.W.mg_none_of X G z_sum
  have g_SPAN := PySem.W.mg_of X G v_SPAN
  have g_WRITERS := PySem.W.mg_of X G v_WRITERS
  have g_READERS := PySem.W.mg_of X G v_READERS
  have g_BEGIN := PySem.W.mg_of X G v_BEGIN
  have g_WAYS := PySem.W.mg_of X G v_WAYS
  refine ⟨PySem.W.fnOf "law" "law" (defArgs sLaw) (defBody sLaw) (defScope sLaw) .none kV49 dc49 pm49 an49 cd49 ct49, [(cc39, PT39)], (spLaw K PT39), ?_, ?_, ?_, fun s v => .of_eq rfl, ?_, fun base _ _ TBs => ?_⟩
  · exact (fun p mem => by
      obtain rfl := List.mem_singleton.mp mem
      exact tb39)
  · exact (fun p mem => by
      obtain rfl := List.mem_singleton.mp mem
      exact nP39)
  · exact (fun p mem => by
      obtain rfl := List.mem_singleton.mp mem
      exact ⟨_, vv39, fi39, tf39, fl39, tg39, inF39, te39, tx39, X _ _ lc39, rfl, rfl, v11_39, gd_at v11_39, v18_39, v7_39, v9_39, v10_39, ne39⟩)
  · intro H a ns hl _ hP hS
    exact ⟨a, ns, rfl, hS, Nat.le_trans hl (by decide), (fun r hr => by rw [List.mem_singleton.mp hr]; exact LamX.TabS.nil (hP (cc39, PT39) (.head _))), fun _ => rfl⟩
  have TB39 := TBs (cc39, PT39) (.head _)
  have T : TCol K C1 := ⟨⟨pgC1, hdC1, poC1, saC1⟩, fun n hn => by
    simp only [List.mem_cons, List.not_mem_nil, or_false] at hn
    rcases hn with rfl | rfl | rfl | rfl | rfl
    · exact noC1_guide
    · exact noC1_way
    · exact noC1_bits
    · exact noC1_many
    · exact noC1_passed⟩
  have TI : TInC K C1 := ⟨ccC1, hnC, htC, moC1, ktC1⟩
  have hW : ∀ H, SqT K H WT wayV := fun H => .inr ⟨_, itT, nT, lT, cT_, rfl, nT_, vT⟩
  have hB : ∀ H, SqT K H BG (mkV (0, 0, none)) := fun H => .inr ⟨_, itB, nB, lB, cB_, rfl, nB_, vB⟩
  have PL : ∀ j, Cal l.prog w K mg base (j + 1) "plain" ["number", "width"] spPl := fun j => ⟨f13, _, ok_pl F13, g13, k13, b13⟩
  have TU : ∀ j, Cal l.prog w K mg base (j + 1) "turned" ["number"] spTu := fun j => ⟨f14, _, ok_tu F14, g14, k14, b14⟩
  have BA : ∀ j, Cal l.prog w K mg base (j + 1) "back" ["number"] spBa := fun j => ⟨f15, _, ok_ba F15, g15, k15, b15⟩
  have OW : ∀ j, Cal l.prog w K mg base (j + 1) "own" ["number"] spOw := fun j => ⟨f16, _, ok_ow F16 m_len, g16, k16, b16⟩
  have RO : ∀ j, Cal l.prog w K mg base (j + 1) "read_own" ["bits", "at"] (spRO K) := fun j => ⟨f17, _, ok_ro F17 m_len m_int, g17, k17, b17⟩
  have OC : ∀ j, Cal l.prog w K mg base (j + 2) "own_codes" ["numbers"] (spTxt 80 360 cds) := fun j => ⟨f18, _, ok_oc (k := j + 1) F18 (OW j) (TU j), g18, k18, b18⟩
  have SO : ∀ j, Cal l.prog w K mg base (j + 1) "steps_of" ["numbers"] (spNew 80 360 stp) := fun j => ⟨f19, _, ok_so F19 m_zip, g19, k19, b19⟩
  have RU : ∀ j, Cal l.prog w K mg base (j + 1) "runs_of" ["numbers"] spRu := fun j => ⟨f20, _, ok_ru F20, g20, k20, b20⟩
  have XP : ∀ j, FnOk l.prog w K mg base CX0 (j + 3) f21 _ ["numbers"] (spWr encP) := fun j => ok_wp (k := j + 2) F21 (PL (j + 1)) (OW (j + 1)) (TU (j + 1)) m_min m_max
  have XS : ∀ j, FnOk l.prog w K mg base CX0 (j + 3) f22 _ ["numbers"] (spWr (enc .steps)) := fun j => ok_ws (k := j + 2) F22 (OC j) (SO (j + 1))
  have XT : ∀ j, FnOk l.prog w K mg base CX0 (j + 3) f23 _ ["numbers"] (spWr (enc .turns)) := fun j => ok_wt (k := j + 2) F23 (OC j) (SO (j + 1))
  have XR : ∀ j, FnOk l.prog w K mg base CX0 (j + 3) f24 _ ["numbers"] (spWr (enc .runs)) := fun j => ok_wr (k := j + 2) F24 (RU (j + 1)) (OW (j + 1)) (TU (j + 1))
  have XB : ∀ j, FnOk l.prog w K mg base CX0 (j + 3) f25 _ ["numbers"] (spWr encB) := fun j => ok_wb (k := j + 2) F25 (PL (j + 1)) (OW (j + 1)) (TU (j + 1)) m_sorted m_set m_enumerate m_len m_zip
  have WR : ∀ j, Wrs l.prog w K mg base (j + 3) WD := fun j => ⟨fun y => match y with | .plain => f21 | .by .steps => f22 | .by .turns => f23 | .by .runs => f24 | .book => f25,
    fun y => match y with | .plain => ⟨_, _, XP j, k21, b21⟩ | .by .steps => ⟨_, _, XS j, k22, b22⟩ | .by .turns => ⟨_, _, XT j, k23, b23⟩ | .by .runs => ⟨_, _, XR j, k24, b24⟩ | .book => ⟨_, _, XB j, k25, b25⟩,
    fun y => match y with | .plain => ⟨esW, nW, _, lWD, tWD, w_plain, rfl⟩ | .by .steps => ⟨esW, nW, _, lWD, tWD, w_steps, rfl⟩ | .by .turns => ⟨esW, nW, _, lWD, tWD, w_turns, rfl⟩ | .by .runs => ⟨esW, nW, _, lWD, tWD, w_runs, rfl⟩ | .book => ⟨esW, nW, _, lWD, tWD, w_book, rfl⟩⟩
  have BB : ∀ j, Cal l.prog w K mg base (j + 4) "bits_by" ["numbers", "way"] spBB := fun j => ⟨f26, _, ok_bb (k := j + 3) F26 (WR j) g_WRITERS m_list, g26, k26, b26⟩
  have SB : ∀ j, Cal l.prog w K mg base (j + 5) "size_by" ["numbers", "way"] spSB := fun j => ⟨f27, _, ok_sb (k := j + 4) F27 (BB j) m_len, g27, k27, b27⟩
  have YS : ∀ j, FnOk l.prog w K mg base CX0 (j + 2) f28 _ ["bits", "mark", "room"] (spRd K .steps) := fun j => ok_rs (k := j + 1) F28 (RO j) (BA j)
  have YT : ∀ j, FnOk l.prog w K mg base CX0 (j + 2) f29 _ ["bits", "mark", "room"] (spRd K .turns) := fun j => ok_rt (k := j + 1) F29 (RO j) (BA j)
  have YR : ∀ j, FnOk l.prog w K mg base CX0 (j + 2) f30 _ ["bits", "mark", "room"] (spRd K .runs) := fun j => ok_rr (k := j + 1) F30 (RO j) (BA j)
  have RDs : ∀ j, Rds l.prog w K mg base (j + 2) RD := fun j => ⟨fun W => match W with | .steps => f28 | .turns => f29 | .runs => f30,
    fun W => match W with | .steps => ⟨_, _, YS j, k28, b28⟩ | .turns => ⟨_, _, YT j, k29, b29⟩ | .runs => ⟨_, _, YR j, k30, b30⟩,
    fun W => match W with | .steps => ⟨esR, nR, _, lRD, tRD, r_steps, rfl⟩ | .turns => ⟨esR, nR, _, lRD, tRD, r_turns, rfl⟩ | .runs => ⟨esR, nR, _, lRD, tRD, r_runs, rfl⟩⟩
  have has : ∀ y : Wy, KHas K w RD y.nm y.walks := fun y => match y with | .plain => ⟨esR, nR, lRD, tRD, sRD, _, r_plain, rfl⟩ | .book => ⟨esR, nR, lRD, tRD, sRD, _, r_book, rfl⟩ | .by .steps => ⟨esR, nR, lRD, tRD, sRD, _, r_steps, rfl⟩ | .by .turns => ⟨esR, nR, lRD, tRD, sRD, _, r_turns, rfl⟩ | .by .runs => ⟨esR, nR, lRD, tRD, sRD, _, r_runs, rfl⟩
  have MB : ∀ j, Cal l.prog w K mg base (j + 3) "marks_by" ["way", "bits", "many"] (spMB K) := fun j => ⟨f31, _, ok_mb (k := j + 2) F31 (RDs j) g_READERS g_BEGIN hB g_SPAN m_range m_len, g31, k31, b31⟩
  have CC : ∀ j, Cal l.prog w K mg base (j + 1) "check_codes" ["bits", "at", "width", "many"] spCC := fun j => ⟨f32, _, ok_cc F32 m_len, g32, k32, b32⟩
  have RC : ∀ j, Cal l.prog w K mg base (j + 1) "read_codes" ["bits", "at", "width", "many"] spRC := fun j => ⟨f33, _, ok_rc F33 m_len m_min m_range m_int, g33, k33, b33⟩
  have PH : ∀ j, Cal l.prog w K mg base (j + 2) "plain_head" ["bits", "many"] spPH := fun j => ⟨f34, _, ok_ph (k := j + 1) F34 (RO j) (BA j) (CC j), g34, k34, b34⟩
  have BH : ∀ j, Cal l.prog w K mg base (j + 2) "book_head" ["bits", "many"] spBH := fun j => ⟨f35, _, ok_bh (k := j + 1) F35 (RO j) (BA j) (CC j) (RC j) m_len m_enumerate, g35, k35, b35⟩
  have GO : ∀ j, Cal l.prog w K mg base (j + 4) "guide_of" ["way", "bits", "many"] (spGO K) := fun j => ⟨f36, _, ok_go (k := j + 3) F36 (PH (j + 1)) (BH (j + 1)) (MB j), g36, k36, b36⟩
  have WI : ∀ j, Cal l.prog w K mg base (j + 3) "walked_in" ["column", "start", "end"] (spWI K C1) := fun j => ⟨f38, _, ok_wi (k := j + 2) F38 T (RDs j) g_READERS g_SPAN m_range, g38, k38, b38⟩
  have NI : ∀ j, Cal l.prog w K mg base (j + 4) "numbers_in" ["column", "start", "end"] (spNI K C1) := fun j => ⟨f37, _, ok_ni (k := j + 3) F37 T has g_READERS (WI j) (RC (j + 2)), g37, k37, b37⟩
  have KC : ∀ j, CalC l.prog w K mg base (j + 5) "Column" C1 ["self", "way", "bits", "many"] (spCI K C1) := fun j => ⟨f1, _, ok_ci (k := j + 4) F1 T (GO j), gC1, ⟨mkC1, a1, i1, kcC1⟩, b1⟩
  have CU : ∀ j, CalM l.prog w K mg base (j + 5) C1 "unpacked" ["self"] (spCU K C1) := fun j => ⟨f3, _, ok_cu (k := j + 4) F3 T (NI j), ⟨a3, i3, k3⟩, b3⟩
  have kW : KTup K WT wayV := ⟨_, itT, nT, lT, cT_, rfl, nT_, vT⟩
  have OP : ∀ j, FnOk l.prog w K mg base CX0 (j + 8) f39 _ ["numbers", "way"] (spPk K C1 PT39) := fun j => ok_pk (k := j + 5) FC39 TB39 (BB (j + 1)) (SB j) (KC (j + 1)) g_WAYS kW m_len m_min
  obtain ⟨dsP, vP, bP⟩ := kd_pk FD39
  have PD : ∀ j, CalD l.prog w K mg base (j + 8) "pack" ["numbers", "way"] [.non] (spPk K C1 PT39) := fun j => ⟨f39, _, dsP, OP j, g39, k39, vP, bP⟩
  have LKD : ∀ j, CalM l.prog w K mg base (j + 1) C1 "looked" ["self"] (spLkd9 C1) := fun j => ⟨f4, _, ok_lkd9 F4 T, ⟨a4, i4, k4⟩, b4⟩
  have CE : CEq l.prog w K mg base C1 f2 _ 8 := ⟨ok_ce (k := 7) F2 T TI gC1 m_isinstance, a2, i2, b2⟩
  have TB2 : TBl K C2 := ⟨⟨pgC2, hdC2, poC2, saC2⟩, noC2_kept, noC2_weight⟩
  have TI2 : TInC K C2 := ⟨ccF, hnF, htF, hmF, kitF⟩
  have okF : PySem.W.nsOkIn K NF = true := by
    unfold PySem.W.nsOkIn
    rw [lNF]
    dsimp only
    rw [← Array.all_toList]
    exact okE
  have NE : NeC K C2 f6 := ⟨⟨nmF, qF, NF, bsF, hdF, snF, subF, abF, colF, ddF, v0F, v1F, v2F, v3F, v5F, idF, xF, okF, eqF, neF⟩, _, l6, ocE⟩
  have BL : BLen l.prog w K mg base C2 f7 _ 7 := ⟨ok_bl (k := 6) F7 TB2 m_len, a7, i7, b7⟩
  have Z : BlC l.prog w K mg base C2 f6 _ 8 := ⟨ok_be (k := 7) F6 TB2 TI2 gC2 m_isinstance, a6, i6, b6, NE, nfo, nfd, ktd⟩
  obtain ⟨dsB, vB_, bB⟩ := kd_bi FD5
  have BM : BMk l.prog w K mg base 9 C2 := ⟨f5, _, dsB, ok_bi (k := 7) FD5 TB2 BL m_len m_sorted m_tuple, gC2, ⟨mkC2, a5, i5, kcC2⟩, vB_, bB, kn_bi1 F5, kn_bi2 F5, kn_bi3 F5⟩
  have PLC : ∀ j, CalM l.prog w K mg base (j + 1) C2 "places" ["self"] (spBP K C2) := fun j => ⟨f8, _, ok_bp F8 TB2 m_list, ⟨a8, i8, k8⟩, b8⟩
  have RAT : ∀ j, CalM l.prog w K mg base (j + 1) C2 "rows_at" ["self", "place"] (spBAt K C2) := fun j => ⟨f10, _, ok_bat F10 TB2 m_list, ⟨a10, i10, k10⟩, b10⟩
  have ORI : ∀ j, FnOk l.prog w K mg base CX0 (j + 2) f11 _ ["self", "place", "start", "end"] (spBR K C2) := fun j => ok_br (k := j + 1) F11 TB2 (RAT j)
  have RIN : ∀ j, CalM l.prog w K mg base (j + 2) C2 "rows_in" ["self", "place", "start", "end"] (spBR K C2) := fun j => ⟨f11, _, ORI j, ⟨a11, i11, k11⟩, b11⟩
  have RIK : ∀ j, CalMK l.prog w K mg base (j + 2) C2 "rows_in" ["self", "place", "start", "end"] ["end", "place", "start"] [1, 2, 0] (spBR K C2) := fun j => ⟨f11, _, ORI j, ⟨a11, i11, k11⟩, kn_br F11⟩
  have EXT : ∀ j, CalM l.prog w K mg base (j + 1) C2 "extents" ["self"] (spBX K C2) := fun j => ⟨f12, _, ok_bx F12 TB2 m_min m_max, ⟨a12, i12, k12⟩, b12⟩
  have OCO : ∀ j, FnOk l.prog w K mg base CX0 (j + 9) f9 _ ["self", "place"] (spBC K C2 C1 PT39) := fun j => ok_bc (k := j + 8) F9 TB2 (PD j)
  have COL : ∀ j, CalM l.prog w K mg base (j + 9) C2 "columns_of" ["self", "place"] (spBC K C2 C1 PT39) := fun j => ⟨f9, _, OCO j, ⟨a9, i9, k9⟩, b9⟩
  have COK : ∀ j, CalMK l.prog w K mg base (j + 9) C2 "columns_of" ["self", "place"] ["place"] [0] (spBC K C2 C1 PT39) := fun j => ⟨f9, _, OCO j, ⟨a9, i9, k9⟩, kn_bc F9⟩
  have DR_ : ∀ j, Cal l.prog w K mg base (j + 1) "_law_draws" ["_law_cell"] spDraws := fun j => ⟨f40, _, ok_draws F40 m_range, g40, k40, b40⟩
  have NX : ∀ j, Cal l.prog w K mg base (j + 1) "_law_next" ["_law_draws_here"] spNext := fun j => ⟨f41, _, ok_next F41, g41, k41, b41⟩
  have RW : ∀ j, Cal l.prog w K mg base (j + 2) "_law_rows" ["_law_draws_here", "_law_most"] (spRows K) := fun j => ⟨f42, _, ok_rows (k := j + 1) F42 (NX j) m_range m_sorted m_set, g42, k42, b42⟩
  have TBL : ∀ j, Cal l.prog w K mg base (j + 3) "_law_table" ["_law_draws_here", "_law_most"] (spTb K) := fun j => ⟨f43, _, ok_tb (k := j + 2) F43 (NX (j + 1)) (RW j) m_range, g43, k43, b43⟩
  have CRT : Cal l.prog w K mg base 10 "_law_columns_right" ["_law_block", "_law_a_place", "_law_a_rows"] (spCR9 K C2 PT39) := ⟨f44, _, ok_cr9 (k := 9) F44 TB2 T CE (by decide) (PD 1) (RIN 7) (COL 0) (COK 0) (LKD 8) (CU 4) m_int m_list m_tuple m_isinstance, g44, k44, b44⟩
  have RRT : Cal l.prog w K mg base 10 "_law_rows_right" ["_law_draws_here", "_law_block", "_law_table_here"] (spRI9 K C2) := ⟨f45, _, ok_ri9 (k := 9) F45 TB2 (NX 8) (RIN 7) (RIK 7) m_list m_sorted m_range m_isinstance, g45, k45, b45⟩
  have XTT : Cal l.prog w K mg base 10 "_law_extents" ["_law_table_here"] (spXt K) := ⟨f46, _, ok_xt (k := 9) F46 m_min m_max, g46, k46, b46⟩
  have OTH : Cal l.prog w K mg base 10 "_law_other" ["_law_draws_here", "_law_table_here"] (spOt K) := ⟨f47, _, ok_ot (k := 9) F47 (NX 8) m_list m_len m_sorted, g47, k47, b47⟩
  have RT_ : Cal l.prog w K mg base 11 "_law_right" ["_law_draws_here"] (spRt9 K PT39) := ⟨f48, _, ok_rt9 (k := 10) F48 TB2 TI2 Z (by decide) BM (by decide) BL (by decide) (NX 9) (TBL 7) OTH RRT XTT CRT (PLC 9) (EXT 9) m_len m_int m_sorted m_list m_sum, g48, k48, b48⟩
  exact ok_law (k := 11) F49 (DR_ 10) RT_
end Tg
open PySem PySem.W PyProof.Rows
set_option maxRecDepth 100000 in
set_option maxHeartbeats 0 in
theorem PySem.Challenge.cw_timegranary_k29_blocks_holds : PySem.Challenge.rw_timegranary_k29_blocks.Holds := by
  w_on; o_law; k_head; (case hw => w_witness2)
  k_fill
  refine LamX.walk_ofTs (l := PySem.Challenge.rw_timegranary_k29_blocks) (n := 63) (k := 12) (x := "_law_script") (CX := fun _ => L2.CX0) rfl (by decide) rfl ⟨rfl, by decide, by decide⟩ (fun w h Y => PySem.W.km_in_of Y) ?F (fun _ _ _ _ _ h => h)
  case F =>
    intro w mg fa h Y KX G hmg
    refine' Tg.all_mk KX G hmg ?aC1 ?pgC1 ?hdC1 ?poC1 ?saC1 ?mkC1 ?kcC1 ?noC1_guide ?noC1_way ?noC1_bits ?noC1_many ?noC1_passed ?aC2 ?pgC2 ?hdC2 ?poC2 ?saC2 ?mkC2 ?kcC2 ?noC2_kept ?noC2_weight ?a1 ?i1 ?l1 ?c1 ?k1 ?a2 ?i2 ?l2 ?c2 ?k2 ?a3 ?i3 ?l3 ?c3 ?k3 ?a4 ?i4 ?l4 ?c4 ?k4 ?a5 ?i5 ?l5 ?d_weight ?c5 ?k5 ?a6 ?i6 ?l6 ?c6 ?k6 ?a7 ?i7 ?l7 ?c7 ?k7 ?a8 ?i8 ?l8 ?c8 ?k8 ?a9 ?i9 ?l9 ?c9 ?k9 ?a10 ?i10 ?l10 ?c10 ?k10 ?a11 ?i11 ?l11 ?c11 ?k11 ?a12 ?i12 ?l12 ?c12 ?k12 ?a13 ?l13 ?c13 ?k13 ?a14 ?l14 ?c14 ?k14 ?a15 ?l15 ?c15 ?k15 ?a16 ?l16 ?c16 ?k16 ?a17 ?l17 ?c17 ?k17 ?a18 ?l18 ?c18 ?k18 ?a19 ?l19 ?c19 ?k19 ?a20 ?l20 ?c20 ?k20 ?a21 ?l21 ?c21 ?k21 ?a22 ?l22 ?c22 ?k22 ?a23 ?l23 ?c23 ?k23 ?a24 ?l24 ?c24 ?k24 ?a25 ?l25 ?c25 ?k25 ?a26 ?l26 ?c26 ?k26 ?a27 ?l27 ?c27 ?k27 ?a28 ?l28 ?c28 ?k28 ?a29 ?l29 ?c29 ?k29 ?a30 ?l30 ?c30 ?k30 ?a31 ?l31 ?c31 ?k31 ?a32 ?l32 ?c32 ?k32 ?a33 ?l33 ?c33 ?k33 ?a34 ?l34 ?c34 ?k34 ?a35 ?l35 ?c35 ?k35 ?a36 ?l36 ?c36 ?k36 ?a37 ?l37 ?c37 ?k37 ?a38 ?l38 ?c38 ?k38 ?a39 ?l39 ?d_way ?lc39 ?v11_39 ?v18_39 ?v7_39 ?v9_39 ?v10_39 ?ne39 ?nP39 ?tb39 ?c39 ?k39 ?a40 ?l40 ?c40 ?k40 ?a41 ?l41 ?c41 ?k41 ?a42 ?l42 ?c42 ?k42 ?a43 ?l43 ?c43 ?k43 ?a44 ?l44 ?c44 ?k44 ?a45 ?l45 ?c45 ?k45 ?a46 ?l46 ?c46 ?k46 ?a47 ?l47 ?c47 ?k47 ?a48 ?l48 ?c48 ?k48 ?a49 ?l49 ?c49 ?k49 ?z_range ?z_len ?z_max ?z_min ?z_int ?z_list ?z_tuple ?z_zip ?z_sorted ?z_set ?z_enumerate ?z_isinstance ?z_sum ?v_SPAN ?v_WRITERS ?v_READERS ?v_BEGIN ?v_WAYS ?lWD ?tWD ?lRD ?tRD ?sRD ?w_plain ?w_steps ?w_turns ?w_runs ?w_book ?r_steps ?r_turns ?r_runs ?r_plain ?r_book ?lT ?cT_ ?nT_ ?vT ?lB ?cB_ ?nB_ ?vB ?hnC ?htC ?ccC1 ?moC1 ?ktC1 ?xF ?lNF ?okE ?eqF ?neF ?ocE ?ccF ?hnF ?htF ?hmF ?kitF ?nfo ?nfd ?ktd
    (case aC1 => k_is); (case pgC1 => k_is); (case hdC1 => k_is); (case poC1 => k_is); (case saC1 => k_is); (case mkC1 => k_is)
    (case kcC1 => k_is); (case noC1_guide => k_is); (case noC1_way => k_is); (case noC1_bits => k_is); (case noC1_many => k_is); (case noC1_passed => k_is)
    (case aC2 => k_is); (case pgC2 => k_is); (case hdC2 => k_is); (case poC2 => k_is); (case saC2 => k_is); (case mkC2 => k_is)
    (case kcC2 => k_is); (case noC2_kept => k_is); (case noC2_weight => k_is); (case a1 => k_is); (case i1 => k_is); (case l1 => k_is)
    (case c1 => k_is); (case k1 => k_is); (case a2 => k_is); (case i2 => k_is); (case l2 => k_is); (case c2 => k_is)
    (case k2 => k_is); (case a3 => k_is); (case i3 => k_is); (case l3 => k_is); (case c3 => k_is); (case k3 => k_is)
    (case a4 => k_is); (case i4 => k_is); (case l4 => k_is); (case c4 => k_is); (case k4 => k_is); (case a5 => k_is)
    (case i5 => k_is); (case l5 => k_is); (case d_weight => k_is); (case c5 => k_is); (case k5 => k_is); (case a6 => k_is); (case i6 => k_is)
    (case l6 => k_is); (case c6 => k_is); (case k6 => k_is); (case a7 => k_is); (case i7 => k_is); (case l7 => k_is)
    (case c7 => k_is); (case k7 => k_is); (case a8 => k_is); (case i8 => k_is); (case l8 => k_is); (case c8 => k_is)
    (case k8 => k_is); (case a9 => k_is); (case i9 => k_is); (case l9 => k_is); (case c9 => k_is); (case k9 => k_is)
    (case a10 => k_is); (case i10 => k_is); (case l10 => k_is); (case c10 => k_is); (case k10 => k_is); (case a11 => k_is)
    (case i11 => k_is); (case l11 => k_is); (case c11 => k_is); (case k11 => k_is); (case a12 => k_is); (case i12 => k_is)
    (case l12 => k_is); (case c12 => k_is); (case k12 => k_is); (case a13 => k_is); (case l13 => k_is); (case c13 => k_is)
    (case k13 => k_is); (case a14 => k_is); (case l14 => k_is); (case c14 => k_is); (case k14 => k_is); (case a15 => k_is)
    (case l15 => k_is); (case c15 => k_is); (case k15 => k_is); (case a16 => k_is); (case l16 => k_is); (case c16 => k_is)
    (case k16 => k_is); (case a17 => k_is); (case l17 => k_is); (case c17 => k_is); (case k17 => k_is); (case a18 => k_is)
    (case l18 => k_is); (case c18 => k_is); (case k18 => k_is); (case a19 => k_is); (case l19 => k_is); (case c19 => k_is)
    (case k19 => k_is); (case a20 => k_is); (case l20 => k_is); (case c20 => k_is); (case k20 => k_is); (case a21 => k_is)
    (case l21 => k_is); (case c21 => k_is); (case k21 => k_is); (case a22 => k_is); (case l22 => k_is); (case c22 => k_is)
    (case k22 => k_is); (case a23 => k_is); (case l23 => k_is); (case c23 => k_is); (case k23 => k_is); (case a24 => k_is)
    (case l24 => k_is); (case c24 => k_is); (case k24 => k_is); (case a25 => k_is); (case l25 => k_is); (case c25 => k_is)
    (case k25 => k_is); (case a26 => k_is); (case l26 => k_is); (case c26 => k_is); (case k26 => k_is); (case a27 => k_is)
    (case l27 => k_is); (case c27 => k_is); (case k27 => k_is); (case a28 => k_is); (case l28 => k_is); (case c28 => k_is)
    (case k28 => k_is); (case a29 => k_is); (case l29 => k_is); (case c29 => k_is); (case k29 => k_is); (case a30 => k_is)
    (case l30 => k_is); (case c30 => k_is); (case k30 => k_is); (case a31 => k_is); (case l31 => k_is); (case c31 => k_is)
    (case k31 => k_is); (case a32 => k_is); (case l32 => k_is); (case c32 => k_is); (case k32 => k_is); (case a33 => k_is)
    (case l33 => k_is); (case c33 => k_is); (case k33 => k_is); (case a34 => k_is); (case l34 => k_is); (case c34 => k_is)
    (case k34 => k_is); (case a35 => k_is); (case l35 => k_is); (case c35 => k_is); (case k35 => k_is); (case a36 => k_is)
    (case l36 => k_is); (case c36 => k_is); (case k36 => k_is); (case a37 => k_is); (case l37 => k_is); (case c37 => k_is)
    (case k37 => k_is); (case a38 => k_is); (case l38 => k_is); (case c38 => k_is); (case k38 => k_is); (case a39 => k_is)
    (case l39 => k_is); (case d_way => k_is); (case lc39 => k_is); (case v11_39 => rfl); (case v18_39 => rfl); (case v7_39 => rfl); (case v9_39 => rfl); (case v10_39 => rfl); (case ne39 => decide); (case nP39 => first | k_is | rfl); (case tb39 => exact PySem.W.km_tabs_of Y _ (by decide)); (case c39 => k_is); (case k39 => k_is); (case a40 => k_is); (case l40 => k_is); (case c40 => k_is)
    (case k40 => k_is); (case a41 => k_is); (case l41 => k_is); (case c41 => k_is); (case k41 => k_is); (case a42 => k_is)
    (case l42 => k_is); (case c42 => k_is); (case k42 => k_is); (case a43 => k_is); (case l43 => k_is); (case c43 => k_is)
    (case k43 => k_is); (case a44 => k_is); (case l44 => k_is); (case c44 => k_is); (case k44 => k_is); (case a45 => k_is)
    (case l45 => k_is); (case c45 => k_is); (case k45 => k_is); (case a46 => k_is); (case l46 => k_is); (case c46 => k_is)
    (case k46 => k_is); (case a47 => k_is); (case l47 => k_is); (case c47 => k_is); (case k47 => k_is); (case a48 => k_is)
    (case l48 => k_is); (case c48 => k_is); (case k48 => k_is); (case a49 => k_is); (case l49 => k_is); (case c49 => k_is)
    (case k49 => k_is); (case z_range => k_is); (case z_len => k_is); (case z_max => k_is); (case z_min => k_is); (case z_int => k_is)
    (case z_list => k_is); (case z_tuple => k_is); (case z_zip => k_is); (case z_sorted => k_is); (case z_set => k_is); (case z_enumerate => k_is)
    (case z_isinstance => k_is); (case z_sum => k_is); (case v_SPAN => k_is); (case v_WRITERS => k_is); (case v_READERS => k_is); (case v_BEGIN => k_is)
    (case v_WAYS => k_is); (case lWD => k_is); (case tWD => exact ⟨⟨_, _, rfl, rfl⟩, ⟨⟨_, _, rfl, rfl⟩, ⟨⟨_, _, rfl, rfl⟩, ⟨⟨_, _, rfl, rfl⟩, ⟨⟨_, _, rfl, rfl⟩, trivial⟩⟩⟩⟩⟩); (case lRD => k_is); (case tRD => exact ⟨⟨_, _, rfl, rfl⟩, ⟨⟨_, _, rfl, rfl⟩, ⟨⟨_, _, rfl, rfl⟩, trivial⟩⟩⟩); (case sRD => first | rfl | decide +kernel)
    (case w_plain => k_is); (case w_steps => k_is); (case w_turns => k_is); (case w_runs => k_is); (case w_book => k_is); (case r_steps => k_is)
    (case r_turns => k_is); (case r_runs => k_is); (case r_plain => k_is); (case r_book => k_is); (case lT => k_is); (case cT_ => rfl)
    (case nT_ => decide +kernel); (case vT => exact .cons ⟨_, rfl⟩ (.cons ⟨_, rfl⟩ (.cons ⟨_, rfl⟩ (.cons ⟨_, rfl⟩ (.cons ⟨_, rfl⟩ .nil))))); (case lB => k_is); (case cB_ => rfl); (case nB_ => decide +kernel); (case vB => exact .cons ⟨_, rfl⟩ (.cons ⟨_, rfl⟩ (.cons rfl .nil)))
    (case hnC => k_is); (case htC => k_is); (case ccC1 => k_is); (case moC1 => k_is); (case ktC1 => first | k_is | rfl); (case xF => k_is)
    (case lNF => k_is); (case okE => rfl); (case eqF => k_is); (case neF => k_is); (case ocE => rfl); (case ccF => k_is)
    (case hnF => k_is); (case htF => k_is); (case hmF => k_is); (case kitF => first | k_is | rfl); (case nfo => first | k_is | rfl); (case nfd => first | k_is | rfl)
    (case ktd => first | k_is | rfl)

