import PyProof.Rows.All
import Wide.All
import OpenK.AllK
import Wide.FinOn
import HandS.ForMost
import HandS.Conv
import HandS.Wide
import HandS.IsInst
import HandS.Defaults
import HandS.Iter
import HandS.Walk
import HandS.FStr
import HandS.IntHex
import PyProof.FString3
import PyProof.Rows.StrIntSpec
import HandS.Codes
import HandS.StrMore
import PyProof.StrLawsFrom
import HandS.Dict
import HandS.More
import HandS.SortOrd
import HandS.SortInts
import KE.KDictSum
import PyProof.TupleOfSeq
import HandS.SetFor
import HandS.Strs
import HandS.DictComp
import HandS.Comp
import HandS.List
import KE.KRevSl
import HandS.Deep
import PyProof.Rows.RuleB_pow
import PySem.Challenge.RW_timegranary_k36_whole_no_plan_costs_less
import HandS.WordsDict
import HandS.Exc
import HandS.ExcInit
import HandS.ExcIs
import HandS.ExcField
import HandS.ExcValue
import KE.KExcIs
import KE.KTryMore
import HandS.WordsExc
import HandS.ExcOwn
import KE.DatumOrd
import PyProof.Rows.CallKwBuiltin
import HandS.OwnEq
import PyProof.InstNe
import OpenK.KOwn
import HandS.MakeKwOnly
import HandS.CallLocal
import HandS.TupAny
import HandS.Style
set_option Elab.async false
set_option linter.all false
set_option maxRecDepth 100000
namespace Tg
open PySem PySem.Spec PyProof.Rows L2

/-! ### rules of my own: a call by keywords alone; list(range(a, b, c)) -/
section
variable {X : Cx} {CX : CXT} {k : Nat} {f : Addr} {fd : FuncData} {ps ks : List Str} {sp : Sp} {E : XK} {x : Str} {p pos : Pos} {kws : List Keyword} {tk : TA}
  {g : List Value → List Value → List Value} {gV : List V → List V → List V}
def tKw0 (n : Nat) (sp : Sp) (gV : List V → List V → List V) (E : XK) (tk : TA) : TE :=
  fun σ H Q => tk σ H fun zs H2 => zs.length = n ∧ sp (gV [] zs) H2 Q E
theorem pe_kw0 (F : FnOk X.prog X.w X.K X.mg X.base CX k f fd ps sp) (room : Room k X.A) (gl : Gl X x) (at_x : X.mg x = some (.ref f)) (kept : PySem.W.keepIn X.K (.ref f) = true) (binds : KBn X.K fd ps 0 ks g gV) (lets : Passes CX X E) (vals : PK X kws tk)
    (named : (backToKw pos (keywordEach kws X.env)).all (·.1.isSome) = true := by rfl) (names : (backToKw pos (keywordEach kws X.env)).filterMap (·.1) = ks := by rfl) (nodebug : (x == ("__debug__" : Str)) = false := by decide)
    (nostar : ((backTo pos (starEach [] X.env)).any (·.1) || (backToKw pos (keywordEach kws X.env)).any (·.1.isNone)) = false := by rfl) : PE X (.Call (.Name x p) [] kws pos) (tKw0 ks.length sp gV E tk) := by
  constructor
  intro pins s σ H Q I read
  refine wpAny_Call_Name_kw (ld_glob I gl at_x (PySem.W.callWith_KW0 (h₀ := X.base) I.ok.mod.kin kept named (thn (vals.run pos pins s σ H _ I read) fun ws s2 y => ?_) nostar) nodebug)
  obtain ⟨zs, H2, J, rel, many, h⟩ := y
  rw [names]
  exact ⟨J.kIn, run_fnN (us := []) (vs := []) F room binds lets J .nil rel rfl many h⟩
end

/-- two keywords, the second parameter's first -/
def sw2 {α : Type} : List α → List α
  | [y, x] => [x, y]
  | _ => []
/-- three keywords, the parameters' from the last on -/
def sw3 {α : Type} : List α → List α
  | [z, y, x] => [x, y, z]
  | _ => []
theorem sw2_rel : ∀ {zs : List V} {ws : List Value}, Vals zs ws → Vals (sw2 zs) (sw2 ws)
  | _, _, .nil => .nil
  | _, _, .cons _ .nil => .nil
  | _, _, .cons a (.cons b .nil) => .cons b (.cons a .nil)
  | _, _, .cons _ (.cons _ (.cons _ _)) => .nil
theorem sw3_rel : ∀ {zs : List V} {ws : List Value}, Vals zs ws → Vals (sw3 zs) (sw3 ws)
  | _, _, .nil => .nil
  | _, _, .cons _ .nil => .nil
  | _, _, .cons _ (.cons _ .nil) => .nil
  | _, _, .cons a (.cons b (.cons c .nil)) => .cons c (.cons b (.cons a .nil))
  | _, _, .cons _ (.cons _ (.cons _ (.cons _ _))) => .nil

section
variable {X : Cx} {a b c : Expr} {ta : TA}
def rg3 (a c : Int) (n : Nat) : List V := (List.range n).map fun i => V.int (a + (i : Nat) * c)
theorem rg3_length (a c : Int) (n : Nat) : (rg3 a c n).length = n := by
  simp [rg3]
def R3 (a b c : Int) (n : Nat) : Prop :=
  c ≠ 0 ∧ c.natAbs.log2 < 9000 ∧ Builtin.Range.small a b c = true ∧ Builtin.Range.rangeSize a b c = n ∧ n ≤ 2 ^ 24
def tLst3 (ta : TA) : TE := fun σ H Q => ta σ H fun vs H1 => ∃ (a b c : Int) (n : Nat), vs = [.int a, .int b, .int c] ∧ R3 a b c n ∧
  ∀ q, H1 q = none → Q (.ref q) (upd H1 q (.lst (rg3 a c n)))
theorem pe_lst3 {p p2 pos pos2 : Pos} (calm : X.calm = true) (gl : Gl X "list") (nl : X.mg "list" = none) (gr : Gl X "range") (nr : X.mg "range" = none) (args : PA X [a, b, c] ta)
    (one : starEach [a, b, c] X.env = (false, eval a X.env) :: starEach [b, c] X.env := by rfl) (nostar : (backTo pos2 (starEach [b, c] X.env)).any (·.1) = false := by rfl)
    (whole : starEach [.Call (.Name "range" p2) [a, b, c] [] pos2] X.env = (false, eval (.Call (.Name "range" p2) [a, b, c] [] pos2) X.env) :: starEach [] X.env := by rfl) :
    PE X (.Call (.Name "list" p) [.Call (.Name "range" p2) [a, b, c] [] pos2] [] pos) (tLst3 ta) := by
  constructor
  intro pins s σ H Q I read
  refine Call_ (ld_blt I gl nl boot_list (PyProof.Rows.callWith_type1 (args_cons (Call_ (ld_blt I gr nr boot_range (PyProof.Rows.callWith_type1 (thn (args.run pos2 pins s σ H _ I read) fun us s1 y => ?_) one nostar))) whole) whole))
  obtain ⟨zs, H1, J, rel, i, j, k, n, e, ⟨c0, c1, c2, c3, c4⟩, h⟩ := y
  subst e
  match us, rel with
  | [_, _, _], .cons ⟨t, ei⟩ (.cons ⟨u, ej⟩ (.cons ⟨v, ek⟩ .nil)) =>
    subst ei
    subst ej
    subst ek
    refine call_range_3 c0 (args_nil ?_) (.inl (PyProof.noPylong_of_log2 c1))
    obtain ⟨hx, ehx⟩ : ∃ hx, hx = s1.heap.push { cls := .type "range", data := .fields #[.int i t, .int j u, .int k v] } := ⟨_, rfl⟩
    have J2 : Inv X pins σ H1 { s1 with heap := hx } := by
      rw [ehx]
      exact J.kept (t' := s1.toks) fun _ _ z => Heap.get?_push_of_some _ z
    rw [← ehx]
    refine call_list_range (s := { s1 with heap := hx }) (n := n) (J2.ok.hd calm) (by rw [ehx]; exact IsRange.new ..) c2 c3 c4 fun h' tk acc cc kp made items => ?_
    have len : acc.toList.length = n := Array.length_toList.trans items.1
    have vals : Vals (rg3 i k n) acc.toList := by
      have z := vals_of_get acc.toList (fun m : Nat => V.int (i + m * k)) fun m w hw => by
        obtain ⟨tw, ew⟩ := items.2 m w (by rw [← hw, Array.getElem?_toList])
        exact ⟨tw, ew⟩
      rw [len] at z
      exact z
    refine ⟨.ref hx.objs.size, upd H1 hx.objs.size (.lst (rg3 i k n)), J2.laid kp (Nat.le_refl _) (show ObjOk X.prog X.w _ _ _ (.lst (rg3 i k n)) from ⟨?_, acc.toList, cc, vals, ?_⟩), rfl, h _ (J2.hok.fresh (Nat.le_refl _))⟩
    · rw [rg3_length, sizeLine_eq]
      omega
    · rw [Array.toArray_toList]
      exact made
end

/-! ### lists of ints, compared -/
theorem dp_ints {K : PySem.W.Frag} {H : Hp} : ∀ ns : List Int, DpAll K H (ns.map V.int) (ns.map PyData.int)
  | [] => .nil
  | n :: r => .cons (.int n) (dp_ints r)
theorem lay_ints : ∀ ns : List Int, PyData.canLayAll0 (ns.map PyData.int) = true
  | [] => rfl
  | n :: r => by
    show (true && PyData.canLayAll0 (r.map PyData.int)) = true
    rw [lay_ints r]
    rfl
theorem depth_ints : ∀ ns : List Int, PyData.depthAll (ns.map PyData.int) = 0
  | [] => rfl
  | n :: r => by
    show max 0 (PyData.depthAll (r.map PyData.int)) = 0
    rw [depth_ints r]
    rfl
theorem shaped_ints (ns : List Int) : SeqAt.shaped (.list (ns.map PyData.int)) = true := by
  unfold SeqAt.shaped
  have h1 : PyData.canLay0 (.list (ns.map PyData.int)) = true := lay_ints ns
  have h2 : PyData.depth (.list (ns.map PyData.int)) = 1 := by
    show PyData.depthAll (ns.map PyData.int) + 1 = 1
    rw [depth_ints]
  rw [h1, h2]
  rfl
theorem eqv_ints : ∀ ns : List Int, PyData.eqvAll (ns.map PyData.int) (ns.map PyData.int) = true
  | [] => rfl
  | n :: r => by
    show ((n == n) && PyData.eqvAll (r.map PyData.int) (r.map PyData.int)) = true
    rw [eqv_ints r, beq_self_eq_true]
    rfl
theorem dp_lst {K : PySem.W.Frag} {H : Hp} {a : Addr} {ns : List Int} (h : SqL K H a (ns.map V.int)) : Dp K H (.ref a) (.list (ns.map PyData.int)) := .lst h (dp_ints ns)
end Tg

namespace Tg
open PySem PySem.Spec PyProof.Rows L2
/-! ### defs, methods and classes as a caller needs them -/
section
variable (P : Program) (w : World) (K : PySem.W.Frag) (mg : Str → Option Value) (base : Heap)
/-- the def x is there, and keeps sp by level k -/
def Cal (k : Nat) (x : Str) (ps : List Str) (sp : Sp) : Prop := ∃ f fd, FnOk P w K mg base CX0 k f fd ps sp ∧ mg x = some (.ref f) ∧ PySem.W.keepIn K (.ref f) = true ∧ Binds K fd ps []
/-- the places that is tells, out of a list -/
def prm {α : Type} (is : List Nat) (zs : List α) : List α := is.filterMap fun i => zs[i]?
/-- the same with keywords alone, ks in this order; is: the places of the parameters among them -/
def CalK (k : Nat) (x : Str) (ps ks : List Str) (is : List Nat) (sp : Sp) : Prop := ∃ f fd, FnOk P w K mg base CX0 k f fd ps sp ∧ mg x = some (.ref f) ∧ PySem.W.keepIn K (.ref f) = true ∧ KBn K fd ps 0 ks (fun _ ws => prm is ws) (fun _ zs => prm is zs)
/-- a method of the class C -/
def CalM (k : Nat) (C : Addr) (m : Str) (ps : List Str) (sp : Sp) : Prop := ∃ f fd, FnOk P w K mg base CX0 k f fd ps sp ∧ Meth K C m f ∧ Binds K fd ps []
def CalMK (k : Nat) (C : Addr) (m : Str) (ps ks : List Str) (is : List Nat) (sp : Sp) : Prop := ∃ f fd, FnOk P w K mg base CX0 k f fd ps sp ∧ Meth K C m f ∧ KBn K fd ps 1 ks (fun us ws => us ++ prm is ws) (fun vs zs => vs ++ prm is zs)
/-- a class, by its __init__ -/
def CalC (k : Nat) (x : Str) (C : Addr) (ps : List Str) (sp : Sp) : Prop := ∃ f fd, FnOk P w K mg base CX0 k f fd ps sp ∧ mg x = some (.ref C) ∧ Mk K C f ∧ Binds K fd ps []
end
theorem vals_at : ∀ {zs : List V} {ws : List Value}, Vals zs ws → ∀ i : Nat, (zs[i]? = none ∧ ws[i]? = none) ∨ ∃ z w, zs[i]? = some z ∧ ws[i]? = some w ∧ RelV z w
  | _, _, .nil, i => .inl ⟨by simp, by simp⟩
  | _, _, .cons a b, i => by
    cases i with
    | zero => exact .inr ⟨_, _, rfl, rfl, a⟩
    | succ i => exact vals_at b i
theorem prm_rel {zs : List V} {ws : List Value} (h : Vals zs ws) : ∀ is : List Nat, Vals (prm is zs) (prm is ws)
  | [] => .nil
  | i :: r => by
    have ih := prm_rel h r
    unfold prm at ih ⊢
    rcases vals_at h i with ⟨h1, h2⟩ | ⟨z, w, h1, h2, h3⟩
    · rw [List.filterMap_cons_none h1, List.filterMap_cons_none h2]
      exact ih
    · rw [List.filterMap_cons_some h1, List.filterMap_cons_some h2]
      exact .cons h3 ih
section
variable {X : Cx} {k : Nat} {ps ks : List Str} {is : List Nat} {sp : Sp} {x m : Str} {C : Addr} {o e : Expr} {es : List Expr} {p pos apos : Pos} {kws : List Keyword} {ta t tk : TA} {to : TE}
theorem pe_cal (c : Cal X.prog X.w X.K X.mg X.base k x ps sp) (hr : Room k X.A) (gl : Gl X x) (ha : PA X (e :: es) t) (hdb : (x == ("__debug__" : Str)) = false := by decide)
    (he : starEach (e :: es) X.env = (false, eval e X.env) :: starEach es X.env := by rfl) (hpl : (backTo pos (starEach es X.env)).any (·.1) = false := by rfl) : PE X (.Call (.Name x p) (e :: es) [] pos) (tCall sp [] E0 t) := by
  obtain ⟨f, fd, F, hm, hk, hb⟩ := c
  exact pe_call F hr gl hm hk hb .nil pass0 ha hdb he hpl
theorem pe_calK (c : CalK X.prog X.w X.K X.mg X.base k x ps ks is sp) (hr : Room k X.A) (gl : Gl X x) (vals : PK X kws tk)
    (named : (backToKw pos (keywordEach kws X.env)).all (·.1.isSome) = true := by rfl) (names : (backToKw pos (keywordEach kws X.env)).filterMap (·.1) = ks := by rfl) (nodebug : (x == ("__debug__" : Str)) = false := by decide)
    (nostar : ((backTo pos (starEach [] X.env)).any (·.1) || (backToKw pos (keywordEach kws X.env)).any (·.1.isNone)) = false := by rfl) :
    PE X (.Call (.Name x p) [] kws pos) (tKw0 ks.length sp (fun _ zs => prm is zs) E0 tk) := by
  obtain ⟨f, fd, F, hm, hk, hb⟩ := c
  exact pe_kw0 F hr gl hm hk hb pass0 vals named names nodebug nostar
theorem pe_calM {pl : Sem Bool} (he : PE X o to) (cl : Cls X.K C) (c : CalM X.prog X.w X.K X.mg X.base k C m ps sp) (hr : Room k X.A) (ha : PA X (e :: es) t)
    (hst : starEach (e :: es) X.env = (false, eval e X.env) :: starEach es X.env := by rfl) (hpl : (backTo pos (starEach es X.env)).any (·.1) = false := by rfl) (ht : eval (.Call (.Attribute o m apos) (e :: es) [] pos) X.env = (do let ov ← eval o X.env; standAt apos.atName; let (f, first) ← holding [ov] (getMethod ov m pl); callWith pos f first (backTo pos (starEach (e :: es) X.env)) (backToKw pos (keywordEach [] X.env))) := by rfl) :
    PE X (.Call (.Attribute o m apos) (e :: es) [] pos) (tMeth C m sp [] E0 to t) := by
  obtain ⟨f, fd, F, hm, hb⟩ := c
  exact pe_meth (pl := pl) he cl hm F hr hb .nil pass0 ha hst hpl ht
theorem pe_calM0 {pl : Sem Bool} (he : PE X o to) (cl : Cls X.K C) (c : CalM X.prog X.w X.K X.mg X.base k C m ps sp) (hr : Room k X.A)
    (ht : eval (.Call (.Attribute o m apos) [] [] pos) X.env = (do let ov ← eval o X.env; standAt apos.atName; let (f, first) ← holding [ov] (getMethod ov m pl); callWith pos f first (backTo pos (starEach [] X.env)) (backToKw pos (keywordEach [] X.env))) := by rfl) :
    PE X (.Call (.Attribute o m apos) [] [] pos) (tMeth C m sp [] E0 to tNil) := by
  obtain ⟨f, fd, F, hm, hb⟩ := c
  exact pe_meth0 (pl := pl) he cl hm F hr hb .nil pass0 ht
/-- o.m(k = v, ..) -/
def tMethK (C : Addr) (m : Str) (n : Nat) (sp : Sp) (is : List Nat) (E : XK) (to : TE) (tk : TA) : TE := fun σ H Q => to σ H fun x H1 => ∃ a dx fs, x = .ref a ∧ H1 a = some (.ins C dx fs) ∧ fs.lookup m = none ∧ tk σ H1 fun zs H2 => zs.length = n ∧ sp (x :: prm is zs) H2 Q E
theorem pe_calMK {pl : Sem Bool} (he : PE X o to) (cl : Cls X.K C) (c : CalMK X.prog X.w X.K X.mg X.base k C m ps ks is sp) (hr : Room k X.A) (vals : PK X kws tk)
    (named : (backToKw pos (keywordEach kws X.env)).all (·.1.isSome) = true := by rfl) (names : (backToKw pos (keywordEach kws X.env)).filterMap (·.1) = ks := by rfl)
    (nostar : ((backTo pos (starEach [] X.env)).any (·.1) || (backToKw pos (keywordEach kws X.env)).any (·.1.isNone)) = false := by rfl)
    (ht : eval (.Call (.Attribute o m apos) [] kws pos) X.env = (do let ov ← eval o X.env; standAt apos.atName; let (f, first) ← holding [ov] (getMethod ov m pl); callWith pos f first (backTo pos (starEach [] X.env)) (backToKw pos (keywordEach kws X.env))) := by rfl) :
    PE X (.Call (.Attribute o m apos) [] kws pos) (tMethK C m ks.length sp is E0 to tk) := by
  obtain ⟨f, fd, F, hm, hb⟩ := c
  constructor
  intro pins s σ H Q I read
  refine PySem.W.methodCall_KW (pl := pl) (thn (he.run pins s σ H _ I read) fun u s1 ⟨x, H1, I1, rx, a, dx, fs, ex, ea, l, q⟩ => ?_) ht
  subst ex
  obtain rfl : u = .ref a := rx
  refine getmeth_ok I1 ea cl hm l ?_
  refine PySem.W.callWith_KW0 (first := [.ref a]) (h₀ := X.base) I.ok.mod.kin hm.kp named (thn (vals.run pos pins s1 σ H1 _ I1 q) fun ws s2 y => ?_) nostar
  obtain ⟨zs, H2, J, rel, many, h⟩ := y
  rw [names]
  exact ⟨J.kIn, run_fnN (E := E0) (us := [.ref a]) (vs := [.ref a]) F hr hb pass0 J (.cons rfl .nil) rel rfl many h⟩
theorem pe_calC0 (c : CalC X.prog X.w X.K X.mg X.base k x C ps sp) (hr : Room (k + 1) X.A) (gl : Gl X x) (hdb : (x == ("__debug__" : Str)) = false := by decide) : PE X (.Call (.Name x p) [] [] pos) (tMake C sp [] E0 tNil) := by
  obtain ⟨f, fd, F, hm, M, hb⟩ := c
  exact pe_make0 M F hr gl hm hb .nil pass0 hdb
theorem pe_calC (c : CalC X.prog X.w X.K X.mg X.base k x C ps sp) (hr : Room (k + 1) X.A) (gl : Gl X x) (ha : PA X (e :: es) t) (hdb : (x == ("__debug__" : Str)) = false := by decide)
    (he : starEach (e :: es) X.env = (false, eval e X.env) :: starEach es X.env := by rfl) (hpl : (backTo pos (starEach es X.env)).any (·.1) = false := by rfl) : PE X (.Call (.Name x p) (e :: es) [] pos) (tMake C sp [] E0 t) := by
  obtain ⟨f, fd, F, hm, M, hb⟩ := c
  exact pe_make M F hr gl hm hb .nil pass0 ha hdb he hpl
end
end Tg

namespace Tg
open PySem PySem.Spec PyProof.Rows L2
/-! ### the heap: what stands -/
/-- all but p stands as it stood -/
def Kp (p : Addr) (H H' : Hp) : Prop := ∀ b o, b ≠ p → H b = some o → H' b = some o
theorem Kp.refl (p : Addr) (H : Hp) : Kp p H H := fun _ _ _ h => h
theorem Kp.trans {p : Addr} {H H1 H2 : Hp} (a : Kp p H H1) (b : Kp p H1 H2) : Kp p H H2 := fun c o hc h => b c o hc (a c o hc h)
theorem Kp.of {p : Addr} {H H' : Hp} (s : Same H H') : Kp p H H' := fun c o _ h => s c o h
theorem Kp.put {p : Addr} {H : Hp} {o : HO} : Kp p H (upd H p o) := fun c u hc h => by
  rw [upd_ne hc]
  exact h
/-- what is new stays apart -/
theorem Kp.same {p : Addr} {H H1 H2 : Hp} (s : Same H H1) (n : H p = none) (k : Kp p H1 H2) : Same H H2 := fun b o h => k b o (ne_of_none h n) (s b o h)
theorem same_new {H : Hp} {p : Addr} {o : HO} (h : H p = none) : Same H (upd H p o) := fun b x e => by
  rw [upd_ne (ne_of_none e h)]
  exact e
theorem same_put {H H' : Hp} {D : Addr} {o : HO} (n : H D = none) (s : Same H H') : Same H (upd H' D o) := fun b x e => by
  rw [upd_ne (ne_of_none e n)]
  exact s _ _ e
/-- what can't be changed: tuples, and what is locked -/
def Fix : HO → Prop
  | .tup _ => True
  | .frz _ _ => True
  | _ => False
/-- all that can't be changed stands -/
def KT (H H' : Hp) : Prop := ∀ a o, Fix o → H a = some o → H' a = some o
theorem KT.refl (H : Hp) : KT H H := fun _ _ _ h => h
theorem KT.trans {H H1 H2 : Hp} (a : KT H H1) (b : KT H1 H2) : KT H H2 := fun c o f h => b c o f (a c o f h)
theorem KT.of {H H' : Hp} (s : Same H H') : KT H H' := fun c o _ h => s c o h
theorem KT.kp {p : Addr} {H H' : Hp} {o : HO} (k : Kp p H H') (h : H p = some o) (n : ¬ Fix o) : KT H H' := fun a u f e => k a u (fun z => n (by
  rw [z, h] at e
  cases e
  exact f)) e
theorem KT.put {p : Addr} {H : Hp} {o u : HO} (h : H p = some o) (n : ¬ Fix o) : KT H (upd H p u) := KT.kp Kp.put h n
theorem KT.new {p : Addr} {H : Hp} {u : HO} (h : H p = none) : KT H (upd H p u) := KT.of (same_new h)
theorem nfix_lst {xs : List V} : ¬ Fix (.lst xs) := fun z => z
theorem nfix_dK {xs : List (Key × V)} : ¬ Fix (.dK xs) := fun z => z
theorem nfix_ins {C dx : Addr} {fs : List (Str × V)} : ¬ Fix (.ins C dx fs) := fun z => z
/-! ### data -/
theorem rd_same {H H' : Hp} {a : Addr} {o : HO} (s : Same H H') (h : Rd H a o) : Rd H' a o := by
  rcases h with h | ⟨ob, h⟩
  · exact .inl (s _ _ h)
  · exact .inr ⟨ob, s _ _ h⟩
theorem sqL_same {K : PySem.W.Frag} {H H' : Hp} {a : Addr} {xs : List V} (s : Same H H') (h : SqL K H a xs) : SqL K H' a xs := h.imp (rd_same s) id
theorem sqT_same {K : PySem.W.Frag} {H H' : Hp} {a : Addr} {xs : List V} (s : Same H H') (h : SqT K H a xs) : SqT K H' a xs := h.imp (rd_same s) id
theorem sqT_kt {K : PySem.W.Frag} {H H' : Hp} {a : Addr} {xs : List V} (s : KT H H') (h : SqT K H a xs) : SqT K H' a xs := by
  refine h.imp (fun h => ?_) id
  rcases h with h | ⟨ob, h⟩
  · exact .inl (s _ _ trivial h)
  · exact .inr ⟨ob, s _ _ trivial h⟩
mutual
theorem dp_same {K : PySem.W.Frag} {H H' : Hp} (s : Same H H') : ∀ {x : V} {d : PyData}, Dp K H x d → Dp K H' x d
  | _, _, .non => .non
  | _, _, .bl b => .bl b
  | _, _, .int i => .int i
  | _, _, .str z => .str z
  | _, _, .lst a b => .lst (sqL_same s a) (dpAll_same s b)
  | _, _, .tup a b => .tup (sqT_same s a) (dpAll_same s b)
theorem dpAll_same {K : PySem.W.Frag} {H H' : Hp} (s : Same H H') : ∀ {xs : List V} {ds : List PyData}, DpAll K H xs ds → DpAll K H' xs ds
  | _, _, .nil => .nil
  | _, _, .cons a b => .cons (dp_same s a) (dpAll_same s b)
end
/-- no list and no dict in it -/
inductive TD : PyData → Prop
  | non : TD .none
  | bl (b : Bool) : TD (.bool b)
  | int (i : Int) : TD (.int i)
  | str (z : Str) : TD (.str z)
  | tup {ds : List PyData} : (∀ d, d ∈ ds → TD d) → TD (.tuple ds)
mutual
theorem dp_kt {K : PySem.W.Frag} {H H' : Hp} (s : KT H H') : ∀ {x : V} {d : PyData}, Dp K H x d → TD d → Dp K H' x d
  | _, _, .non, _ => .non
  | _, _, .bl b, _ => .bl b
  | _, _, .int i, _ => .int i
  | _, _, .str z, _ => .str z
  | _, _, .lst _ _, t => nomatch t
  | _, _, .tup a b, .tup t => .tup (sqT_kt s a) (dpAll_kt s b t)
theorem dpAll_kt {K : PySem.W.Frag} {H H' : Hp} (s : KT H H') : ∀ {xs : List V} {ds : List PyData}, DpAll K H xs ds → (∀ d, d ∈ ds → TD d) → DpAll K H' xs ds
  | _, _, .nil, _ => .nil
  | _, _, .cons a b, t => .cons (dp_kt s a (t _ List.mem_cons_self)) (dpAll_kt s b fun d hd => t d (List.mem_cons_of_mem _ hd))
end
theorem dpAll_len {K : PySem.W.Frag} {H : Hp} : ∀ {xs : List V} {ds : List PyData}, DpAll K H xs ds → xs.length = ds.length
  | _, _, .nil => rfl
  | _, _, .cons _ b => congrArg Nat.succ (dpAll_len b)
theorem dpAll_at {K : PySem.W.Frag} {H : Hp} : ∀ {xs : List V} {ds : List PyData}, DpAll K H xs ds → ∀ (i : Nat) (x : V), xs[i]? = some x → ∃ d, ds[i]? = some d ∧ Dp K H x d
  | _, _, .nil => fun i x h => by simp at h
  | _, _, .cons a b => fun i x h => by
    cases i with
    | zero =>
      simp only [Option.some.injEq, List.getElem?_cons_zero] at h
      subst h
      exact ⟨_, rfl, a⟩
    | succ i =>
      rw [List.getElem?_cons_succ] at h ⊢
      exact dpAll_at b i x h
theorem dpAll_tk {K : PySem.W.Frag} {H : Hp} : ∀ {xs : List V} {ds : List PyData}, DpAll K H xs ds → ∀ (i : Nat) (d : PyData), ds[i]? = some d → ∃ x, xs[i]? = some x ∧ Dp K H x d
  | _, _, .nil => fun i x h => by simp at h
  | _, _, .cons a b => fun i x h => by
    cases i with
    | zero =>
      simp only [Option.some.injEq, List.getElem?_cons_zero] at h
      subst h
      exact ⟨_, rfl, a⟩
    | succ i =>
      rw [List.getElem?_cons_succ] at h ⊢
      exact dpAll_tk b i x h
theorem dpAll_app {K : PySem.W.Frag} {H : Hp} : ∀ {xs ys : List V} {ds es : List PyData}, DpAll K H xs ds → DpAll K H ys es → DpAll K H (xs ++ ys) (ds ++ es)
  | _, _, _, _, .nil, h => h
  | _, _, _, _, .cons a b, h => .cons a (dpAll_app b h)
theorem dpAll_snoc {K : PySem.W.Frag} {H : Hp} {xs : List V} {ds : List PyData} {y : V} {e : PyData} (h : DpAll K H xs ds) (a : Dp K H y e) : DpAll K H (xs ++ [y]) (ds ++ [e]) := dpAll_app h (.cons a .nil)
/-- a list of data that can't be changed itself -/
def LD (K : PySem.W.Frag) (H : Hp) (a : Addr) (ds : List PyData) : Prop := ∃ xs, H a = some (.lst xs) ∧ DpAll K H xs ds
theorem LD.dp {K : PySem.W.Frag} {H : Hp} {a : Addr} {ds : List PyData} (h : LD K H a ds) : Dp K H (.ref a) (.list ds) := by
  obtain ⟨xs, h1, h2⟩ := h
  exact .lst (SqL.of h1) h2
theorem LD.same {K : PySem.W.Frag} {H H' : Hp} {a : Addr} {ds : List PyData} (s : Same H H') (h : LD K H a ds) : LD K H' a ds := by
  obtain ⟨xs, h1, h2⟩ := h
  exact ⟨xs, s _ _ h1, dpAll_same s h2⟩
/-- where the list itself stands and all tuples do -/
theorem LD.kt {K : PySem.W.Frag} {H H' : Hp} {a : Addr} {ds : List PyData} (s : KT H H') (e : ∀ o, H a = some o → H' a = some o) (t : ∀ d, d ∈ ds → TD d) (h : LD K H a ds) : LD K H' a ds := by
  obtain ⟨xs, h1, h2⟩ := h
  exact ⟨xs, e _ h1, dpAll_kt s h2 t⟩
theorem LD.kp {K : PySem.W.Frag} {H H' : Hp} {a p : Addr} {o : HO} {ds : List PyData} (k : Kp p H H') (hp : H p = some o) (n : ¬ Fix o) (ne : a ≠ p) (t : ∀ d, d ∈ ds → TD d) (h : LD K H a ds) : LD K H' a ds :=
  h.kt (KT.kp k hp n) (fun u e => k _ _ ne e) t
/-- one more at the end -/
theorem LD.snoc {K : PySem.W.Frag} {H H1 : Hp} {a : Addr} {xs : List V} {ds : List PyData} {y : V} {e : PyData} (k : KT H H1) (h1 : H1 a = some (.lst xs)) (hd : DpAll K H xs ds) (t : ∀ d, d ∈ ds → TD d) (hy : Dp K H1 y e) (te : TD e) :
    LD K (upd H1 a (.lst (xs ++ [y]))) a (ds ++ [e]) :=
  ⟨_, upd_same, dpAll_snoc (dpAll_kt (k.trans (KT.put h1 nfix_lst)) hd t) (dp_kt (KT.put h1 nfix_lst) hy te)⟩
theorem shaped_of {d : PyData} (h1 : d.canLay0 = true) (h2 : d.depth ≤ 64) : SeqAt.shaped d = true := by
  unfold SeqAt.shaped
  rw [h1, decide_eq_true h2]
  rfl
theorem if_f {A B : Prop} (h : B) : if false = true then A else B := by
  rw [if_neg (by decide)]
  exact h
theorem if_t {A B : Prop} (h : A) : if true = true then A else B := by
  rw [if_pos rfl]
  exact h
theorem atI_mem {xs : List Int} {i : Int} (h0 : 0 ≤ i) (h1 : i < xs.length) : ∃ v, v ∈ xs ∧ atI (xs.map V.int) i = some (.int v) := by
  have hn : i.toNat < xs.length := by omega
  obtain ⟨j, rfl⟩ : ∃ j : Nat, i = (j : Int) := ⟨i.toNat, by omega⟩
  have hj : j < xs.length := by omega
  refine ⟨xs[j], List.getElem_mem hj, atI_nat ?_⟩
  rw [List.getElem?_map, List.getElem?_eq_getElem hj]
  rfl
end Tg

namespace Tg
open PySem PySem.Spec PyProof.Rows L2
/-! ### a new thing that is only read from now on -/
section
variable {X : Cx} {e : Expr} {t : TE}
def tFrz (t : TE) : TE := fun σ H Q => t σ H fun x H1 => ∃ d u, x = .ref d ∧ H1 d = some u ∧ Mut (some u) ∧ ∀ od, Q x (upd H1 d (.frz od u))
theorem pe_frz (h : PE X e t) : PE X e (tFrz t) := by
  constructor
  intro pins s σ H Q I read
  refine thn (h.run pins s σ H _ I read) fun v s1 y => ?_
  obtain ⟨x, H1, J, r, d, u, ex, hd, mu, q⟩ := y
  obtain ⟨od, J2⟩ := J.lock hd mu
  exact ⟨x, _, J2, r, q od⟩
/-- a statement that is never reached -/
theorem ps_dead {st : Stmt} : PS X st (fun _ _ _ => False) := ⟨fun _ _ _ _ _ _ h => h.elim⟩
end
end Tg

/-! f'{n:b}' and int(text, 2) -/
namespace Tg
open PySem PySem.Spec PyProof.Rows L2
/-- the signs of a number by twos -/
def binC (n : Nat) : List Nat := (Nat.toDigits 2 n).map Char.toNat
def fB : Builtin.Float.FormatSpec := { fill := 32, align := 62, type := some 98 }
theorem parse_b : Builtin.Float.parseFormatSpec (Str.ofString "b").cps.toList "int" 62 = .ok fB := by with_unfolding_all rfl
theorem ret_to {M : Model} {A : Around} {txt T : Str} {Q : PySem.Fin → Shared → Prop} {E : Value → Shared → Prop} {s : Shared} (e : txt = T) (h : wpAny M A (retStr T) Q E s) : wpAny M A (retStr txt) Q E s := by
  rw [e]
  exact h
section
variable {prog : Program} {w : World} {A : Around} {E : Value → Shared → Prop} {s : Shared}
theorem field_b {a : Int} {t : Tok} {Q : Value → Shared → Prop} (a0 : 0 ≤ a) (fits : (binC a.natAbs).length ≤ sizeLine) (h : ∀ (u k : Nat), Q (.str ⟨(binC a.natAbs).toArray⟩ u) { s with toks := k }) : wpAny (model prog w) A (formatField (.int a t) "b") Q E s := by
  show wpAny _ _ (holding [.int a t] (pyFormat (.int a t) "b")) Q E s
  refine wpAny_holding ?_
  unfold pyFormat
  refine wpAny_bind (wpAny_mkStr ?_ (by decide +kernel))
  refine wpAny_bind (m := callSpecial? (.int a t) (Str.ofString "__format__") [.str "b" s.toks]) (wpAny_callSpecial?_slot (name := Str.ofString "__format__") (typeIs_int _ a t) PySem.F.slot_int_format ?_)
  refine wpAny_call (codeAny_call_builtin PySem.F.slot_int_format.plain PySem.F.entry_int_format (PySem.F.slot_int_format.check _ _ _ _ _ _ _ _ (typeIs_int _ a t) (PySem.F.args_int_format_2 _ _) ?_))
  have e1 : ((Str.ofString "b").length == 0) = false := by decide +kernel
  have e2 : (((Str.ofString "b").cps.toList.drop 1).any (· ≥ 128) || ((Str.ofString "b").cps.getD 0 0 ≥ 128 && !([60, 62, 61, 94] : List Nat).contains ((Str.ofString "b").cps.getD 1 0))) = false := by decide +kernel
  simp only [Builtin.«int.__format__», selfAndOne, noKeywords, Builtin.Int.intOfSelf, asInt?, asStr?, List.isEmpty_nil, if_true, pure_bind, bind_pure, bind_assoc, e1, e2, Bool.false_eq_true, if_false, show (Value.str (Str.ofString "b") s.toks == Value.none) = false from rfl]
  refine wpAny_bind (wpAny_typeNameOf (T := "str") (typeIs_str _ _ _) (by decide) fun _ => wpAny_bind (wpAny_typeNameOfCut_int ?_))
  simp only [parse_b]
  have t98 : fB.type.getD (if ((Str.ofString "b").cps.back? == some 0) = true then 0 else 100) = 98 := rfl
  simp only [t98]
  rw [if_pos (by decide)]
  have neg : decide (a < 0) = false := decide_eq_false (by omega)
  refine ret_to (T := ⟨(binC a.natAbs).toArray⟩) ?_ ?_
  · rw [neg]
    obtain ⟨ds, eds⟩ : ∃ ds, (Nat.toDigits 2 a.natAbs).map (fun c => (if ((98 : Nat) == 88) = true then c.toUpper else c).toNat) = ds := ⟨_, rfl⟩
    have eb : binC a.natAbs = ds := eds
    rw [eb]
    show PyProof.Rows.intField' fB false [] _ [] 4 = _
    rw [eds]
    unfold PyProof.Rows.intField' fB
    cases ds with
    | nil => rfl
    | cons d r =>
      have p0 : ((-1 : Int) - 0 - ((d :: r).length : Nat)).toNat = 0 := by omega
      simp [p0]
      omega
  · unfold retStr
    refine wpAny_bind (wpAny_mkStr (wpAny_pure ?_) ?_)
    · exact wpAny_bind (wpAny_isInstance (T := "str") (typeIs_str _ _ _) isSubtype_str_str (wpAny_pure (h _ _)))
    · exact fits
end
section
variable {X : Cx}
/-- {n:b} -/
def tFmtB (te : TE) : TE := fun σ H Q => te σ H fun x H1 => ∃ n : Nat, x = .int (n : Nat) ∧ (binC n).length ≤ sizeLine ∧ Q (.str (SX.S (binC n))) H1
theorem pe_fmtB {e spec : Expr} {te : TE} {pos : Pos} (he : PE X e te) (hs : PE X spec (tC (.str "b"))) : PE X (.FormattedValue e (-1) (some spec) pos) (tFmtB te) := by
  refine ⟨fun pins s σ H Q I h => ?_⟩
  refine wpAny_FormattedValue_spec (thn (he.run pins s σ H _ I h) fun v s1 ⟨x, H1, I1, r1, n, ex, fits, q⟩ => ?_)
  subst ex
  obtain ⟨t, rfl⟩ := r1
  refine thn (hs.run pins s1 σ H1 (fun y H2 => y = .str "b" ∧ H2 = H1) I1 ⟨rfl, rfl⟩) fun r s2 ⟨y, H2, I2, r2, ey, eH⟩ => ?_
  subst ey eH
  obtain ⟨u, rfl⟩ := r2
  refine ⟨_, u, rfl, field_b (by omega) (by rw [Int.natAbs_natCast]; exact fits) fun u k => ⟨.str (SX.S (binC n)), H2, I2.tok k, ⟨u, by rw [Int.natAbs_natCast]⟩, q⟩⟩
end
/-! ### int(text, 2) -/
def IsBin (c : Nat) : Prop := c = 48 ∨ c = 49
theorem IsBin.hex {c : Nat} (h : IsBin c) : Hx.IsHex c := .inl (by unfold IsBin at h; omega)
def binNum (l : List Nat) : Nat := l.foldl (fun a c => a * 2 + (c - 48)) 0
theorem bin_step {ds : Array Nat} {b : Bool} {c : Nat} (h : IsBin c) : PySem.NumText.step 2 (ds, b) c = some (ds.push (c - 48), true) := by
  have e : PySem.NumText.digit? c = some (c - 48) := by
    rw [Hx.digit_hex h.hex]
    unfold Hx.hv
    rw [if_pos (by unfold IsBin at h; omega)]
  have n95 : ¬ (c == 95) = true := by
    rw [beq_iff_eq]
    unfold IsBin at h
    omega
  unfold PySem.NumText.step
  rw [if_neg n95, e]
  exact if_pos (by unfold IsBin at h; omega)
theorem bin_fold : ∀ (cs : List Nat) (ds : Array Nat), (∀ c ∈ cs, IsBin c) → cs.foldlM (PySem.NumText.step 2) (ds, true) = some (cs.foldl (fun acc c => acc.push (c - 48)) ds, true)
  | [], _, _ => rfl
  | c :: cs, ds, h => by
    rw [List.foldlM_cons, bin_step (h c List.mem_cons_self)]
    exact bin_fold cs (ds.push (c - 48)) fun d hd => h d (List.mem_cons_of_mem _ hd)
theorem bin_digits {c : Nat} {cs : List Nat} (h : ∀ d ∈ c :: cs, IsBin d) : PySem.NumText.digits? 2 (c :: cs) = some ((c :: cs).foldl (fun acc c => acc.push (c - 48)) #[]) := by
  have z := bin_fold cs ((#[] : Array Nat).push (c - 48)) fun d hd => h d (List.mem_cons_of_mem _ hd)
  unfold PySem.NumText.digits?
  rw [List.foldlM_cons, bin_step (h c List.mem_cons_self)]
  show (cs.foldlM (PySem.NumText.step 2) ((#[] : Array Nat).push (c - 48), true)).bind _ = _
  rw [z]
  rfl
theorem bin_value : ∀ (cs : List Nat) (ds : Array Nat), (cs.foldl (fun acc c => acc.push (c - 48)) ds).foldl (fun acc d => acc * 2 + d) 0 = cs.foldl (fun a c => a * 2 + (c - 48)) (ds.foldl (fun acc d => acc * 2 + d) 0)
  | [], _ => rfl
  | c :: cs, ds => by
    rw [List.foldl_cons, bin_value cs (ds.push (c - 48)), List.foldl_cons, Array.foldl_push]
theorem bin_pref {cs : List Nat} (h : ∀ c ∈ cs, IsBin c) : PySem.NumText.prefix? cs = none := by
  match cs, h with
  | [], _ => rfl
  | [a], _ =>
    unfold PySem.NumText.prefix?
    split
    · rename_i e
      cases e
    · rfl
  | a :: c :: r, h =>
    have hc := h c (List.mem_cons_of_mem _ List.mem_cons_self)
    unfold IsBin at hc
    by_cases ha : a = 48
    · subst ha
      have n : ∀ k : Nat, 60 ≤ k → ¬ (c == k) = true := fun k hk z => by
        have := beq_iff_eq.mp z
        omega
      show (if (c == 120 || c == 88) = true then some 16 else if (c == 111 || c == 79) = true then some 8 else if (c == 98 || c == 66) = true then some 2 else none) = none
      have o : ∀ k l : Nat, 60 ≤ k → 60 ≤ l → ¬ (c == k || c == l) = true := fun k l hk hl z => (Bool.or_eq_true _ _ ▸ z).elim (n k hk) (n l hl)
      rw [if_neg (o _ _ (by decide) (by decide)), if_neg (o _ _ (by decide) (by decide)), if_neg (o _ _ (by decide) (by decide))]
    · unfold PySem.NumText.prefix?
      split
      · rename_i e
        exact (ha (List.cons.inj e).1).elim
      · rfl
theorem bin_based {cs : List Nat} (h : ∀ c ∈ cs, IsBin c) : PySem.NumText.based 2 cs = (2, false, cs) := by
  unfold PySem.NumText.based
  rw [bin_pref h]
  rfl
open PySem.NumText PySem.Calls in
theorem bin_read {cs : List Nat} (h : ∀ c ∈ cs, IsBin c) (ne : cs ≠ []) : (int_private% "readNumeral") 0 2 cs = (int_private% "Numeral.value") ((binNum cs : Nat) : Int) := by
  have hx : ∀ c ∈ cs, Hx.IsHex c := fun c hc => (h c hc).hex
  have hr : ∀ c ∈ cs.reverse, Hx.IsHex c := fun c hc => hx c (List.mem_reverse.mp hc)
  obtain ⟨c, r, rfl⟩ := List.exists_cons_of_ne_nil ne
  have dg := bin_digits h
  have vl := bin_value (c :: r) #[]
  refine (readNumeral_eq 0 2 (c :: r)).trans ?_
  rw [Hx.dropB hx, Hx.signH hx]
  show judge 0 false (based 2 (c :: r)).1 (based 2 (c :: r)).2.1 (digits? (based 2 (c :: r)).1 (((based 2 (c :: r)).2.2.reverse.dropWhile blank).reverse)) = _
  rw [bin_based h]
  show judge 0 false 2 false (digits? 2 (((c :: r).reverse.dropWhile blank).reverse)) = _
  rw [Hx.dropB hr, List.reverse_reverse, dg]
  show (int_private% "Numeral.value") ((((c :: r).foldl (fun acc c => acc.push (c - 48)) (#[] : Array Nat)).foldl (fun acc d => acc * 2 + d) 0 : Nat) : Int) = _
  rw [vl]
  rfl
set_option maxHeartbeats 4000000 in
open PySem.NumText PySem.Calls in
theorem gives_bin {x : Str} {u t : Tok} (hl : x.length ≤ 640) (h : ∀ c ∈ x.cps.toList, IsBin c) (ne : x.cps.toList ≠ []) : Gives (Builtin.«int.__new__» ⟨[.type "int", .str x u, .int 2 t], []⟩) (.int ((binNum x.cps.toList : Nat) : Int)) :=
  .of_wp fun M A E s Q hQ => by
    obtain ⟨heap, gens, drawn, toks, out⟩ := s
    have f1 := PySem.F.conv_sub_int
    have f2 := PySem.F.madeHere_int
    have strT : typeOf (.str x u) = pure (.type "str") := rfl
    obtain ⟨same1, same2⟩ := Hx.seen_hex fun c hc => (h c hc).hex
    have few : (numSeenOf x).length ≤ 640 := by
      rw [same2, Array.length_toList]
      exact hl
    have told : (int_private% "readNumeral") 0 2 (numSeenOf x) = (int_private% "Numeral.value") ((binNum x.cps.toList : Nat) : Int) := by
      rw [same2]
      exact bin_read h ne
    have whole : ((numSeenOf x).length == (numTextOf x).length) = true := by
      rw [same1, same2]
      exact beq_self_eq_true _
    have hk := Hx.Hid.mk (And.intro few (And.intro told whole))
    clear few told whole same1 same2 hl ne h
    repeat (any_goals (first
      | assumption
      | ((with_reducible show wpAny _ _ ((int_private% "intFromText") _ _ _) _ _ _); refine Hx.wp_textB hk.out.1 hk.out.2.1 hk.out.2.2 ?_)
      | wp_step))
    all_goals (try exact ⟨_, rfl, hQ⟩)
def rIntBin : List V → Hp → VK → Prop := fun xs H Q => ∃ l : List Nat, xs = [.str (SX.S l), .int 2] ∧ l ≠ [] ∧ l.length ≤ 640 ∧ (∀ c ∈ l, IsBin c) ∧ Q (.int ((binNum l : Nat) : Int)) H
theorem call_int_bin {X : Cx} : CallR X (.type "int") rIntBin := by
  rintro pins s σ H _ us Q I r ⟨l, rfl, ne, few, bin, q⟩
  obtain ⟨u, v, rfl, r1, r2⟩ := vals2 r
  obtain ⟨t1, rfl⟩ := r1
  obtain ⟨t2, rfl⟩ := r2
  have g := gives_bin (x := SX.S l) (u := t1) (t := t2) (by rw [SX.S_len]; exact few) bin ne
  exact callType_new PySem.F.called_int PySem.F.newNe_int (Hx.typeCall_int_2 _ _) (Hx.newCall_int_2 _ _) (fun obj => PySem.F.initArgs_range_2 obj _ _) PySem.F.entry_int_new g.meets (show (Made.int ((binNum l : Nat) : Int)).post _ s from ⟨rfl, .int ((binNum l : Nat) : Int), H, I.tok _, ⟨_, rfl⟩, q⟩)
end Tg

namespace Tg
open PySem PySem.Spec PyProof.Rows L2
/-! ### a sign many times -/
def rTimes (c : Nat) : R2 := fun x y H Q => ∃ n : Nat, x = .str (SX.S [c]) ∧ y = .int (n : Nat) ∧ n ≤ 1000 ∧ Q (.str (SX.S (List.replicate n c))) H
theorem op_times {X : Cx} {c : Nat} : OpR X (binaryOp .Mult) (rTimes c) := by
  rintro pins s σ H _ _ v u Q I rx ry ⟨n, rfl, rfl, few, q⟩
  obtain ⟨t, rfl⟩ := rx
  obtain ⟨t2, rfl⟩ := ry
  have l1 : (SX.S [c]).length = 1 := rfl
  have rep : ∀ (m : Nat) (acc : Array Nat), (List.replicate m (SX.S [c]).cps).foldl (· ++ ·) acc = acc ++ (List.replicate m c).toArray := fun m => by
    induction m with
    | zero =>
      intro acc
      show acc = acc ++ #[]
      simp
    | succ m ih =>
      intro acc
      rw [List.replicate_succ, List.foldl_cons, ih]
      apply Array.ext'
      simp [List.replicate_succ]
  refine PySem.P.mul_str ?_ (fun _ _ => ?_) (fun _ _ => ?_) ?_
  · rw [decide_eq_false (by omega), decide_eq_false (by omega)]
    rfl
  · rw [l1]
    intro z
    have : (1 : Int) ≤ (2 ^ 63 - 1) / (n : Int) := by
      by_cases n0 : n = 0
      · subst n0
        omega
      · exact (Int.le_ediv_iff_mul_le (by omega)).mpr (by omega)
    omega
  · rw [l1]
    unfold Builtin.Str.tooLong
    exact decide_eq_false (by rw [sizeLine_eq]; omega)
  · by_cases c0 : (n : Int) < 1
    · obtain rfl : n = 0 := by omega
      rw [if_pos c0]
      exact ⟨by decide, .str (SX.S []), H, I.tok _, ⟨_, rfl⟩, q⟩
    · rw [if_neg c0]
      by_cases c1 : ((n : Int) == 1 || (SX.S [c]).length == 0) = true
      · rw [if_pos c1]
        have n1 : n = 1 := by
          rw [l1] at c1
          have : ((n : Int) == 1) = true := by
            cases e : (n : Int) == 1 with
            | true => rfl
            | false =>
              rw [e] at c1
              cases c1
          have := beq_iff_eq.mp this
          omega
        subst n1
        exact ⟨.str (SX.S [c]), H, I, ⟨t, rfl⟩, q⟩
      · rw [if_neg c1]
        have e : (List.replicate (n : Int).toNat (SX.S [c]).cps).foldl (· ++ ·) #[] = (List.replicate n c).toArray := by
          rw [show (n : Int).toNat = n from rfl, rep]
          simp
        rw [e]
        refine ⟨?_, .str (SX.S (List.replicate n c)), H, I.tok _, ⟨_, rfl⟩, q⟩
        rw [SX.S_len, List.length_replicate, sizeLine_eq]
        omega
end Tg

namespace Tg
open PySem PySem.Spec PyProof.Rows L2
/-! ### numbers by twos -/
/-- the last w signs of n by twos -/
def bt : Nat → Nat → List Nat
  | 0, _ => []
  | w + 1, n => bt w (n / 2) ++ [48 + n % 2]
theorem bt_len : ∀ w n, (bt w n).length = w
  | 0, _ => rfl
  | w + 1, n => by
    show (bt w (n / 2) ++ [48 + n % 2]).length = w + 1
    rw [List.length_append, bt_len w]
    rfl
theorem bt_bin : ∀ w n c, c ∈ bt w n → IsBin c
  | 0, _, _, h => nomatch h
  | w + 1, n, c, h => by
    rcases List.mem_append.mp (show c ∈ bt w (n / 2) ++ [48 + n % 2] from h) with h | h
    · exact bt_bin w _ c h
    · rw [List.mem_singleton.mp h]
      unfold IsBin
      omega
theorem num_snoc (l : List Nat) (c : Nat) : binNum (l ++ [c]) = binNum l * 2 + (c - 48) := by
  unfold binNum
  rw [List.foldl_append]
  rfl
theorem num_bt : ∀ w n, binNum (bt w n) = n % 2 ^ w
  | 0, n => by
    show 0 = n % 1
    omega
  | w + 1, n => by
    show binNum (bt w (n / 2) ++ [48 + n % 2]) = _
    rw [num_snoc, num_bt w, Nat.pow_succ, Nat.mul_comm (2 ^ w) 2, Nat.mod_mul]
    omega
theorem bt_split (d : Nat) : ∀ w n, bt (d + w) n = bt d (n / 2 ^ w) ++ bt w n
  | 0, n => by
    rw [Nat.pow_zero]
    rw [Nat.div_one]
    exact (List.append_nil _).symm
  | w + 1, n => by
    show bt (d + w) (n / 2) ++ [48 + n % 2] = _ ++ (bt w (n / 2) ++ [48 + n % 2])
    rw [bt_split d w (n / 2), Nat.div_div_eq_div_mul, Nat.mul_comm 2, ← Nat.pow_succ, List.append_assoc]
theorem bt_zero : ∀ d, bt d 0 = List.replicate d 48
  | 0 => rfl
  | d + 1 => by
    show bt d (0 / 2) ++ [48 + 0 % 2] = _
    rw [Nat.zero_div, bt_zero d, List.replicate_succ']
/-- how many signs n has by twos -/
def blen (n : Nat) : Nat := if n = 0 then 0 else n.log2 + 1
theorem blen_pos {n : Nat} (h : 0 < n) : blen n = n.log2 + 1 := if_neg (by omega)
theorem blen_half {n : Nat} (h : 0 < n) : blen n = blen (n / 2) + 1 := by
  rw [blen_pos h, Nat.log2_def]
  by_cases c : 2 ≤ n
  · rw [if_pos c, blen_pos (show 0 < n / 2 by omega)]
  · rw [if_neg c, show n / 2 = 0 by omega]
    rfl
theorem lt_blen (n : Nat) : n < 2 ^ blen n := by
  by_cases h : n = 0
  · subst h
    decide
  · rw [blen_pos (by omega)]
    exact Nat.lt_log2_self
theorem bin_zero : binC 0 = [48] := by
  unfold binC
  rw [Nat.toDigits_zero]
  rfl
theorem bin_digit {n : Nat} : (n % 2).digitChar.toNat = 48 + n % 2 := by
  rcases Nat.mod_two_eq_zero_or_one n with e | e <;> rw [e] <;> rfl
theorem bin_is {n : Nat} : 0 < n → binC n = bt (blen n) n := by
  refine Nat.strongRecOn n fun n ih h => ?_
  · skip
    rw [blen_half h]
    show binC n = bt (blen (n / 2)) (n / 2) ++ [48 + n % 2]
    unfold binC
    by_cases c : 2 ≤ n
    · rw [Nat.toDigits_of_base_le (by decide) c, List.map_append, ← ih (n / 2) (by omega) (by omega)]
      show _ ++ [(n % 2).digitChar.toNat] = _
      rw [bin_digit]
      rfl
    · have : n = 1 := by omega
      subst this
      rfl
theorem bt_pad {w n : Nat} (h : blen n ≤ w) : bt w n = List.replicate (w - blen n) 48 ++ bt (blen n) n := by
  have e := bt_split (w - blen n) (blen n) n
  rw [show w - blen n + blen n = w by omega, Nat.div_eq_of_lt (lt_blen n), bt_zero] at e
  exact e
/-- a number's own code -/
def ownL (n : Nat) : List Nat := List.replicate (n + 1).log2 48 ++ 49 :: bt (n + 1).log2 (n + 1)
theorem own_is (n : Nat) : List.replicate (blen (n + 1) - 1) 48 ++ bt (blen (n + 1)) (n + 1) = ownL n := by
  have b := blen_pos (Nat.succ_pos n)
  have one : (n + 1) / 2 ^ (n + 1).log2 = 1 := by
    have h1 := Nat.log2_self_le (n := n + 1) (by omega)
    have h2 := Nat.lt_log2_self (n := n + 1)
    refine Nat.div_eq_of_lt_le (by rw [Nat.one_mul]; exact h1) ?_
    rw [Nat.pow_succ] at h2
    omega
  have e := bt_split 1 (n + 1).log2 (n + 1)
  rw [one] at e
  unfold ownL
  rw [b, Nat.add_sub_cancel, Nat.add_comm _ 1, e]
  rfl
theorem own_len (n : Nat) : (ownL n).length = 2 * (n + 1).log2 + 1 := by
  unfold ownL
  rw [List.length_append, List.length_replicate, List.length_cons, bt_len]
  omega
theorem own_lo {n v : Nat} (h : v < (n + 1).log2) : (ownL n)[v]? = some 48 := by
  unfold ownL
  rw [List.getElem?_append_left (by rw [List.length_replicate]; exact h), List.getElem?_replicate, if_pos h]
theorem own_one (n : Nat) : (ownL n)[(n + 1).log2]? = some 49 := by
  unfold ownL
  rw [List.getElem?_append_right (by rw [List.length_replicate]; exact Nat.le_refl _), List.length_replicate, Nat.sub_self]
  rfl
theorem own_tail (n : Nat) : (ownL n).drop (n + 1).log2 = bt (blen (n + 1)) (n + 1) := by
  rw [← own_is, List.drop_append_of_le_length (by rw [List.length_replicate, blen_pos (show 0 < n + 1 by omega)]; omega), List.drop_of_length_le (by rw [List.length_replicate, blen_pos (show 0 < n + 1 by omega)]; omega)]
  rfl
theorem own_num (n : Nat) : binNum (bt (blen (n + 1)) (n + 1)) = n + 1 := by
  rw [num_bt, Nat.mod_eq_of_lt (lt_blen _)]
/-! ### find -/
theorem from_nat (m a : Nat) : fromIndex m (a : Int) = a := by
  unfold fromIndex
  rw [if_neg (by omega)]
  omega
theorem getD_S (l : List Nat) (v : Nat) : (SX.S l).cps.getD v 0 = l.getD v 0 := by
  show l.toArray.getD v 0 = l.getD v 0
  rw [Array.getD_eq_getD_getElem?, List.getElem?_toArray, List.getD_eq_getElem?_getD]
theorem find_at {l : List Nat} {a j : Nat} (hj : l[j]? = some 49) (aj : a ≤ j) (no : ∀ v, a ≤ v → v < j → l[v]? ≠ some 49) : Txt.find3 (SX.S l) ⟨#[49]⟩ (a : Int) = (j : Nat) := by
  have lj := (List.getElem?_eq_some_iff.mp hj).1
  have gj : l.getD j 0 = 49 := by rw [List.getD_eq_getElem?_getD, hj]; rfl
  rcases StrLaws.find3_spec (SX.S l) 49 (a : Int) with ⟨_, h⟩ | ⟨k, e, h1, h2, h3, h4⟩
  · rw [from_nat, SX.S_len] at h
    exact absurd (by rw [getD_S]; exact gj) (h j aj lj)
  · rw [from_nat] at h1 h4
    rw [SX.S_len] at h2
    rw [getD_S] at h3
    rw [e]
    rcases Nat.lt_trichotomy k j with lt | rfl | gt
    · refine absurd ?_ (no k h1 lt)
      rw [List.getElem?_eq_getElem h2]
      rw [List.getD_eq_getElem?_getD, List.getElem?_eq_getElem h2] at h3
      exact congrArg some h3
    · rfl
    · exact absurd (by rw [getD_S]; exact gj) (h4 j aj gt)
theorem find_no {l : List Nat} {a : Nat} (no : ∀ v, a ≤ v → l[v]? ≠ some 49) : Txt.find3 (SX.S l) ⟨#[49]⟩ (a : Int) = -1 := by
  rcases StrLaws.find3_spec (SX.S l) 49 (a : Int) with ⟨e, _⟩ | ⟨k, e, h1, h2, h3, _⟩
  · exact e
  · rw [from_nat] at h1
    rw [SX.S_len] at h2
    rw [getD_S, List.getD_eq_getElem?_getD, List.getElem?_eq_getElem h2] at h3
    exact absurd (by rw [List.getElem?_eq_getElem h2]; exact congrArg some h3) (no k h1)
/-! ### zfill -/
theorem zfill_is {l : List Nat} {w : Nat} (bin : ∀ c ∈ l, IsBin c) : Txt.zfill (SX.S l) (w : Int) = SX.S (List.replicate (w - l.length) 48 ++ l) := by
  unfold Txt.zfill
  by_cases c : (w : Int) ≤ (SX.S l).length
  · rw [if_pos c]
    rw [SX.S_len] at c
    rw [show w - l.length = 0 by omega]
    rfl
  · rw [if_neg c, SX.S_len]
    have e : zfilled (SX.S l) ((w : Int).toNat - l.length) = Builtin.Str.padded (SX.S l) ((w : Int).toNat - l.length) 0 48 := by
      unfold zfilled
      cases l with
      | nil => rfl
      | cons d r =>
        have := bin d List.mem_cons_self
        unfold IsBin at this
        rcases this with rfl | rfl <;> rfl
    rw [e]
    unfold Builtin.Str.padded
    rw [show (w : Int).toNat = w from rfl]
    show (⟨Array.replicate (w - l.length) 48 ++ l.toArray ++ Array.replicate 0 48⟩ : Str) = ⟨(List.replicate (w - l.length) 48 ++ l).toArray⟩
    congr 1
    apply Array.ext'
    simp
end Tg

namespace Tg
/-! ### columns: numbers turned, codes, gaps, runs -/
def tn (n : Int) : Int := if 0 ≤ n then 2 * n else -2 * n - 1
def bk (m : Int) : Int := if m % 2 = 0 then m / 2 else -(m / 2) - 1
theorem bk_tn (n : Int) : bk (tn n) = n := by
  unfold tn bk
  split
  · rw [if_pos (by omega)]
    omega
  · rw [if_neg (by omega)]
    omega
def tN (n : Int) : Nat := (tn n).toNat
theorem tn_nat (n : Int) : tn n = (tN n : Nat) := by
  unfold tN
  unfold tn
  split <;> omega
theorem tN_lt {n : Int} {b : Nat} (h : n.natAbs < 2 ^ b) : tN n < 2 ^ (b + 1) := by
  unfold tN tn
  rw [Nat.pow_succ]
  split <;> omega
theorem tN_inj {a b : Int} (h : tN a = tN b) : a = b := by
  have e : tn a = tn b := by rw [tn_nat, tn_nat, h]
  rw [← bk_tn a, ← bk_tn b, e]
def cd (n : Int) : List Nat := ownL (tN n)
def cds (xs : List Int) : List Nat := (xs.map cd).flatten
theorem cds_app (a b : List Int) : cds (a ++ b) = cds a ++ cds b := by
  unfold cds
  rw [List.map_append, List.flatten_append]
theorem cds_cons (a : Int) (b : List Int) : cds (a :: b) = cd a ++ cds b := rfl
/-- the code at the i-th place -/
theorem cds_at {cs : List Int} {i : Nat} {c : Int} (h : cs[i]? = some c) : cds cs = cds (cs.take i) ++ (cd c ++ cds (cs.drop (i + 1))) := by
  obtain ⟨lt, e⟩ := List.getElem?_eq_some_iff.mp h
  have z : cs = cs.take i ++ c :: cs.drop (i + 1) := by
    rw [← e, List.getElem_cons_drop, List.take_append_drop]
  calc cds cs = cds (cs.take i ++ c :: cs.drop (i + 1)) := by rw [← z]
    _ = _ := by rw [cds_app, cds_cons]
theorem cds_next {cs : List Int} {i : Nat} {c : Int} (h : cs[i]? = some c) : (cds (cs.take (i + 1))).length = (cds (cs.take i)).length + (cd c).length := by
  rw [List.take_add_one, h, Option.toList_some, cds_app, List.length_append]
  congr 1
  unfold cds
  simp
def difs : List Int → List Int
  | a :: b :: r => (b - a) :: difs (b :: r)
  | _ => []
theorem difs_len : ∀ xs : List Int, (difs xs).length = xs.length - 1
  | [] => rfl
  | [_] => rfl
  | a :: b :: r => by
    have := difs_len (b :: r)
    show (difs (b :: r)).length + 1 = _
    rw [this]
    rfl
theorem difs_at : ∀ (xs : List Int) (i : Nat) (a b : Int), xs[i]? = some a → xs[i + 1]? = some b → (difs xs)[i]? = some (b - a)
  | [], _, _, _, h, _ => by simp at h
  | [_], 0, _, _, _, h => by simp at h
  | [_], _ + 1, _, _, h, _ => by simp at h
  | x :: y :: r, 0, a, b, h1, h2 => by
    cases h1
    cases h2
    rfl
  | x :: y :: r, i + 1, a, b, h1, h2 => difs_at (y :: r) i a b h1 h2
def stp (xs : List Int) : List Int := xs.take 1 ++ difs xs
theorem stp_len (xs : List Int) : (stp xs).length = xs.length := by
  unfold stp
  rw [List.length_append, List.length_take, difs_len]
  omega
theorem stp_0 {xs : List Int} {a : Int} (h : xs[0]? = some a) : (stp xs)[0]? = some a := by
  cases xs with
  | nil => simp at h
  | cons x r =>
    cases h
    rfl
theorem stp_at {xs : List Int} {i : Nat} {a b : Int} (h1 : xs[i]? = some a) (h2 : xs[i + 1]? = some b) : (stp xs)[i + 1]? = some (b - a) := by
  unfold stp
  have := (List.getElem?_eq_some_iff.mp h1).1
  rw [List.getElem?_append_right (by rw [List.length_take]; omega), List.length_take, show i + 1 - min 1 xs.length = i by omega]
  exact difs_at xs i a b h1 h2
/-- the codes of turns -/
def trn (xs : List Int) : List Int := xs.take 1 ++ stp (difs xs)
theorem trn_len (xs : List Int) : (trn xs).length = xs.length := by
  unfold trn
  rw [List.length_append, List.length_take, stp_len, difs_len]
  omega
theorem trn_0 {xs : List Int} {a : Int} (h : xs[0]? = some a) : (trn xs)[0]? = some a := by
  cases xs with
  | nil => simp at h
  | cons x r =>
    cases h
    rfl
theorem trn_1 {xs : List Int} {a b : Int} (h1 : xs[0]? = some a) (h2 : xs[1]? = some b) : (trn xs)[1]? = some (b - a) := by
  unfold trn
  have := (List.getElem?_eq_some_iff.mp h1).1
  rw [List.getElem?_append_right (by rw [List.length_take]; omega), List.length_take, show 1 - min 1 xs.length = 0 by omega]
  exact stp_0 (difs_at xs 0 a b h1 h2)
theorem trn_at {xs : List Int} {i : Nat} {a b c : Int} (h1 : xs[i]? = some a) (h2 : xs[i + 1]? = some b) (h3 : xs[i + 2]? = some c) : (trn xs)[i + 2]? = some ((c - b) - (b - a)) := by
  unfold trn
  have := (List.getElem?_eq_some_iff.mp h1).1
  rw [List.getElem?_append_right (by rw [List.length_take]; omega), List.length_take, show i + 2 - min 1 xs.length = i + 1 by omega]
  exact stp_at (difs_at xs i a b h1 h2) (difs_at xs (i + 1) b c h2 h3)
/-! runs -/
abbrev Run := Int × Nat
def rnA (rs : List Run) (x : Int) : List Run := match rs.getLast? with
  | some (y, n) => if y = x then rs.dropLast ++ [(y, n + 1)] else rs ++ [(x, 1)]
  | none => [(x, 1)]
def rn (xs : List Int) : List Run := xs.foldl rnA []
theorem rn_snoc (xs : List Int) (x : Int) : rn (xs ++ [x]) = rnA (rn xs) x := by
  unfold rn
  rw [List.foldl_append]
  rfl
def unr (rs : List Run) : List Int := (rs.map fun r => List.replicate r.2 r.1).flatten
theorem unr_app (a b : List Run) : unr (a ++ b) = unr a ++ unr b := by
  unfold unr
  rw [List.map_append, List.flatten_append]
theorem unr_one (r : Run) : unr [r] = List.replicate r.2 r.1 := by
  unfold unr
  simp
theorem last_split {α : Type} {l : List α} {a : α} (h : l.getLast? = some a) : l = l.dropLast ++ [a] := by
  have ne : l ≠ [] := fun z => by
    rw [z] at h
    cases h
  rw [List.getLast?_eq_some_getLast ne] at h
  cases h
  exact (List.dropLast_concat_getLast ne).symm
theorem rnA_un (rs : List Run) (x : Int) : unr (rnA rs x) = unr rs ++ [x] := by
  unfold rnA
  split
  · rename_i y n h
    split
    · rename_i e
      have z := last_split h
      rw [unr_app, unr_one]
      conv => rhs; rw [z, unr_app, unr_one]
      show _ ++ List.replicate (n + 1) y = _ ++ List.replicate n y ++ [x]
      rw [List.replicate_succ', e, List.append_assoc]
    · rw [unr_app, unr_one]
      rfl
  · rename_i h
    rw [List.getLast?_eq_none_iff.mp h, unr_one]
    rfl
theorem rnA_pos {rs : List Run} (h : ∀ r, r ∈ rs → 1 ≤ r.2) (x : Int) : ∀ r, r ∈ rnA rs x → 1 ≤ r.2 := by
  unfold rnA
  split
  · split
    · intro r hr
      rcases List.mem_append.mp hr with old | new
      · exact h r ((List.dropLast_sublist _).subset old)
      · rw [List.mem_singleton.mp new]
        exact Nat.le_add_left _ _
    · intro r hr
      rcases List.mem_append.mp hr with old | new
      · exact h r old
      · rw [List.mem_singleton.mp new]
        exact Nat.le_refl 1
  · intro r hr
    rw [List.mem_singleton.mp hr]
    exact Nat.le_refl 1
theorem rn_all : ∀ xs : List Int, unr (rn xs) = xs ∧ ∀ r, r ∈ rn xs → 1 ≤ r.2 := by
  have go : ∀ (ys : List Int) (rs : List Run) (done : List Int), unr rs = done → (∀ r, r ∈ rs → 1 ≤ r.2) → unr (ys.foldl rnA rs) = done ++ ys ∧ ∀ r, r ∈ ys.foldl rnA rs → 1 ≤ r.2 := by
    intro ys
    induction ys with
    | nil => exact fun rs done h1 h2 => ⟨by rw [List.append_nil]; exact h1, h2⟩
    | cons y ys ih =>
      intro rs done h1 h2
      have z := ih (rnA rs y) (done ++ [y]) (by rw [rnA_un, h1]) (rnA_pos h2 y)
      rw [List.append_assoc] at z
      exact z
  exact fun xs => go xs [] [] rfl (fun r hr => nomatch hr)
def rcd (r : Run) : List Nat := cd r.1 ++ ownL (r.2 - 1)
def rcds (rs : List Run) : List Nat := (rs.map rcd).flatten
theorem rcds_app (a b : List Run) : rcds (a ++ b) = rcds a ++ rcds b := by
  unfold rcds
  rw [List.map_append, List.flatten_append]
theorem rcds_one (r : Run) : rcds [r] = rcd r := by
  unfold rcds
  simp
/-! ### ways that are read from code to code -/
inductive Way where
  | steps
  | turns
  | runs
/-- a mark: the place of the next code, the number ahead, what is kept beside -/
abbrev Mrk := Nat × Int × Option Int
def enc : Way → List Int → List Nat
  | .steps, xs => cds (stp xs)
  | .turns, xs => cds (trn xs)
  | .runs, xs => rcds (rn xs)
def ahd (xs : List Int) (i : Nat) : Int := if i = 0 then 0 else xs.getD (i - 1) 0
theorem ahd_next {xs : List Int} {i : Nat} {a : Int} (h : xs[i]? = some a) : ahd xs (i + 1) = a := by
  unfold ahd
  rw [if_neg (by omega), Nat.add_sub_cancel, List.getD_eq_getElem?_getD, h]
  rfl
def bsd (xs : List Int) (i : Nat) : Option Int := if i = 0 then none else if i = 1 then some 0 else some (ahd xs i - ahd xs (i - 1))
/-- the mark behind i numbers -/
def MkA : Way → List Int → Nat → Mrk → Prop
  | .steps, xs, i, m => m = ((cds ((stp xs).take i)).length, ahd xs i, none)
  | .turns, xs, i, m => m = ((cds ((trn xs).take i)).length, ahd xs i, bsd xs i)
  | .runs, xs, i, m => (i = 0 ∧ m = (0, 0, none)) ∨ ∃ (pre suf : List Run) (r : Run) (o : Nat), rn xs = pre ++ r :: suf ∧ 1 ≤ o ∧ o ≤ r.2 ∧ i = (unr pre).length + o ∧ m = ((rcds (pre ++ [r])).length, r.1, some ((r.2 - o : Nat) : Int))
theorem mk_begin (W : Way) (xs : List Int) : MkA W xs 0 (0, 0, none) := by
  cases W with
  | steps => rfl
  | turns => rfl
  | runs => exact .inl ⟨rfl, rfl⟩
theorem mk_end {W : Way} {xs : List Int} {m : Mrk} (h : MkA W xs xs.length m) : m.1 = (enc W xs).length := by
  cases W with
  | steps =>
    rw [show m = _ from h, ← stp_len, List.take_length]
    rfl
  | turns =>
    rw [show m = _ from h, ← trn_len, List.take_length]
    rfl
  | runs =>
    obtain ⟨u, pos⟩ := rn_all xs
    rcases h with ⟨e, rfl⟩ | ⟨pre, suf, r, o, er, o1, o2, ei, rfl⟩
    · rw [List.length_eq_zero_iff.mp e]
      rfl
    · have l : (unr (rn xs)).length = xs.length := by rw [u]
      rw [er, show pre ++ r :: suf = pre ++ [r] ++ suf by simp, unr_app, unr_app, unr_one, List.length_append, List.length_append, List.length_replicate] at l
      have z : suf = [] := by
        cases suf with
        | nil => rfl
        | cons q s =>
          have p := pos q (by rw [er]; simp)
          rw [show q :: s = [q] ++ s from rfl, unr_app, unr_one, List.length_append, List.length_replicate] at l
          omega
      subst z
      show (rcds (pre ++ [r])).length = (rcds (rn xs)).length
      rw [er]
end Tg

namespace Tg
/-! ### the least, the greatest, the numbers in order -/
def mnI : List Int → Int
  | [] => 0
  | [x] => x
  | x :: y :: r => min x (mnI (y :: r))
def mxI : List Int → Int
  | [] => 0
  | [x] => x
  | x :: y :: r => max x (mxI (y :: r))
theorem mnI_is : ∀ {xs : List Int}, xs ≠ [] → mnI xs ∈ xs ∧ ∀ x, x ∈ xs → mnI xs ≤ x
  | [], h => absurd rfl h
  | [x], _ => ⟨.head _, fun y hy => by rw [List.mem_singleton.mp hy]; exact Int.le_refl _⟩
  | x :: y :: r, _ => by
    obtain ⟨h1, h2⟩ := mnI_is (xs := y :: r) (fun z => nomatch z)
    show min x (mnI (y :: r)) ∈ _ ∧ _
    refine ⟨?_, fun z hz => ?_⟩
    · by_cases c : x ≤ mnI (y :: r)
      · rw [Int.min_eq_left c]
        exact .head _
      · rw [Int.min_eq_right (by omega)]
        exact .tail _ h1
    · show min x (mnI (y :: r)) ≤ z
      obtain rfl | hz := List.mem_cons.mp hz
      · omega
      · have := h2 z hz
        omega
theorem mxI_is : ∀ {xs : List Int}, xs ≠ [] → mxI xs ∈ xs ∧ ∀ x, x ∈ xs → x ≤ mxI xs
  | [], h => absurd rfl h
  | [x], _ => ⟨.head _, fun y hy => by rw [List.mem_singleton.mp hy]; exact Int.le_refl _⟩
  | x :: y :: r, _ => by
    obtain ⟨h1, h2⟩ := mxI_is (xs := y :: r) (fun z => nomatch z)
    show max x (mxI (y :: r)) ∈ _ ∧ _
    refine ⟨?_, fun z hz => ?_⟩
    · by_cases c : mxI (y :: r) ≤ x
      · rw [Int.max_eq_left c]
        exact .head _
      · rw [Int.max_eq_right (by omega)]
        exact .tail _ h1
    · show z ≤ max x (mxI (y :: r))
      obtain rfl | hz := List.mem_cons.mp hz
      · omega
      · have := h2 z hz
        omega
theorem mn_of {xs : List Int} {m : Int} (h1 : m ∈ xs) (h2 : ∀ x, x ∈ xs → m ≤ x) : m = mnI xs := by
  obtain ⟨h3, h4⟩ := mnI_is (List.ne_nil_of_mem h1)
  exact Int.le_antisymm (h2 _ h3) (h4 _ h1)
theorem mx_of {xs : List Int} {m : Int} (h1 : m ∈ xs) (h2 : ∀ x, x ∈ xs → x ≤ m) : m = mxI xs := by
  obtain ⟨h3, h4⟩ := mxI_is (List.ne_nil_of_mem h1)
  exact Int.le_antisymm (h4 _ h1) (h2 _ h3)
def insU (x : Int) : List Int → List Int
  | [] => [x]
  | y :: r => if x < y then x :: y :: r else if x = y then y :: r else y :: insU x r
def bookOf (xs : List Int) : List Int := xs.foldr insU []
theorem insU_mem (x z : Int) : ∀ l : List Int, z ∈ insU x l ↔ z = x ∨ z ∈ l
  | [] => by simp [insU]
  | y :: r => by
    unfold insU
    split
    · simp
    · split
      · rename_i e
        subst e
        simp
      · rw [List.mem_cons, insU_mem x z r, List.mem_cons]
        constructor
        · rintro (h | h | h)
          · exact .inr (.inl h)
          · exact .inl h
          · exact .inr (.inr h)
        · rintro (h | h | h)
          · exact .inr (.inl h)
          · exact .inl h
          · exact .inr (.inr h)
theorem insU_up (x : Int) : ∀ l : List Int, l.Pairwise (· < ·) → (insU x l).Pairwise (· < ·)
  | [], _ => List.pairwise_singleton _ _
  | y :: r, h => by
    have hp := List.pairwise_cons.mp h
    unfold insU
    split
    · rename_i lt
      refine List.pairwise_cons.mpr ⟨fun z hz => ?_, h⟩
      obtain rfl | hz := List.mem_cons.mp hz
      · exact lt
      · exact Int.lt_trans lt (hp.1 z hz)
    · split
      · exact h
      · refine List.pairwise_cons.mpr ⟨fun z hz => ?_, insU_up x r hp.2⟩
        rcases (insU_mem x z r).mp hz with rfl | hz
        · omega
        · exact hp.1 z hz
theorem book_is : ∀ xs : List Int, (bookOf xs).Pairwise (· < ·) ∧ ∀ z, z ∈ bookOf xs ↔ z ∈ xs
  | [] => ⟨List.Pairwise.nil, fun z => Iff.rfl⟩
  | x :: r => by
    obtain ⟨h1, h2⟩ := book_is r
    refine ⟨insU_up x _ h1, fun z => ?_⟩
    show z ∈ insU x (bookOf r) ↔ _
    rw [insU_mem, h2, List.mem_cons]
theorem up_unique : ∀ {a b : List Int}, a.Pairwise (· < ·) → b.Pairwise (· < ·) → (∀ k, k ∈ a ↔ k ∈ b) → a = b
  | [], [], _, _, _ => rfl
  | [], y :: b, _, _, h => nomatch (h y).mpr (.head _)
  | x :: a, [], _, _, h => nomatch (h x).mp (.head _)
  | x :: a, y :: b, h1, h2, h => by
    have p1 := List.pairwise_cons.mp h1
    have p2 := List.pairwise_cons.mp h2
    have e : x = y := by
      have k1 := (h x).mp (.head _)
      have k2 := (h y).mpr (.head _)
      rcases List.mem_cons.mp k1 with e | k1
      · exact e
      · rcases List.mem_cons.mp k2 with e | k2
        · exact e.symm
        · have a1 := p2.1 x k1
          have a2 := p1.1 y k2
          omega
    subst e
    congr 1
    refine up_unique p1.2 p2.2 fun k => ⟨fun hk => ?_, fun hk => ?_⟩
    · rcases List.mem_cons.mp ((h k).mp (.tail _ hk)) with e | z
      · have := p1.1 k hk
        omega
      · exact z
    · rcases List.mem_cons.mp ((h k).mpr (.tail _ hk)) with e | z
      · have := p2.1 k hk
        omega
      · exact z
theorem book_of {xs b : List Int} (h1 : b.Pairwise (· < ·)) (h2 : ∀ k, k ∈ b ↔ k ∈ xs) : b = bookOf xs :=
  up_unique h1 (book_is xs).1 fun k => (h2 k).trans ((book_is xs).2 k).symm
theorem up_nodup {b : List Int} (h : b.Pairwise (· < ·)) : b.Nodup := h.imp fun lt e => by omega
theorem book_len (xs : List Int) : (bookOf xs).length ≤ xs.length := by
  have one : ∀ x l, (insU x l).length ≤ l.length + 1 := fun x l => by
    induction l with
    | nil => exact Nat.le_refl _
    | cons y r ih =>
      unfold insU
      split
      · exact Nat.le_refl _
      · split
        · exact Nat.le_succ _
        · exact Nat.succ_le_succ ih
  induction xs with
  | nil => exact Nat.le_refl _
  | cons x r ih =>
    have := one x (bookOf r)
    show (insU x (bookOf r)).length ≤ r.length + 1
    omega
theorem book_ne {xs : List Int} (h : 0 < xs.length) : 0 < (bookOf xs).length := by
  cases xs with
  | nil => cases h
  | cons x r => exact List.length_pos_of_mem ((book_is (x :: r)).2 x |>.mpr (.head _))
/-! ### how many signs by twos -/
theorem blen_le {n w : Nat} (h : n < 2 ^ w) : blen n ≤ w := by
  unfold blen
  split
  · exact Nat.zero_le _
  · rename_i c
    exact (Nat.log2_lt c).mpr h
theorem blen_mono {n m : Nat} (h : n ≤ m) : blen n ≤ blen m := blen_le (Nat.lt_of_le_of_lt h (lt_blen m))
/-! ### the two ways that stand by places -/
def wdP (xs : List Int) : Nat := blen (mxI xs - mnI xs).toNat
def plC (xs : List Int) : List (List Nat) := xs.map fun x => bt (wdP xs) (x - mnI xs).toNat
def encP (xs : List Int) : List Nat := cd (mnI xs) ++ ownL (wdP xs) ++ (plC xs).flatten
def wdB (xs : List Int) : Nat := blen ((bookOf xs).length - 1)
def gpC (xs : List Int) : List (List Nat) := (difs (bookOf xs)).map fun d => ownL (d - 1).toNat
def bkC (xs : List Int) : List (List Nat) := xs.map fun x => bt (wdB xs) ((bookOf xs).idxOf x)
def encB (xs : List Int) : List Nat := ownL ((bookOf xs).length - 1) ++ cd ((bookOf xs).headD 0) ++ (gpC xs).flatten ++ (bkC xs).flatten
theorem flat_same {ls : List (List Nat)} {w : Nat} (h : ∀ l, l ∈ ls → l.length = w) : ls.flatten.length = ls.length * w := by
  induction ls with
  | nil => exact (Nat.zero_mul w).symm
  | cons l r ih =>
    rw [List.flatten_cons, List.length_append, h l (.head _), ih fun y hy => h y (.tail _ hy), List.length_cons, Nat.succ_mul, Nat.add_comm]
end Tg

set_option maxHeartbeats 1000000
namespace Tg
open PySem PySem.Spec PyProof.Rows L2
/-! ### lists or tuples; sorted of a tuple of ints, of a dict by ints -/
section
variable {X : Cx}
/-- a list or a tuple -/
def SqA (K : PySem.W.Frag) (H : Hp) (a : Addr) (xs : List V) : Prop := SqL K H a xs ∨ SqT K H a xs
def iSeq (K : PySem.W.Frag) (tl : TE) : TI := fun σ H R => tl σ H fun x H1 => ∃ a, x = .ref a ∧ (((∃ xs, SqL K H1 a xs) ∧ R (Itl K a) H1) ∨ ((∃ xs, SqT K H1 a xs) ∧ R (Itt K a) H1))
theorem pi_seq {tg l : Expr} {tl : TE} (hl : PE X l tl) : PI X tg l (iSeq X.K tl) := by
  refine ⟨fun pins s σ H R I want => thn (hl.run pins s σ H _ I want) fun v s1 ⟨x, H1, I1, r1, told⟩ => ?_⟩
  obtain ⟨a, rfl, q⟩ := told
  cases r1
  rcases q with ⟨⟨xs, hq⟩, q⟩ | ⟨⟨xs, hq⟩, q⟩
  · obtain ⟨its, rv, at_, hz⟩ := I1.list hq
    refine wpAny_pyIter_list at_.isList ⟨s1.heap.objs.size, [s1.heap.objs.size], _, _, H1, rfl, I1.kept (t' := s1.toks) fun b o e => Heap.get?_push_of_some _ e, turn_list a _, ⟨_, Heap.get?_push_size _ rfl, rfl, rfl⟩, fun b hb => ?_, q⟩
    rw [List.mem_singleton.mp hb]
    exact I1.fpOk Nat.le.refl (I1.hok.fresh Nat.le.refl)
  · obtain ⟨its, rv, at_, hz⟩ := I1.tuple hq
    refine wpAny_pyIter_tuple (show s1.heap.IsTuple a its.toArray from at_) ⟨s1.heap.objs.size, [s1.heap.objs.size], _, _, H1, rfl, I1.kept (t' := s1.toks) fun b o e => Heap.get?_push_of_some _ e, turn_tuple a _, ⟨_, Heap.get?_push_size _ rfl, rfl, rfl⟩, fun b hb => ?_, q⟩
    rw [List.mem_singleton.mp hb]
    exact I1.fpOk Nat.le.refl (I1.hok.fresh Nat.le.refl)
/-- sorted of what is walked to ints -/
theorem sorted_of {pins : List (Addr × Obj)} {σ : L2.St} {H : Hp} {s : Shared} {a : Addr} {ns : List Int} {Q : VK} (I : Inv X pins σ H s) (few : ns.length ≤ sizeLine)
    (col : ∀ (R : List Value → Shared → Prop) (E : Value → Shared → Prop), (∀ (h' : Heap) (tk : Nat) (vs : List Value), (∀ b o, s.heap.get? b = some o → h'.get? b = some o) → IntsAre vs ns → R vs { s with heap := h', toks := tk }) → wpAny (model X.prog X.w) X.A.in1 (collect (.ref a)) R E s)
    (q : ∀ (ns' : List Int) (p : Addr), ns'.Perm ns → ns'.Pairwise (· ≤ ·) → H p = none → Q (.ref p) (upd H p (.lst (ns'.map V.int)))) :
    wpAny (model X.prog X.w) X.A (call (.builtin "sorted") [.ref a]) (EP X pins σ Q) X.xe s := by
  apply Calls.call_function_entry kind_sorted plain_sorted entry_sorted (args_sorted1 _)
  unfold Builtin.«sorted»
  refine wpAny_bind (m := checkCount "sorted" 1 1 _) (wpAny_pure (wpAny_bind (col _ _ fun h' tk vs kept are => ?_)))
  have I1 : Inv X pins σ H { s with heap := h', toks := tk } := I.kept kept
  have many : vs.length = ns.length := by
    have z := congrArg List.length (SrtO.iv_ints are)
    rw [List.length_map] at z
    exact z
  have room : vs.length ≤ sizeLine := many ▸ few
  refine wpAny_bind (wpAny_newList ?_ room)
  have new : (h'.push (seqObj "list" vs.toArray 0)).get? h'.objs.size = some (seqObj "list" vs.toArray 0) := Heap.get?_push_size _ rfl
  show wpAny _ _ _ _ _ { s with heap := h'.push (seqObj "list" vs.toArray 0), toks := tk }
  refine wpAny_bind (wpAny_holding (wpAny_call_entry slot_list_sort ⟨_, new, rfl⟩ entry_list_sort ?_ (args_list_sort _)))
  refine SrtO.list_sort_ord (s := { s with heap := h'.push (seqObj "list" vs.toArray 0), toks := tk }) SrtO.swo_int new room (SrtO.ints_sortable are) fun out up stable => ⟨_, rfl, ?_⟩
  have ⟨a1, a2, a3⟩ := SrtO.ints_out are up stable
  have ⟨c, hc⟩ := sortedHeap_at (vs := vs) (out := out.toArray) new
  have len : ((out.map SrtO.iv).map V.int).length ≤ sizeLine := by
    rw [List.length_map, a2.length_eq]
    exact few
  refine wpAny_pure ⟨_, rfl, .ref h'.objs.size, upd H h'.objs.size (.lst ((out.map SrtO.iv).map V.int)), I1.laid (t' := tk) (fun b u e => ?_) (Nat.le_refl _) (show ObjOk X.prog X.w _ _ _ (.lst ((out.map SrtO.iv).map V.int)) from ⟨len, out, c, vals_of_ints a1, hc⟩), rfl, q _ _ a2 a3 (I1.hok.fresh (Nat.le_refl _))⟩
  have lt : b < h'.objs.size := Heap.lt_size e
  rw [sortedHeap_old (Nat.ne_of_lt lt) (by rw [size_push']; exact Nat.lt_succ_of_lt lt)]
  refine Heap.get?_push_of_some _ ?_
  exact e
/-- sorted of a list or a tuple of ints -/
def rSortedA (K : PySem.W.Frag) : List V → Hp → VK → Prop := fun vs H Q => ∃ (a : Addr) (ns : List Int), vs = [V.ref a] ∧ SqA K H a (ns.map V.int) ∧
  ∀ (ms : List Int) (l : Addr), ms.Perm ns → ms.Pairwise (· ≤ ·) → H l = none → Q (.ref l) (upd H l (.lst (ms.map V.int)))
theorem cr_sortedA : CallR X (.builtin "sorted") (rSortedA X.K) := by
  rintro pins s σ H vs us Q I r ⟨a, ns, rfl, hs, q⟩
  rcases hs with hs | hs
  · exact cr_sortedI pins s σ H _ us Q I r ⟨a, ns, rfl, hs, q⟩
  · rw [Vals.ref1 r]
    obtain ⟨its, rv, at_, hz⟩ := I.tuple hs
    have few : ns.length ≤ sizeLine := by
      rw [List.length_map] at hz
      exact hz
    obtain ⟨o, ho, hc, n, hd⟩ := at_
    refine sorted_of I few (fun R E told => ?_) q
    refine wpAny_collect_seq a (.inr rfl) ho hc hd (fun h' kept => ?_) (by rw [List.size_toArray, ← rv.length, List.length_map]; exact few)
    exact told h' s.toks its kept rv.ints
/-- sorted of a dict whose keys are ints: its keys -/
def rSortedDI : List V → Hp → VK → Prop := fun vs H Q => ∃ (a : Addr) (kvs : List (Key × V)) (ks : List Int), vs = [V.ref a] ∧ Rd H a (.dK kvs) ∧ kvs.map (·.1) = ks.map Sum.inl ∧
  ∀ (ns' : List Int) (p : Addr), ns'.Perm ks → ns'.Pairwise (· ≤ ·) → H p = none → Q (.ref p) (upd H p (.lst (ns'.map V.int)))
theorem cr_sortedDI (calm : X.calm = true) : CallR X (.builtin "sorted") rSortedDI := by
  rintro pins s σ H vs us Q I r ⟨a, kvs, ks, rfl, hd, hks, q⟩
  rw [Vals.ref1 r]
  obtain ⟨z, lo, ws, rel, dd⟩ := dk_rd I.hok hd
  obtain ⟨ep, hat⟩ := dd.dictAt
  have hkeys : ws.map (·.1) = ks.map Sum.inl := rel.keys.symm.trans hks
  have hl : ws.length = ks.length := by
    have many := congrArg List.length hkeys
    simpa only [List.length_map] using many
  have kl : kvs.length = ks.length := by
    have many := congrArg List.length hks
    simpa only [List.length_map] using many
  refine sorted_of I (kl ▸ z) (fun R E told => ?_) q
  refine PySem.W.kdu_collect (A := X.A.in1) (PySem.W.kdl_dict (knd := mixKind X.prog X.w) (kvs := ws) (ep := ep) lo) (I.ok.hd calm) hat (by rw [hl, ← kl]; exact z) fun h' tk acc hk hacc => ?_
  refine told h' tk acc.toList hk ?_
  have size : acc.toList.length = ks.length := by rw [Array.length_toList, hacc.1, hl]
  have rv : Vals (ks.map V.int) acc.toList := vals_of_at (by rw [List.length_map, size]) fun j x u hx hu => by
    obtain ⟨k, y, e1, e2⟩ := hacc.2 j u (by rw [← hu, Array.getElem?_toList])
    have e3 : (ws.map (·.1))[j]? = some k := by
      rw [List.getElem?_map, e1]
      rfl
    rw [List.getElem?_map] at hx
    simp only [hkeys, List.getElem?_map] at e3
    obtain ⟨n, en, rfl⟩ := Option.map_eq_some_iff.mp hx
    rw [en] at e3
    have e4 : Sum.inl n = k := Option.some.inj e3
    subst e4
    exact keyIs_rel (k := .inl n) (v := u) e2
  exact rv.ints
end
/-! ### walking a list or a tuple -/
section
variable {K : PySem.W.Frag} {a : Addr} {xs : List V} {H H' : Hp}
theorem sqL_at (k : ∀ o, H a = some o → H' a = some o) (h : SqL K H a xs) : SqL K H' a xs := h.imp (fun r => r.imp (k _) fun ⟨o, e⟩ => ⟨o, k _ e⟩) id
theorem sqT_at (k : ∀ o, H a = some o → H' a = some o) (h : SqT K H a xs) : SqT K H' a xs := h.imp (fun r => r.imp (k _) fun ⟨o, e⟩ => ⟨o, k _ e⟩) id
theorem sqA_at (k : ∀ o, H a = some o → H' a = some o) (h : SqA K H a xs) : SqA K H' a xs := h.imp (sqL_at k) (sqT_at k)
/-- all rounds of a loop over J -/
abbrev Rounds (J : It) (g : TG) (tb : TS) (D : Ends) (σ : L2.St) (H : Hp) : Prop :=
  ∃ W : Nat → Nat → L2.St → Hp → Prop, (∃ m, W 0 m σ H) ∧ ∀ i m σ1 H1, W i m σ1 H1 → (J.stop i H1 ∧ D.nx σ1 H1) ∨
    (J.go i H1 ∧ ∃ N : L2.St → Hp → Prop, (∀ σ2 H2, N σ2 H2 → ∃ m2, m2 < m ∧ W (i + 1) m2 σ2 H2) ∧ ∀ x H2, J.yld i H1 x H2 → g x σ1 H2 fun σ3 H3 => tb { D with nx := N, ct := N, bk := D.nx } σ3 H3)
theorem for_seq {Hb : Hp} {g : TG} {tb : TS} {D : Ends} {σ : L2.St} (sq : SqA K Hb a xs) (Pv : Nat → L2.St → Hp → Prop) (first : Pv 0 σ H) (keep : ∀ i σ1 H1, Pv i σ1 H1 → ∀ o, Hb a = some o → H1 a = some o)
    (round : ∀ i x σ1 H1, xs[i]? = some x → Pv i σ1 H1 → g x σ1 H1 fun σ2 H2 => tb { D with nx := Pv (i + 1), ct := Pv (i + 1), bk := D.nx } σ2 H2) (last : ∀ σ1 H1, Pv xs.length σ1 H1 → D.nx σ1 H1) :
    ((∃ ys, SqL K H a ys) ∧ Rounds (Itl K a) g tb D σ H) ∨ ((∃ ys, SqT K H a ys) ∧ Rounds (Itt K a) g tb D σ H) :=
  sq.imp (fun h => ⟨⟨_, sqL_at (keep 0 σ H first) h⟩, for_list Pv first (fun i σ1 H1 _ p => sqL_at (keep i σ1 H1 p) h) round last⟩) fun h => ⟨⟨_, sqT_at (keep 0 σ H first) h⟩, for_tup Pv first (fun i σ1 H1 _ p => sqT_at (keep i σ1 H1 p) h) round last⟩
abbrev RoundsL (J : It) (g : TG) (tt : TT) (te : TE) (vs : List Nat) (σ : L2.St) (H : Hp) (D : Addr) (Qd : Hp → Prop) : Prop :=
  ∃ W : Nat → Nat → Hp → Prop, (∃ m, W 0 m (upd H D (.lst []))) ∧ ∀ i m H1, W i m H1 → (J.stop i H1 ∧ Qd H1) ∨
    (J.go i H1 ∧ ∃ Nx : Hp → Prop, (∀ H2, Nx H2 → ∃ m2, m2 < m ∧ W (i + 1) m2 H2) ∧ ∀ x H2, J.yld i H1 x H2 → g x (wipe σ vs) H2 fun σ3 H3 => wipe σ3 vs = wipe σ vs ∧ tt σ3 H3 fun b H4 =>
      if b = true then te σ3 H4 fun y H5 => ∃ acc, H5 D = some (.lst acc) ∧ acc.length < sizeLine ∧ Nx (upd H5 D (.lst (acc ++ [y]))) else Nx H4)
theorem lc_seq {g : TG} {tt : TT} {te : TE} {vs : List Nat} {σ : L2.St} {Qd : Addr → Hp → Prop} (sq : SqA K H a xs) (Pv : Addr → Nat → Hp → Prop) (first : ∀ D, H D = none → Pv D 0 (upd H D (.lst []))) (keep : ∀ D i H1, H D = none → Pv D i H1 → ∀ o, H a = some o → H1 a = some o)
    (round : ∀ D (i : Nat) (x : V) H1, H D = none → xs[i]? = some x → Pv D i H1 → g x (wipe σ vs) H1 fun σ2 H2 => wipe σ2 vs = wipe σ vs ∧ tt σ2 H2 fun b H3 =>
      if b = true then te σ2 H3 fun y H4 => ∃ acc, H4 D = some (.lst acc) ∧ acc.length < sizeLine ∧ Pv D (i + 1) (upd H4 D (.lst (acc ++ [y]))) else Pv D (i + 1) H3) (last : ∀ D H1, H D = none → Pv D xs.length H1 → Qd D H1) :
    ((∃ ys, SqL K H a ys) ∧ ∀ D, H D = none → RoundsL (Itl K a) g tt te vs σ H D (Qd D)) ∨ ((∃ ys, SqT K H a ys) ∧ ∀ D, H D = none → RoundsL (Itt K a) g tt te vs σ H D (Qd D)) :=
  sq.imp (fun h => ⟨⟨_, h⟩, fun D nD => lc_list (Pv D) (first D nD) (fun i H1 _ p => sqL_at (keep D i H1 nD p) h) (fun i x H1 e p => round D i x H1 nD e p) fun H1 p => last D H1 nD p⟩)
    fun h => ⟨⟨_, h⟩, fun D nD => lc_tup (Pv D) (first D nD) (fun i H1 _ p => sqT_at (keep D i H1 nD p) h) (fun i x H1 e p => round D i x H1 nD e p) fun H1 p => last D H1 nD p⟩
/-- {k: v for x in xs} of a list -/
theorem dc_lst {g : TG} {tt : TT} {tk tv : TE} {vs : List Nat} {σ : L2.St} {H1 : Hp} {D : Addr} {Qd : Hp → Prop} (Pv : Nat → Hp → Prop) (first : Pv 0 (upd H1 D (.dK []))) (keep : ∀ i H2, Pv i H2 → SqL K H2 a xs)
    (round : ∀ i x H2, xs[i]? = some x → Pv i H2 → g x (wipe σ vs) H2 fun σ2 H3 => wipe σ2 vs = wipe σ vs ∧ tt σ2 H3 fun b H4 =>
      if b = true then tk σ2 H4 fun y H5 => tv σ2 H5 fun z H6 => ∃ kvs k, y = kV k ∧ H6 D = some (.dK kvs) ∧ kvs.length < sizeLine ∧ Pv (i + 1) (upd H6 D (.dK (putK kvs k z))) else Pv (i + 1) H4) (last : ∀ H2, Pv xs.length H2 → Qd H2) :
    ∃ W : Nat → Nat → Hp → Prop, (∃ m, W 0 m (upd H1 D (.dK []))) ∧ ∀ i m H2, W i m H2 →
      ((Itl K a).stop i H2 ∧ Qd H2) ∨ ((Itl K a).go i H2 ∧ ∃ Nx : Hp → Prop, (∀ H3, Nx H3 → ∃ m2, m2 < m ∧ W (i + 1) m2 H3) ∧ ∀ x H3, (Itl K a).yld i H2 x H3 → g x (wipe σ vs) H3 fun σ2 H4 => wipe σ2 vs = wipe σ vs ∧ tt σ2 H4 fun b H5 =>
        if b = true then tk σ2 H5 fun y H6 => tv σ2 H6 fun z H7 => ∃ kvs k, y = kV k ∧ H7 D = some (.dK kvs) ∧ kvs.length < sizeLine ∧ Nx (upd H7 D (.dK (putK kvs k z))) else Nx H5) := by
  refine ⟨fun i m H2 => m = xs.length - i ∧ i ≤ xs.length ∧ Pv i H2, ⟨xs.length, by omega, Nat.zero_le _, first⟩, ?_⟩
  rintro i m H2 ⟨rfl, hi, p⟩
  have q := keep i H2 p
  by_cases lt : i < xs.length
  · refine .inr ⟨⟨xs, xs[i], q, List.getElem?_eq_getElem lt⟩, Pv (i + 1), fun H3 p3 => ⟨xs.length - (i + 1), by omega, rfl, lt, p3⟩, fun x H3 y => ?_⟩
    obtain ⟨rfl, y⟩ := y
    exact round i x H3 (y xs q) p
  · obtain rfl : i = xs.length := by omega
    exact .inl ⟨⟨xs, q, Nat.le_refl _⟩, last H2 p⟩
end
end Tg

namespace Tg
open PySem L2
/-! ### rows: time, number, worth or none -/
abbrev Rw := Int × Int × Option Int
def Lt (x y : Rw) : Prop := x.1 < y.1 ∨ (x.1 = y.1 ∧ x.2.1 < y.2.1)
def Srt (rs : List Rw) : Prop := rs.Pairwise Lt
theorem Lt.irr (x : Rw) : ¬ Lt x x := fun h => by
  rcases h with h | h
  · omega
  · omega
theorem Srt.sub {rs : List Rw} (h : Srt rs) (p : Rw → Bool) : Srt (rs.filter p) := List.Pairwise.filter p h
/-- r is the last row of its time with a number up to n -/
def IsLast (rs : List Rw) (n : Int) (r : Rw) : Prop := r ∈ rs ∧ r.2.1 ≤ n ∧ ∀ q, q ∈ rs → q.1 = r.1 → q.2.1 ≤ n → q.2.1 ≤ r.2.1
theorem srt_tri {rs : List Rw} (h : Srt rs) {a b : Rw} (ha : a ∈ rs) (hb : b ∈ rs) : a = b ∨ Lt a b ∨ Lt b a := by
  induction rs with
  | nil => cases ha
  | cons x r ih =>
    have ⟨h1, h2⟩ := List.pairwise_cons.mp (show (x :: r).Pairwise Lt from h)
    rcases List.mem_cons.mp ha with e1 | a1
    · rcases List.mem_cons.mp hb with e2 | b1
      · exact .inl (e1.trans e2.symm)
      · rw [e1]
        exact .inr (.inl (h1 b b1))
    · rcases List.mem_cons.mp hb with e2 | b1
      · rw [e2]
        exact .inr (.inr (h1 a a1))
      · exact ih h2 a1 b1
theorem srt_same {rs : List Rw} (h : Srt rs) {a b : Rw} (ha : a ∈ rs) (hb : b ∈ rs) (e1 : a.1 = b.1) (e2 : a.2.1 = b.2.1) : a = b := by
  rcases srt_tri h ha hb with e | (e | e) | (e | e)
  · exact e
  · omega
  · omega
  · omega
  · omega
theorem last_uniq {rs : List Rw} (h : Srt rs) {n : Int} {a b : Rw} (ha : IsLast rs n a) (hb : IsLast rs n b) (e : a.1 = b.1) : a = b := by
  have h1 := ha.2.2 b hb.1 e.symm hb.2.1
  have h2 := hb.2.2 a ha.1 e ha.2.1
  exact srt_same h ha.1 hb.1 e (by omega)
theorem Srt.nodup {rs : List Rw} (h : Srt rs) : rs.Nodup := by
  unfold List.Nodup
  refine List.Pairwise.imp (fun {a b} (l : Lt a b) => ?_) h
  intro e
  rw [← e] at l
  exact Lt.irr a l
/-! ### tables by times -/
def putL {α : Type} (m : List (Int × α)) (t : Int) (a : α) : List (Int × α) := if (m.any fun p => decide (p.1 = t)) = true then m.map (fun p => if p.1 = t then (p.1, a) else p) else m ++ [(t, a)]
theorem mem_putL {α : Type} {m : List (Int × α)} {t : Int} {a : α} {p : Int × α} : p ∈ putL m t a ↔ p = (t, a) ∨ (p ∈ m ∧ ¬ p.1 = t) := by
  unfold putL
  by_cases c : (m.any fun p => decide (p.1 = t)) = true
  · rw [if_pos c]
    obtain ⟨q, hq, eq⟩ := List.any_eq_true.mp c
    have eq := of_decide_eq_true eq
    constructor
    · intro h
      obtain ⟨x, hx, e⟩ := List.mem_map.mp h
      by_cases d : x.1 = t
      · rw [if_pos d, d] at e
        exact .inl e.symm
      · rw [if_neg d] at e
        subst e
        exact .inr ⟨hx, d⟩
    · rintro (rfl | ⟨h1, h2⟩)
      · exact List.mem_map.mpr ⟨q, hq, by rw [if_pos eq, eq]⟩
      · exact List.mem_map.mpr ⟨p, h1, by rw [if_neg h2]⟩
  · rw [if_neg c]
    constructor
    · intro there
      rcases List.mem_append.mp there with old | new
      · exact .inr ⟨old, fun z => c (List.any_eq_true.mpr ⟨p, old, decide_eq_true z⟩)⟩
      · exact .inl (List.mem_singleton.mp new)
    · rintro (rfl | ⟨h1, h2⟩)
      · exact List.mem_append_right _ (List.mem_singleton.mpr rfl)
      · exact List.mem_append_left _ h1
theorem putL_keys {α : Type} {m : List (Int × α)} {t : Int} {a : α} (h : m.Pairwise fun x y => x.1 < y.1) (le : ∀ p, p ∈ m → p.1 ≤ t) : (putL m t a).Pairwise fun x y => x.1 < y.1 := by
  unfold putL
  by_cases c : (m.any fun p => decide (p.1 = t)) = true
  · rw [if_pos c, List.pairwise_map]
    refine h.imp fun {x y} l => ?_
    by_cases d : x.1 = t
    · by_cases e : y.1 = t
      · rw [if_pos d, if_pos e]
        exact l
      · rw [if_pos d, if_neg e]
        exact l
    · by_cases e : y.1 = t
      · rw [if_neg d, if_pos e]
        exact l
      · rw [if_neg d, if_neg e]
        exact l
  · rw [if_neg c, List.pairwise_append]
    refine ⟨h, List.pairwise_singleton _ _, fun x hx y hy => ?_⟩
    rw [List.mem_singleton.mp hy]
    have h1 := le x hx
    have h2 : ¬ x.1 = t := fun z => c (List.any_eq_true.mpr ⟨x, hx, decide_eq_true z⟩)
    show x.1 < t
    omega
theorem putL_len {α : Type} {m : List (Int × α)} {t : Int} {a : α} : (putL m t a).length ≤ m.length + 1 := by
  unfold putL
  split
  · rw [List.length_map]
    omega
  · rw [List.length_append]
    exact Nat.le_refl _
/-- of each time the last row up to a number -/
def lwR (rs : List Rw) (n : Int) : List (Int × Rw) := rs.foldl (fun m r => if r.2.1 ≤ n then putL m r.1 r else m) []
theorem lwR_snoc (rs : List Rw) (n : Int) (r : Rw) : lwR (rs ++ [r]) n = if r.2.1 ≤ n then putL (lwR rs n) r.1 r else lwR rs n := by
  unfold lwR
  rw [List.foldl_append]
  rfl
theorem lwR_len (rs : List Rw) (n : Int) : (lwR rs n).length ≤ rs.length := by
  obtain ⟨k, hk⟩ : ∃ k, rs.length = k := ⟨_, rfl⟩
  induction k generalizing rs with
  | zero =>
    rw [List.length_eq_zero_iff.mp hk]
    exact Nat.le_refl _
  | succ k ih =>
    rcases List.eq_nil_or_concat rs with rfl | ⟨q, x, e⟩
    · exact Nat.zero_le _
    · rw [List.concat_eq_append] at e
      subst e
      rw [List.length_append] at hk ⊢
      have i1 := ih q (by simp at hk; exact hk)
      rw [lwR_snoc]
      have := putL_len (m := lwR q n) (t := x.1) (a := x)
      show _ ≤ q.length + 1
      split <;> omega
theorem lwR_is {n : Int} (rs : List Rw) (h : Srt rs) : ((lwR rs n).Pairwise fun x y => x.1 < y.1) ∧ ∀ p : Int × Rw, p ∈ lwR rs n ↔ p.1 = p.2.1 ∧ IsLast rs n p.2 := by
  obtain ⟨k, hk⟩ : ∃ k, rs.length = k := ⟨_, rfl⟩
  induction k generalizing rs with
  | zero =>
    rw [List.length_eq_zero_iff.mp hk]
    exact ⟨.nil, fun p => ⟨(fun z => absurd z List.not_mem_nil), (fun z => absurd z.2.1 List.not_mem_nil)⟩⟩
  | succ k ih =>
    rcases List.eq_nil_or_concat rs with rfl | ⟨q, x, e⟩
    · exact ⟨.nil, fun p => ⟨(fun z => absurd z List.not_mem_nil), (fun z => absurd z.2.1 List.not_mem_nil)⟩⟩
    · rw [List.concat_eq_append] at e
      subst e
      rw [List.length_append] at hk
      obtain ⟨h1, _, h3⟩ := List.pairwise_append.mp h
      have hx : ∀ y, y ∈ q → Lt y x := fun y hy => h3 y hy x (List.mem_singleton.mpr rfl)
      obtain ⟨i1, i2⟩ := ih q h1 (by simp at hk; exact hk)
      rw [lwR_snoc]
      by_cases c : x.2.1 ≤ n
      · rw [if_pos c]
        constructor
        · refine putL_keys i1 fun p hp => ?_
          obtain ⟨e1, e2⟩ := (i2 p).mp hp
          rcases hx p.2 e2.1 with l | l <;> omega
        · intro p
          rw [mem_putL]
          constructor
          · rintro (rfl | ⟨h4, h5⟩)
            · refine ⟨rfl, List.mem_append_right _ (List.mem_singleton.mpr rfl), c, fun y hy e4 _ => ?_⟩
              rcases List.mem_append.mp hy with h | h
              · rcases hx y h with l | l
                · have e4' : y.1 = x.1 := e4
                  omega
                · show y.2.1 ≤ x.2.1
                  omega
              · rw [List.mem_singleton.mp h]
                exact Int.le_refl _
            · obtain ⟨e1, e2, e3, e4⟩ := (i2 p).mp h4
              refine ⟨e1, List.mem_append_left _ e2, e3, fun y hy e5 e6 => ?_⟩
              rcases List.mem_append.mp hy with h | h
              · exact e4 y h e5 e6
              · rw [List.mem_singleton.mp h] at e5
                omega
          · rintro ⟨e1, e2, e3, e4⟩
            rcases List.mem_append.mp e2 with h | h
            · by_cases d : p.1 = x.1
              · exfalso
                have := e4 x (List.mem_append_right _ (List.mem_singleton.mpr rfl)) (by omega) c
                rcases hx p.2 h with l | l <;> omega
              · exact .inr ⟨(i2 p).mpr ⟨e1, h, e3, fun y hy => e4 y (List.mem_append_left _ hy)⟩, d⟩
            · left
              have e := List.mem_singleton.mp h
              obtain ⟨p1, p2⟩ := p
              have e' : p2 = x := e
              rw [e'] at e1 ⊢
              exact congrArg (fun z => (z, x)) e1
      · rw [if_neg c]
        refine ⟨i1, fun p => ?_⟩
        rw [i2 p]
        constructor
        · rintro ⟨e1, e2, e3, e4⟩
          refine ⟨e1, List.mem_append_left _ e2, e3, fun y hy e5 e6 => ?_⟩
          rcases List.mem_append.mp hy with h | h
          · exact e4 y h e5 e6
          · rw [List.mem_singleton.mp h] at e6
            exact absurd e6 c
        · rintro ⟨e1, e2, e3, e4⟩
          rcases List.mem_append.mp e2 with h | h
          · exact ⟨e1, h, e3, fun y hy => e4 y (List.mem_append_left _ hy)⟩
          · rw [List.mem_singleton.mp h] at e3
            exact absurd e3 c
/-- there is a last one -/
theorem last_of {rs : List Rw} (h : Srt rs) {n t : Int} {l : Rw} (e : (rs.filter fun q => decide (q.1 = t ∧ q.2.1 ≤ n)).getLast? = some l) : IsLast rs n l ∧ l.1 = t := by
  have ml := List.mem_of_getLast? e
  obtain ⟨m1, m2⟩ := List.mem_filter.mp ml
  obtain ⟨m3, m4⟩ := of_decide_eq_true m2
  refine ⟨⟨m1, m4, fun q hq e1 e2 => ?_⟩, m3⟩
  have mq : q ∈ rs.filter fun q => decide (q.1 = t ∧ q.2.1 ≤ n) := List.mem_filter.mpr ⟨hq, decide_eq_true ⟨by omega, e2⟩⟩
  have hs := h.sub fun q => decide (q.1 = t ∧ q.2.1 ≤ n)
  revert e mq hs
  generalize rs.filter (fun q => decide (q.1 = t ∧ q.2.1 ≤ n)) = fs
  intro e mq hs
  rcases List.eq_nil_or_concat fs with rfl | ⟨g, x, eg⟩
  · cases mq
  · rw [List.concat_eq_append] at eg
    subst eg
    rw [List.getLast?_concat] at e
    cases e
    rcases List.mem_append.mp mq with hg | hg
    · rcases (List.pairwise_append.mp hs).2.2 q hg l (List.mem_singleton.mpr rfl) with z | z <;> omega
    · rw [List.mem_singleton.mp hg]
      exact Int.le_refl _
theorem last_there {rs : List Rw} (h : Srt rs) {n : Int} {r : Rw} (hr : r ∈ rs) (hn : r.2.1 ≤ n) : ∃ l, IsLast rs n l ∧ l.1 = r.1 := by
  cases e : (rs.filter fun q => decide (q.1 = r.1 ∧ q.2.1 ≤ n)).getLast? with
  | some l => exact ⟨l, last_of h e⟩
  | none =>
    rw [List.getLast?_eq_none_iff] at e
    have : r ∈ rs.filter fun q => decide (q.1 = r.1 ∧ q.2.1 ≤ n) := List.mem_filter.mpr ⟨hr, decide_eq_true ⟨rfl, hn⟩⟩
    rw [e] at this
    cases this
/-! ### rising lists are told by their members -/
theorem ext_sorted {α : Type} {lt : α → α → Prop} (irr : ∀ a, ¬ lt a a) (tr : ∀ a b c, lt a b → lt b c → lt a c) : ∀ {xs ys : List α}, xs.Pairwise lt → ys.Pairwise lt → (∀ a, a ∈ xs ↔ a ∈ ys) → xs = ys
  | [], [], _, _, _ => rfl
  | [], y :: ys, _, _, h => nomatch (h y).mpr List.mem_cons_self
  | x :: xs, [], _, _, h => nomatch (h x).mp List.mem_cons_self
  | x :: xs, y :: ys, h1, h2, h => by
    obtain ⟨a1, a2⟩ := List.pairwise_cons.mp h1
    obtain ⟨b1, b2⟩ := List.pairwise_cons.mp h2
    have e : x = y := by
      rcases List.mem_cons.mp ((h x).mp List.mem_cons_self) with z | z
      · exact z
      · rcases List.mem_cons.mp ((h y).mpr List.mem_cons_self) with u | u
        · exact u.symm
        · exact absurd (tr _ _ _ (a1 y u) (b1 x z)) (irr x)
    subst e
    refine congrArg (x :: ·) (ext_sorted irr tr a2 b2 fun a => ?_)
    constructor
    · intro ha
      rcases List.mem_cons.mp ((h a).mp (List.mem_cons_of_mem _ ha)) with z | z
      · rw [z] at ha
        exact absurd (a1 x ha) (irr x)
      · exact z
    · intro ha
      rcases List.mem_cons.mp ((h a).mpr (List.mem_cons_of_mem _ ha)) with z | z
      · rw [z] at ha
        exact absurd (b1 x ha) (irr x)
      · exact z
/-! ### what is known -/
def kn (rs : List Rw) (n : Int) : List (Int × Int) := (lwR rs n).filterMap fun p => p.2.2.2.map fun w => (p.1, w)
theorem mem_kn {rs : List Rw} (h : Srt rs) {n : Int} {x : Int × Int} : x ∈ kn rs n ↔ ∃ r, IsLast rs n r ∧ r.1 = x.1 ∧ r.2.2 = some x.2 := by
  unfold kn
  rw [List.mem_filterMap]
  constructor
  · rintro ⟨p, hp, e⟩
    obtain ⟨e1, e2⟩ := ((lwR_is rs h).2 p).mp hp
    obtain ⟨w, e3, rfl⟩ := Option.map_eq_some_iff.mp e
    exact ⟨p.2, e2, e1.symm, e3⟩
  · rintro ⟨r, h1, h2, h3⟩
    refine ⟨(r.1, r), ((lwR_is rs h).2 _).mpr ⟨rfl, h1⟩, ?_⟩
    rw [h3, h2]
    rfl
theorem kn_srt {rs : List Rw} (h : Srt rs) (n : Int) : (kn rs n).Pairwise fun x y => x.1 < y.1 := by
  unfold kn
  rw [List.pairwise_filterMap]
  refine (lwR_is rs h).1.imp fun {a b} l x hx y hy => ?_
  obtain ⟨w, _, rfl⟩ := Option.map_eq_some_iff.mp hx
  obtain ⟨u, _, rfl⟩ := Option.map_eq_some_iff.mp hy
  exact l
theorem kn_len (rs : List Rw) (n : Int) : (kn rs n).length ≤ rs.length := Nat.le_trans (List.length_filterMap_le _ _) (lwR_len rs n)
theorem kn_ext {rs qs : List Rw} (h1 : Srt rs) (h2 : Srt qs) {n m : Int} (h : ∀ r, r.2.2 ≠ none → (IsLast rs n r ↔ IsLast qs m r)) : kn rs n = kn qs m := by
  refine ext_sorted (lt := fun x y => x.1 < y.1) (fun a => Int.lt_irrefl _) (fun a b c => Int.lt_trans) (kn_srt h1 n) (kn_srt h2 m) fun x => ?_
  rw [mem_kn h1, mem_kn h2]
  constructor
  · rintro ⟨r, a, b, c⟩
    exact ⟨r, (h r (by rw [c]; simp)).mp a, b, c⟩
  · rintro ⟨r, a, b, c⟩
    exact ⟨r, (h r (by rw [c]; simp)).mpr a, b, c⟩
/-! ### what is needed -/
instance (rs : List Rw) (n : Int) (r : Rw) : Decidable (IsLast rs n r) := by
  unfold IsLast
  exact inferInstance
def Need (rs : List Rw) (n : Int) (r : Rw) : Prop := n < r.2.1 ∨ (IsLast rs n r ∧ ¬ r.2.2 = none)
instance (rs : List Rw) (n : Int) (r : Rw) : Decidable (Need rs n r) := by
  unfold Need
  exact inferInstance
def fl (rs : List Rw) (n : Int) (r : Rw) : Bool := decide (Need rs n r)
def thin (rs : List Rw) (n : Int) : List Rw := rs.filter (fl rs n)
def ndl (rs : List Rw) (n : Int) : List Rw := rs.filter fun r => !fl rs n r
theorem thin_known {rs : List Rw} (h : Srt rs) {n m : Int} (le : n ≤ m) : kn (thin rs n) m = kn rs m := by
  refine kn_ext (h.sub _) h fun r hr => ?_
  constructor
  · rintro ⟨a1, a2, a3⟩
    obtain ⟨b1, b2⟩ := List.mem_filter.mp a1
    have b3 : Need rs n r := of_decide_eq_true b2
    refine ⟨b1, a2, fun q hq e1 e2 => ?_⟩
    by_cases c : n < q.2.1
    · exact a3 q (List.mem_filter.mpr ⟨hq, decide_eq_true (.inl c)⟩) e1 e2
    · rcases b3 with z | z
      · omega
      · exact z.1.2.2 q hq e1 (by omega)
  · rintro ⟨a1, a2, a3⟩
    refine ⟨List.mem_filter.mpr ⟨a1, decide_eq_true ?_⟩, a2, fun q hq e1 e2 => a3 q (List.mem_filter.mp hq).1 e1 e2⟩
    by_cases c : n < r.2.1
    · exact .inl c
    · exact .inr ⟨⟨a1, by omega, fun q hq e1 e2 => a3 q hq e1 (by omega)⟩, hr⟩
/-- a row left out is missed -/
theorem missed {rs : List Rw} (h : Srt rs) {n : Int} {row : Rw} (hm : row ∈ thin rs n) (hw : ¬ row.2.2 = none) {b : Int} (eb : b = max n row.2.1)
    (he : (((thin rs n).filter fun q => !decide (q = row)).filter fun q => decide (q.1 = row.1 ∧ q.2.1 ≤ b)).getLast?.map (·.2.2) ≠ some row.2.2) :
    kn ((thin rs n).filter fun q => !decide (q = row)) b ≠ kn (thin rs n) b := fun z => by
  have hl : Srt (thin rs n) := h.sub _
  have hf : Srt ((thin rs n).filter fun q => !decide (q = row)) := hl.sub _
  obtain ⟨w, ew⟩ : ∃ w, row.2.2 = some w := by
    cases e : row.2.2 with
    | none => exact absurd e hw
    | some w => exact ⟨w, rfl⟩
  have last : IsLast (thin rs n) b row := by
    refine ⟨hm, by omega, fun q hq e1 e2 => ?_⟩
    obtain ⟨m1, m2⟩ := List.mem_filter.mp hm
    have nd : Need rs n row := of_decide_eq_true m2
    rcases nd with c | c
    · omega
    · have := c.1.2.1
      exact c.1.2.2 q (List.mem_filter.mp hq).1 e1 (by omega)
  have m1 : (row.1, w) ∈ kn (thin rs n) b := (mem_kn hl).mpr ⟨row, last, rfl, ew⟩
  rw [← z, mem_kn hf] at m1
  obtain ⟨r, r1, r2, r3⟩ := m1
  cases e : (((thin rs n).filter fun q => !decide (q = row)).filter fun q => decide (q.1 = row.1 ∧ q.2.1 ≤ b)).getLast? with
  | none =>
    rw [List.getLast?_eq_none_iff] at e
    have : r ∈ ((thin rs n).filter fun q => !decide (q = row)).filter fun q => decide (q.1 = row.1 ∧ q.2.1 ≤ b) := List.mem_filter.mpr ⟨r1.1, decide_eq_true ⟨r2, r1.2.1⟩⟩
    rw [e] at this
    cases this
  | some l =>
    obtain ⟨l1, l2⟩ := last_of hf e
    have el := last_uniq hf r1 l1 (by rw [l2]; exact r2)
    refine he ?_
    rw [e, ← el, ew]
    exact congrArg some r3
/-! ### the tables as dicts -/
def lwV (f : Rw → V) (rs : List Rw) (n : Int) : List (Key × V) := rs.foldl (fun m r => if r.2.1 ≤ n then putK m (Sum.inl r.1) (f r) else m) []
theorem lwV_snoc (f : Rw → V) (rs : List Rw) (n : Int) (r : Rw) : lwV f (rs ++ [r]) n = if r.2.1 ≤ n then putK (lwV f rs n) (Sum.inl r.1) (f r) else lwV f rs n := by
  unfold lwV
  rw [List.foldl_append]
  rfl
theorem putK_map (f : Rw → V) (m : List (Int × Rw)) (t : Int) (r : Rw) : putK (m.map fun p => ((Sum.inl p.1 : Key), f p.2)) (Sum.inl t) (f r) = (putL m t r).map fun p => ((Sum.inl p.1 : Key), f p.2) := by
  unfold putK putL
  have e : ((m.map fun p => ((Sum.inl p.1 : Key), f p.2)).any fun kv => decide (kv.1 = Sum.inl t)) = m.any fun p => decide (p.1 = t) := by
    rw [List.any_map]
    refine List.any_congr rfl fun p => ?_
    simp only [Function.comp_apply, Sum.inl.injEq]
  rw [e]
  by_cases c : (m.any fun p => decide (p.1 = t)) = true
  · rw [if_pos c, if_pos c, List.map_map, List.map_map]
    refine List.map_congr_left fun p _ => ?_
    simp only [Function.comp_apply]
    by_cases d : p.1 = t
    · rw [if_pos (congrArg Sum.inl d), if_pos d]
    · rw [if_neg (fun z => d (Sum.inl.inj z)), if_neg d]
  · rw [if_neg c, if_neg c, List.map_append]
    rfl
theorem lwV_eq (f : Rw → V) (rs : List Rw) (n : Int) : lwV f rs n = (lwR rs n).map fun p => ((Sum.inl p.1 : Key), f p.2) := by
  obtain ⟨k, hk⟩ : ∃ k, rs.length = k := ⟨_, rfl⟩
  induction k generalizing rs with
  | zero =>
    rw [List.length_eq_zero_iff.mp hk]
    rfl
  | succ k ih =>
    rcases List.eq_nil_or_concat rs with rfl | ⟨q, x, e⟩
    · rfl
    · rw [List.concat_eq_append] at e
      subst e
      rw [List.length_append] at hk
      have i1 := ih q (by simp at hk; exact hk)
      rw [lwV_snoc, lwR_snoc, i1]
      by_cases c : x.2.1 ≤ n
      · rw [if_pos c, if_pos c, putK_map]
      · rw [if_neg c, if_neg c]
theorem lwV_len (f : Rw → V) (rs : List Rw) (n : Int) : (lwV f rs n).length ≤ rs.length := by
  rw [lwV_eq, List.length_map]
  exact lwR_len rs n
theorem valV_of {f : Rw → V} : ∀ {m : List (Int × Rw)} {p : Int × Rw}, (m.Pairwise fun x y => x.1 < y.1) → p ∈ m → valV (m.map fun p => ((Sum.inl p.1 : Key), f p.2)) (Sum.inl p.1) = some (f p.2)
  | [], p, _, h => nomatch h
  | q :: m, p, .cons h1 h2, there => by
    rcases List.mem_cons.mp there with rfl | h
    · exact valV_pos rfl
    · rw [List.map_cons, valV_neg (fun z => by
        have := h1 p h
        have : q.1 = p.1 := Sum.inl.inj z
        omega)]
      exact valV_of h2 h
theorem lwV_last {f : Rw → V} {rs : List Rw} (h : Srt rs) {n : Int} {r : Rw} (hl : IsLast rs n r) : valV (lwV f rs n) (Sum.inl r.1 : Key) = some (f r) := by
  rw [lwV_eq]
  exact valV_of (p := (r.1, r)) (lwR_is rs h).1 (((lwR_is rs h).2 _).mpr ⟨rfl, hl⟩)
/-- the values of a list of unlike rows, as a function -/
theorem val_fun : ∀ (rs : List Rw) (xs : List V), rs.Nodup → ∃ f : Rw → V, ∀ (i : Nat) (r : Rw) (v : V), rs[i]? = some r → xs[i]? = some v → f r = v
  | [], xs, _ => ⟨fun _ => .non, fun i r v h => by simp at h⟩
  | r0 :: rs, [], _ => ⟨fun _ => .non, fun i r v _ h => by simp at h⟩
  | r0 :: rs, x :: xs, nd => by
    have n1 := (List.nodup_cons.mp nd).1
    obtain ⟨f, hf⟩ := val_fun rs xs (List.nodup_cons.mp nd).2
    refine ⟨fun r => if r = r0 then x else f r, fun i r v h1 h2 => ?_⟩
    cases i with
    | zero =>
      simp only [List.getElem?_cons_zero, Option.some.injEq] at h1 h2
      show (if r = r0 then x else f r) = v
      rw [if_pos h1.symm, h2]
    | succ i =>
      rw [List.getElem?_cons_succ] at h1 h2
      have ne : ¬ r = r0 := fun z => n1 (z ▸ List.mem_of_getElem? h1)
      show (if r = r0 then x else f r) = v
      rw [if_neg ne]
      exact hf i r v h1 h2
end Tg

namespace Tg
open PySem PySem.Spec PyProof.Rows L2
/-! ### rows and points as data -/
def dw : Option Int → PyData
  | none => .none
  | some i => .int i
def vw : Option Int → V
  | none => .non
  | some i => .int i
theorem dp_vw {K : PySem.W.Frag} {H : Hp} : ∀ o : Option Int, Dp K H (vw o) (dw o)
  | none => .non
  | some i => .int i
theorem dp_dw {K : PySem.W.Frag} {H : Hp} {v : V} : ∀ {o : Option Int}, Dp K H v (dw o) → v = vw o
  | none, h => by
    cases h
    rfl
  | some i, h => by
    cases h
    rfl
theorem vw_non (o : Option Int) : decide (vw o = .non) = o.isNone := by
  cases o with
  | none => rfl
  | some i => rfl
theorem td_dw : ∀ o : Option Int, TD (dw o)
  | none => .non
  | some i => .int i
theorem eq_dw (a b : Option Int) : PyData.eqv (dw a) (dw b) = decide (a = b) := by
  cases a with
  | none =>
    cases b with
    | none => rfl
    | some j => rfl
  | some i =>
    cases b with
    | none => rfl
    | some j =>
      show (i == j) = _
      by_cases c : i = j
      · rw [c, beq_self_eq_true, decide_eq_true rfl]
      · rw [beq_eq_false_iff_ne.mpr c, decide_eq_false fun z => c (Option.some.inj z)]
def rd (r : Rw) : PyData := .tuple [.int r.1, .int r.2.1, dw r.2.2]
def pd (x : Int × Int) : PyData := .tuple [.int x.1, .int x.2]
theorem td_rd (r : Rw) : TD (rd r) := .tup fun d hd => by
  simp only [List.mem_cons, List.not_mem_nil, or_false] at hd
  rcases hd with rfl | rfl | rfl
  · exact .int _
  · exact .int _
  · exact td_dw _
theorem td_rds (rs : List Rw) : ∀ d, d ∈ rs.map rd → TD d := fun d hd => by
  obtain ⟨x, _, rfl⟩ := List.mem_map.mp hd
  exact td_rd x
theorem td_pd (x : Int × Int) : TD (pd x) := .tup fun d hd => by
  simp only [List.mem_cons, List.not_mem_nil, or_false] at hd
  rcases hd with rfl | rfl
  · exact .int _
  · exact .int _
theorem td_pds (ps : List (Int × Int)) : ∀ d, d ∈ ps.map pd → TD d := fun d hd => by
  obtain ⟨x, _, rfl⟩ := List.mem_map.mp hd
  exact td_pd x
theorem dp_rd {K : PySem.W.Frag} {H : Hp} {v : V} {r : Rw} (h : Dp K H v (rd r)) : ∃ a, v = .ref a ∧ SqT K H a [.int r.1, .int r.2.1, vw r.2.2] := by
  cases h with
  | tup a b =>
    cases b with
    | cons h1 b =>
      cases b with
      | cons h2 b =>
        cases b with
        | cons h3 b =>
          cases b
          cases h1
          cases h2
          rw [dp_dw h3] at a
          exact ⟨_, rfl, a⟩
theorem rd_new {K : PySem.W.Frag} {H : Hp} {a : Addr} {r : Rw} (h : SqT K H a [.int r.1, .int r.2.1, vw r.2.2]) : Dp K H (.ref a) (rd r) := .tup h (.cons (.int _) (.cons (.int _) (.cons (dp_vw _) .nil)))
theorem pd_new {K : PySem.W.Frag} {H : Hp} {a : Addr} {x : Int × Int} (h : H a = some (.tup [.int x.1, .int x.2])) : Dp K H (.ref a) (pd x) := .tup (SqT.of h) (.cons (.int _) (.cons (.int _) .nil))
theorem lay_dw : ∀ o : Option Int, (dw o).canLay0 = true
  | none => rfl
  | some i => rfl
theorem dep_dw : ∀ o : Option Int, (dw o).depth = 0
  | none => rfl
  | some i => rfl
theorem lay_rd (r : Rw) : (rd r).canLay0 = true := by
  show (true && (true && ((dw r.2.2).canLay0 && true))) = true
  rw [lay_dw]
  rfl
theorem dep_rd (r : Rw) : (rd r).depth = 1 := by
  show max 0 (max 0 (max (dw r.2.2).depth 0)) + 1 = 1
  rw [dep_dw]
  rfl
theorem eq_rd (a b : Rw) : PyData.eqv (rd a) (rd b) = decide (a = b) := by
  show ((a.1 == b.1) && ((a.2.1 == b.2.1) && (PyData.eqv (dw a.2.2) (dw b.2.2) && true))) = _
  rw [eq_dw]
  by_cases c : a = b
  · subst c
    rw [beq_self_eq_true, beq_self_eq_true, decide_eq_true rfl, decide_eq_true rfl]
    rfl
  · rw [decide_eq_false c]
    by_cases c1 : a.1 = b.1
    · by_cases c2 : a.2.1 = b.2.1
      · by_cases c3 : a.2.2 = b.2.2
        · exact absurd (Prod.ext c1 (Prod.ext c2 c3)) c
        · rw [decide_eq_false c3]
          simp
      · rw [beq_eq_false_iff_ne.mpr c2]
        simp
    · rw [beq_eq_false_iff_ne.mpr c1]
      rfl
/-- lists of things of such a form -/
theorem form_all {α : Type} {f : α → PyData} (h1 : ∀ x, (f x).canLay0 = true) (h2 : ∀ x, (f x).depth ≤ 1) (h3 : ∀ x, PyData.eqv (f x) (f x) = true) (xs : List α) :
    PyData.canLayAll0 (xs.map f) = true ∧ PyData.depthAll (xs.map f) ≤ 1 ∧ PyData.eqvAll (xs.map f) (xs.map f) = true := by
  induction xs with
  | nil => exact ⟨rfl, Nat.zero_le _, rfl⟩
  | cons x r ih =>
    obtain ⟨i1, i2, i3⟩ := ih
    refine ⟨?_, ?_, ?_⟩
    · show ((f x).canLay0 && PyData.canLayAll0 (r.map f)) = true
      rw [h1, i1]
      rfl
    · show max (f x).depth (PyData.depthAll (r.map f)) ≤ 1
      have := h2 x
      omega
    · show (PyData.eqv (f x) (f x) && PyData.eqvAll (r.map f) (r.map f)) = true
      rw [h3, i3]
      rfl
theorem form_list {α : Type} {f : α → PyData} (h1 : ∀ x, (f x).canLay0 = true) (h2 : ∀ x, (f x).depth ≤ 1) (h3 : ∀ x, PyData.eqv (f x) (f x) = true) (xs : List α) : SeqAt.shaped (.list (xs.map f)) = true ∧ PyData.eqv (.list (xs.map f)) (.list (xs.map f)) = true := by
  obtain ⟨a, b, c⟩ := form_all h1 h2 h3 xs
  refine ⟨shaped_of a ?_, c⟩
  show PyData.depthAll (xs.map f) + 1 ≤ 64
  omega
theorem ref_rd (r : Rw) : PyData.eqv (rd r) (rd r) = true := by
  rw [eq_rd]
  exact decide_eq_true rfl
theorem rds_form (rs : List Rw) : SeqAt.shaped (.list (rs.map rd)) = true ∧ PyData.eqv (.list (rs.map rd)) (.list (rs.map rd)) = true := form_list lay_rd (fun r => Nat.le_of_eq (dep_rd r)) ref_rd rs
theorem ref_pd (x : Int × Int) : PyData.eqv (pd x) (pd x) = true := by
  show ((x.1 == x.1) && ((x.2 == x.2) && true)) = true
  rw [beq_self_eq_true, beq_self_eq_true]
  rfl
theorem pds_form (ps : List (Int × Int)) : SeqAt.shaped (.list (ps.map pd)) = true ∧ PyData.eqv (.list (ps.map pd)) (.list (ps.map pd)) = true := form_list (f := pd) (fun _ => rfl) (fun _ => Nat.le_refl 1) ref_pd ps
theorem sh_rd (r : Rw) : SeqAt.shaped (rd r) = true := shaped_of (lay_rd r) (by rw [dep_rd]; decide)
theorem dl_at {α : Type} {f : α → PyData} {K : PySem.W.Frag} {H : Hp} {xs : List V} {ps : List α} (h : DpAll K H xs (ps.map f)) {i : Nat} {v : V} (e : xs[i]? = some v) : ∃ x, ps[i]? = some x ∧ Dp K H v (f x) := by
  obtain ⟨d, h1, h2⟩ := dpAll_at h i v e
  rw [List.getElem?_map] at h1
  obtain ⟨x, h3, rfl⟩ := Option.map_eq_some_iff.mp h1
  exact ⟨x, h3, h2⟩
theorem dl_get {α : Type} {f : α → PyData} {K : PySem.W.Frag} {H : Hp} {xs : List V} {ps : List α} (h : DpAll K H xs (ps.map f)) {i : Nat} {x : α} (e : ps[i]? = some x) : ∃ v, xs[i]? = some v ∧ Dp K H v (f x) := dpAll_tk h i (f x) (by rw [List.getElem?_map, e]; rfl)
theorem dl_len {α : Type} {f : α → PyData} {K : PySem.W.Frag} {H : Hp} {xs : List V} {ps : List α} (h : DpAll K H xs (ps.map f)) : xs.length = ps.length := by
  have := dpAll_len h
  rw [List.length_map] at this
  exact this
theorem nodup_len {α : Type} [DecidableEq α] : ∀ {rs L : List α}, rs.Nodup → (∀ r, r ∈ rs → r ∈ L) → rs.length ≤ L.length
  | [], L, _, _ => Nat.zero_le _
  | r :: rs, L, nd, h => by
    have n1 := (List.nodup_cons.mp nd).1
    have n2 := (List.nodup_cons.mp nd).2
    have hr : r ∈ L := h r List.mem_cons_self
    have i := nodup_len (rs := rs) (L := L.erase r) n2 fun q hq => (List.mem_erase_of_ne (fun z : q = r => n1 (by rw [← z]; exact hq))).mpr (h q (List.mem_cons_of_mem _ hq))
    rw [List.length_erase_of_mem hr] at i
    have := List.length_pos_of_mem hr
    show rs.length + 1 ≤ L.length
    omega
theorem take_snoc {α : Type} {L : List α} {i : Nat} {x : α} (h : L[i]? = some x) : L.take (i + 1) = L.take i ++ [x] := by
  rw [List.take_add_one, h]
  rfl
end Tg

namespace Tg
open PySem PySem.Spec PyProof.Rows L2
/-! ### set(xs), xs a list of ints; sorted of it -/
section
variable {w : World} {P : Program} {s : Shared} {A : Around} {E : Value → Shared → Prop}
/-- a set without members, as it is laid -/
def emp (w : World) : Obj := { cls := .type "set", dict := none, data := .set #[] 0 (.fresh 0 0 (!w.params.followText "set-order")) }
/-- what has to come of it -/
def Came (w : World) (s : Shared) (ns : List Int) (h' : Heap) (c : Nat) : Prop := SetR w h' s.heap.objs.size (fun j => decide (j ∈ ns)) c ∧ c ≤ ns.length ∧ ∀ b o, s.heap.get? b = some o → h'.get? b = some o
theorem isl_plain {l : Addr} {items : Array Value} {hp : Heap} (h : hp.IsList l items) : ∃ o, hp.get? l = some o ∧ o.cls = .type "list" ∧ ∃ n, o.data = .seq items n := by
  exact h
set_option maxHeartbeats 3200000 in
theorem call_setL {l : Addr} {items : Array Value} (ns : List Int) {Q : Value → Shared → Prop} (calm : A.handled = none) (hl : s.heap.IsList l items) (are : IntsAre items.toList ns) (few : ns.length + 1 < scanBound)
    (out : ∀ (h' : Heap) (tk c : Nat), Came w s ns h' c → Q (.ref s.heap.objs.size) { s with heap := h', toks := tk }) : wpAny (model P w) A (call (.type "set") [.ref l]) Q E s := by
  have many : items.size = ns.length := by
    have z := IntsAre.length are
    rwa [Array.length_toList] at z
  obtain ⟨cc, rest, line⟩ := F.called_set.mro
  have f1 := F.called_set.made
  have f2 := F.called_set.sub
  refine wpAny_call (codeAny_of_tree (show wpAny _ _ (callAny (.type "set") _) _ _ _ from wpAny_pure ⟨Code.quiet_builtin _ (by decide +kernel), codeAny_builtin F.entry_type_call ?_⟩))
  rw [Around.under_plain (weight_type_call_type "set" [.ref l] []) rfl]; have f3 := F.called_set.notType
  have f4 := F.called_set.canCreate
  have f5 := F.typeCall_set_1 (.ref l); repeat (any_goals (first | assumption | wp_step))
  refine codeAny_mono (code_set_led1 (.ref l) (E := E) (Q₁ := fun obj s₁ => obj = .ref s.heap.objs.size ∧ s₁ = { s with heap := s.heap.push (emp w) }) ⟨rfl, rfl⟩) fun r s₁ hr => ?_
  match r, hr with
  | .error e, hr => exact hr
  | .ok .next, hr => exact hr.elim
  | .ok .brk, hr => exact hr.elim
  | .ok .cont, hr => exact hr.elim
  | .ok (.ret obj), ⟨eo, es⟩ =>
    subst eo
    subst es
    have at0 : (s.heap.push (emp w)).get? s.heap.objs.size = some (emp w) := Heap.get?_push_size _ rfl
    have ty0 : Shared.TypeIs { s with heap := s.heap.push (emp w) } (.ref s.heap.objs.size) "set" := ⟨_, at0, rfl⟩
    have f6 := F.called_set.init.lookup
    have f7 := F.called_set.init.bind (.ref s.heap.objs.size); repeat (any_goals (first | assumption | wp_step))
    refine codeAny_mono (codeAny_call_builtin (R := wants (fun r s₂ => r = .none ∧ ∃ h' tk c, s₂ = { s with heap := h', toks := tk } ∧ Came w s ns h' c) E) F.called_set.init.plain F.entry_set_init (check_set_init_1 ty0 ?_)) fun r₂ s₂ hr₂ => ?_
    · obtain ⟨⟨ocls, odict, odata, oslots⟩, hol, hcl, nl, hdl⟩ := isl_plain hl
      simp only at hcl hdl
      subst hcl
      subst hdl
      have below : l < s.heap.objs.size := Heap.lt_size hol
      have at1 : (s.heap.push (emp w)).get? l = some { cls := .type "list", dict := odict, data := .seq items nl, slots := oslots } := Heap.get?_push_of_some _ hol
      have g1 := F.sub_list_set
      have g2 := F.sub_list_frozenset
      have g3 : (Value.type "list" == Value.type "dict") = false := by decide
      have hl1 : (s.heap.push (emp w)).IsList l items := hl.push _
      unfold Builtin.«set.__init__» noKeywords Builtin.Frozenset.updateFrom; generalize hPI : pyIter = PI
      wp_walk
      subst hPI
      refine wpAny_pyIter_list hl1 (wpAny_bind (wpAny_runValue ?_))
      have hh3 : A.in1.in1.in1.handled = none := by simp [calm]
      have apart : l ≠ (s.heap.push (emp w)).objs.size := by
        rw [Heap.size_push]
        exact Nat.ne_of_lt (Nat.lt_succ_of_lt below)
      have off : s.heap.objs.size ∉ [(s.heap.push (emp w)).objs.size, l] := by
        rw [Heap.size_push]
        simp only [List.mem_cons, List.mem_singleton, List.not_mem_nil, or_false, not_or]
        exact ⟨Nat.ne_of_lt (Nat.lt_succ_self _), Nat.ne_of_gt below⟩
      have vals : ∀ (i : Nat) (v : Value), items[i]? = some v → ∃ k t, ns[i]? = some k ∧ v = .int k t := fun i v hv => by
        have hi : i < ns.length := many ▸ (Array.getElem?_eq_some_iff.mp hv).1
        obtain ⟨t, e⟩ := PyProof.Rows.IntsAre.int_at are i v (by rw [Array.getElem?_toList]; exact hv)
        rw [List.getD_eq_getElem?_getD, List.getElem?_eq_getElem hi] at e
        exact ⟨ns[i], t, List.getElem?_eq_getElem hi, e⟩
      refine set_update_ints ((Walks.list hh3 _ l apart items).toS) s.heap.objs.size off ns many few vals (items.size - 0) 0 _ (by omega) (Nat.zero_le _) ⟨⟨_, Heap.get?_push_size _ rfl, rfl, rfl⟩, hl1.push _⟩ ?_ ?_
      · exact ⟨0, Nat.le_refl 0, setR_new_at (Heap.get?_push_of_some _ at0)⟩
      · intro s' c' hm hc' hS'
        obtain ⟨h', g2', d', tk', os'⟩ := s'
        obtain rfl : g2' = s.gens := hm.gens
        obtain rfl : d' = s.drawn := hm.drawn
        obtain rfl : os' = s.os := hm.os
        show wpAny _ _ _ _ _ _
        refine wpAny_pure (show wpAny _ _ (ret Value.none) _ _ _ from wpAny_pure ⟨rfl, h', tk', c', rfl, hS', many ▸ hc', fun b o e => ?_⟩)
        have lt := Heap.lt_size e
        refine hm.heap b o ?_ (Heap.get?_push_of_some _ (Heap.get?_push_of_some _ e))
        simp only [List.mem_cons, List.mem_singleton, List.not_mem_nil, or_false, not_or]
        rw [Heap.size_push]
        exact ⟨Nat.ne_of_lt lt, Nat.ne_of_lt (Nat.lt_succ_of_lt lt)⟩
    · match r₂, hr₂ with
      | .error e, hr₂ => exact hr₂
      | .ok .next, hr₂ => exact hr₂.elim
      | .ok .brk, hr₂ => exact hr₂.elim
      | .ok .cont, hr₂ => exact hr₂.elim
      | .ok (.ret r), ⟨e1, h', tk, c', e2, come⟩ =>
        subst e1
        subst e2; repeat (any_goals (first | assumption | wp_step))
        exact out _ _ _ come
end
section
variable {X : Cx}
theorem few_of : ∀ {rs L : List Int}, rs.Nodup → (∀ r, r ∈ rs → r ∈ L) → rs.length ≤ L.length
  | [], L, _, _ => Nat.zero_le _
  | r :: rs, L, nd, h => by
    have n1 := (List.nodup_cons.mp nd).1
    have hr : r ∈ L := h r List.mem_cons_self
    have i := few_of (rs := rs) (L := L.erase r) (List.nodup_cons.mp nd).2 fun q hq => (List.mem_erase_of_ne (fun z : q = r => n1 (by rw [← z]; exact hq))).mpr (h q (List.mem_cons_of_mem _ hq))
    rw [List.length_erase_of_mem hr] at i
    have := List.length_pos_of_mem hr
    show rs.length + 1 ≤ L.length
    omega
/-- a set has no more members than any list that has them -/
theorem setR_few {w : World} {h : Heap} {a : Addr} {S : Int → Bool} {n : Nat} (R : SetR w h a S n) {L : List Int} (all : ∀ k, S k = true → k ∈ L) : n ≤ L.length := by
  obtain ⟨o, es, ep, t, _, _, _, _, nd, mem, _, _, size, _⟩ := R
  have z := few_of nd fun r hr => all r ((mem r).mpr hr)
  rw [List.length_map, Array.length_toList, size] at z
  exact z
/-- set(xs) -/
def rSetL (K : PySem.W.Frag) (w : World) : List V → Hp → VK → Prop := fun vs H Q => ∃ (l : Addr) (ns : List Int), vs = [V.ref l] ∧ SqL K H l (ns.map V.int) ∧ ns.length ≤ 1000 ∧ ∀ (a : Addr) (c : Nat), H a = none → (∀ L : List Int, (∀ k, k ∈ ns → k ∈ L) → c ≤ L.length) → Q (.ref a) (upd H a (SetO w a (fun j => decide (j ∈ ns)) c))
theorem cr_setL (hc : X.calm = true) : CallR X (.type "set") (rSetL X.K X.w) := by
  intro pins s σ H vs us Q I r want
  obtain ⟨l, ns, rfl, hl, few, q⟩ := want
  rw [Vals.ref1 r]
  obtain ⟨its, rv, isl, _⟩ := I.list hl
  refine call_setL ns (I.ok.hd hc) isl.isList ?_ (by unfold scanBound; omega) fun h' tk c come => ?_
  · exact intsAre_of rv
  · obtain ⟨R, le, kp⟩ := come
    exact ⟨.ref s.heap.objs.size, _, I.laid (t' := tk) kp (Nat.le_refl _) (setO_new R), rfl, q _ c (I.hok.fresh (Nat.le_refl _)) fun L hL => setR_few R fun k hk => hL k (of_decide_eq_true hk)⟩
end
end Tg

namespace Tg
open PySem PySem.Spec PyProof.Rows L2
/-! ### sorted of a set of numbers, however many (the library's own rule ends at 63) -/
/-- a set's members, handed out in some order: whole numbers, the set's keys -/
theorem keys_out {es : Array (Int × Value)} {vs : List Value} (good : ∀ e ∈ es.toList, GoodE e) (pm : vs.Perm (es.toList.map (·.2))) :
    IntsAre vs (vs.map Builtin.Re.reRawOf) ∧ (vs.map Builtin.Re.reRawOf).Perm (es.toList.map keyOf) := by
  refine ⟨ints_of vs fun v hv => ?_, ?_⟩
  · have there := pm.mem_iff.mp hv
    rw [List.mem_map] at there
    obtain ⟨e, he, rfl⟩ := there
    have ⟨k, tk, h1, _⟩ := good e he
    exact ⟨k, tk, h1⟩
  · exact List.map_map (f := (·.2)) (g := Builtin.Re.reRawOf) (l := es.toList) ▸ pm.map Builtin.Re.reRawOf
/-- the rising list of just the n numbers of S -/
def Rising (S : Int → Bool) (n : Nat) (ns : List Int) : Prop := ns.Pairwise (· < ·) ∧ (∀ k : Int, k ∈ ns ↔ S k = true) ∧ ns.length = n
/-- what stood before a list was made and sorted stands behind it -/
theorem sorted_keeps {h : Heap} {o u : Obj} {vs : List Value} {out : Array Value} {b : Addr} (q : h.get? b = some u) : (sortedHeap (h.push o) h.objs.size vs out).get? b = some u := by
  have lt := Heap.lt_size q
  exact (sortedHeap_old (Nat.ne_of_lt lt) (size_push' h o ▸ Nat.lt_succ_of_lt lt)).trans (Heap.get?_push_of_some o q)
section
variable {P : Program} {w : World} {A : Around} {s : Shared} {E : Value → Shared → Prop} {a : Addr}
theorem sorted_setA {S : Int → Bool} {n : Nat} {Q : Value → Shared → Prop} (R : SetR w s.heap a S n) (free : A.handled = none) (few : n ≤ sizeLine)
    (told : ∀ s' p (out : List Value) (c : Nat) (ns : List Int), (∀ b o, s.heap.get? b = some o → s'.heap.get? b = some o) → s'.gens = s.gens → s'.os = s.os → s.heap.objs.size ≤ p →
      s'.heap.get? p = some (seqObj "list" out.toArray c) → IntsAre out ns → Rising S n ns → Q (.ref p) s') : wpAny (model P w) A (call (.builtin "sorted") [.ref a]) Q E s := by
  have ⟨o, es, ep, tbl, at_a, exact_set, dat, good, once, mem, bound, fits, count, ris, led⟩ := R
  apply Calls.call_function_entry kind_sorted plain_sorted entry_sorted (args_sorted1 _)
  unfold Builtin.«sorted»
  apply wpAny_bind
  apply wpAny_pure
  apply wpAny_bind
  apply collect_set (A := A.in1) free ⟨o, at_a, exact_set.1, dat⟩ fits bound ris led
  intro s1 vs kept more gens1 os1 pm
  obtain ⟨are, perm⟩ := keys_out good pm
  have many : vs.length = n := by
    have := pm.length_eq
    rw [List.length_map] at this
    exact this.trans (Array.length_toList.trans count)
  have room : vs.length ≤ sizeLine := many ▸ few
  have at_l := Heap.get?_push_size s1.heap (o := seqObj "list" vs.toArray 0) rfl
  apply wpAny_bind
  refine wpAny_newList (hsz := room) (wpAny_bind (wpAny_holding (wpAny_call_entry slot_list_sort ⟨_, at_l, rfl⟩ entry_list_sort ?_ (args_list_sort _))))
  refine SrtO.list_sort_ord SrtO.swo_int at_l room (SrtO.ints_sortable are) fun out up stable => ⟨_, rfl, ?_⟩
  have ⟨a1, a2, a3⟩ := SrtO.ints_out are up stable
  have pn := a2.trans perm
  have ⟨c, hc⟩ := sortedHeap_at (out := out.toArray) at_l
  refine wpAny_pure ⟨_, rfl, told _ s1.heap.objs.size out c _ (fun b u e => ?_) gens1 os1 more hc a1 ⟨lt_of_le_nodup _ a3 (pn.nodup_iff.mpr once), fun k => pn.mem_iff.trans (mem k).symm, ?_⟩⟩
  · exact sorted_keeps (kept b u e)
  · rw [pn.length_eq, List.length_map]
    exact Array.length_toList.trans count
end
def rSortedSetA (w : World) : List V → Hp → VK → Prop := fun vs H Q => ∃ (a : Addr) (S : Int → Bool) (n : Nat), vs = [V.ref a] ∧ H a = some (SetO w a S n) ∧ n ≤ sizeLine ∧
  ∀ ns p, Rising S n ns → H p = none → Q (.ref p) (upd H p (.lst (ns.map V.int)))
theorem cr_sortedSetA {X : Cx} (calm : X.calm = true) : CallR X (.builtin "sorted") (rSortedSetA X.w) := by
  rintro pins s σ H vs us Q I rel ⟨a, S, n, rfl, ha, few, q⟩
  rw [Vals.ref1 rel]
  refine sorted_setA (setO_get I ha) (I.ok.hd calm) few fun s' p out c ns k g o hp hg hi up => ?_
  have len : (ns.map V.int).length ≤ sizeLine := by
    rw [List.length_map, up.2.2]
    exact few
  have new := I.hok.fresh hp
  have J := I.call' (s' := s') (ch := []) (H' := upd H p (.lst (ns.map V.int))) o (Un.laid k hp new) (I.hok.laid k hp ⟨len, out, c, vals_of_ints hi, hg⟩) (g.symm ▸ I.bare) (fun _ z => nomatch z)
  exact ⟨.ref p, _, J, rfl, q ns p up new⟩
end Tg

namespace Tg
open PySem PySem.Spec PyProof.Rows L2
/-! ### a comprehension without a test whose items are known beforehand -/
/-- the new list at D takes y -/
abbrev Grows (D : Addr) (Nx : Hp → Prop) (y : V) (H : Hp) : Prop := ∃ acc, H D = some (.lst acc) ∧ acc.length < sizeLine ∧ Nx (upd H D (.lst (acc ++ [y])))
/-- the new dict at D takes y: z -/
abbrev Holds2 (D : Addr) (Nx : Hp → Prop) (y z : V) (H : Hp) : Prop := ∃ kvs k, y = kV k ∧ H D = some (.dK kvs) ∧ kvs.length < sizeLine ∧ Nx (upd H D (.dK (putK kvs k z)))
/-- a turn that takes x in, and goes on by fin -/
abbrev Turn1 (g : TG) (vs : List Nat) (σ : L2.St) (fin : L2.St → Hp → Prop) (Nx : Hp → Prop) (x : V) (H' : Hp) : Prop :=
  g x (wipe σ vs) H' fun σ2 H2 => wipe σ2 vs = wipe σ vs ∧ tYes σ2 H2 fun b H3 => if b = true then fin σ2 H3 else Nx H3
abbrev TurnL (g : TG) (te : TE) (vs : List Nat) (σ : L2.St) (D : Addr) (Nx : Hp → Prop) : V → Hp → Prop := Turn1 g vs σ (fun σ2 H3 => te σ2 H3 fun y H4 => Grows D Nx y H4) Nx
abbrev TurnD (g : TG) (tk tv : TE) (vs : List Nat) (σ : L2.St) (D : Addr) (Nx : Hp → Prop) : V → Hp → Prop := Turn1 g vs σ (fun σ2 H3 => tk σ2 H3 fun y H4 => tv σ2 H4 fun z H5 => Holds2 D Nx y z H5) Nx
/-- a walk of J from Z on, each turn by turn, what is wanted behind it Qd -/
abbrev Walked (J : It) (Z : Hp) (turn : (Hp → Prop) → V → Hp → Prop) (Qd : Hp → Prop) : Prop :=
  ∃ Wk : Nat → Nat → Hp → Prop, (∃ m, Wk 0 m Z) ∧ ∀ (i m : Nat) (Hc : Hp), Wk i m Hc →
    (J.stop i Hc ∧ Qd Hc) ∨ (J.go i Hc ∧ ∃ Nx : Hp → Prop, (∀ Hn, Nx Hn → ∃ m', m' < m ∧ Wk (i + 1) m' Hn) ∧ ∀ x Hn, J.yld i Hc x Hn → turn Nx x Hn)
section
variable {K : PySem.W.Frag} {g : TG} {te : TE} {vs : List Nat} {σ : L2.St} {H1 : Hp} {D : Addr} {Qd : Hp → Prop} {J : It}
/-- the walk J, of n turns; x: what it hands out at i (behind it the heap is told by R) -/
theorem lc_walk (n : Nat) (ys : List V) (ly : ys.length = n) (nD : H1 D = none) (small : n < sizeLine)
    (stop : ∀ Hc, Same H1 Hc → J.stop n Hc) (go : ∀ i Hc, i < n → Same H1 Hc → J.go i Hc)
    (hs : ∀ i x y Hc H' (Q : VK), i < n → ys[i]? = some y → Same H1 Hc → J.yld i Hc x H' → (∀ H4, Same H' H4 → Q y H4) → g x (wipe σ vs) H' fun σ2 H2 => wipe σ2 vs = wipe σ vs ∧ te σ2 H2 Q)
    (grow : ∀ i x Hc H', i < n → Same H1 Hc → J.yld i Hc x H' → Same Hc H')
    (hd : ∀ H', Same H1 H' → H' D = some (.lst ys) → Qd H') :
    Walked J (upd H1 D (.lst [])) (TurnL g te vs σ D) Qd := by
  refine ⟨fun i m H => m = n - i ∧ i ≤ n ∧ Same H1 H ∧ H D = some (.lst (ys.take i)), ⟨n, by omega, Nat.zero_le _, fun b o e => ?_, upd_same⟩, ?_⟩
  · rw [upd_ne (ne_of_none e nD)]
    exact e
  rintro i m H ⟨rfl, hi, sm, hD⟩
  by_cases lt : i < n
  · refine .inr ⟨go i H lt sm, fun H' => Same H1 H' ∧ H' D = some (.lst (ys.take (i + 1))), fun H' h => ⟨n - (i + 1), by omega, rfl, lt, h.1, h.2⟩, fun x H' yl => ?_⟩
    obtain ⟨y, ey⟩ : ∃ y, ys[i]? = some y := ⟨_, List.getElem?_eq_getElem (by omega)⟩
    have s2 := grow i x H H' lt sm yl
    have z := hs i x y H H' (fun y H4 => Grows D (fun H' => Same H1 H' ∧ H' D = some (.lst (ys.take (i + 1)))) y H4) lt ey sm yl fun H4 s4 => by
      refine ⟨ys.take i, s4 _ _ (s2 _ _ hD), ?_, fun b o e => ?_, ?_⟩
      · rw [List.length_take]
        omega
      · rw [upd_ne (ne_of_none e nD)]
        exact s4 _ _ (s2 _ _ (sm _ _ e))
      · rw [upd_same, List.take_add_one, ey]
        rfl
    refine cast (congrArg (g x (wipe σ vs) H') (funext fun σ2 => funext fun H2 => ?_)) z
    unfold tYes
    exact congrArg _ (if_pos rfl).symm
  · obtain rfl : i = n := by omega
    refine .inl ⟨stop H sm, hd H sm ?_⟩
    rw [hD, List.take_of_length_le (by omega)]
/-- [.. for x in xs] -/
theorem lc_mapL {a : Addr} {xs : List V} (ys : List V) (ly : ys.length = xs.length) (nD : H1 D = none) (hx : SqL K H1 a xs) (small : xs.length < sizeLine)
    (hs : ∀ (i : Nat) (x y : V) (Hc : Hp) (Q : VK), xs[i]? = some x → ys[i]? = some y → Same H1 Hc → (∀ H4, Same Hc H4 → Q y H4) → g x (wipe σ vs) Hc fun σ2 H2 => wipe σ2 vs = wipe σ vs ∧ te σ2 H2 Q)
    (hd : ∀ H', Same H1 H' → H' D = some (.lst ys) → Qd H') :
    Walked (Itl K a) (upd H1 D (.lst [])) (TurnL g te vs σ D) Qd :=
  lc_walk (J := Itl K a) xs.length ys ly nD small (fun Hc sm => ⟨xs, sm.seq hx, Nat.le_refl _⟩) (fun i Hc lt sm => ⟨xs, xs[i], sm.seq hx, List.getElem?_eq_getElem lt⟩)
    (fun i x y Hc H' Q lt ey sm yl q => by
      obtain ⟨rfl, h⟩ := yl
      exact hs i x y _ Q (h xs (sm.seq hx)) ey sm q) (fun i x Hc H' _ _ yl => by rw [yl.1]; exact Same.refl _) hd
/-- [.. for x, y in zip(xs, ys)] -/
theorem lc_mapZ {a b : Addr} {xs zs : List V} (ys : List V) (n : Nat) (en : n = min xs.length zs.length) (ly : ys.length = n) (nD : H1 D = none) (hx : SqL K H1 a xs) (hz : SqL K H1 b zs) (small : n < sizeLine)
    (hs : ∀ (i : Nat) (x z y : V) (T : Addr) (Hc : Hp) (Q : VK), xs[i]? = some x → zs[i]? = some z → ys[i]? = some y → Same H1 Hc → Hc T = some (.tup [x, z]) → (∀ H4, Same Hc H4 → Q y H4) → g (.ref T) (wipe σ vs) Hc fun σ2 H2 => wipe σ2 vs = wipe σ vs ∧ te σ2 H2 Q)
    (hd : ∀ H', Same H1 H' → H' D = some (.lst ys) → Qd H') :
    Walked (Itz K a b) (upd H1 D (.lst [])) (TurnL g te vs σ D) Qd :=
  lc_walk (J := Itz K a b) n ys ly nD small (fun Hc sm => ⟨xs, zs, sm.seq hx, sm.seq hz, by omega⟩) (fun i Hc lt sm => ⟨xs, zs, xs[i]'(by omega), zs[i]'(by omega), sm.seq hx, sm.seq hz, List.getElem?_eq_getElem (by omega), List.getElem?_eq_getElem (by omega)⟩)
    (fun i x y Hc H' Q lt ey sm yl q => by
      obtain ⟨T, u, v, rfl, nT, rfl, h1, h2⟩ := yl
      exact hs i u v y T _ Q (h1 xs (sm.seq hx)) (h2 zs (sm.seq hz)) ey (sm.trans (fun b o e => by rw [upd_ne (ne_of_none e nT)]; exact e)) upd_same q)
    (fun i x Hc H' _ _ yl => by
      obtain ⟨T, u, v, rfl, nT, rfl, _, _⟩ := yl
      exact fun b o e => by rw [upd_ne (ne_of_none e nT)]; exact e) hd
/-- [.. for i in range(lo, ..)] -/
theorem lc_mapR {lo : Int} {n : Nat} (ys : List V) (ly : ys.length = n) (nD : H1 D = none) (small : n < sizeLine)
    (hs : ∀ (i : Nat) (y : V) (Hc : Hp) (Q : VK), i < n → ys[i]? = some y → Same H1 Hc → (∀ H4, Same Hc H4 → Q y H4) → g (.int (lo + i)) (wipe σ vs) Hc fun σ2 H2 => wipe σ2 vs = wipe σ vs ∧ te σ2 H2 Q)
    (hd : ∀ H', Same H1 H' → H' D = some (.lst ys) → Qd H') :
    Walked (Itr lo n) (upd H1 D (.lst [])) (TurnL g te vs σ D) Qd :=
  lc_walk (J := Itr lo n) n ys ly nD small (fun Hc sm => Nat.le_refl _) (fun i Hc lt sm => lt)
    (fun i x y Hc H' Q lt ey sm yl q => by
      obtain ⟨rfl, rfl⟩ := yl
      exact hs i y _ Q lt ey sm q) (fun i x Hc H' _ _ yl => by rw [yl.1]; exact Same.refl _) hd
/-- [.. for i in range(lo, .., c)] -/
theorem lc_mapC {lo c : Int} {n : Nat} (ys : List V) (ly : ys.length = n) (nD : H1 D = none) (small : n < sizeLine)
    (hs : ∀ (i : Nat) (y : V) (Hc : Hp) (Q : VK), i < n → ys[i]? = some y → Same H1 Hc → (∀ H4, Same Hc H4 → Q y H4) → g (.int (lo + (i : Nat) * c)) (wipe σ vs) Hc fun σ2 H2 => wipe σ2 vs = wipe σ vs ∧ te σ2 H2 Q)
    (hd : ∀ H', Same H1 H' → H' D = some (.lst ys) → Qd H') :
    Walked (Itc lo c n) (upd H1 D (.lst [])) (TurnL g te vs σ D) Qd :=
  lc_walk (J := Itc lo c n) n ys ly nD small (fun Hc sm => Nat.le_refl _) (fun i Hc lt sm => lt)
    (fun i x y Hc H' Q lt ey sm yl q => by
      obtain ⟨rfl, rfl⟩ := yl
      exact hs i y _ Q lt ey sm q) (fun i x Hc H' _ _ yl => by rw [yl.1]; exact Same.refl _) hd
/-! ### a dict comprehension whose entries are known, each key once -/
theorem putK_new {kvs : List (Key × V)} {k : Key} {z : V} (h : k ∉ kvs.map (·.1)) : putK kvs k z = kvs ++ [(k, z)] := by
  have new : (kvs.any fun y => decide (y.1 = k)) = false := by
    rw [List.any_eq_false]
    intro y hy e
    exact h (List.mem_map.mpr ⟨y, hy, of_decide_eq_true e⟩)
  unfold putK
  rw [new, if_neg (by decide)]
theorem dc_walk {tk tv : TE} (n : Nat) (es : List (Key × V)) (le : es.length = n) (nd : (es.map (·.1)).Nodup) (nD : H1 D = none) (small : n < sizeLine)
    (stop : ∀ Hc, Same H1 Hc → J.stop n Hc) (go : ∀ i Hc, i < n → Same H1 Hc → J.go i Hc)
    (hs : ∀ i x k y Hc H' (Q : VK), i < n → es[i]? = some (k, y) → Same H1 Hc → J.yld i Hc x H' → (∀ H4, Same H' H4 → Q y H4) → g x (wipe σ vs) H' fun σ2 H2 => wipe σ2 vs = wipe σ vs ∧ tk σ2 H2 fun u H3 => tv σ2 H3 fun v H4 => u = kV k ∧ v = y ∧ Same H' H4)
    (mono : ∀ σ2 H2 (A B : V → V → Hp → Prop), (∀ u v H', A u v H' → B u v H') → (tk σ2 H2 fun u H3 => tv σ2 H3 fun v H4 => A u v H4) → tk σ2 H2 fun u H3 => tv σ2 H3 fun v H4 => B u v H4)
    (gm : ∀ x σ2 H2 (A B : L2.St → Hp → Prop), (∀ σ3 H3, A σ3 H3 → B σ3 H3) → g x σ2 H2 A → g x σ2 H2 B)
    (grow : ∀ i x Hc H', i < n → Same H1 Hc → J.yld i Hc x H' → Same Hc H')
    (hd : ∀ H', Same H1 H' → H' D = some (.dK es) → Qd H') :
    Walked J (upd H1 D (.dK [])) (TurnD g tk tv vs σ D) Qd := by
  refine ⟨fun i m H => m = n - i ∧ i ≤ n ∧ Same H1 H ∧ H D = some (.dK (es.take i)), ⟨n, by omega, Nat.zero_le _, fun b o e => ?_, upd_same⟩, ?_⟩
  · rw [upd_ne (ne_of_none e nD)]
    exact e
  rintro i m H ⟨rfl, hi, sm, hD⟩
  by_cases lt : i < n
  · refine .inr ⟨go i H lt sm, fun H' => Same H1 H' ∧ H' D = some (.dK (es.take (i + 1))), fun H' h => ⟨n - (i + 1), by omega, rfl, lt, h.1, h.2⟩, fun x H' yl => ?_⟩
    obtain ⟨⟨k, y⟩, ey⟩ : ∃ y, es[i]? = some y := ⟨_, List.getElem?_eq_getElem (by omega)⟩
    have s2 := grow i x H H' lt sm yl
    have z := hs i x k y H H' (fun _ _ => True) lt ey sm yl fun _ _ => trivial
    refine gm _ _ _ _ _ (fun σ2 H2 h => ⟨h.1, ?_⟩) z
    unfold tYes
    dsimp only
    rw [if_pos rfl]
    refine mono _ _ _ _ (fun u v H4 h => ?_) h.2
    obtain ⟨rfl, rfl, s4⟩ := h
    refine ⟨es.take i, k, rfl, s4 _ _ (s2 _ _ hD), ?_, fun b o e => ?_, ?_⟩
    · rw [List.length_take]
      omega
    · rw [upd_ne (ne_of_none e nD)]
      exact s4 _ _ (s2 _ _ (sm _ _ e))
    · rw [upd_same, putK_new, List.take_add_one, ey]
      · rfl
      · intro hk
        rw [List.map_take] at hk
        obtain ⟨j, hj, ej⟩ := List.mem_iff_getElem.mp hk
        rw [List.length_take] at hj
        rw [List.getElem_take] at ej
        have e1 : (es.map (·.1))[j]? = some k := by rw [List.getElem?_eq_getElem (by omega), ej]
        have e2 : (es.map (·.1))[i]? = some k := by rw [List.getElem?_map, ey]; rfl
        have := (List.getElem?_inj (by omega) nd).mp (e1.trans e2.symm)
        omega
  · obtain rfl : i = n := by omega
    refine .inl ⟨stop H sm, hd H sm ?_⟩
    rw [hD, List.take_of_length_le (by omega)]
end
end Tg

namespace Tg
open PySem PySem.Spec PyProof.Rows L2
/-! ### rules whose reading names K, said for a comprehension -/
theorem call_lenK {X : Cx} {K : PySem.W.Frag} (hK : X.K = K := by rfl) : CallR X (.builtin "len") (fun xs H Q => ∃ p ys, xs = [V.ref p] ∧ (SqL K H p ys ∨ SqT K H p ys) ∧ Q (V.int (ys.length : Nat)) H) := by
  subst hK
  exact call_len_seq
theorem mt_indexK {X : Cx} {K : PySem.W.Frag} (hK : X.K = K := by rfl) : MtR X "list.index" (rIndex K) := by
  subst hK
  exact mt_index
/-- a rule over X.K is one over K -/
theorem pe_overK {X : Cx} {K : PySem.W.Frag} {e : Expr} (t : PySem.W.Frag → TE) (h : PE X e (t X.K)) (hK : X.K = K := by rfl) : PE X e (t K) := hK ▸ h
theorem yes_i {σ : L2.St} {H : Hp} {Q : Bool → Hp → Prop} (h : Q true H) : tYes σ H Q := h
end Tg

set_option maxHeartbeats 1000000
namespace Tg
open PySem PySem.Spec PyProof.Rows L2
/-! ### {(a, b): v for .. in ..}: a new dict whose keys are tuples -/
section
variable {X : Cx}
/-- one more key -/
theorem put_tup {pins : List (Addr × Obj)} {σ : L2.St} {H : Hp} {s : Shared} {E : Value → Shared → Prop} {D b : Addr} {kvs : List (List Key × V)} {k : List Key} {v : V} {r : Value} {Q : Unit → Shared → Prop} (room : X.A.units + 1 < cLine) (I : Inv X pins σ H s)
    (at_D : H D = some (.dT kvs)) (few : kvs.length < sizeLine) (at_b : H b = some (.tup (k.map kV))) (rel_v : RelV v r) (go : ∀ s', Inv X pins σ (upd H D (.dT (putK kvs k v))) s' → Q () s') : wpAny (model X.prog X.w) X.A (dictSet D (.ref b) r) Q E s := by
  obtain ⟨z, low, xs, rel, dd⟩ := dt_of I.hok at_D
  have many : (putK kvs k v).length ≤ sizeLine := Nat.le_trans (length_putK kvs k v) few
  have some_room : (tupleKind (mixKind X.prog X.w)).room X.A := by
    show X.A.units < cLine
    omega
  refine wpAny_dictSet_heap some_room (key_of I.hok at_b) dd (fun h1 dd1 same => go _ ?_) (by rw [← Paired.length rel]; exact z)
  obtain ⟨ob, es, ep, g1, g2, g3, g4, _, g5⟩ := dd1
  refine d_write I (by rw [at_D]; exact True.intro) same ⟨ob, g1⟩ ⟨many, low, _, (rel.put k at_b rel_v).keeps fun c ys at_c => ?_, ob, es, ep, g1, g2, g3, g4, g5⟩
  rw [upd_ne (ne_of at_c at_D (fun z => nomatch z))]
  exact at_c
/-- what one turn has to lead to: Nx of the heap behind it -/
def TurnT (g : TG) (tt : TT) (tk tv : TE) (vs : List Nat) (σ : L2.St) (D : Addr) (Nx : Hp → Prop) (x : V) (Hx : Hp) : Prop :=
  g x (wipe σ vs) Hx fun σ2 H2 => wipe σ2 vs = wipe σ vs ∧ tt σ2 H2 fun b H3 => if b = true then tk σ2 H3 fun y H4 => tv σ2 H4 fun z H5 =>
    ∃ kvs k c, y = .ref c ∧ H5 c = some (.tup (k.map kV)) ∧ H5 D = some (.dT kvs) ∧ kvs.length < sizeLine ∧ Nx (upd H5 D (.dT (putK kvs k z))) else Nx H3
/-- the turns, by a measure that falls -/
def TurnsT (J : It) (g : TG) (tt : TT) (tk tv : TE) (vs : List Nat) (σ : L2.St) (D : Addr) (H0 : Hp) (Qd : Hp → Prop) : Prop := ∃ W : Nat → Nat → Hp → Prop, (∃ m, W 0 m (upd H0 D (.dT []))) ∧
  ∀ i m Hi, W i m Hi → (J.stop i Hi ∧ Qd Hi) ∨ (J.go i Hi ∧ ∃ Nx : Hp → Prop, (∀ Hn, Nx Hn → ∃ fewer, fewer < m ∧ W (i + 1) fewer Hn) ∧ ∀ x Hx, J.yld i Hi x Hx → TurnT g tt tk tv vs σ D Nx x Hx)
def tDcT (wi : TI) (g : TG) (tt : TT) (tk tv : TE) (vs : List Nat) : TE := fun σ H Q => wi σ H fun J H1 => ∀ D, H1 D = none → TurnsT J g tt tk tv vs σ D H1 fun Hn => Q (.ref D) Hn
theorem pe_dcT {kx vx tg iter : Expr} {ifs : List Expr} {scope : Scope} {own : List (Str × Nat)} {pos : Pos} {wi : TI} {g : TG} {tt : TT} {tk tv : TE} (calm : X.calm = true) (names : X.N.Nodup) (room : X.A.units + 1 < cLine) (over : PI X tg iter wi) (blk : BlkOk X.N X.env.scope scope own)
    (goal : ∀ (s : Shared) (H : Hp) (C : Addr) (cl : List (Str × Addr)) (fp : List Addr), PG (X.blk s H scope (compEnvC scope cl C X.env) fp) tg g) (tests : ∀ (s : Shared) (H : Hp) (C : Addr) (cl : List (Str × Addr)) (fp : List Addr), PTs (X.blk s H scope (compEnvC scope cl C X.env) fp) ifs tt)
    (key : ∀ (s : Shared) (H : Hp) (C : Addr) (cl : List (Str × Addr)) (fp : List Addr), PE (X.blk s H scope (compEnvC scope cl C X.env) fp) kx tk)
    (val : ∀ (s : Shared) (H : Hp) (C : Addr) (cl : List (Str × Addr)) (fp : List Addr), PE (X.blk s H scope (compEnvC scope cl C X.env) fp) vx tv) (noset : ∀ x, foldedSetIterable iter X.env x = pure x := by intro _; rfl) :
    PE X (.DictComp kx vx [⟨tg, iter, ifs, 0⟩] scope pos) (tDcT wi g tt tk tv (own.map (·.2))) := by
  constructor
  intro pins s σ H Q I read
  rw [arm_eval_DictComp]
  have caught : ∀ y ∈ scope.names, y.2 = .free → ∃ c, X.env.cells.lookup y.1 = some c := fun y at_y is_free => (blk.free y at_y is_free).elim (fun z => I.ok.has _ (.inl z)) (fun z => I.ok.has _ (.inr z))
  refine wpAny_comprehension_free (use := none) rfl noset (closure_ok caught) blk.kind (fun y at_y e => by rw [blk.uniq y at_y, e]) (thn (over.run pins s σ H _ I read) fun _ s1 come => thn come fun _ s2 walked => ?_)
  obtain ⟨it, fp, tn, J, H1, rfl, I1, T, at0, free1, turns⟩ := walked
  refine wpAny_newObj_type ?dict
  refine newEnv_comp ?_
  -- the new dict, at D
  obtain ⟨D, eD⟩ : ∃ D, s2.heap.objs.size = D := ⟨_, rfl⟩
  rw [eD]
  have newD : H1 D = none := I1.hok.fresh (Nat.le_of_eq eD)
  obtain ⟨W, ⟨m0, begun⟩, turn⟩ := turns D newD
  obtain ⟨H2, eH2⟩ : ∃ H2, upd H1 D (.dT []) = H2 := ⟨_, rfl⟩
  obtain ⟨s3, e3⟩ : ∃ s3 : Shared, { s2 with heap := s2.heap.push { cls := .type "dict", data := .dict #[] } } = s3 := ⟨_, rfl⟩
  have heap3 : s3.heap = s2.heap.push { cls := .type "dict", data := .dict #[] } := by rw [← e3]
  have I2 : Inv X pins σ H2 s3 := by
    rw [← e3, ← eH2]
    exact I1.laid (t' := s2.toks) (fun b o e => Heap.get?_push_of_some _ e) (Nat.le_of_eq eD) (by rw [← eD]; exact dt_empty s2.heap I1.big)
  have below : ∀ b, b ∈ fp → b < s2.heap.objs.size := fun b m => (T.obj _ _ at0 b m).elim fun o z => Heap.lt_size z.1
  have free2 : ∀ b ∈ fp, FpOk X pins H2 b ∧ b < s3.heap.objs.size := fun b m => by
    have lt := below b m
    have ne : b ≠ D := by
      rw [← eD]
      exact Nat.ne_of_lt lt
    obtain ⟨f0, f1⟩ := free1 b m
    refine ⟨⟨?_, f1⟩, ?_⟩
    · rw [← eH2, upd_ne ne]
      exact f0
    · rw [heap3, Heap.size_push]
      exact Nat.lt_succ_of_lt lt
  have at0' : tn 0 s3.heap := T.keep _ _ _ at0 fun b _ o e => by
    rw [heap3]
    exact Heap.get?_push_of_some (h := s2.heap) _ e
  have I3 := block_start I2 blk names free2
  have pg := goal s3 H2 s3.heap.objs.size (cellsFrom (s3.heap.objs.size + 1) scope.names (cloFrom X.env.cells scope.names [])) fp
  have pt := tests s3 H2 s3.heap.objs.size (cellsFrom (s3.heap.objs.size + 1) scope.names (cloFrom X.env.cells scope.names [])) fp
  have pk := key s3 H2 s3.heap.objs.size (cellsFrom (s3.heap.objs.size + 1) scope.names (cloFrom X.env.cells scope.names [])) fp
  have pe := val s3 H2 s3.heap.objs.size (cellsFrom (s3.heap.objs.size + 1) scope.names (cloFrom X.env.cells scope.names [])) fp
  rw [eH2] at begun
  show codeAny _ _ (.compStart (.DictComp kx vx [⟨tg, iter, ifs, 0⟩] scope pos) 0 (.ref it) (.ref D) (compEnvC scope (cellsFrom ({ s2 with heap := s2.heap.push { cls := .type "dict", data := .dict #[] } } : Shared).heap.objs.size.succ scope.names (cloFrom X.env.cells scope.names [])) ({ s2 with heap := s2.heap.push { cls := .type "dict", data := .dict #[] } } : Shared).heap.objs.size X.env)) _ { ({ s2 with heap := s2.heap.push { cls := .type "dict", data := .dict #[] } } : Shared) with heap := pushCells (({ s2 with heap := s2.heap.push { cls := .type "dict", data := .dict #[] } } : Shared).heap.push { cls := .type "dict", data := .dict #[] }) scope.names }
  rw [e3]
  obtain ⟨ce, ece⟩ : ∃ ce, compEnvC scope (cellsFrom (s3.heap.objs.size + 1) scope.names (cloFrom X.env.cells scope.names [])) s3.heap.objs.size X.env = ce := ⟨_, rfl⟩
  have own_loc : ce.locals = s3.heap.objs.size := by
    rw [← ece]
    rfl
  rw [ece] at I3 pg pt pk pe
  show codeAny _ _ (.compStart (.DictComp kx vx [⟨tg, iter, ifs, 0⟩] scope pos) 0 (.ref it) (.ref D) (compEnvC scope (cellsFrom (s3.heap.objs.size + 1) scope.names (cloFrom X.env.cells scope.names [])) s3.heap.objs.size X.env)) _ _
  rw [ece]
  obtain ⟨s4, e4⟩ : ∃ s4 : Shared, { s3 with heap := pushCells (s3.heap.push { cls := .type "dict", data := .dict #[] }) scope.names } = s4 := ⟨_, rfl⟩
  rw [e4] at I3
  rw [e4]
  have at4 : tn 0 s4.heap := T.keep _ _ _ at0' fun b _ o e => by
    rw [← e4]
    exact pushCells_keeps _ _ _ _ (Heap.get?_push_of_some _ e)
  have none2 : ∀ b ∈ fp, H2 b = none := fun b m => (free2 b m).1.1
  have held : ∀ {σ' : L2.St} {H' : Hp} {s' : Shared}, Inv (X.blk s3 H2 scope ce fp) [] σ' H' s' → (∀ b ∈ fp, H' b = none) → ∀ b ∈ fp, FpOk (X.blk s3 H2 scope ce fp) [] H' b := fun I' no b m =>
    ⟨no b m, (I'.ok.exf b m).1, I'.ok.exfs b m, .inl m, fun x c e => (I'.ok.exf b m).2 x c e, fun p mp => absurd (show p ∈ ([] : List (Addr × Obj)) ++ [] from mp) List.not_mem_nil⟩
  suffices loop : codeAny (model X.prog X.w) X.A (.compLoop (.DictComp kx vx [⟨tg, iter, ifs, 0⟩] scope pos) 0 (.ref it) (.ref D) ce) (compPost (model X.prog X.w) X.A X.xe none (EP X pins σ Q) (.ref D) s3.heap.objs.size) s4 from codeAny_compStart_dict loop (T.self X.A 0 _ _ _ at4 loop)
  refine compLoop_anyD (fun n s' => ∃ i H', Inv (X.blk s3 H2 scope ce fp) [] (wipe σ (own.map (·.2))) H' s' ∧ tn i s'.heap ∧ (∀ b ∈ fp, H' b = none) ∧ W i n H') ?_ m0 ⟨0, H2, I3, at4, none2, begun⟩
  rintro n s5 ⟨i, H5, I5, at5, none5, w5⟩
  rcases turn i n H5 w5 with ⟨ends, told⟩ | ⟨goes, Nx, next, body⟩
  · -- no item is left
    refine thnF (T.done (X.blk s3 H2 scope ce fp) rfl rfl rfl calm i [] s5 _ H5 (fun _ _ => False) I5 (held I5 none5) at5 ends) fun r s6 come => ?_
    obtain ⟨rfl, I6⟩ := come
    have home : Inv X pins σ H5 s6 := I2.call' (ch := fp) I6.os I6.base I6.hok I6.bare fun b m => by
      obtain ⟨_, f1, _, f3, f4, f5⟩ := (free2 b m).1
      exact ⟨f3, f1, f4, f5⟩
    have noC : H5 s3.heap.objs.size = none := by
      rw [← own_loc]
      exact I6.free
    obtain ⟨mm, ns, _⟩ := I6.loc
    have ns' : s6.heap.Ns s3.heap.objs.size mm := by
      rw [← own_loc]
      exact ns
    obtain ⟨c0, c1, c2, c3, c4, c5⟩ := I2.fpOk (Nat.le_refl s3.heap.objs.size) noC
    exact ⟨mm, ns', fun h6 sb => ⟨.ref D, H5, home.turned (t' := s6.toks) (fun b o hb e => (sb.2 b hb).trans e) c0 c1 c3 c4 c5, rfl, told⟩⟩
  · -- a next item
    refine thnF (T.item (X.blk s3 H2 scope ce fp) rfl rfl rfl calm i [] s5 _ H5 (fun _ _ => False) I5 (held I5 none5) at5 goes) fun r s6 come => ?_
    obtain ⟨u, rfl, come⟩ := come
    refine thnF come fun _ s7 come => ?_
    obtain ⟨x, H7, I7, rel7, yld7, at7, none7⟩ := come
    have P7 := I7.pinned (held I7 none7) (T.obj _ _ at7)
    refine thnF (pg.run _ s7 _ H7 x u _ P7 rel7 (body x H7 yld7)) fun _ s8 come => ?_
    obtain ⟨σ8, H8, I8, kept8, q8⟩ := come
    refine thnF (pt.run _ s8 σ8 H8 _ I8 q8) fun b s9 come => ?_
    obtain ⟨H9, I9, q9⟩ := come
    have again : ∀ {s' : Shared} {H' : Hp}, Inv (X.blk s3 H2 scope ce fp) ([] ++ pinsAt fp s7.heap) σ8 H' s' → Nx H' → ∃ m, m < n ∧ ∃ i H', Inv (X.blk s3 H2 scope ce fp) [] (wipe σ (own.map (·.2))) H' s' ∧ tn i s'.heap ∧ (∀ b ∈ fp, H' b = none) ∧ W i m H' := fun {s' H'} I' nx => by
      obtain ⟨m', lt, w'⟩ := next H' nx
      have stays : ∀ c ∈ fp, ∀ o, s7.heap.get? c = some o → s'.heap.get? c = some o ∧ H' c = none := fun c mc o e => by
        obtain ⟨y1, y2, _⟩ := I'.pin (c, o) (List.mem_append_right _ (List.mem_append_right _ (mem_pinsAt mc e)))
        exact ⟨y1, y2⟩
      refine ⟨m', lt, i + 1, H', (I'.unpinned (pins := [])).weak ?_ (fun j v e => ?_), T.keep _ _ _ at7 fun c mc o e => (stays c mc o e).1, fun c mc => ?_, w'⟩
      · rw [← kept8, wipe_length]
      · rw [← kept8] at e
        exact (wipe_some e).1
      · obtain ⟨o, e, _⟩ := T.obj _ _ at7 c mc
        exact (stays c mc o e).2
    cases b with
    | false => exact again I9 q9
    | true =>
      refine thnF (pk.run _ s9 σ8 H9 _ I9 q9) fun uk s10 come => ?_
      obtain ⟨yk, H10, I10, rel10, q10⟩ := come
      refine thnF (pe.run _ s10 σ8 H10 _ I10 q10) fun uv s11 come => ?_
      obtain ⟨yv, H11, I11, rel11, kvs, k, c, rfl, at_c, at_D, few, nx⟩ := come
      cases (show uk = Value.ref c from rel10)
      exact put_tup (X := X.blk s3 H2 scope ce fp) room I11 at_D few at_c rel11 fun s12 I12 => again I12 nx
end
/-- over whatever walks -/
theorem dcT_it {J : It} {n : Nat} {G : Hp → Prop} {Y : Nat → Hp → V → Hp → Prop} (w : Walk J n G Y) {g : TG} {tt : TT} {tk tv : TE} {vs : List Nat} {σ : L2.St} {H1 : Hp} {D : Addr} {Qd : Hp → Prop} (Pv : Nat → Hp → Prop) (first : Pv 0 (upd H1 D (.dT []))) (stays : ∀ i Hi, i ≤ n → Pv i Hi → G Hi)
    (step : ∀ i x Hi Hx, i < n → Pv i Hi → Y i Hi x Hx → TurnT g tt tk tv vs σ D (Pv (i + 1)) x Hx) (last : ∀ Hn, Pv n Hn → Qd Hn) : TurnsT J g tt tk tv vs σ D H1 Qd := by
  refine ⟨fun i m H => i + m = n ∧ Pv i H, ⟨n, Nat.zero_add n, first⟩, ?_⟩
  rintro i m H ⟨sum, here⟩
  have stands := stays i H (by omega) here
  cases m with
  | zero =>
    have e : i = n := by omega
    subst e
    exact .inl ⟨w.stops H stands, last H here⟩
  | succ m =>
    have lt : i < n := by omega
    exact .inr ⟨w.goes i H lt stands, Pv (i + 1), fun H' there => ⟨m, Nat.lt_succ_self m, by omega, there⟩, fun x H' y => step i x H H' lt here (w.yields i H x H' lt stands y)⟩
end Tg

set_option maxHeartbeats 1000000
namespace Tg
open PySem PySem.Spec PyProof.Rows L2
/-! ### name = {k: v for .. in ..}, the name plain: stored in the midst of the comprehension's end -/
section
variable {X : Cx}
theorem sw_dict {kx vx : Expr} {gs : List Comprehension} {scope : Scope} {pos py : Pos} {y : Str} {l : Nat} {env : Env} (fn : env.scope.kind = .function) (plain : env.scope.names.lookup y = some .local) (row : (py.line == pos.line) = true)
    (apart : (scope.names.any fun (n, k) => n == y && (k == .local || k == .cell)) = false) : swapsWith (.DictComp kx vx gs scope pos) (some (.Name y py)) l env = pure true := by
  have kind : env.kindOf y = some .local := plain
  have block : env.blockKind = .function := by
    unfold Env.blockKind
    rw [fn]
    rfl
  unfold swapsWith
  simp only [block, kind, apart, Expr.pos, row]
  rfl
theorem ps_setDc {i : Nat} {y : Str} {py pos spos : Pos} {kx vx tg iter : Expr} {ifs : List Expr} {scope : Scope} {own : List (Str × Nat)} {wi : TI} {g : TG} {tt : TT} {tk tv : TE} (calm : X.calm = true) (names : X.N.Nodup) (at_ : X.N[i]? = some y) (plain : X.env.scope.names.lookup y = some .local)
    (sw : swapsWith (.DictComp kx vx [⟨tg, iter, ifs, 0⟩] scope pos) (some (.Name y py)) spos.line X.env = pure true) (over : PI X tg iter wi) (blk : BlkOk X.N X.env.scope scope own)
    (pg : ∀ (s : Shared) (H : Hp) (C : Addr) (cl : List (Str × Addr)) (fp : List Addr), PG (X.blk s H scope (compEnvC scope cl C X.env) fp) tg g)
    (pt : ∀ (s : Shared) (H : Hp) (C : Addr) (cl : List (Str × Addr)) (fp : List Addr), PTs (X.blk s H scope (compEnvC scope cl C X.env) fp) ifs tt)
    (pk : ∀ (s : Shared) (H : Hp) (C : Addr) (cl : List (Str × Addr)) (fp : List Addr), PE (X.blk s H scope (compEnvC scope cl C X.env) fp) kx tk)
    (pw : ∀ (s : Shared) (H : Hp) (C : Addr) (cl : List (Str × Addr)) (fp : List Addr), PE (X.blk s H scope (compEnvC scope cl C X.env) fp) vx tv) (flat : ∀ x, foldedSetIterable iter X.env x = pure x := by intro _; rfl) :
    PS X (.Assign [.Name y py] (.DictComp kx vx [⟨tg, iter, ifs, 0⟩] scope pos) spos) (tAsg (tDc wi g tt tk tv (own.map (·.2))) (gName i)) := by
  refine ⟨fun pins s σ H D I read => ?_⟩
  rw [exec_Assign_Name_used _ _ _ _ sw]
  apply wpAny_bind
  refine wpAny_standAt (wpAny_bind ?_)
  show wpAny _ X.A (do let _ ← comprehension (.DictComp kx vx [⟨tg, iter, ifs, 0⟩] scope pos) scope X.env (firstIterPos [⟨tg, iter, ifs, 0⟩] pos) newDict false (eval iter X.env) (some (assign (.Name y py) X.env))) _ _ s
  have read2 : tDc wi g tt tk tv (own.map (·.2)) σ H (fun x H1 => gName i x σ H1 D.nx) := read
  refine wpAny_bind (thn (dc_core (Qf := fun _ s2 => SP X pins D .next s2) calm names I over blk pg pt pk pw flat read2 fun L C s2 m H2 I2 q ns f => ?_) fun _ s2 done => wpAny_pure (wpAny_pure done))
  rcases f with ⟨f0, f1, _, f3, f4, f5⟩
  change wpAny _ _ (assign (.Name y py) X.env (.ref L)) _ _ _
  refine wpAny_assign_Name (store_ok2 (v := V.ref L) I2 names at_ (.inl plain) rfl (fun s3 I3 ⟨a, sb, ha⟩ => ?_) (.inr plain))
  have apart : C ≠ a := by
    rcases ha with z | z
    · rw [z]
      exact f1
    · exact (f4 y a z).symm
  exact ⟨m, ns.sameBut sb apart, fun h3 sb3 => ⟨_, H2, I3.turned (t' := s3.toks) (fun b o hb e => (sb3.2 b hb).trans e) f0 f1 f3 f4 f5, q⟩⟩
end
end Tg

set_option maxHeartbeats 1000000
namespace Tg
open PySem PySem.Spec PyProof.Rows L2
/-! ### name = {(a, b): v for .. in ..}, the name plain -/
section
variable {X : Cx}
theorem dcT_use {pins : List (Addr × Obj)} {s : Shared} {σ : L2.St} {H : Hp} {Q : VK} {kx vx tg iter : Expr} {ifs : List Expr} {scope : Scope} {own : List (Str × Nat)} {pos pos2 : Pos} {wi : TI} {g : TG} {tt : TT} {tk tv : TE} {use : Option (Value → Sem Unit)} {Qf : Value → Shared → Prop}
    (calm : X.calm = true) (names : X.N.Nodup) (room : X.A.units + 1 < cLine) (I : Inv X pins σ H s) (over : PI X tg iter wi) (blk : BlkOk X.N X.env.scope scope own)
    (goal : ∀ (s : Shared) (H : Hp) (C : Addr) (cl : List (Str × Addr)) (fp : List Addr), PG (X.blk s H scope (compEnvC scope cl C X.env) fp) tg g) (tests : ∀ (s : Shared) (H : Hp) (C : Addr) (cl : List (Str × Addr)) (fp : List Addr), PTs (X.blk s H scope (compEnvC scope cl C X.env) fp) ifs tt)
    (key : ∀ (s : Shared) (H : Hp) (C : Addr) (cl : List (Str × Addr)) (fp : List Addr), PE (X.blk s H scope (compEnvC scope cl C X.env) fp) kx tk)
    (val : ∀ (s : Shared) (H : Hp) (C : Addr) (cl : List (Str × Addr)) (fp : List Addr), PE (X.blk s H scope (compEnvC scope cl C X.env) fp) vx tv) (noset : ∀ x, foldedSetIterable iter X.env x = pure x) (read : tDcT wi g tt tk tv (own.map (·.2)) σ H Q)
    (ending : ∀ D C s2 m H2, Inv X pins σ H2 s2 → Q (.ref D) H2 → s2.heap.Ns C m → FpOk X pins H2 C → compPost (model X.prog X.w) X.A X.xe use Qf (.ref D) C (.ok .next) s2) :
    wpAny (model X.prog X.w) X.A (comprehension (.DictComp kx vx [⟨tg, iter, ifs, 0⟩] scope pos) scope X.env pos2 newDict false (eval iter X.env) use) Qf X.xe s := by
  have caught : ∀ y ∈ scope.names, y.2 = .free → ∃ c, X.env.cells.lookup y.1 = some c := fun y at_y is_free => (blk.free y at_y is_free).elim (fun z => I.ok.has _ (.inl z)) (fun z => I.ok.has _ (.inr z))
  refine wpAny_comprehension_free (use := use) rfl noset (closure_ok caught) blk.kind (fun y at_y e => by rw [blk.uniq y at_y, e]) (thn (over.run pins s σ H _ I read) fun _ s1 come => thn come fun _ s2 walked => ?_)
  obtain ⟨it, fp, tn, J, H1, rfl, I1, T, at0, free1, turns⟩ := walked
  refine wpAny_newObj_type ?dict
  refine newEnv_comp ?_
  -- the new dict, at D
  obtain ⟨D, eD⟩ : ∃ D, s2.heap.objs.size = D := ⟨_, rfl⟩
  rw [eD]
  have newD : H1 D = none := I1.hok.fresh (Nat.le_of_eq eD)
  obtain ⟨W, ⟨m0, begun⟩, turn⟩ := turns D newD
  obtain ⟨H2, eH2⟩ : ∃ H2, upd H1 D (.dT []) = H2 := ⟨_, rfl⟩
  obtain ⟨s3, e3⟩ : ∃ s3 : Shared, { s2 with heap := s2.heap.push { cls := .type "dict", data := .dict #[] } } = s3 := ⟨_, rfl⟩
  have heap3 : s3.heap = s2.heap.push { cls := .type "dict", data := .dict #[] } := by rw [← e3]
  have I2 : Inv X pins σ H2 s3 := by
    rw [← e3, ← eH2]
    exact I1.laid (t' := s2.toks) (fun b o e => Heap.get?_push_of_some _ e) (Nat.le_of_eq eD) (by rw [← eD]; exact dt_empty s2.heap I1.big)
  have below : ∀ b, b ∈ fp → b < s2.heap.objs.size := fun b m => (T.obj _ _ at0 b m).elim fun o z => Heap.lt_size z.1
  have free2 : ∀ b ∈ fp, FpOk X pins H2 b ∧ b < s3.heap.objs.size := fun b m => by
    have lt := below b m
    have ne : b ≠ D := by
      rw [← eD]
      exact Nat.ne_of_lt lt
    obtain ⟨f0, f1⟩ := free1 b m
    refine ⟨⟨?_, f1⟩, ?_⟩
    · rw [← eH2, upd_ne ne]
      exact f0
    · rw [heap3, Heap.size_push]
      exact Nat.lt_succ_of_lt lt
  have at0' : tn 0 s3.heap := T.keep _ _ _ at0 fun b _ o e => by
    rw [heap3]
    exact Heap.get?_push_of_some (h := s2.heap) _ e
  have I3 := block_start I2 blk names free2
  have pg := goal s3 H2 s3.heap.objs.size (cellsFrom (s3.heap.objs.size + 1) scope.names (cloFrom X.env.cells scope.names [])) fp
  have pt := tests s3 H2 s3.heap.objs.size (cellsFrom (s3.heap.objs.size + 1) scope.names (cloFrom X.env.cells scope.names [])) fp
  have pk := key s3 H2 s3.heap.objs.size (cellsFrom (s3.heap.objs.size + 1) scope.names (cloFrom X.env.cells scope.names [])) fp
  have pe := val s3 H2 s3.heap.objs.size (cellsFrom (s3.heap.objs.size + 1) scope.names (cloFrom X.env.cells scope.names [])) fp
  rw [eH2] at begun
  show codeAny _ _ (.compStart (.DictComp kx vx [⟨tg, iter, ifs, 0⟩] scope pos) 0 (.ref it) (.ref D) (compEnvC scope (cellsFrom ({ s2 with heap := s2.heap.push { cls := .type "dict", data := .dict #[] } } : Shared).heap.objs.size.succ scope.names (cloFrom X.env.cells scope.names [])) ({ s2 with heap := s2.heap.push { cls := .type "dict", data := .dict #[] } } : Shared).heap.objs.size X.env)) _ { ({ s2 with heap := s2.heap.push { cls := .type "dict", data := .dict #[] } } : Shared) with heap := pushCells (({ s2 with heap := s2.heap.push { cls := .type "dict", data := .dict #[] } } : Shared).heap.push { cls := .type "dict", data := .dict #[] }) scope.names }
  rw [e3]
  obtain ⟨ce, ece⟩ : ∃ ce, compEnvC scope (cellsFrom (s3.heap.objs.size + 1) scope.names (cloFrom X.env.cells scope.names [])) s3.heap.objs.size X.env = ce := ⟨_, rfl⟩
  have own_loc : ce.locals = s3.heap.objs.size := by
    rw [← ece]
    rfl
  rw [ece] at I3 pg pt pk pe
  show codeAny _ _ (.compStart (.DictComp kx vx [⟨tg, iter, ifs, 0⟩] scope pos) 0 (.ref it) (.ref D) (compEnvC scope (cellsFrom (s3.heap.objs.size + 1) scope.names (cloFrom X.env.cells scope.names [])) s3.heap.objs.size X.env)) _ _
  rw [ece]
  obtain ⟨s4, e4⟩ : ∃ s4 : Shared, { s3 with heap := pushCells (s3.heap.push { cls := .type "dict", data := .dict #[] }) scope.names } = s4 := ⟨_, rfl⟩
  rw [e4] at I3
  rw [e4]
  have at4 : tn 0 s4.heap := T.keep _ _ _ at0' fun b _ o e => by
    rw [← e4]
    exact pushCells_keeps _ _ _ _ (Heap.get?_push_of_some _ e)
  have none2 : ∀ b ∈ fp, H2 b = none := fun b m => (free2 b m).1.1
  have held : ∀ {σ' : L2.St} {H' : Hp} {s' : Shared}, Inv (X.blk s3 H2 scope ce fp) [] σ' H' s' → (∀ b ∈ fp, H' b = none) → ∀ b ∈ fp, FpOk (X.blk s3 H2 scope ce fp) [] H' b := fun I' no b m =>
    ⟨no b m, (I'.ok.exf b m).1, I'.ok.exfs b m, .inl m, fun x c e => (I'.ok.exf b m).2 x c e, fun p mp => absurd (show p ∈ ([] : List (Addr × Obj)) ++ [] from mp) List.not_mem_nil⟩
  suffices loop : codeAny (model X.prog X.w) X.A (.compLoop (.DictComp kx vx [⟨tg, iter, ifs, 0⟩] scope pos) 0 (.ref it) (.ref D) ce) (compPost (model X.prog X.w) X.A X.xe use Qf (.ref D) s3.heap.objs.size) s4 from codeAny_compStart_dict loop (T.self X.A 0 _ _ _ at4 loop)
  refine compLoop_anyD (fun n s' => ∃ i H', Inv (X.blk s3 H2 scope ce fp) [] (wipe σ (own.map (·.2))) H' s' ∧ tn i s'.heap ∧ (∀ b ∈ fp, H' b = none) ∧ W i n H') ?_ m0 ⟨0, H2, I3, at4, none2, begun⟩
  rintro n s5 ⟨i, H5, I5, at5, none5, w5⟩
  rcases turn i n H5 w5 with ⟨ends, told⟩ | ⟨goes, Nx, next, body⟩
  · -- no item is left
    refine thnF (T.done (X.blk s3 H2 scope ce fp) rfl rfl rfl calm i [] s5 _ H5 (fun _ _ => False) I5 (held I5 none5) at5 ends) fun r s6 come => ?_
    obtain ⟨rfl, I6⟩ := come
    have home : Inv X pins σ H5 s6 := I2.call' (ch := fp) I6.os I6.base I6.hok I6.bare fun b m => by
      obtain ⟨_, f1, _, f3, f4, f5⟩ := (free2 b m).1
      exact ⟨f3, f1, f4, f5⟩
    have noC : H5 s3.heap.objs.size = none := by
      rw [← own_loc]
      exact I6.free
    obtain ⟨mm, ns, _⟩ := I6.loc
    have ns' : s6.heap.Ns s3.heap.objs.size mm := by
      rw [← own_loc]
      exact ns
    obtain ⟨c0, c1, c2, c3, c4, c5⟩ := I2.fpOk (Nat.le_refl s3.heap.objs.size) noC
    exact ending D s3.heap.objs.size s6 mm H5 home told ns' ⟨c0, c1, c2, c3, c4, c5⟩
  · -- a next item
    refine thnF (T.item (X.blk s3 H2 scope ce fp) rfl rfl rfl calm i [] s5 _ H5 (fun _ _ => False) I5 (held I5 none5) at5 goes) fun r s6 come => ?_
    obtain ⟨u, rfl, come⟩ := come
    refine thnF come fun _ s7 come => ?_
    obtain ⟨x, H7, I7, rel7, yld7, at7, none7⟩ := come
    have P7 := I7.pinned (held I7 none7) (T.obj _ _ at7)
    refine thnF (pg.run _ s7 _ H7 x u _ P7 rel7 (body x H7 yld7)) fun _ s8 come => ?_
    obtain ⟨σ8, H8, I8, kept8, q8⟩ := come
    refine thnF (pt.run _ s8 σ8 H8 _ I8 q8) fun b s9 come => ?_
    obtain ⟨H9, I9, q9⟩ := come
    have again : ∀ {s' : Shared} {H' : Hp}, Inv (X.blk s3 H2 scope ce fp) ([] ++ pinsAt fp s7.heap) σ8 H' s' → Nx H' → ∃ m, m < n ∧ ∃ i H', Inv (X.blk s3 H2 scope ce fp) [] (wipe σ (own.map (·.2))) H' s' ∧ tn i s'.heap ∧ (∀ b ∈ fp, H' b = none) ∧ W i m H' := fun {s' H'} I' nx => by
      obtain ⟨m', lt, w'⟩ := next H' nx
      have stays : ∀ c ∈ fp, ∀ o, s7.heap.get? c = some o → s'.heap.get? c = some o ∧ H' c = none := fun c mc o e => by
        obtain ⟨y1, y2, _⟩ := I'.pin (c, o) (List.mem_append_right _ (List.mem_append_right _ (mem_pinsAt mc e)))
        exact ⟨y1, y2⟩
      refine ⟨m', lt, i + 1, H', (I'.unpinned (pins := [])).weak ?_ (fun j v e => ?_), T.keep _ _ _ at7 fun c mc o e => (stays c mc o e).1, fun c mc => ?_, w'⟩
      · rw [← kept8, wipe_length]
      · rw [← kept8] at e
        exact (wipe_some e).1
      · obtain ⟨o, e, _⟩ := T.obj _ _ at7 c mc
        exact (stays c mc o e).2
    cases b with
    | false => exact again I9 q9
    | true =>
      refine thnF (pk.run _ s9 σ8 H9 _ I9 q9) fun uk s10 come => ?_
      obtain ⟨yk, H10, I10, rel10, q10⟩ := come
      refine thnF (pe.run _ s10 σ8 H10 _ I10 q10) fun uv s11 come => ?_
      obtain ⟨yv, H11, I11, rel11, kvs, k, c, rfl, at_c, at_D, few, nx⟩ := come
      cases (show uk = Value.ref c from rel10)
      exact put_tup (X := X.blk s3 H2 scope ce fp) room I11 at_D few at_c rel11 fun s12 I12 => again I12 nx
theorem ps_setDcT {i : Nat} {y : Str} {py pos spos : Pos} {kx vx tg iter : Expr} {ifs : List Expr} {scope : Scope} {own : List (Str × Nat)} {wi : TI} {g : TG} {tt : TT} {tk tv : TE} (calm : X.calm = true) (names : X.N.Nodup) (room : X.A.units + 1 < cLine) (at_ : X.N[i]? = some y) (plain : X.env.scope.names.lookup y = some .local)
    (sw : swapsWith (.DictComp kx vx [⟨tg, iter, ifs, 0⟩] scope pos) (some (.Name y py)) spos.line X.env = pure true) (over : PI X tg iter wi) (blk : BlkOk X.N X.env.scope scope own)
    (pg : ∀ (s : Shared) (H : Hp) (C : Addr) (cl : List (Str × Addr)) (fp : List Addr), PG (X.blk s H scope (compEnvC scope cl C X.env) fp) tg g)
    (pt : ∀ (s : Shared) (H : Hp) (C : Addr) (cl : List (Str × Addr)) (fp : List Addr), PTs (X.blk s H scope (compEnvC scope cl C X.env) fp) ifs tt)
    (pk : ∀ (s : Shared) (H : Hp) (C : Addr) (cl : List (Str × Addr)) (fp : List Addr), PE (X.blk s H scope (compEnvC scope cl C X.env) fp) kx tk)
    (pw : ∀ (s : Shared) (H : Hp) (C : Addr) (cl : List (Str × Addr)) (fp : List Addr), PE (X.blk s H scope (compEnvC scope cl C X.env) fp) vx tv) (flat : ∀ x, foldedSetIterable iter X.env x = pure x := by intro _; rfl) :
    PS X (.Assign [.Name y py] (.DictComp kx vx [⟨tg, iter, ifs, 0⟩] scope pos) spos) (tAsg (tDcT wi g tt tk tv (own.map (·.2))) (gName i)) := by
  refine ⟨fun pins s σ H D I read => ?_⟩
  rw [exec_Assign_Name_used _ _ _ _ sw]
  apply wpAny_bind
  refine wpAny_standAt (wpAny_bind ?_)
  show wpAny _ X.A (do let _ ← comprehension (.DictComp kx vx [⟨tg, iter, ifs, 0⟩] scope pos) scope X.env (firstIterPos [⟨tg, iter, ifs, 0⟩] pos) newDict false (eval iter X.env) (some (assign (.Name y py) X.env))) _ _ s
  have read2 : tDcT wi g tt tk tv (own.map (·.2)) σ H (fun x H1 => gName i x σ H1 D.nx) := read
  refine wpAny_bind (thn (dcT_use (Qf := fun _ s2 => SP X pins D .next s2) calm names room I over blk pg pt pk pw flat read2 fun L C s2 m H2 I2 q ns f => ?_) fun _ s2 done => wpAny_pure (wpAny_pure done))
  rcases f with ⟨f0, f1, _, f3, f4, f5⟩
  change wpAny _ _ (assign (.Name y py) X.env (.ref L)) _ _ _
  refine wpAny_assign_Name (store_ok2 (v := V.ref L) I2 names at_ (.inl plain) rfl (fun s3 I3 ⟨a, sb, ha⟩ => ?_) (.inr plain))
  have apart : C ≠ a := by
    rcases ha with z | z
    · rw [z]
      exact f1
    · exact (f4 y a z).symm
  exact ⟨m, ns.sameBut sb apart, fun h3 sb3 => ⟨_, H2, I3.turned (t' := s3.toks) (fun b o hb e => (sb3.2 b hb).trans e) f0 f1 f3 f4 f5, q⟩⟩
end
end Tg

set_option maxHeartbeats 1000000
namespace Tg
open PySem PySem.Spec PyProof.Rows L2
/-! ### xs[::-1] of a list -/
section
variable {X : Cx} {e : Expr} {te : TE} {step : Expr} {ts : TO} {pos p2 : Pos}
def tRevL (K : PySem.W.Frag) (te : TE) (ts : TO) : TE := fun σ H Q => te σ H fun x H1 => ts σ H1 fun st H2 => st = some (-1) ∧ ∃ (a : Addr) (xs : List V), x = .ref a ∧ SqL K H2 a xs ∧ ∀ p, H2 p = none → Q (.ref p) (upd H2 p (.lst xs.reverse))
theorem pe_revL (he : PE X e te) (hst : PO X (some step) ts) : PE X (.Subscript e (.Slice none none (some step) p2) pos) (tRevL X.K te ts) := by
  refine ⟨fun pins s σ H Q I read => ?_⟩
  refine Subscript_ (thn (he.run pins s σ H _ I read) fun v s1 ⟨x, H1, I1, r1, q1⟩ => ?_)
  refine wpAny_Slice ?_
  rw [evalPart_none]
  apply wpAny_pure
  apply wpAny_pure
  refine thn (hst.run pins s1 σ H1 _ I1 q1) fun vst s2 ⟨st, H2, I2, part, q2⟩ => ?_
  obtain ⟨rfl, a, xs, rfl, hx, q⟩ := q2
  cases r1
  have I3 : Inv X pins σ H2 { s2 with heap := s2.heap.push { cls := .type "slice", data := .fields #[.none, .none, vst] } } := I2.kept (t' := s2.toks) fun b ob q => Heap.get?_push_of_some _ q
  obtain ⟨its, r, at_, hz⟩ := I3.list hx
  have len := r.length
  have got : wpAny (model X.prog X.w) X.A (getItem (.ref a) (.ref s2.heap.objs.size)) (EP X pins σ Q) X.xe { s2 with heap := s2.heap.push { cls := .type "slice", data := .fields #[.none, .none, vst] } } := by
    refine wpAny_getItem_list_slice (lo := none) (hi := none) (st := some (-1)) at_.isList (Heap.IsSliceOf.new ..) .none .none part (by decide) ?_ (by rw [List.size_toArray, ← len]; exact hz)
    rw [PySem.W.krv_pick]
    refine ⟨.ref _, _, I3.laid (t' := s2.toks) (o := .lst xs.reverse) (fun b ob q => Heap.get?_push_of_some _ q) (Nat.le_refl _) ?_, rfl, q _ (I3.hok.fresh (Nat.le_refl _))⟩
    exact ⟨by rw [List.length_reverse]; exact hz, its.reverse, 0, r.reverse, Heap.get?_push_size _ rfl⟩
  show wpAny (model X.prog X.w) X.A (subscriptTail e (.Slice none none (some step) p2) (.ref a) (.ref s2.heap.objs.size)) (EP X pins σ Q) X.xe { s2 with heap := s2.heap.push { cls := .type "slice", data := .fields #[.none, .none, vst] } }
  exact tail_any (ops := [.ref a, .ref s2.heap.objs.size]) at_.isList.typeIs slot_list_getitem.lookup got (by with_unfolding_all rfl)
end
end Tg

namespace Tg
namespace Pl
/-! ### a stretch's edges, steps and least costs -/
/-- a step: whether by a cell, from, to, its cost -/
structure Stp where
  cell : Bool
  fr : Int
  to : Int
  cost : Int
deriving DecidableEq
/-- how many points lie from a on, below b -/
def cnt (ps : List Int) (a b : Int) : Nat := (ps.filter fun p => decide (a ≤ p ∧ p < b)).length
/-- how many lie below x -/
def below (ps : List Int) (x : Int) : Nat := (ps.filter fun p => decide (p < x)).length
theorem below_add (ps : List Int) {a b : Int} (ab : a ≤ b) : below ps b = below ps a + cnt ps a b := by
  unfold below cnt
  induction ps with
  | nil => rfl
  | cons p r ih =>
    rw [List.filter_cons, List.filter_cons, List.filter_cons]
    by_cases h1 : p < a
    · rw [decide_eq_true (show p < b by omega), decide_eq_true h1, decide_eq_false (show ¬ (a ≤ p ∧ p < b) by omega)]
      show (_ :: _).length = (_ :: _).length + _
      rw [List.length_cons, List.length_cons, ih]
      simp only [if_false, Bool.false_eq_true]
      omega
    · by_cases h2 : p < b
      · rw [decide_eq_true h2, decide_eq_false h1, decide_eq_true (show a ≤ p ∧ p < b by omega)]
        simp only [Bool.false_eq_true, if_false, if_true, List.length_cons, ih]
        omega
      · rw [decide_eq_false h2, decide_eq_false h1, decide_eq_false (show ¬ (a ≤ p ∧ p < b) by omega)]
        simp only [if_false, Bool.false_eq_true]
        exact ih
theorem cnt_add (ps : List Int) {a b c : Int} (ab : a ≤ b) (bc : b ≤ c) : cnt ps a c = cnt ps a b + cnt ps b c := by
  have h1 := below_add ps ab
  have h2 := below_add ps bc
  have h3 := below_add ps (show a ≤ c by omega)
  omega
theorem cnt_perm {ps qs : List Int} (h : ps.Perm qs) (a b : Int) : cnt ps a b = cnt qs a b := (h.filter _).length_eq
theorem below_perm {ps qs : List Int} (h : ps.Perm qs) (a : Int) : below ps a = below qs a := (h.filter _).length_eq
theorem cnt_le (ps : List Int) (a b : Int) : cnt ps a b ≤ ps.length := List.length_filter_le ..
theorem below_le (ps : List Int) (a : Int) : below ps a ≤ ps.length := List.length_filter_le ..
/-! ### relaxing, one step behind the other -/
abbrev Ht := Int → Option Int
abbrev Pc := Int → Option (Bool × Int)
def rel (H : Ht) (t : Stp) : Ht := match H t.fr with
  | none => H
  | some g => fun x => if x = t.to then some (match H t.to with | none => g + t.cost | some o => min o (g + t.cost)) else H x
/-- whether a step lowers what is behind it -/
def low (H : Ht) (t : Stp) : Bool := match H t.fr with
  | none => false
  | some g => match H t.to with
    | none => true
    | some o => decide (g + t.cost < o)
def relP (s : Ht × Pc) (t : Stp) : Ht × Pc := (rel s.1 t, if low s.1 t then fun x => if x = t.to then some (t.cell, t.fr) else s.2 x else s.2)
def H0 (s : Int) : Ht := fun x => if x = s then some 0 else none
theorem rel_other {H : Ht} {t : Stp} {x : Int} (h : x ≠ t.to) : rel H t x = H x := by
  unfold rel
  cases H t.fr with
  | none => rfl
  | some g =>
    show (if x = t.to then _ else _) = _
    rw [if_neg h]
theorem rel_to {H : Ht} {t : Stp} {g : Int} (h : H t.fr = some g) : ∃ o, rel H t t.to = some o ∧ o ≤ g + t.cost ∧ (∀ q, H t.to = some q → o ≤ q) ∧ ((low H t = true ∧ o = g + t.cost) ∨ (low H t = false ∧ H t.to = some o)) := by
  unfold rel low
  rw [h]
  cases e : H t.to with
  | none => exact ⟨g + t.cost, by show (if t.to = t.to then _ else _) = _; rw [if_pos rfl], Int.le_refl _, (fun q z => by cases z), .inl ⟨rfl, rfl⟩⟩
  | some q =>
    refine ⟨min q (g + t.cost), by show (if t.to = t.to then _ else _) = _; rw [if_pos rfl], by omega, fun z e => ?_, ?_⟩
    · obtain rfl := Option.some.inj e
      omega
    · by_cases c : g + t.cost < q
      · exact .inl ⟨decide_eq_true c, by omega⟩
      · refine .inr ⟨decide_eq_false c, ?_⟩
        rw [show min q (g + t.cost) = q by omega]
theorem rel_none {H : Ht} {t : Stp} (h : H t.fr = none) : rel H t = H := by
  unfold rel
  rw [h]
theorem low_none {H : Ht} {t : Stp} (h : H t.fr = none) : low H t = false := by
  unfold low
  rw [h]
/-- what stands when the steps L were relaxed -/
structure Inv (s : Int) (L : List Stp) (H : Ht) (P : Pc) : Prop where
  start : H s = some 0
  tight : ∀ t, t ∈ L → ∀ g, H t.fr = some g → ∃ o, H t.to = some o ∧ o ≤ g + t.cost
  back : ∀ x o, x ≠ s → H x = some o → ∃ t, t ∈ L ∧ t.to = x ∧ P x = some (t.cell, t.fr) ∧ H t.fr = some (o - t.cost)
theorem inv_zero (s : Int) : Inv s [] (H0 s) fun _ => none :=
  ⟨if_pos rfl, fun t h => (by cases h), fun x o ne e => by
    unfold H0 at e
    rw [if_neg ne] at e
    cases e⟩
theorem Inv.step {s : Int} {L : List Stp} {H : Ht} {P : Pc} {t : Stp} (I : Inv s L H P) (up : ∀ u, u ∈ L → u.fr ≤ t.fr) (fw : t.fr < t.to) (st : s ≤ t.fr) : Inv s (L ++ [t]) (relP (H, P) t).1 (relP (H, P) t).2 := by
  show Inv s (L ++ [t]) (rel H t) (if low H t then fun x => if x = t.to then some (t.cell, t.fr) else P x else P)
  have keep : ∀ u, u ∈ L ++ [t] → rel H t u.fr = H u.fr := fun u hu => by
    rcases List.mem_append.mp hu with h | h
    · exact rel_other (by have := up u h; omega)
    · rw [List.mem_singleton.mp h]
      exact rel_other (by omega)
  refine ⟨?_, fun u hu g e => ?_, fun x o ne e => ?_⟩
  · rw [rel_other (by omega)]
    exact I.start
  · rw [keep u hu] at e
    by_cases c : u.to = t.to
    · cases hf : H t.fr with
      | none =>
        rw [rel_none hf]
        rcases List.mem_append.mp hu with h | h
        · exact I.tight u h g e
        · rw [List.mem_singleton.mp h, hf] at e
          cases e
      | some gt =>
        obtain ⟨o, h1, h2, h3, _⟩ := rel_to hf
        rw [c]
        refine ⟨o, h1, ?_⟩
        rcases List.mem_append.mp hu with h | h
        · obtain ⟨q, hq, ql⟩ := I.tight u h g e
          rw [c] at hq
          have := h3 q hq
          omega
        · rw [List.mem_singleton.mp h] at e ⊢
          rw [hf] at e
          obtain rfl := Option.some.inj e
          exact h2
    · rw [rel_other c]
      rcases List.mem_append.mp hu with h | h
      · exact I.tight u h g e
      · rw [List.mem_singleton.mp h] at c
        exact absurd rfl c
  · have old : ∀ o, H x = some o → (low H t = true → x ≠ t.to) → ∃ u, u ∈ L ++ [t] ∧ u.to = x ∧ (if low H t then fun x => if x = t.to then some (t.cell, t.fr) else P x else P) x = some (u.cell, u.fr) ∧ rel H t u.fr = some (o - u.cost) := fun o e nx => by
      obtain ⟨u, hu, h1, h2, h3⟩ := I.back x o ne e
      refine ⟨u, List.mem_append_left _ hu, h1, ?_, by rw [keep u (List.mem_append_left _ hu)]; exact h3⟩
      cases c : low H t with
      | false => exact h2
      | true =>
        show (if x = t.to then _ else _) = _
        rw [if_neg (nx c)]
        exact h2
    by_cases c : x = t.to
    · subst c
      cases hf : H t.fr with
      | none =>
        rw [rel_none hf] at e
        exact old o e fun z => by rw [low_none hf] at z; cases z
      | some g =>
        obtain ⟨q, h1, h2, h3, h4⟩ := rel_to hf
        rw [h1] at e
        obtain rfl := Option.some.inj e
        rcases h4 with ⟨lw, rfl⟩ | ⟨lw, h4⟩
        · refine ⟨t, List.mem_append_right _ (.head _), rfl, ?_, ?_⟩
          · rw [lw]
            show (if t.to = t.to then _ else _) = _
            rw [if_pos rfl]
          · rw [keep t (List.mem_append_right _ (.head _)), hf]
            congr 1
            omega
        · exact old q h4 fun z => by rw [lw] at z; cases z
    · rw [rel_other c] at e
      exact old o e fun _ => c
theorem inv_all {s : Int} : ∀ (R L : List Stp) {H : Ht} {P : Pc}, Inv s L H P → (L ++ R).Pairwise (fun t u => t.fr ≤ u.fr) → (∀ t, t ∈ R → t.fr < t.to ∧ s ≤ t.fr) → Inv s (L ++ R) (R.foldl relP (H, P)).1 (R.foldl relP (H, P)).2
  | [], L, _, _, I, _, _ => by rw [List.append_nil]; exact I
  | t :: R, L, H, P, I, up, fw => by
    have a := fw t (.head _)
    have I2 := I.step (t := t) (fun u hu => (List.pairwise_append.mp up).2.2 u hu t (.head _)) a.1 a.2
    have e : L ++ t :: R = L ++ [t] ++ R := by simp
    rw [e] at up ⊢
    exact inv_all R (L ++ [t]) I2 up fun u hu => fw u (.tail _ hu)
/-! ### the order of steps from one edge is free -/
theorem rel_comm {H : Ht} {t u : Stp} (e : t.fr = u.fr) (ft : t.fr ≠ t.to) (fu : u.fr ≠ u.to) : rel (rel H t) u = rel (rel H u) t := by
  cases h : H t.fr with
  | none =>
    have h2 : H u.fr = none := e ▸ h
    rw [rel_none h, rel_none h2, rel_none h]
  | some g =>
    have h2 : H u.fr = some g := e ▸ h
    have h3 : rel H t u.fr = some g := by
      rw [rel_other (by rw [← e]; exact ft)]
      exact h2
    have h4 : rel H u t.fr = some g := by
      rw [rel_other (by rw [e]; exact fu)]
      exact h
    funext x
    have all : ∀ (K : Ht) (v : Stp), K v.fr = some g → rel K v x = if x = v.to then some (match K v.to with | none => g + v.cost | some o => min o (g + v.cost)) else K x := fun K v hv => by
      unfold rel
      rw [hv]
    rw [all _ u h3, all _ t h4, all H t h, all H u h2]
    by_cases c1 : x = u.to
    · by_cases c2 : x = t.to
      · rw [if_pos c1, if_pos c2]
        have c3 : u.to = t.to := c1.symm.trans c2
        have e1 : rel H t u.to = some (match H t.to with | none => g + t.cost | some o => min o (g + t.cost)) := by
          rw [c3]
          unfold rel
          rw [h]
          exact if_pos rfl
        have e2 : rel H u t.to = some (match H u.to with | none => g + u.cost | some o => min o (g + u.cost)) := by
          rw [← c3]
          unfold rel
          rw [h2]
          exact if_pos rfl
        rw [e1, e2, c3]
        cases H t.to with
        | none =>
          show some (min (g + t.cost) (g + u.cost)) = some (min (g + u.cost) (g + t.cost))
          rw [Int.min_comm]
        | some o =>
          show some (min (min o (g + t.cost)) (g + u.cost)) = some (min (min o (g + u.cost)) (g + t.cost))
          congr 1
          omega
      · rw [if_pos c1, if_neg c2, if_pos c1]
        rw [rel_other (by rw [← c1]; exact c2)]
    · by_cases c2 : x = t.to
      · rw [if_neg c1, if_pos c2, if_pos c2]
        rw [rel_other (by rw [← c2]; exact c1)]
      · rw [if_neg c1, if_neg c2, if_neg c2, if_neg c1]
theorem rel_perm {a : Int} {L M : List Stp} (p : L.Perm M) : (∀ t, t ∈ L → t.fr = a ∧ t.fr ≠ t.to) → ∀ H : Ht, L.foldl rel H = M.foldl rel H := by
  induction p with
  | nil => exact fun _ _ => rfl
  | cons x _ ih => exact fun h H => ih (fun t ht => h t (.tail _ ht)) _
  | swap x y l =>
    intro h H
    have hx := h x (.tail _ (.head _))
    have hy := h y (.head _)
    show l.foldl rel (rel (rel H y) x) = l.foldl rel (rel (rel H x) y)
    rw [rel_comm (hy.1.trans hx.1.symm) hy.2 hx.2]
  | trans p1 p2 i1 i2 => exact fun h H => (i1 h H).trans (i2 (fun t ht => h t (p1.mem_iff.mpr ht)) H)
theorem rel_blocks {F G : Int → List Stp} : ∀ (es : List Int), (∀ a, a ∈ es → (F a).Perm (G a) ∧ ∀ t, t ∈ F a → t.fr = a ∧ t.fr ≠ t.to) → ∀ H : Ht, (es.flatMap F).foldl rel H = (es.flatMap G).foldl rel H
  | [], _, _ => rfl
  | a :: r, h, H => by
    rw [List.flatMap_cons, List.flatMap_cons, List.foldl_append, List.foldl_append, rel_perm (h a (.head _)).1 (h a (.head _)).2]
    exact rel_blocks r (fun b hb => h b (.tail _ hb)) _
theorem relP_fst : ∀ (L : List Stp) (s : Ht × Pc), (L.foldl relP s).1 = L.foldl rel s.1
  | [], _ => rfl
  | t :: r, s => relP_fst r (relP s t)
end Pl
end Tg

namespace Tg
namespace Pl
/-! ### a world, its steps -/
structure Wd where
  s : Int
  e : Int
  h : Option Int
  cs : List (Int × Int)
  ps : List Int
/-- cells go forward, the end isn't ahead of the start -/
structure Wd.Ok (W : Wd) : Prop where
  se : W.s ≤ W.e
  fw : ∀ c, c ∈ W.cs → c.1 < c.2
def ins (W : Wd) : List (Int × Int) := W.cs.filter fun c => decide (W.s ≤ c.1 ∧ c.2 ≤ W.e)
def tms (W : Wd) : List Int := [W.s, W.e] ++ (ins W).flatMap fun c => [c.1, c.2]
def edg (W : Wd) : List Int := bookOf (tms W)
/-- whether points are known from a on -/
def hok (h : Option Int) (a : Int) : Bool := match h with
  | none => true
  | some x => decide (x ≤ a)
def nbr (E : List Int) : List (Int × Int) := E.zip (E.drop 1)
def ptS (W : Wd) : List Stp := ((nbr (edg W)).filter fun q => hok W.h q.1).map fun q => ⟨false, q.1, q.2, cnt W.ps q.1 q.2⟩
def clS (W : Wd) : List Stp := (ins W).map fun c => ⟨true, c.1, c.2, 1⟩
def own (W : Wd) (a : Int) : List Stp := (ptS W).filter (fun t => decide (t.fr = a)) ++ (clS W).filter fun t => decide (t.fr = a)
def ownL (W : Wd) (a : Int) : List Stp := (clS W ++ ptS W).filter fun t => decide (t.fr = a)
def PS (W : Wd) : List Stp := (edg W).flatMap (own W)
def fin (W : Wd) : Ht × Pc := (PS W).foldl relP (H0 W.s, fun _ => none)
def hts (W : Wd) : Ht := (fin W).1
def pcs (W : Wd) : Pc := (fin W).2
theorem mem_ins {W : Wd} {c : Int × Int} : c ∈ ins W ↔ c ∈ W.cs ∧ W.s ≤ c.1 ∧ c.2 ≤ W.e := by
  unfold ins
  rw [List.mem_filter, decide_eq_true_iff]
theorem edg_mem {W : Wd} {x : Int} : x ∈ edg W ↔ x = W.s ∨ x = W.e ∨ ∃ c, c ∈ ins W ∧ (x = c.1 ∨ x = c.2) := by
  unfold edg
  rw [(book_is (tms W)).2 x]
  unfold tms
  rw [List.mem_append, List.mem_flatMap]
  simp only [List.mem_cons, List.not_mem_nil, or_false]
  constructor
  · rintro ((h | h) | ⟨c, h, g⟩)
    · exact .inl h
    · exact .inr (.inl h)
    · exact .inr (.inr ⟨c, h, g⟩)
  · rintro (h | h | ⟨c, h, g⟩)
    · exact .inl (.inl h)
    · exact .inl (.inr h)
    · exact .inr ⟨c, h, g⟩
theorem edg_up (W : Wd) : (edg W).Pairwise (· < ·) := (book_is (tms W)).1
theorem edg_in {W : Wd} (ok : W.Ok) {x : Int} (h : x ∈ edg W) : W.s ≤ x ∧ x ≤ W.e := by
  have := ok.se
  rcases edg_mem.mp h with rfl | rfl | ⟨c, hc, g⟩
  · omega
  · omega
  · obtain ⟨h1, h2, h3⟩ := mem_ins.mp hc
    have := ok.fw c h1
    rcases g with rfl | rfl <;> omega
theorem nbr_mem {E : List Int} {q : Int × Int} (up : E.Pairwise (· < ·)) (h : q ∈ nbr E) : q.1 ∈ E ∧ q.2 ∈ E ∧ q.1 < q.2 := by
  rcases List.mem_iff_getElem.mp h with ⟨i, hi, e⟩
  unfold nbr at hi e
  rw [List.length_zip, List.length_drop] at hi
  rw [List.getElem_zip, List.getElem_drop] at e
  subst e
  refine ⟨List.getElem_mem _, List.getElem_mem _, ?_⟩
  exact List.pairwise_iff_getElem.mp up i (1 + i) (by omega) (by omega) (by omega)
/-- a piece: whether a cell, from, to -/
abbrev Pce := Bool × Int × Int
def cst (ps : List Int) (p : Pce) : Int := if p.1 then 1 else cnt ps p.2.1 p.2.2
structure OkP (W : Wd) (p : Pce) : Prop where
  fw : p.2.1 < p.2.2
  cell : p.1 = true → p.2 ∈ W.cs
  pt : p.1 = false → hok W.h p.2.1 = true
theorem pt_ok {W : Wd} {t : Stp} (h : t ∈ ptS W) : t.cell = false ∧ t.fr ∈ edg W ∧ t.to ∈ edg W ∧ OkP W (t.cell, t.fr, t.to) ∧ t.cost = cst W.ps (t.cell, t.fr, t.to) := by
  unfold ptS at h
  obtain ⟨q, hq, rfl⟩ := List.mem_map.mp h
  obtain ⟨h1, h2⟩ := List.mem_filter.mp hq
  obtain ⟨m1, m2, lt⟩ := nbr_mem (edg_up W) h1
  exact ⟨rfl, m1, m2, ⟨lt, (fun z => nomatch z), fun _ => h2⟩, rfl⟩
theorem cl_ok {W : Wd} (ok : W.Ok) {t : Stp} (h : t ∈ clS W) : t.cell = true ∧ t.fr ∈ edg W ∧ t.to ∈ edg W ∧ OkP W (t.cell, t.fr, t.to) ∧ t.cost = cst W.ps (t.cell, t.fr, t.to) := by
  unfold clS at h
  obtain ⟨c, hc, rfl⟩ := List.mem_map.mp h
  have hm := (mem_ins.mp hc).1
  exact ⟨rfl, edg_mem.mpr (.inr (.inr ⟨c, hc, .inl rfl⟩)), edg_mem.mpr (.inr (.inr ⟨c, hc, .inr rfl⟩)), ⟨ok.fw c hm, fun _ => hm, fun z => nomatch z⟩, rfl⟩
theorem own_mem {W : Wd} {a : Int} {t : Stp} : t ∈ own W a ↔ (t ∈ ptS W ∨ t ∈ clS W) ∧ t.fr = a := by
  unfold own
  rw [List.mem_append, List.mem_filter, List.mem_filter, decide_eq_true_iff]
  constructor
  · rintro (⟨h, e⟩ | ⟨h, e⟩)
    · exact ⟨.inl h, e⟩
    · exact ⟨.inr h, e⟩
  · rintro ⟨h | h, e⟩
    · exact .inl ⟨h, e⟩
    · exact .inr ⟨h, e⟩
theorem stp_ok {W : Wd} (ok : W.Ok) {t : Stp} (h : t ∈ ptS W ∨ t ∈ clS W) : t.fr ∈ edg W ∧ t.to ∈ edg W ∧ OkP W (t.cell, t.fr, t.to) ∧ t.cost = cst W.ps (t.cell, t.fr, t.to) := by
  rcases h with h | h
  · exact (pt_ok h).2
  · exact (cl_ok ok h).2
theorem ps_mem {W : Wd} (ok : W.Ok) {t : Stp} : t ∈ PS W ↔ t ∈ ptS W ∨ t ∈ clS W := by
  unfold PS
  rw [List.mem_flatMap]
  constructor
  · rintro ⟨a, _, h⟩
    exact (own_mem.mp h).1
  · intro h
    exact ⟨t.fr, (stp_ok ok h).1, own_mem.mpr ⟨h, rfl⟩⟩
theorem ps_up (W : Wd) : (PS W).Pairwise fun t u => t.fr ≤ u.fr := by
  have g : ∀ E : List Int, E.Pairwise (· < ·) → (E.flatMap (own W)).Pairwise fun t u => t.fr ≤ u.fr := fun E => by
    induction E with
    | nil => exact fun _ => .nil
    | cons a r ih =>
      intro up
      have p := List.pairwise_cons.mp up
      rw [List.flatMap_cons]
      refine List.pairwise_append.mpr ⟨List.pairwise_of_forall_mem_list fun t ht u hu => ?_, ih p.2, fun t ht u hu => ?_⟩
      · rw [(own_mem.mp ht).2, (own_mem.mp hu).2]
        exact Int.le_refl _
      · obtain ⟨b, hb, hu⟩ := List.mem_flatMap.mp hu
        rw [(own_mem.mp ht).2, (own_mem.mp hu).2]
        have := p.1 b hb
        omega
  exact g _ (edg_up W)
theorem hts_inv {W : Wd} (ok : W.Ok) : Inv W.s (PS W) (hts W) (pcs W) := by
  have I := inv_all (s := W.s) (PS W) [] (inv_zero W.s) (ps_up W) fun t ht => by
    obtain ⟨h1, _, h3, _⟩ := stp_ok ok ((ps_mem ok).mp ht)
    exact ⟨h3.fw, (edg_in ok h1).1⟩
  exact I
/-- what is reached is an edge -/
theorem hts_edg {W : Wd} (ok : W.Ok) {x o : Int} (h : hts W x = some o) : x ∈ edg W := by
  by_cases c : x = W.s
  · exact edg_mem.mpr (.inl c)
  · obtain ⟨t, ht, rfl, _⟩ := (hts_inv ok).back x o c h
    exact (stp_ok ok ((ps_mem ok).mp ht)).2.1
/-- how it was reached -/
theorem hts_back {W : Wd} (ok : W.Ok) {x o : Int} (ne : x ≠ W.s) (h : hts W x = some o) : ∃ w a, pcs W x = some (w, a) ∧ OkP W (w, a, x) ∧ hts W a = some (o - cst W.ps (w, a, x)) := by
  obtain ⟨t, ht, rfl, hp, hf⟩ := (hts_inv ok).back x o ne h
  obtain ⟨_, _, h3, h4⟩ := stp_ok ok ((ps_mem ok).mp ht)
  exact ⟨t.cell, t.fr, hp, h3, h4 ▸ hf⟩
theorem hts_tight {W : Wd} (ok : W.Ok) {t : Stp} (h : t ∈ ptS W ∨ t ∈ clS W) {g : Int} (e : hts W t.fr = some g) : ∃ o, hts W t.to = some o ∧ o ≤ g + t.cost := (hts_inv ok).tight t ((ps_mem ok).mpr h) g e
/-- the law's own order of the steps leads to the same -/
theorem law_hts {W : Wd} (ok : W.Ok) : ((edg W).flatMap (ownL W)).foldl rel (H0 W.s) = hts W := by
  unfold hts fin
  rw [relP_fst]
  refine (rel_blocks (F := own W) (G := ownL W) _ (fun a _ => ⟨?_, fun t ht => ?_⟩) _).symm
  · unfold own ownL
    rw [List.filter_append]
    exact List.perm_append_comm
  · obtain ⟨h, e⟩ := own_mem.mp ht
    have := (stp_ok ok h).2.2.1.fw
    exact ⟨e, fun z => by
      have z2 : t.fr < t.to := this
      omega⟩
/-! ### chains of pieces -/
def Chain (W : Wd) : Int → List Pce → Int → Prop
  | a, [], b => a = b
  | a, p :: r, b => p.2.1 = a ∧ OkP W p ∧ Chain W p.2.2 r b
def tot (ps : List Int) (L : List Pce) : Int := (L.map (cst ps)).sum
theorem tot_cons (ps : List Int) (p : Pce) (L : List Pce) : tot ps (p :: L) = cst ps p + tot ps L := rfl
theorem tot_app (ps : List Int) (L M : List Pce) : tot ps (L ++ M) = tot ps L + tot ps M := by
  unfold tot
  rw [List.map_append, List.sum_append]
theorem chain_app {W : Wd} : ∀ {L M : List Pce} {a b c : Int}, Chain W a L b → Chain W b M c → Chain W a (L ++ M) c
  | [], M, a, b, c, h, g => by
    obtain rfl : a = b := h
    exact g
  | p :: r, M, a, b, c, h, g => ⟨h.1, h.2.1, chain_app h.2.2 g⟩
theorem chain_split {W : Wd} : ∀ {L M : List Pce} {a c : Int}, Chain W a (L ++ M) c → ∃ b, Chain W a L b ∧ Chain W b M c
  | [], M, a, c, h => ⟨a, rfl, h⟩
  | p :: r, M, a, c, h => by
    obtain ⟨b, h1, h2⟩ := chain_split (L := r) h.2.2
    exact ⟨b, ⟨h.1, h.2.1, h1⟩, h2⟩
/-- pieces of points that meet, as one -/
def mrg (out : List Pce) (p : Pce) : List Pce := match out.getLast? with
  | some (false, a, _) => if p.1 then out ++ [p] else out.dropLast ++ [(false, a, p.2.2)]
  | _ => out ++ [p]
def whole (L : List Pce) : List Pce := L.foldl mrg []
theorem mrg_ok {W : Wd} {out : List Pce} {p : Pce} {a b c : Int} (h : Chain W a out b) (g : Chain W b [p] c) : Chain W a (mrg out p) c ∧ tot W.ps (mrg out p) = tot W.ps out + cst W.ps p := by
  have plain : Chain W a (out ++ [p]) c ∧ tot W.ps (out ++ [p]) = tot W.ps out + cst W.ps p := ⟨chain_app h g, by
    rw [tot_app, tot_cons]
    show _ + (_ + 0) = _
    omega⟩
  rcases List.eq_nil_or_concat out with rfl | ⟨i, q, rfl⟩
  · exact plain
  · rw [List.concat_eq_append] at *
    unfold mrg
    rw [List.getLast?_append]
    obtain ⟨w, x, y⟩ := q
    cases w with
    | true => exact plain
    | false =>
      show Chain W a (if p.1 then _ else (i ++ [(false, x, y)]).dropLast ++ [(false, x, p.2.2)]) c ∧ tot W.ps (if p.1 then _ else _) = _
      cases hp : p.1 with
      | true => exact plain
      | false =>
        simp only [if_false, Bool.false_eq_true]
        rw [List.dropLast_concat]
        obtain ⟨m, h1, h2⟩ := chain_split h
        obtain ⟨q1, q2, q3⟩ := h2
        obtain ⟨g1, g2, g3⟩ := g
        have q1 : x = m := q1
        have q3 : y = b := q3
        have f1 : x < y := q2.fw
        have f2 := g2.fw
        have k : OkP W (false, x, p.2.2) := ⟨(by show x < p.2.2; omega), (fun z => nomatch z), fun _ => q2.pt rfl⟩
        refine ⟨chain_app h1 ⟨q1, k, g3⟩, ?_⟩
        rw [tot_app, tot_app, tot_cons, tot_cons]
        have e1 : cst W.ps (false, x, p.2.2) = cst W.ps (false, x, y) + cst W.ps p := by
          unfold cst
          rw [hp]
          simp only [if_false, Bool.false_eq_true]
          rw [cnt_add W.ps (show x ≤ y by omega) (show y ≤ p.2.2 by omega), q3, g1]
          omega
        rw [e1]
        show _ + (_ + 0) = _ + (_ + 0) + _
        omega
theorem whole_ok {W : Wd} : ∀ (L out : List Pce) {a b c : Int}, Chain W a out b → Chain W b L c → Chain W a (L.foldl mrg out) c ∧ tot W.ps (L.foldl mrg out) = tot W.ps out + tot W.ps L
  | [], out, a, b, c, h, g => by
    obtain rfl : b = c := g
    exact ⟨h, (Int.add_zero _).symm⟩
  | p :: r, out, a, b, c, h, g => by
    obtain ⟨h1, h2⟩ := mrg_ok (p := p) (c := p.2.2) h ⟨g.1, g.2.1, rfl⟩
    obtain ⟨k1, k2⟩ := whole_ok r (mrg out p) h1 g.2.2
    refine ⟨k1, ?_⟩
    show tot W.ps (r.foldl mrg (mrg out p)) = _
    rw [k2, h2, tot_cons]
    omega
end Pl
end Tg

namespace Tg
open PySem PySem.Spec PyProof.Rows L2
/-! ### the text -/
def topS (i : Nat) : Stmt := PySem.Challenge.pw_timegranary_k36_whole_no_plan_costs_less.main.body.getD i (.Pass ⟨0, 0, 0, 0⟩)
abbrev sDraws : Stmt := topS 28
abbrev sNext : Stmt := topS 29
theorem scNext : FnScope ["_law_draws_here", "_law_k", "_law_number"] ["_law_draws_here"] (defScope sNext) := ⟨rfl, rfl, rfl, by decide +kernel, rfl, by decide +kernel, by decide +kernel⟩
section
variable {P : Program} {w : World} {K : PySem.W.Frag} {mg : Str → Option Value} {base : Heap}
/-! ### _law_draws -/
/-- the draws at p, of which at most n were taken -/
def Dr (H : Hp) (p : Addr) (n : Nat) : Prop := ∃ (a k : Int) (b : Bool), H p = some (.lst [.int a, .int k, .bl b]) ∧ 0 ≤ k ∧ k ≤ n
theorem Dr.same {H H' : Hp} {p : Addr} {n : Nat} (s : Same H H') (d : Dr H p n) : Dr H' p n := by
  obtain ⟨a, k, b, h, r⟩ := d
  exact ⟨a, k, b, s _ _ h, r⟩
theorem Dr.ne {H : Hp} {p l : Addr} {n : Nat} (d : Dr H p n) (h : H l = none) : l ≠ p := fun z => by
  obtain ⟨_, _, _, z2, _⟩ := d
  rw [z, z2] at h
  cases h
def spDraws : Sp := fun vs H Q _ => ∃ c : Int, vs = [.int c] ∧ ∀ (p : Addr) (a : Int) (b : Bool), H p = none → Q (.ref p) (upd H p (.lst [.int a, .int 0, .bl b]))
/-! ### _law_next -/
def spNext : Sp := fun vs H Q _ => ∃ (p : Addr) (n : Nat), vs = [.ref p] ∧ Dr H p n ∧ n < 1000000 ∧
  ∀ (v : Int) (H' : Hp), Kp p H H' → Dr H' p (n + 1) → 0 ≤ v → v < 1000000000 → Q (.int v) H'
theorem ok_next {f : Addr} {fd : FuncData} {k : Nat} (F : Fun K "_law_next" "_law_next" sNext f fd) : FnOk P w K mg base CX0 (k + 1) f fd ["_law_draws_here"] spNext := by
  refine F.ok scNext (fun vs H Q E h => ?_) (fun cdv A outer s H vs Q E hr h => ?_)
  · obtain ⟨p, n, rfl, _⟩ := h
    rfl
  · obtain ⟨p, n, rfl, ⟨a, k, b, hp, k0, kn⟩, hn, q⟩ := h
    refine ⟨_, pss_cons (ps_asg (pe_op op_add (pe_ix ix_list (pv 0) pe_int (fun _ _ => rfl)) pe_int) (pg_sub (pv 0) pe_int set_list))
      (pss_cons (ps_set (i := 1) scNext.nd rfl (.inl rfl) (pe_ix ix_list (pv 0) pe_int (fun _ _ => rfl)))
      (pss_cons (ps_if (pt_val (pe_ix ix_list (pv 0) pe_int (fun _ _ => rfl)))
        (pss_cons (ps_set (i := 2) scNext.nd rfl (.inl rfl) (pe_op op_mod (pe_ix ix_list (pv 0) pe_int (fun _ _ => rfl)) (pe_op op_pow pe_int pe_int)))
        (pss_cons (ps_asg (pe_op op_fdiv (pe_ix ix_list (pv 0) pe_int (fun _ _ => rfl)) (pe_op op_pow pe_int pe_int)) (pg_sub (pv 0) pe_int set_list))
        (pss_one (ps_ret (pv 2))))) pss_nil)
      (pss_cons (ps_set (i := 2) scNext.nd rfl (.inl rfl) (pe_op op_mod (pe_op op_mul (pe_op op_add (pe_op op_add (pe_op op_mod (pe_ix ix_list (pv 0) pe_int (fun _ _ => rfl)) pe_int) (pe_op op_mul (pe_op op_mul (pv 1) (pv 1)) pe_int)) (pv 1)) pe_int) pe_int))
      (pss_cons (ps_set (i := 2) scNext.nd rfl (.inl rfl) (pe_op op_mod (pe_op op_mul (pv 2) (pv 2)) pe_int))
      (pss_one (ps_ret (pe_op op_fdiv (pe_op op_mod (pe_op op_mul (pv 2) (pe_op op_add (pv 2) pe_int)) pe_int) pe_int))))))), ?_⟩
    have h1 : (upd H p (.lst [.int a, .int (k + 1), .bl b])) p = some (.lst [.int a, .int (k + 1), .bl b]) := upd_same
    refine ⟨_, rfl, p, _, 1, .int k, rfl, rfl, SqL.of hp, rfl, k, 1, rfl, rfl, _, rfl, p, _, 1, 1, rfl, rfl, hp, rfl, ?_⟩
    refine ⟨_, rfl, p, _, 1, .int (k + 1), rfl, rfl, SqL.of h1, rfl, ?_⟩
    refine ⟨_, rfl, p, _, 2, .bl b, rfl, rfl, SqL.of h1, rfl, b, rfl, ?_⟩
    cases b with
    | true =>
      refine ⟨_, rfl, p, _, 0, .int a, rfl, rfl, SqL.of h1, rfl, 10, 6, rfl, rfl, ⟨by decide, by decide, by decide⟩, a, 1000000, rfl, rfl, (by show (0 : Int) < 1000000; decide), ?_⟩
      refine ⟨_, rfl, p, _, 0, .int a, rfl, rfl, SqL.of h1, rfl, 10, 6, rfl, rfl, ⟨by decide, by decide, by decide⟩, a, 1000000, rfl, rfl, ⟨by decide, by decide⟩, _, rfl, p, _, 0, 0, rfl, rfl, h1, rfl, ?_⟩
      refine ⟨_, rfl, ?_⟩
      rw [upd_upd]
      exact q _ _ Kp.put ⟨_, _, _, upd_same, by omega, by omega⟩ (Int.emod_nonneg _ (by decide)) (Int.lt_of_lt_of_le (Int.emod_lt_of_pos _ (by decide)) (by decide))
    | false =>
      refine ⟨_, rfl, p, _, 0, .int a, rfl, rfl, SqL.of h1, rfl, a, 1000003, rfl, rfl, (by show (0 : Int) < 1000003; decide), _, rfl, _, rfl, k + 1, k + 1, rfl, rfl, .inl ⟨by omega, by omega⟩, _, 7919, rfl, rfl, .inr ⟨by decide, by decide⟩,
        _, _, rfl, rfl, _, rfl, _, k + 1, rfl, rfl, _, 48271, rfl, rfl, .inr ⟨by decide, by decide⟩, _, 2147483629, rfl, rfl, (by show (0 : Int) < 2147483629; decide), ?_⟩
      obtain ⟨x, ex⟩ : ∃ x : Int, (a % 1000003 + (k + 1) * (k + 1) * 7919 + (k + 1)) * 48271 % 2147483629 = x := ⟨_, rfl⟩
      have x0 : 0 ≤ x := by
        rw [← ex]
        exact Int.emod_nonneg _ (by decide)
      have x1 : x < 2147483629 := by
        rw [← ex]
        exact Int.emod_lt_of_pos _ (by decide)
      refine ⟨_, rfl, _, rfl, x, x, congrArg V.int ex, congrArg V.int ex, .inl ⟨by omega, by omega⟩, _, 2147483587, rfl, rfl, (by show (0 : Int) < 2147483587; decide), ?_⟩
      obtain ⟨y, ey⟩ : ∃ y : Int, x * x % 2147483587 = y := ⟨_, rfl⟩
      have y0 : 0 ≤ y := by
        rw [← ey]
        exact Int.emod_nonneg _ (by decide)
      have y1 : y < 2147483587 := by
        rw [← ey]
        exact Int.emod_lt_of_pos _ (by decide)
      refine ⟨_, rfl, _, rfl, y, 2, congrArg V.int ey, rfl, y, _, congrArg V.int ey, rfl, .inl ⟨by omega, by omega⟩, _, 2147483579, rfl, rfl, (by show (0 : Int) < 2147483579; decide), _, 7, rfl, rfl, ⟨by decide, by decide⟩, ?_⟩
      have z0 : 0 ≤ y * (y + 2) % 2147483579 := Int.emod_nonneg _ (by decide)
      have z1 : y * (y + 2) % 2147483579 < 2147483579 := Int.emod_lt_of_pos _ (by decide)
      exact q _ _ Kp.put ⟨_, _, _, upd_same, by omega, by omega⟩ (by omega) (by omega)
end
/-! ### _law_draws -/
/-- powers of any size, as far as the machine writes them out -/
def CPowB (i j : Int) : Prop := 0 ≤ j ∧ (Builtin.Int.intBits i : Int) * j ≤ 2 ^ 27
theorem op_powB {X : Cx} : OpR X (binaryOp .Pow) (rI CPowB fun i j => .int (i ^ j.toNat)) := opI fun _ _ _ _ _ _ _ hc q => pow_int hc.1 hc.2 q
theorem scDraws : FnScope ["_law_cell"] ["_law_cell"] (defScope sDraws) := ⟨rfl, rfl, rfl, by decide +kernel, rfl, by decide +kernel, by decide +kernel⟩
section
variable {P : Program} {w : World} {K : PySem.W.Frag} {mg : Str → Option Value} {base : Heap}
theorem ok_draws {f : Addr} {fd : FuncData} {k : Nat} (F : Fun K "_law_draws" "_law_draws" sDraws f fd) : FnOk P w K mg base CX0 (k + 1) f fd ["_law_cell"] spDraws := by
  refine F.ok scDraws (fun vs H Q E h => ?_) (fun cdv A outer s H vs Q E hr h => ?_)
  · obtain ⟨c, rfl, _⟩ := h
    rfl
  · obtain ⟨c, rfl, q⟩ := h
    refine ⟨_, pss_one (ps_ret (pe_lst (pa_cons (pe_op op_mod (pv 0) (pe_op op_powB (pe_op op_powB (pe_op op_pow pe_int pe_int) pe_int) pe_int)) (pa_cons pe_int (pa_cons (pe_cmpR op_ge (pv 0) (pe_op op_pow pe_int pe_int) (nomark _)) pa_nil))))), ?_⟩
    refine ⟨_, rfl, 10, 60, rfl, rfl, ⟨by decide, by decide, by decide⟩, 10 ^ 60, 60, rfl, rfl, ⟨by decide, by decide +kernel⟩, (10 ^ 60) ^ 60, 4, rfl, rfl, ⟨by decide, by decide +kernel⟩, c, ((10 ^ 60) ^ 60) ^ 4, rfl, rfl, (by show (0 : Int) < ((10 ^ 60) ^ 60) ^ 4; decide +kernel), _, rfl, 10, 18, rfl, rfl, ⟨by decide, by decide, by decide⟩, c, _, rfl, rfl, ?_, fun p hp => ?_⟩
    · show 3 ≤ sizeLine
      decide
    · exact q p _ _ hp
end
end Tg

namespace Tg
open PySem PySem.Spec PyProof.Rows L2 Pl
/-! ### edges_of -/
def NL (H : Hp) (l : Addr) (xs : List Int) : Prop := H l = some (.lst (xs.map V.int))
/-- a list or a tuple of pairs -/
def CellsR (K : PySem.W.Frag) (H : Hp) (a : Addr) (cs : List (Int × Int)) : Prop := ∃ ts : List Addr, SqA K H a (ts.map V.ref) ∧ ts.length = cs.length ∧ ∀ (i : Nat) (t : Addr) (c : Int × Int), ts[i]? = some t → cs[i]? = some c → SqT K H t [.int c.1, .int c.2]
def PtsR (K : PySem.W.Frag) (H : Hp) (a : Addr) (ps : List Int) : Prop := SqA K H a (ps.map V.int)
theorem sqA_same {K : PySem.W.Frag} {H H' : Hp} {a : Addr} {xs : List V} (s : Same H H') (h : SqA K H a xs) : SqA K H' a xs := sqA_at (fun o e => s _ _ e) h
theorem CellsR.same {K : PySem.W.Frag} {H H' : Hp} {a : Addr} {cs : List (Int × Int)} (s : Same H H') (h : CellsR K H a cs) : CellsR K H' a cs := by
  obtain ⟨ts, h1, h2, h3⟩ := h
  exact ⟨ts, sqA_same s h1, h2, fun i t c e1 e2 => sqT_same s (h3 i t c e1 e2)⟩
theorem small1000 {n : Nat} (few : n ≤ 1000) : n < sizeLine := Nat.lt_of_le_of_lt few (by decide)
theorem flat_two : ∀ l : List (Int × Int), (l.flatMap fun c => [c.1, c.2]).length = 2 * l.length
  | [] => rfl
  | c :: r => by
    rw [List.flatMap_cons, List.length_append, flat_two r]
    have := List.length_cons (a := c) (as := r)
    show 2 + 2 * r.length = _
    omega
theorem tms_len (W : Wd) : (tms W).length ≤ 2 + 2 * W.cs.length := by
  unfold tms
  rw [List.length_append, flat_two]
  have := List.length_filter_le (fun c => decide (W.s ≤ c.1 ∧ c.2 ≤ W.e)) W.cs
  show 2 + 2 * (ins W).length ≤ _
  unfold ins
  omega
abbrev sEd : Stmt := topS 3
theorem scEd : FnScope ["start", "end", "cells", "times", "cell_start", "cell_end"] ["start", "end", "cells"] (defScope sEd) := ⟨rfl, rfl, rfl, by decide +kernel, rfl, by decide +kernel, by decide +kernel⟩
section
variable {P : Program} {w : World} {K : PySem.W.Frag} {mg : Str → Option Value} {base : Heap} {f : Addr} {fd : FuncData} {k : Nat}
def spEd (K : PySem.W.Frag) : Sp := fun vs H Q _ => ∃ (W : Wd) (c : Addr), vs = [.int W.s, .int W.e, .ref c] ∧ CellsR K H c W.cs ∧ W.cs.length ≤ 20 ∧ ∀ (p : Addr) (H' : Hp), Same H H' → H p = none → NL H' p (edg W) → Q (.ref p) H'
theorem ok_ed (F : Fun K "edges_of" "edges_of" sEd f fd) (m_sorted : mg "sorted" = none) (m_set : mg "set" = none) : FnOk P w K mg base CX0 (k + 1) f fd ["start", "end", "cells"] (spEd K) := by
  refine F.ok scEd (fun vs H Q E h => ?_) (fun cdv A outer s H vs Q E hr h => ?_)
  · obtain ⟨W, c, rfl, _⟩ := h
    rfl
  · obtain ⟨W, c, rfl, cr, few, q⟩ := h
    refine ⟨_, pss_cons (ps_set (i := 3) scEd.nd rfl (.inl rfl) (pe_lst (pa_cons (pv 0) (pa_cons (pv 1) pa_nil))))
      (pss_cons (ps_for PassesOwn.never rfl (pi_seq (pv 2)) (pg_tup rfl (pgs_cons (pg_name (i := 4) scEd.nd rfl (.inl rfl)) (pgs_cons (pg_name (i := 5) scEd.nd rfl (.inl rfl)) pgs_nil)))
        (pss_one (ps_if (PW.pt (pw_and (pt_cmpR op_le (pv 0) (pv 4) (nomark _)) (pw_and1 (pt_cmpR op_le (pv 5) (pv 1) (nomark _)))))
          (pss_one (ps_expr (pe_bm PySem.F.plainAttrs_list PySem.F.slot_list_extend PySem.F.type_list_extend mt_extend (pv 3) (pa_cons (pe_lst (pa_cons (pv 4) (pa_cons (pv 5) pa_nil))) pa_nil))))
          pss_nil)))
      (pss_one (ps_ret (pe_callB (cr_sortedSetA rfl) (by rfl) m_sorted (by decide +kernel) (pa_cons (pe_callTy (cr_setL rfl) (by rfl) m_set (by decide +kernel) (pa_cons (pv 3) pa_nil)) pa_nil))))), ?_⟩
    obtain ⟨ts, sq, lts, hts⟩ := cr
    refine ⟨_, rfl, _, rfl, by show 2 ≤ sizeLine; decide, fun t nt => ?_⟩
    have st := same_new (o := .lst [.int W.s, .int W.e]) nt
    have pick : ∀ i c, W.cs[i]? = some c → (W.cs.take (i + 1)).filter (fun c => decide (W.s ≤ c.1 ∧ c.2 ≤ W.e)) = (W.cs.take i).filter (fun c => decide (W.s ≤ c.1 ∧ c.2 ≤ W.e)) ++ (if W.s ≤ c.1 ∧ c.2 ≤ W.e then [c] else []) := fun i c e => by
      rw [List.take_add_one, e, List.filter_append]
      congr 1
      by_cases h : W.s ≤ c.1 ∧ c.2 ≤ W.e
      · rw [if_pos h]
        show List.filter _ [c] = _
        rw [List.filter_cons, decide_eq_true h]
        rfl
      · rw [if_neg h]
        show List.filter _ [c] = _
        rw [List.filter_cons, decide_eq_false h]
        rfl
    refine ⟨_, rfl, c, rfl, for_seq sq (fun i σ Hc => ∃ (z4 z5 : Option V), σ = [some (.int W.s), some (.int W.e), some (.ref c), some (.ref t), z4, z5] ∧ Same H Hc ∧ NL Hc t ([W.s, W.e] ++ ((W.cs.take i).filter fun c => decide (W.s ≤ c.1 ∧ c.2 ≤ W.e)).flatMap fun c => [c.1, c.2])) ⟨none, none, rfl, st, upd_same⟩ (fun i σ1 H1 ⟨_, _, _, h, _⟩ o e => h _ _ e) ?_ ?_⟩
    · rintro i x σ Hc hx ⟨z4, z5, rfl, sc, hn⟩
      rw [List.getElem?_map] at hx
      obtain ⟨tc, et, rfl⟩ := Option.map_eq_some_iff.mp hx
      obtain ⟨cc, ec⟩ : ∃ cc, W.cs[i]? = some cc := ⟨_, List.getElem?_eq_getElem (by rw [← lts]; exact (List.getElem?_eq_some_iff.mp et).1)⟩
      have hc := sqT_same sc (hts i tc cc et ec)
      have il : i < W.cs.length := (List.getElem?_eq_some_iff.mp ec).1
      have pk := pick i cc ec
      have none_ : (¬ (W.s ≤ cc.1 ∧ cc.2 ≤ W.e)) → ∃ (z4 z5 : Option V), [some (V.int W.s), some (.int W.e), some (.ref c), some (.ref t), some (.int cc.1), some (.int cc.2)] = [some (.int W.s), some (.int W.e), some (.ref c), some (.ref t), z4, z5] ∧ Same H Hc ∧ NL Hc t ([W.s, W.e] ++ ((W.cs.take (i + 1)).filter fun c => decide (W.s ≤ c.1 ∧ c.2 ≤ W.e)).flatMap fun c => [c.1, c.2]) := fun h => ⟨_, _, rfl, sc, by
        rw [pk, if_neg h, List.append_nil]
        exact hn⟩
      refine ⟨tc, _, rfl, hc, rfl, _, _, rfl, _, _, rfl, rfl, ?_⟩
      by_cases h1 : W.s ≤ cc.1
      · refine ⟨_, rfl, _, rfl, _, _, rfl, rfl, true, congrArg V.bl (decide_eq_true h1), if_t ?_⟩
        by_cases h2 : cc.2 ≤ W.e
        · refine ⟨_, rfl, _, rfl, _, _, rfl, rfl, true, congrArg V.bl (decide_eq_true h2), if_t ?_⟩
          refine ⟨_, rfl, .inl ⟨rfl, _, SqL.of hn⟩, _, rfl, _, rfl, by show 2 ≤ sizeLine; decide, fun b nb => ?_⟩
          have sb := same_new (o := .lst [.int cc.1, .int cc.2]) nb
          have fl := flat_two ((W.cs.take i).filter fun c => decide (W.s ≤ c.1 ∧ c.2 ≤ W.e))
          have fl2 := List.length_filter_le (fun c : Int × Int => decide (W.s ≤ c.1 ∧ c.2 ≤ W.e)) (W.cs.take i)
          rw [List.length_take] at fl2
          refine ⟨t, b, _, _, rfl, rfl, sb _ _ hn, upd_same, Nat.le_of_lt (small1000 ?_), ?_⟩
          · rw [List.length_map, List.length_append, fl]
            show 2 + _ + 2 ≤ 1000
            omega
          · refine ⟨_, _, rfl, fun y o e => ?_, ?_⟩
            · rw [upd_ne (ne_of_none e nt)]
              exact sb _ _ (sc _ _ e)
            · unfold NL
              rw [upd_same, pk, if_pos ⟨h1, h2⟩, List.flatMap_append, ← List.append_assoc]
              exact congrArg (fun l => some (HO.lst l)) (List.map_append (f := V.int) (l₂ := [cc.1, cc.2])).symm
        · exact ⟨_, rfl, _, rfl, _, _, rfl, rfl, false, congrArg V.bl (decide_eq_false h2), if_f (none_ fun z => h2 z.2)⟩
      · exact ⟨_, rfl, _, rfl, _, _, rfl, rfl, false, congrArg V.bl (decide_eq_false h1), if_f (if_f (none_ fun z => h1 z.1))⟩
    · rintro σ Hc ⟨z4, z5, rfl, sc, hn⟩
      have all : (W.cs.take (ts.map V.ref).length) = W.cs := by
        rw [List.length_map, lts, List.take_length]
      rw [all] at hn
      have few2 := tms_len W
      refine ⟨_, rfl, t, tms W, rfl, SqL.of hn, by omega, fun a cn na cnt => ?_⟩
      have c100 : cn ≤ (tms W).length := cnt _ fun _ h => h
      have s2 : Same Hc (upd Hc a (SetO w a (fun k => decide (k ∈ tms W)) cn)) := same_new na
      refine ⟨a, _, cn, rfl, upd_same, Nat.le_of_lt (small1000 (by omega)), fun ns p ⟨up', mem, len⟩ np => ?_⟩
      obtain rfl : ns = edg W := book_of up' fun k => (mem k).trans decide_eq_true_iff
      exact q p _ ((sc.trans s2).trans (same_new np)) ((sc.trans s2).free np) upd_same
end
end Tg

namespace Tg
open PySem PySem.Spec PyProof.Rows L2 Pl
/-! ### counts_below -/
theorem below_app (a b : List Int) (x : Int) : below (a ++ b) x = below a x + below b x := by
  unfold below
  rw [List.filter_append, List.length_append]
theorem below_all {l : List Int} {x : Int} (h : ∀ y, y ∈ l → y < x) : below l x = l.length := by
  unfold below
  rw [List.filter_eq_self.mpr fun y hy => decide_eq_true (h y hy)]
theorem below_none {l : List Int} {x : Int} (h : ∀ y, y ∈ l → x ≤ y) : below l x = 0 := by
  unfold below
  rw [List.filter_eq_nil_iff.mpr fun y hy => by
    have := h y hy
    rw [decide_eq_true_iff]
    omega]
  rfl
theorem below_at {ns : List Int} {x : Int} {k : Nat} (up : ns.Pairwise (· ≤ ·)) (lo : ∀ y, y ∈ ns.take k → y < x) (hi : ∀ z, ns[k]? = some z → x ≤ z) (kl : k ≤ ns.length) : below ns x = k := by
  have e : ns = ns.take k ++ ns.drop k := (List.take_append_drop k ns).symm
  rw [e, below_app, below_all lo, below_none fun y hy => ?_, List.length_take, Nat.min_eq_left kl, Nat.add_zero]
  cases hz : ns[k]? with
  | none =>
    rw [List.drop_eq_nil_of_le (List.getElem?_eq_none_iff.mp hz)] at hy
    cases hy
  | some z =>
    have zx := hi z hz
    obtain ⟨lt, ez⟩ := List.getElem?_eq_some_iff.mp hz
    rw [List.drop_eq_getElem_cons lt, ez] at hy
    have up2 : (ns.drop k).Pairwise (· ≤ ·) := up.drop
    rw [List.drop_eq_getElem_cons lt, ez] at up2
    obtain rfl | hy := List.mem_cons.mp hy
    · exact zx
    · have := (List.pairwise_cons.mp up2).1 y hy
      omega
abbrev sCb : Stmt := topS 4
theorem scCb : FnScope ["edges", "points", "times", "counts", "passed", "edge"] ["edges", "points"] (defScope sCb) := ⟨rfl, rfl, rfl, by decide +kernel, rfl, by decide +kernel, by decide +kernel⟩
section
variable {P : Program} {w : World} {K : PySem.W.Frag} {mg : Str → Option Value} {base : Heap} {f : Addr} {fd : FuncData} {k : Nat}
def nats (l : List Nat) : List V := l.map fun n => V.int (n : Nat)
def spCb (K : PySem.W.Frag) : Sp := fun vs H Q _ => ∃ (el pp : Addr) (E ps : List Int), vs = [.ref el, .ref pp] ∧ NL H el E ∧ E.Pairwise (· < ·) ∧ E.length ≤ 100 ∧ PtsR K H pp ps ∧ ∀ (m : Addr) (H' : Hp), Same H H' → H m = none → H' m = some (.lst (nats (E.map (below ps)))) → Q (.ref m) H'
theorem ok_cb (F : Fun K "counts_below" "counts_below" sCb f fd) (m_sorted : mg "sorted" = none) (m_len : mg "len" = none) : FnOk P w K mg base CX0 (k + 1) f fd ["edges", "points"] (spCb K) := by
  refine F.ok scCb (fun vs H Q E h => ?_) (fun cdv A outer s H vs Q E hr h => ?_)
  · obtain ⟨el, pp, E, ps, rfl, _⟩ := h
    rfl
  · obtain ⟨el, pp, E, ps, rfl, hE, up, few, hp, q⟩ := h
    refine ⟨_, pss_cons (ps_set (i := 2) scCb.nd rfl (.inl rfl) (pe_callB cr_sortedA (by rfl) m_sorted (by decide +kernel) (pa_cons (pv 1) pa_nil)))
      (pss_cons (ps_set (i := 3) scCb.nd rfl (.inl rfl) (pe_lst pa_nil))
      (pss_cons (ps_set (i := 4) scCb.nd rfl (.inl rfl) pe_int)
      (pss_cons (ps_for PassesOwn.never rfl (pi_list (pv 0)) (pg_name (i := 5) scCb.nd rfl (.inl rfl))
        (pss_cons (ps_while PassesOwn.never (PW.pt (pw_and (pt_cmpR op_lt (pv 4) (pe_callB call_len_seq (by rfl) m_len (by decide +kernel) (pa_cons (pv 2) pa_nil)) (nomark _)) (pw_and1 (pt_cmpR op_lt (pe_ix ix_list (pv 2) (pv 4) (fun _ _ => rfl)) (pv 5) (nomark _)))))
          (pss_one (ps_aug (i := 4) scCb.nd rfl (.inl rfl) pe_int ip_add)))
        (pss_one (ps_expr (pe_bm PySem.F.plainAttrs_list PySem.F.slot_list_append PySem.F.type_list_append mt_append (pv 3) (pa_cons (pv 4) pa_nil))))))
      (pss_one (ps_ret (pv 3)))))), ?_⟩
    refine ⟨_, rfl, pp, ps, rfl, hp, fun ns t pm srt nt => ?_⟩
    have st := same_new (o := .lst (ns.map V.int)) nt
    obtain ⟨H1, e1⟩ : ∃ H1, upd H t (.lst (ns.map V.int)) = H1 := ⟨_, rfl⟩
    have ht : NL H1 t ns := by
      rw [← e1]
      exact upd_same
    rw [e1] at st ⊢
    refine ⟨Nat.zero_le _, fun m nm => ?_⟩
    have sm := same_new (o := .lst []) nm
    obtain ⟨H2, e2⟩ : ∃ H2, upd H1 m (.lst []) = H2 := ⟨_, rfl⟩
    have hm : H2 m = some (.lst []) := by
      rw [← e2]
      exact upd_same
    rw [e2] at sm ⊢
    have nmH : H m = none := st.free nm
    refine ⟨_, rfl, el, rfl, ⟨_, SqL.of (sm _ _ (st _ _ hE))⟩, for_list (xs := E.map V.int) (fun i σ Hc => ∃ (k : Nat) (z : Option V), σ = [some (.ref el), some (.ref pp), some (.ref t), some (.ref m), some (.int (k : Nat)), z] ∧ Same H1 Hc ∧ Hc m = some (.lst (nats ((E.take i).map (below ps)))) ∧ k ≤ ns.length ∧ ∀ x, (E.drop i).head? = some x → ∀ y, y ∈ ns.take k → y < x) ?_ ?_ ?_ ?_⟩
    · exact ⟨0, none, rfl, sm, hm, Nat.zero_le _, fun x _ y hy => by rw [List.take_zero] at hy; cases hy⟩
    · rintro i σ Hc _ ⟨k, z, rfl, sc, _⟩
      exact SqL.of (sc _ _ (st _ _ hE))
    · rintro i v σ Hc hv ⟨k, z, rfl, sc, hmc, kl, lo⟩
      rw [List.getElem?_map] at hv
      obtain ⟨x, ex, rfl⟩ := Option.map_eq_some_iff.mp hv
      have lox := lo x (by rw [List.head?_drop]; exact ex)
      have htc := sc _ _ ht
      have ltn : (ns.map V.int).length = ns.length := List.length_map ..
      have il : i < E.length := (List.getElem?_eq_some_iff.mp ex).1
      have small : (nats ((E.take i).map (below ps))).length < sizeLine := by
        unfold nats
        rw [List.length_map, List.length_map, List.length_take]
        exact small1000 (by omega)
      have done : ∀ j, j ≤ ns.length → (∀ y, y ∈ ns.take j → y < x) → (∀ z, ns[j]? = some z → x ≤ z) → ∃ (k : Nat) (z : Option V), [some (V.ref el), some (.ref pp), some (.ref t), some (.ref m), some (.int (j : Nat)), some (.int x)] = [some (.ref el), some (.ref pp), some (.ref t), some (.ref m), some (.int (k : Nat)), z] ∧ Same H1 (upd Hc m (.lst (nats ((E.take i).map (below ps)) ++ [.int (j : Nat)]))) ∧ (upd Hc m (.lst (nats ((E.take i).map (below ps)) ++ [.int (j : Nat)]))) m = some (.lst (nats ((E.take (i + 1)).map (below ps)))) ∧ k ≤ ns.length ∧ ∀ x, (E.drop (i + 1)).head? = some x → ∀ y, y ∈ ns.take k → y < x := fun j jl lo hi => ⟨j, _, rfl, same_put nm sc, by
        rw [upd_same, List.take_add_one, ex, List.map_append]
        unfold nats
        rw [List.map_append, ← below_at srt lo hi jl, below_perm pm x]
        rfl, jl, fun x2 e2 y hy => by
        rw [List.head?_drop] at e2
        obtain ⟨l2, e2⟩ := List.getElem?_eq_some_iff.mp e2
        obtain ⟨l1, e1⟩ := List.getElem?_eq_some_iff.mp ex
        have := List.pairwise_iff_getElem.mp up i (i + 1) l1 l2 (by omega)
        rw [e1, e2] at this
        have := lo y hy
        omega⟩
      refine while_by (fun σ H3 => ∃ j : Nat, σ = [some (.ref el), some (.ref pp), some (.ref t), some (.ref m), some (.int (j : Nat)), some (.int x)] ∧ H3 = Hc ∧ j ≤ ns.length ∧ ∀ y, y ∈ ns.take j → y < x) (fun σ _ => match σ with | _ :: _ :: _ :: _ :: some (.int j) :: _ => ns.length - j.toNat | _ => 0) ⟨k, rfl, rfl, kl, lox⟩ ?_ ?_
      · rintro σ H3 ⟨j, rfl, rfl, jl, loj⟩
        by_cases c1 : j < ns.length
        · obtain ⟨y, ey⟩ : ∃ y, ns[j]? = some y := ⟨_, List.getElem?_eq_getElem c1⟩
          refine ⟨_, rfl, _, rfl, t, _, rfl, .inl (SqL.of htc), _, _, rfl, rfl, true, congrArg V.bl (decide_eq_true (by omega)), if_t ?_⟩
          refine ⟨_, rfl, _, rfl, t, _, _, .int y, rfl, rfl, SqL.of htc, atI_nat (by rw [List.getElem?_map, ey]; rfl), _, rfl, _, _, rfl, rfl, ?_⟩
          by_cases c2 : y < x
          · refine ⟨true, congrArg V.bl (decide_eq_true c2), if_t ?_⟩
            exact ⟨_, rfl, _, _, rfl, rfl, ⟨j + 1, rfl, rfl, c1, fun z hz => by
              rw [List.take_add_one, ey] at hz
              rcases List.mem_append.mp hz with h | h
              · exact loj z h
              · have h : z ∈ [y] := h
                rw [List.mem_singleton.mp h]
                exact c2⟩, by
              show ns.length - (((j : Nat) : Int) + 1).toNat < ns.length - ((j : Nat) : Int).toNat
              omega⟩
          · refine ⟨false, congrArg V.bl (decide_eq_false c2), if_f ?_⟩
            exact ⟨_, rfl, .inl ⟨rfl, _, SqL.of hmc⟩, _, rfl, m, _, _, rfl, rfl, hmc, small, done j jl loj fun z hz => by
              rw [ey] at hz
              obtain rfl := Option.some.inj hz
              omega⟩
        · refine ⟨_, rfl, _, rfl, t, _, rfl, .inl (SqL.of htc), _, _, rfl, rfl, false, congrArg V.bl (decide_eq_false (by omega)), if_f (if_f ?_)⟩
          exact ⟨_, rfl, .inl ⟨rfl, _, SqL.of hmc⟩, _, rfl, m, _, _, rfl, rfl, hmc, small, done j jl loj fun z hz => by
              rw [List.getElem?_eq_none (by omega)] at hz
              cases hz⟩
      · rintro σ H3 Q1 Q2 hq ⟨v, e, v2, e2, a2, ys, e3, sq, i1, j1, e4, e5, b, e6, h⟩
        refine ⟨v, e, v2, e2, a2, ys, e3, sq, i1, j1, e4, e5, b, e6, ?_⟩
        cases b with
        | false => exact if_f (hq _ _ ((if_neg (by decide)).mp h))
        | true =>
          obtain ⟨v3, e7, v4, e8, p5, ys5, z5, w5, e9, e10, sq5, at5, v6, e11, i6, j6, e12, e13, b2, e14, h⟩ := (if_pos rfl).mp h
          exact if_t ⟨v3, e7, v4, e8, p5, ys5, z5, w5, e9, e10, sq5, at5, v6, e11, i6, j6, e12, e13, b2, e14, hq _ _ h⟩
    · rintro σ Hc ⟨k, z, rfl, sc, hmc, kl, lo⟩
      rw [List.length_map, List.take_length] at hmc
      exact ⟨_, rfl, q m Hc (st.trans sc) nmH hmc⟩
end
end Tg

namespace Tg
open PySem PySem.Spec PyProof.Rows L2 Pl
/-! ### steps by edges, in the heap -/
def wdS (b : Bool) : Str := if b then "cell" else "points"
def stpT (u : Stp) : HO := .tup [.str (wdS u.cell), .int u.to, .int u.cost]
/-- a list of steps -/
def StL (H : Hp) (l : Addr) (us : List Stp) : Prop := ∃ ts : List Addr, H l = some (.lst (ts.map V.ref)) ∧ ts.length = us.length ∧ ∀ (i : Nat) (t : Addr) (u : Stp), ts[i]? = some t → us[i]? = some u → H t = some (stpT u)
def atE (L : List Stp) (x : Int) : List Stp := L.filter fun u => decide (u.fr = x)
def kvE (E : List Int) (ls : List Addr) : List (Key × V) := List.zipWith (fun e l => ((Sum.inl e : Key), V.ref l)) E ls
structure StepsR (H : Hp) (d : Addr) (E : List Int) (L : List Stp) (ls : List Addr) : Prop where
  len : ls.length = E.length
  nd : ls.Nodup
  dct : H d = some (.dK (kvE E ls))
  lst : ∀ (i : Nat) (l : Addr) (x : Int), ls[i]? = some l → E[i]? = some x → StL H l (atE L x)
theorem StL.same {H H' : Hp} {l : Addr} {us : List Stp} (s : Same H H') (h : StL H l us) : StL H' l us := by
  obtain ⟨ts, h1, h2, h3⟩ := h
  exact ⟨ts, s _ _ h1, h2, fun i t u e1 e2 => s _ _ (h3 i t u e1 e2)⟩
theorem StepsR.same {H H' : Hp} {d : Addr} {E : List Int} {L : List Stp} {ls : List Addr} (s : Same H H') (h : StepsR H d E L ls) : StepsR H' d E L ls := ⟨h.len, h.nd, s _ _ h.dct, fun i l x e1 e2 => (h.lst i l x e1 e2).same s⟩
theorem atE_app (L M : List Stp) (x : Int) : atE (L ++ M) x = atE L x ++ atE M x := List.filter_append ..
theorem atE_one {u : Stp} {x : Int} : atE [u] x = if u.fr = x then [u] else [] := by
  unfold atE
  rw [List.filter_cons]
  by_cases h : u.fr = x
  · rw [decide_eq_true h, if_pos h]
    rfl
  · rw [decide_eq_false h, if_neg h]
    rfl
theorem kvE_at {E : List Int} {ls : List Addr} {i : Nat} {e : Int} {l : Addr} (h1 : E[i]? = some e) (h2 : ls[i]? = some l) : (kvE E ls)[i]? = some (.inl e, .ref l) := by
  unfold kvE
  rw [List.getElem?_zipWith, h1, h2]
theorem kvE_keys {E : List Int} {ls : List Addr} (len : ls.length = E.length) : (kvE E ls).map (·.1) = E.map (Sum.inl : Int → Key) := by
  apply List.ext_getElem?
  intro i
  simp only [List.getElem?_map]
  cases h : E[i]? with
  | none =>
    have le := List.getElem?_eq_none_iff.mp h
    rw [List.getElem?_eq_none (by unfold kvE; rw [List.length_zipWith]; omega)]
    rfl
  | some e =>
    have lt := (List.getElem?_eq_some_iff.mp h).1
    rw [kvE_at h (List.getElem?_eq_getElem (by omega))]
    rfl
theorem val_of {kvs : List (Key × V)} {k : Key} {v : V} (nd : (kvs.map (·.1)).Nodup) (h : (k, v) ∈ kvs) : valV kvs k = some v := by
  induction kvs with
  | nil => cases h
  | cons q r ih =>
    have n := List.nodup_cons.mp nd
    unfold valV at ih ⊢
    rw [List.find?_cons]
    obtain e | h := List.mem_cons.mp h
    · rw [← e]
      show Option.map _ (match decide (k = k) with | true => _ | false => _) = _
      rw [decide_eq_true rfl]
      rfl
    · have ne : q.1 ≠ k := fun e => n.1 (by show q.1 ∈ _; rw [e]; exact List.mem_map.mpr ⟨_, h, rfl⟩)
      rw [decide_eq_false ne]
      exact ih n.2 h
theorem inl_nodup {E : List Int} (h : E.Nodup) : (E.map (Sum.inl : Int → Key)).Nodup := List.pairwise_map.mpr (h.imp fun ne z => ne (Sum.inl.inj z))
theorem StepsR.val {H : Hp} {d : Addr} {E : List Int} {L : List Stp} {ls : List Addr} (S : StepsR H d E L ls) (nd : E.Nodup) {i : Nat} {e : Int} {l : Addr} (h1 : E[i]? = some e) (h2 : ls[i]? = some l) : valV (kvE E ls) (.inl e) = some (.ref l) :=
  val_of (by rw [kvE_keys S.len]; exact inl_nodup nd) (List.mem_of_getElem? (kvE_at h1 h2))
/-- one step more -/
theorem StepsR.put {H : Hp} {d : Addr} {E : List Int} {L : List Stp} {ls : List Addr} {i : Nat} {l t : Addr} {x : Int} {u : Stp} {ys : List V} (S : StepsR H d E L ls) (ndE : E.Nodup) (el : ls[i]? = some l) (ex : E[i]? = some x) (ux : u.fr = x) (nt : H t = none) (hy : H l = some (.lst ys)) :
    StepsR (upd (upd H t (stpT u)) l (.lst (ys ++ [.ref t]))) d E (L ++ [u]) ls := by
  have st : Same H (upd H t (stpT u)) := same_new nt
  have tl : t ≠ l := fun z => by
    rw [z, hy] at nt
    cases nt
  refine ⟨S.len, S.nd, ?_, fun j m z em ez => ?_⟩
  · have dl : d ≠ l := fun z => by
      have := S.dct
      rw [z, hy] at this
      cases this
    rw [upd_ne dl]
    exact st _ _ S.dct
  · have tups : ∀ (b : Addr) (v : Stp), H b = some (stpT v) → (upd (upd H t (stpT u)) l (.lst (ys ++ [.ref t]))) b = some (stpT v) := fun b v hb => by
      have bl : b ≠ l := fun z => by
        rw [z, hy] at hb
        cases hb
      rw [upd_ne bl]
      exact st _ _ hb
    by_cases c : j = i
    · subst c
      rw [el] at em
      rw [ex] at ez
      cases em
      cases ez
      obtain ⟨ts, h1, h2, h3⟩ := S.lst j l x el ex
      rw [hy] at h1
      cases h1
      rw [atE_app, atE_one, if_pos ux]
      refine ⟨ts ++ [t], ?_, ?_, fun n b v e1 e2 => ?_⟩
      · rw [upd_same, List.map_append]
        rfl
      · rw [List.length_append, List.length_append, h2]
        rfl
      · by_cases nl : n < ts.length
        · rw [List.getElem?_append_left nl] at e1
          rw [List.getElem?_append_left (by omega)] at e2
          exact tups b v (h3 n b v e1 e2)
        · have lt := (List.getElem?_eq_some_iff.mp e1).1
          rw [List.length_append] at lt
          have lt : n < ts.length + 1 := lt
          have en : n = ts.length := by omega
          rw [en, List.getElem?_append_right (Nat.le_refl _), Nat.sub_self] at e1
          rw [en, h2, List.getElem?_append_right (Nat.le_refl _), Nat.sub_self] at e2
          cases e1
          cases e2
          rw [upd_ne tl, upd_same]
    · have ml : m ≠ l := fun z => by
        subst z
        obtain ⟨l1, e1⟩ := List.getElem?_eq_some_iff.mp em
        exact c ((List.getElem?_inj l1 S.nd).mp (em.trans el.symm))
      have zx : z ≠ x := fun w => by
        subst w
        obtain ⟨l1, e1⟩ := List.getElem?_eq_some_iff.mp ez
        exact c ((List.getElem?_inj l1 ndE).mp (ez.trans ex.symm))
      obtain ⟨ts, h1, h2, h3⟩ := S.lst j m z em ez
      rw [atE_app, atE_one, if_neg (by rw [ux]; exact fun w => zx w.symm), List.append_nil]
      refine ⟨ts, ?_, h2, fun n b v e1 e2 => tups b v (h3 n b v e1 e2)⟩
      rw [upd_ne ml]
      exact st _ _ h1
end Tg

namespace Tg
open PySem PySem.Spec PyProof.Rows L2 Pl
/-! ### steps_from -/
def hV : Option Int → V
  | none => .non
  | some x => .int x
def ptP (W : Wd) (i : Nat) : List Stp := (((nbr (edg W)).take i).filter fun q => hok W.h q.1).map fun q => ⟨false, q.1, q.2, cnt W.ps q.1 q.2⟩
def clP (W : Wd) (i : Nat) : List Stp := ((W.cs.take i).filter fun c => decide (W.s ≤ c.1 ∧ c.2 ≤ W.e)).map fun c => ⟨true, c.1, c.2, 1⟩
theorem nbr_len (E : List Int) : (nbr E).length = E.length - 1 := by
  unfold nbr
  rw [List.length_zip, List.length_drop]
  omega
theorem nbr_at {E : List Int} {i : Nat} {a b : Int} (h1 : E[i]? = some a) (h2 : E[i + 1]? = some b) : (nbr E)[i]? = some (a, b) := by
  unfold nbr
  rw [List.zip_eq_zipWith, List.getElem?_zipWith, h1, List.getElem?_drop, Nat.add_comm 1 i, h2]
theorem ptP_all {W : Wd} {n : Nat} (h : n = (edg W).length - 1) : ptP W n = ptS W := by
  unfold ptP ptS
  rw [h, ← nbr_len, List.take_length]
theorem ptP_step {W : Wd} {i : Nat} {a b : Int} (h1 : (edg W)[i]? = some a) (h2 : (edg W)[i + 1]? = some b) : ptP W (i + 1) = ptP W i ++ if hok W.h a then [⟨false, a, b, cnt W.ps a b⟩] else [] := by
  unfold ptP
  rw [List.take_add_one, nbr_at h1 h2, List.filter_append, List.map_append]
  congr 1
  show List.map _ (List.filter _ [(a, b)]) = _
  rw [List.filter_cons]
  cases hok W.h a <;> rfl
theorem clP_step {W : Wd} {i : Nat} {c : Int × Int} (h : W.cs[i]? = some c) : clP W (i + 1) = clP W i ++ if W.s ≤ c.1 ∧ c.2 ≤ W.e then [⟨true, c.1, c.2, 1⟩] else [] := by
  unfold clP
  rw [List.take_add_one, h, List.filter_append, List.map_append]
  congr 1
  show List.map _ (List.filter _ [c]) = _
  rw [List.filter_cons]
  by_cases g : W.s ≤ c.1 ∧ c.2 ≤ W.e
  · rw [decide_eq_true g, if_pos g]
    rfl
  · rw [decide_eq_false g, if_neg g]
    rfl
theorem ptP_len (W : Wd) (i : Nat) : (ptP W i).length ≤ i := by
  unfold ptP
  rw [List.length_map]
  have := List.length_filter_le (fun q : Int × Int => hok W.h q.1) ((nbr (edg W)).take i)
  rw [List.length_take] at this
  omega
theorem clP_len (W : Wd) (i : Nat) : (clP W i).length ≤ i := by
  unfold clP
  rw [List.length_map]
  have := List.length_filter_le (fun c : Int × Int => decide (W.s ≤ c.1 ∧ c.2 ≤ W.e)) (W.cs.take i)
  rw [List.length_take] at this
  omega
theorem atE_len (L : List Stp) (x : Int) : (atE L x).length ≤ L.length := List.length_filter_le ..
theorem edg_len (W : Wd) : (edg W).length ≤ 2 + 2 * W.cs.length := Nat.le_trans (book_len _) (tms_len W)
theorem edg_pos (W : Wd) : 0 < (edg W).length := List.length_pos_iff.mpr (List.ne_nil_of_mem (edg_mem.mpr (.inl rfl)))
theorem edg_nd (W : Wd) : (edg W).Nodup := up_nodup (edg_up W)
theorem yes_b {σ : L2.St} {H : Hp} {Q : Bool → Hp → Prop} (h : Q true H) : tYes σ H Q := h
abbrev sSf : Stmt := topS 5
abbrev NSf : List Str := ["start", "end", "horizon", "cells", "points", "edges", "counts", "steps", "edge", "at", "cell_start", "cell_end"]
theorem scSf : FnScope NSf ["start", "end", "horizon", "cells", "points"] (defScope sSf) := ⟨rfl, rfl, rfl, by decide +kernel, rfl, by decide +kernel, by decide +kernel⟩
section
variable {P : Program} {w : World} {K : PySem.W.Frag} {mg : Str → Option Value} {base : Heap} {f : Addr} {fd : FuncData} {k : Nat}
/-- the world as it is handed: two numbers, the horizon, cells and points in lists or tuples -/
structure Handed (K : PySem.W.Frag) (H : Hp) (W : Wd) (c p : Addr) : Prop where
  cells : CellsR K H c W.cs
  pts : PtsR K H p W.ps
  few : W.cs.length ≤ 20
theorem Handed.same {H H' : Hp} {W : Wd} {c p : Addr} (s : Same H H') (h : Handed K H W c p) : Handed K H' W c p := ⟨h.cells.same s, sqA_same s h.pts, h.few⟩
def spSf (K : PySem.W.Frag) : Sp := fun vs H Q _ => ∃ (W : Wd) (c p : Addr), vs = [.int W.s, .int W.e, hV W.h, .ref c, .ref p] ∧ Handed K H W c p ∧
  ∀ (d : Addr) (ls : List Addr) (H' : Hp), Same H H' → H d = none → StepsR H' d (edg W) (ptS W ++ clS W) ls → Q (.ref d) H'
theorem ok_sf (F : Fun K "steps_from" "steps_from" sSf f fd) (C_edges_of : Cal P w K mg base k "edges_of" ["start", "end", "cells"] (spEd K)) (C_counts_below : Cal P w K mg base k "counts_below" ["edges", "points"] (spCb K)) (m_len : mg "len" = none) (m_range : mg "range" = none) : FnOk P w K mg base CX0 (k + 1) f fd ["start", "end", "horizon", "cells", "points"] (spSf K) := by
  refine F.ok scSf (fun vs H Q E h => ?_) (fun cdv A outer s H vs Q E hr h => ?_)
  · obtain ⟨W, c, p, rfl, _⟩ := h
    rfl
  · obtain ⟨W, c, p, rfl, hh, q⟩ := h
    have hu1 := hr.units
    have hu : (A.deeper (envOfC "steps_from" (defScope sSf) s.heap.objs.size f cdv)).units + 1 < cLine := by omega
    refine ⟨_, pss_cons (ps_set (i := 5) scSf.nd rfl (.inl rfl) (pe_cal C_edges_of (hr.mono (by omega)) (by rfl) (pa_cons (pv 0) (pa_cons (pv 1) (pa_cons (pv 3) pa_nil)))))
      (pss_cons (ps_set (i := 6) scSf.nd rfl (.inl rfl) (pe_cal C_counts_below (hr.mono (by omega)) (by rfl) (pa_cons (pv 5) (pa_cons (pv 4) pa_nil))))
      (pss_cons (ps_setDc (i := 7) (own := [("edge", 8)]) (g := (gName 8)) (tt := tYes) rfl scSf.nd rfl rfl (sw_dict rfl rfl rfl (by decide +kernel)) (pi_list (pv 5)) (blkOk_by (own := [("edge", 8)]) (N := NSf) (sc := defScope sSf) (by decide +kernel)) (fun _ _ _ _ _ => (pg_name (i := 8) scSf.nd rfl (.inl rfl))) (fun _ _ _ _ _ => pts_nil) (fun _ _ _ _ _ => pv 8) (fun _ _ _ _ _ => pe_lst pa_nil))
      (pss_cons (ps_for PassesOwn.never rfl (pi_range1 (by rfl) m_range (pa_cons (pe_op op_sub (pe_callB call_len_seq (by rfl) m_len (by decide +kernel) (pa_cons (pv 5) pa_nil)) pe_int) pa_nil)) (pg_name (i := 9) scSf.nd rfl (.inl rfl))
        (pss_one (ps_if (PW.pt (pw_or (pt_cmpR op_isN (pv 2) pe_non (nomark _)) (pw_or1 (pt_cmpR op_ge (pe_ix ix_list (pv 5) (pv 9) (fun _ _ => rfl)) (pv 2) (nomark _)))))
          (pss_one (ps_expr (pe_bm PySem.F.plainAttrs_list PySem.F.slot_list_append PySem.F.type_list_append mt_append (pe_dget hu (pv 7) (pe_ix ix_list (pv 5) (pv 9) (fun _ _ => rfl)) (fun _ _ => rfl)) (pa_cons (pe_tup (pa_cons pe_str (pa_cons (pe_ix ix_list (pv 5) (pe_op op_add (pv 9) pe_int) (fun _ _ => rfl)) (pa_cons (pe_op op_sub (pe_ix ix_list (pv 6) (pe_op op_add (pv 9) pe_int) (fun _ _ => rfl)) (pe_ix ix_list (pv 6) (pv 9) (fun _ _ => rfl))) pa_nil)))) pa_nil))))
          pss_nil)))
      (pss_cons (ps_for PassesOwn.never rfl (pi_seq (pv 3)) (pg_tup rfl (pgs_cons (pg_name (i := 10) scSf.nd rfl (.inl rfl)) (pgs_cons (pg_name (i := 11) scSf.nd rfl (.inl rfl)) pgs_nil)))
        (pss_one (ps_if (PW.pt (pw_and (pt_cmpR op_le (pv 0) (pv 10) (nomark _)) (pw_and1 (pt_cmpR op_le (pv 11) (pv 1) (nomark _)))))
          (pss_one (ps_expr (pe_bm PySem.F.plainAttrs_list PySem.F.slot_list_append PySem.F.type_list_append mt_append (pe_dget hu (pv 7) (pv 10) (fun _ _ => rfl)) (pa_cons (pe_tup (pa_cons pe_str (pa_cons (pv 11) (pa_cons pe_int pa_nil)))) pa_nil))))
          pss_nil)))
      (pss_one (ps_ret (pv 7))))))), ?_⟩
    have el := edg_len W
    have f20 := hh.few
    refine ⟨_, rfl, _, rfl, _, rfl, W, c, rfl, hh.cells, hh.few, fun a H1 s1 na ha => ?_⟩
    refine ⟨_, rfl, _, rfl, a, p, edg W, W.ps, rfl, ha, edg_up W, by omega, sqA_same s1 hh.pts, fun m H2 s2 nm hm => ?_⟩
    have ha2 := s2 _ _ ha
    have sA := s1.trans s2
    have ndE := edg_nd W
    have ep := edg_pos W
    obtain ⟨E0, eE⟩ : ∃ E0, edg W = E0 := ⟨_, rfl⟩
    rw [eE] at ha2 hm el ndE ep
    refine ⟨_, rfl, a, rfl, ⟨_, SqL.of ha2⟩, fun d nd => dc_lst (a := a) (xs := E0.map V.int) (fun i Hc => ∃ ls : List Addr, ls.length = i ∧ i ≤ E0.length ∧ ls.Nodup ∧ Same H2 Hc ∧ Hc d = some (.dK (kvE (E0.take i) ls)) ∧ ∀ l, l ∈ ls → Hc l = some (.lst []) ∧ H2 l = none ∧ l ≠ d) ⟨[], rfl, Nat.zero_le _, .nil, same_new nd, upd_same, fun l h => by cases h⟩ (fun i Hc ⟨ls, _, _, _, sc, _⟩ => SqL.of (sc _ _ ha2)) ?_ ?_⟩
    · rintro i x Hc hx ⟨ls, ll, il, nd2, sc, hd, each⟩
      rw [List.getElem?_map] at hx
      obtain ⟨e, ex, rfl⟩ := Option.map_eq_some_iff.mp hx
      have lt : i < E0.length := (List.getElem?_eq_some_iff.mp ex).1
      refine ⟨rfl, yes_b (if_t ⟨_, rfl, Nat.zero_le _, fun l nl => ?_⟩)⟩
      have sl := same_new (o := .lst []) nl
      have ld : l ≠ d := fun z => by
        rw [z, hd] at nl
        cases nl
      have new : (Sum.inl e : Key) ∉ (kvE (E0.take i) ls).map (·.1) := by
        rw [kvE_keys (by rw [List.length_take, ll]; omega)]
        intro h
        obtain ⟨y, hy, z⟩ := List.mem_map.mp h
        obtain rfl := Sum.inl.inj z
        obtain ⟨j, hj, ej⟩ := List.mem_iff_getElem.mp hy
        rw [List.length_take] at hj
        rw [List.getElem_take] at ej
        have e1 : E0[j]? = some y := by rw [List.getElem?_eq_getElem (by omega), ej]
        have := (List.getElem?_inj (by omega) ndE).mp (e1.trans ex.symm)
        omega
      refine ⟨_, .inl e, rfl, sl _ _ hd, ?_, ls ++ [l], ?_, lt, ?_, fun b o hb => ?_, ?_, fun b hb => ?_⟩
      · unfold kvE
        rw [List.length_zipWith, List.length_take]
        exact small1000 (by omega)
      · rw [List.length_append, ll]
        rfl
      · exact List.nodup_append.mpr ⟨nd2, by simp, fun u hu v hv => by
          rw [List.mem_singleton.mp hv]
          intro z
          rw [← z, (each u hu).1] at nl
          cases nl⟩
      · rw [upd_ne (ne_of_none hb nd)]
        exact sl _ _ (sc _ _ hb)
      · rw [upd_same, putK_new new, List.take_add_one, ex]
        unfold kvE
        rw [List.zipWith_append (by rw [List.length_take, ll]; omega)]
        rfl
      · rcases List.mem_append.mp hb with h | h
        · obtain ⟨h1, h2, h3⟩ := each b h
          refine ⟨?_, h2, h3⟩
          rw [upd_ne h3]
          exact sl _ _ h1
        · rw [List.mem_singleton.mp h]
          refine ⟨?_, sc.free nl, ld⟩
          rw [upd_ne ld, upd_same]
    · rintro Hc ⟨ls, ll, il, nd2, sc, hd, each⟩
      rw [List.length_map] at ll hd
      rw [List.take_length] at hd
      have S0 : StepsR Hc d E0 [] ls := ⟨ll, nd2, hd, fun i l x e1 e2 => ⟨[], (each l (List.mem_of_getElem? e1)).1, rfl, fun j t u z => by simp at z⟩⟩
      have frs : ∀ l, l ∈ ls → H2 l = none := fun l hl => (each l hl).2.1
      have ltn : (E0.map V.int).length = E0.length := List.length_map ..
      refine ⟨_, rfl, a, _, rfl, .inl (SqL.of (sc _ _ ha2)), _, _, rfl, rfl, ((E0.length - 1 : Nat) : Int), ?_, by omega, by omega, for_range (lo := 0) (n := E0.length - 1) (fun i σ Hd => ∃ z9 : Option V, σ = [some (.int W.s), some (.int W.e), some (hV W.h), some (.ref c), some (.ref p), some (.ref a), some (.ref m), some (.ref d), none, z9, none, none] ∧ Same H2 Hd ∧ StepsR Hd d E0 (ptP W i) ls) ⟨none, rfl, sc, S0⟩ ?_ ?_⟩
      · show [V.int ((((E0.map V.int).length : Nat) : Int) - 1)] = _
        rw [ltn]
        congr 2
        omega
      · rintro i σ Hd hi ⟨z9, rfl, sd, S⟩
        show gName 9 (V.int (0 + ((i : Nat) : Int))) _ _ _
        rw [Int.zero_add]
        obtain ⟨x, ex⟩ : ∃ x, E0[i]? = some x := ⟨_, List.getElem?_eq_getElem (by omega)⟩
        obtain ⟨y, ey⟩ : ∃ y, E0[i + 1]? = some y := ⟨_, List.getElem?_eq_getElem (by omega)⟩
        obtain ⟨l, el2⟩ : ∃ l, ls[i]? = some l := ⟨_, List.getElem?_eq_getElem (by omega)⟩
        have had := sd _ _ ha2
        have hmd := sd _ _ hm
        have nx := ptP_step (W := W) (i := i) (a := x) (b := y) (by rw [eE]; exact ex) (by rw [eE]; exact ey)
        have xy : x < y := by
          obtain ⟨l1, e1⟩ := List.getElem?_eq_some_iff.mp ex
          obtain ⟨l2, e2⟩ := List.getElem?_eq_some_iff.mp ey
          have := List.pairwise_iff_getElem.mp (eE ▸ edg_up W) i (i + 1) l1 l2 (by omega)
          rw [e1, e2] at this
          exact this
        have ixx : atI (E0.map V.int) ((i : Nat) : Int) = some (.int x) := atI_nat (j := i) (by rw [List.getElem?_map, ex]; rfl)
        have ixy : atI (E0.map V.int) (((i : Nat) : Int) + 1) = some (.int y) := atI_nat (j := i + 1) (by rw [List.getElem?_map, ey]; rfl)
        have icx : atI (nats (E0.map (below W.ps))) ((i : Nat) : Int) = some (.int (below W.ps x : Nat)) := atI_nat (j := i) (by unfold nats; rw [List.getElem?_map, List.getElem?_map, ex]; rfl)
        have icy : atI (nats (E0.map (below W.ps))) (((i : Nat) : Int) + 1) = some (.int (below W.ps y : Nat)) := atI_nat (j := i + 1) (by unfold nats; rw [List.getElem?_map, List.getElem?_map, ey]; rfl)
        have vl := S.val ndE ex el2
        obtain ⟨ts, h1, h2, h3⟩ := S.lst i l x el2 ex
        have ec : ((below W.ps y : Nat) : Int) - ((below W.ps x : Nat) : Int) = (cnt W.ps x y : Nat) := by
          have := below_add W.ps (show x ≤ y by omega)
          omega
        have et : stpT ⟨false, x, y, cnt W.ps x y⟩ = .tup [.str "points", .int y, .int (((below W.ps y : Nat) : Int) - ((below W.ps x : Nat) : Int))] := by
          rw [ec]
          rfl
        have small : (ts.map V.ref).length < sizeLine := by
          rw [List.length_map, h2]
          have := atE_len (ptP W i) x
          have := ptP_len W i
          exact small1000 (by omega)
        have l2n := frs l (List.mem_of_getElem? el2)
        cases hk : hok W.h x with
        | true =>
          cases hW : W.h with
          | none =>
            refine ⟨_, rfl, rfl, true, rfl, if_t (if_t ?_)⟩
            rw [← hW]
            refine ⟨_, rfl, _, rfl, _, rfl, a, _, _, .int x, rfl, rfl, SqL.of had, ixx, d, .ref l, rfl, .inl ⟨_, .inl x, .inl S.dct, rfl, vl.symm⟩, .inl ⟨rfl, _, SqL.of h1⟩, _, rfl, _, rfl, _, _, rfl, rfl, a, _, _, .int y, rfl, rfl, SqL.of had, ixy, ?_⟩
            refine ⟨_, rfl, _, rfl, _, _, rfl, rfl, m, _, _, _, rfl, rfl, SqL.of hmd, icy, _, rfl, _, rfl, m, _, _, _, rfl, rfl, SqL.of hmd, icx, _, _, rfl, rfl, by show 3 ≤ sizeLine; decide, fun t nt => ?_⟩
            have st := same_new (o := stpT ⟨false, x, y, cnt W.ps x y⟩) nt
            have S2 := S.put ndE el2 ex (u := ⟨false, x, y, cnt W.ps x y⟩) rfl nt h1
            have h1t := st _ _ h1
            have s2 : Same H2 (upd (upd Hd t (stpT ⟨false, x, y, cnt W.ps x y⟩)) l (.lst (ts.map V.ref ++ [.ref t]))) := same_put l2n (sd.trans st)
            rw [et] at S2 h1t s2
            refine ⟨l, _, _, rfl, rfl, h1t, small, _, rfl, s2, ?_⟩
            rw [nx, hk]
            exact S2
          | some z =>
            refine ⟨_, rfl, rfl, false, rfl, if_f ?_⟩
            have zx : z ≤ x := by
              rw [hW] at hk
              exact of_decide_eq_true hk
            refine ⟨_, rfl, _, rfl, a, _, _, .int x, rfl, rfl, SqL.of had, ixx, _, rfl, x, z, rfl, rfl, true, congrArg V.bl (decide_eq_true zx), if_t ?_⟩
            rw [← hW]
            refine ⟨_, rfl, _, rfl, _, rfl, a, _, _, .int x, rfl, rfl, SqL.of had, ixx, d, .ref l, rfl, .inl ⟨_, .inl x, .inl S.dct, rfl, vl.symm⟩, .inl ⟨rfl, _, SqL.of h1⟩, _, rfl, _, rfl, _, _, rfl, rfl, a, _, _, .int y, rfl, rfl, SqL.of had, ixy, ?_⟩
            refine ⟨_, rfl, _, rfl, _, _, rfl, rfl, m, _, _, _, rfl, rfl, SqL.of hmd, icy, _, rfl, _, rfl, m, _, _, _, rfl, rfl, SqL.of hmd, icx, _, _, rfl, rfl, by show 3 ≤ sizeLine; decide, fun t nt => ?_⟩
            have st := same_new (o := stpT ⟨false, x, y, cnt W.ps x y⟩) nt
            have S2 := S.put ndE el2 ex (u := ⟨false, x, y, cnt W.ps x y⟩) rfl nt h1
            have h1t := st _ _ h1
            have s2 : Same H2 (upd (upd Hd t (stpT ⟨false, x, y, cnt W.ps x y⟩)) l (.lst (ts.map V.ref ++ [.ref t]))) := same_put l2n (sd.trans st)
            rw [et] at S2 h1t s2
            refine ⟨l, _, _, rfl, rfl, h1t, small, _, rfl, s2, ?_⟩
            rw [nx, hk]
            exact S2
        | false =>
          cases hW : W.h with
          | none =>
            rw [hW] at hk
            cases hk
          | some z =>
            refine ⟨_, rfl, rfl, false, rfl, if_f ?_⟩
            have zx : ¬ z ≤ x := by
              rw [hW] at hk
              exact of_decide_eq_false hk
            refine ⟨_, rfl, _, rfl, a, _, _, .int x, rfl, rfl, SqL.of had, ixx, _, rfl, x, z, rfl, rfl, false, congrArg V.bl (decide_eq_false zx), if_f ?_⟩
            rw [← hW]
            refine ⟨_, rfl, sd, ?_⟩
            rw [nx, hk]
            show StepsR Hd d E0 (ptP W i ++ []) ls
            rw [List.append_nil]
            exact S
      · rintro σ Hd ⟨z9, rfl, sd, S⟩
        rw [ptP_all (by rw [eE])] at S
        obtain ⟨cts, sq, lts, hts⟩ := hh.cells
        have S' : StepsR Hd d E0 (ptS W ++ clP W 0) ls := by
          show StepsR Hd d E0 (ptS W ++ []) ls
          rw [List.append_nil]
          exact S
        refine ⟨_, rfl, c, rfl, for_seq sq (fun j σ He => ∃ z10 z11 : Option V, σ = [some (.int W.s), some (.int W.e), some (hV W.h), some (.ref c), some (.ref p), some (.ref a), some (.ref m), some (.ref d), none, z9, z10, z11] ∧ Same H2 He ∧ StepsR He d E0 (ptS W ++ clP W j) ls) ⟨none, none, rfl, sd, S'⟩ (fun i σ1 H1 ⟨_, _, _, h, _⟩ o e => h _ _ (sA _ _ e)) ?_ ?_⟩
        · rintro j v σ He hv ⟨z10, z11, rfl, se, Se⟩
          rw [List.getElem?_map] at hv
          obtain ⟨tc, et, rfl⟩ := Option.map_eq_some_iff.mp hv
          obtain ⟨cc, ec⟩ : ∃ cc, W.cs[j]? = some cc := ⟨_, List.getElem?_eq_getElem (by rw [← lts]; exact (List.getElem?_eq_some_iff.mp et).1)⟩
          have hc := sqT_same (sA.trans se) (hts j tc cc et ec)
          have jl : j < W.cs.length := (List.getElem?_eq_some_iff.mp ec).1
          have nx := clP_step (W := W) ec
          have stay : (¬ (W.s ≤ cc.1 ∧ cc.2 ≤ W.e)) → StepsR He d E0 (ptS W ++ clP W (j + 1)) ls := fun h => by
            rw [nx, if_neg h, List.append_nil]
            exact Se
          refine ⟨tc, _, rfl, hc, rfl, _, _, rfl, _, _, rfl, rfl, ?_⟩
          by_cases g1 : W.s ≤ cc.1
          · refine ⟨_, rfl, _, rfl, _, _, rfl, rfl, true, congrArg V.bl (decide_eq_true g1), if_t ?_⟩
            by_cases g2 : cc.2 ≤ W.e
            · refine ⟨_, rfl, _, rfl, _, _, rfl, rfl, true, congrArg V.bl (decide_eq_true g2), if_t ?_⟩
              have inE : cc.1 ∈ E0 := by
                rw [← eE]
                exact edg_mem.mpr (.inr (.inr ⟨cc, mem_ins.mpr ⟨List.mem_of_getElem? ec, g1, g2⟩, .inl rfl⟩))
              obtain ⟨i, il, ei⟩ := List.mem_iff_getElem.mp inE
              have ex : E0[i]? = some cc.1 := by rw [List.getElem?_eq_getElem il, ei]
              obtain ⟨l, el2⟩ : ∃ l, ls[i]? = some l := ⟨_, List.getElem?_eq_getElem (by omega)⟩
              have vl := Se.val ndE ex el2
              obtain ⟨ts, h1, h2, h3⟩ := Se.lst i l cc.1 el2 ex
              have small : (ts.map V.ref).length < sizeLine := by
                rw [List.length_map, h2]
                have b1 := atE_len (ptS W ++ clP W j) cc.1
                have b2 := clP_len W j
                have b3 := ptP_len W ((edg W).length - 1)
                rw [ptP_all rfl] at b3
                rw [List.length_append] at b1
                rw [eE] at b3
                exact small1000 (by omega)
              have l2n := frs l (List.mem_of_getElem? el2)
              refine ⟨_, rfl, _, rfl, d, .ref l, rfl, .inl ⟨_, .inl cc.1, .inl Se.dct, rfl, vl.symm⟩, .inl ⟨rfl, _, SqL.of h1⟩, _, rfl, by show 3 ≤ sizeLine; decide, fun t nt => ?_⟩
              have st := same_new (o := stpT ⟨true, cc.1, cc.2, 1⟩) nt
              have S2 := Se.put ndE el2 ex (u := ⟨true, cc.1, cc.2, 1⟩) rfl nt h1
              have h1t := st _ _ h1
              have s2 : Same H2 (upd (upd He t (stpT ⟨true, cc.1, cc.2, 1⟩)) l (.lst (ts.map V.ref ++ [.ref t]))) := same_put l2n (se.trans st)
              have et : stpT ⟨true, cc.1, cc.2, 1⟩ = .tup [.str "cell", .int cc.2, .int 1] := rfl
              rw [et] at S2 h1t s2
              refine ⟨l, _, _, rfl, rfl, h1t, small, _, _, rfl, s2, ?_⟩
              rw [nx, if_pos ⟨g1, g2⟩, ← List.append_assoc]
              exact S2
            · exact ⟨_, rfl, _, rfl, _, _, rfl, rfl, false, congrArg V.bl (decide_eq_false g2), if_f ⟨_, _, rfl, se, stay fun z => g2 z.2⟩⟩
          · exact ⟨_, rfl, _, rfl, _, _, rfl, rfl, false, congrArg V.bl (decide_eq_false g1), if_f (if_f ⟨_, _, rfl, se, stay fun z => g1 z.1⟩)⟩
        · rintro σ He ⟨z10, z11, rfl, se, Se⟩
          have all : clP W (cts.map V.ref).length = clS W := by
            unfold clP clS ins
            rw [List.length_map, lts, List.take_length]
          rw [all, ← eE] at Se
          exact ⟨_, rfl, q d ls He (sA.trans se) (sA.free nd) Se⟩
end
end Tg

namespace Tg
open PySem PySem.Spec PyProof.Rows L2 Pl
/-! ### walked -/
/-- keys that are edges, each once -/
def KeysE (kvs : List (Key × V)) (E : List Int) : Prop := ∃ ks : List Int, kvs.map (·.1) = ks.map Sum.inl ∧ ks.Nodup ∧ ∀ x, x ∈ ks → x ∈ E
theorem KeysE.len {kvs : List (Key × V)} {E : List Int} (h : KeysE kvs E) : kvs.length ≤ E.length := by
  obtain ⟨ks, h1, h2, h3⟩ := h
  have e := congrArg List.length h1
  simp only [List.length_map] at e
  rw [e]
  exact nodup_len h2 h3
theorem KeysE.put {kvs : List (Key × V)} {E : List Int} {x : Int} {v : V} (h : KeysE kvs E) (hx : x ∈ E) : KeysE (putK kvs (.inl x) v) E := by
  obtain ⟨ks, h1, h2, h3⟩ := h
  unfold putK
  by_cases c : (kvs.any fun kv => decide (kv.1 = (Sum.inl x : Key))) = true
  · rw [if_pos c]
    refine ⟨ks, ?_, h2, h3⟩
    rw [← h1, List.map_map]
    refine List.map_congr_left fun kv _ => ?_
    show (if kv.1 = _ then (kv.1, v) else kv).1 = kv.1
    by_cases d : kv.1 = (Sum.inl x : Key)
    · rw [if_pos d]
    · rw [if_neg d]
  · rw [if_neg c]
    have nx : x ∉ ks := fun z => c (List.any_eq_true.mpr (by
      have : (Sum.inl x : Key) ∈ kvs.map (·.1) := by
        rw [h1]
        exact List.mem_map.mpr ⟨x, z, rfl⟩
      obtain ⟨kv, m, e⟩ := List.mem_map.mp this
      exact ⟨kv, m, decide_eq_true e⟩))
    refine ⟨ks ++ [x], ?_, ?_, fun y hy => ?_⟩
    · rw [List.map_append, List.map_append, h1]
      rfl
    · exact List.nodup_append.mpr ⟨h2, by simp, fun a ha b hb => by
        rw [List.mem_singleton.mp hb]
        intro z
        exact nx (z ▸ ha)⟩
    · rcases List.mem_append.mp hy with h | h
      · exact h3 y h
      · rw [List.mem_singleton.mp h]
        exact hx
/-- heights in the heap -/
def HtR (H : Hp) (d : Addr) (E : List Int) (h : Ht) : Prop := ∃ kvs : List (Key × V), H d = some (.dK kvs) ∧ KeysE kvs E ∧ ∀ x : Int, valV kvs (.inl x) = (h x).map V.int
/-- the last pieces in the heap -/
def PcR (H : Hp) (d : Addr) (E : List Int) (p : Pc) : Prop := ∃ kvs : List (Key × V), H d = some (.dK kvs) ∧ KeysE kvs E ∧ ∀ (x : Int) (wa : Bool × Int), p x = some wa → ∃ t, valV kvs (.inl x) = some (.ref t) ∧ H t = some (.tup [.str (wdS wa.1), .int wa.2, .int x])
theorem HtR.at_ {H H' : Hp} {d : Addr} {E : List Int} {h : Ht} (e : H' d = H d) (r : HtR H d E h) : HtR H' d E h := by
  obtain ⟨kvs, h1, h2⟩ := r
  exact ⟨kvs, e.trans h1, h2⟩
theorem HtR.put {H : Hp} {d : Addr} {E : List Int} {h : Ht} {kvs : List (Key × V)} {x g : Int} (hd : H d = some (.dK kvs)) (ke : KeysE kvs E) (vs : ∀ x : Int, valV kvs (.inl x) = (h x).map V.int) (hx : x ∈ E) : HtR (upd H d (.dK (putK kvs (.inl x) (.int g)))) d E (fun y => if y = x then some g else h y) :=
  ⟨_, upd_same, ke.put hx, fun y => by
    rw [valV_put]
    show _ = Option.map V.int (if y = x then some g else h y)
    by_cases c : y = x
    · rw [if_pos (by rw [c]), if_pos c]
      rfl
    · rw [if_neg (fun z => c (Sum.inl.inj z)), if_neg c]
      exact vs y⟩
theorem HtR.val {H : Hp} {d : Addr} {E : List Int} {h : Ht} (r : HtR H d E h) (x : Int) : ∃ kvs : List (Key × V), H d = some (.dK kvs) ∧ KeysE kvs E ∧ valV kvs (.inl x) = (h x).map V.int ∧ ∀ y : Int, valV kvs (.inl y) = (h y).map V.int := by
  obtain ⟨kvs, h1, h2, h3⟩ := r
  exact ⟨kvs, h1, h2, h3 x, h3⟩
theorem PcR.put {H : Hp} {d t : Addr} {E : List Int} {p : Pc} {kvs : List (Key × V)} {x a : Int} {w : Bool} (hd : H d = some (.dK kvs)) (ke : KeysE kvs E) (vs : ∀ (x : Int) (wa : Bool × Int), p x = some wa → ∃ t, valV kvs (.inl x) = some (.ref t) ∧ H t = some (.tup [.str (wdS wa.1), .int wa.2, .int x])) (nt : H t = none) (hx : x ∈ E) :
    PcR (upd (upd H t (.tup [.str (wdS w), .int a, .int x])) d (.dK (putK kvs (.inl x) (.ref t)))) d E (fun y => if y = x then some (w, a) else p y) := by
  have td : t ≠ d := fun z => by
    rw [z, hd] at nt
    cases nt
  refine ⟨_, upd_same, ke.put hx, fun y wa e => ?_⟩
  have e : (if y = x then some (w, a) else p y) = some wa := e
  rw [valV_put]
  by_cases c : y = x
  · rw [if_pos c] at e
    cases e
    rw [if_pos (by rw [c])]
    refine ⟨t, rfl, ?_⟩
    rw [upd_ne td, upd_same, c]
  · rw [if_neg c] at e
    obtain ⟨b, h1, h2⟩ := vs y wa e
    rw [if_neg (fun z => c (Sum.inl.inj z))]
    refine ⟨b, h1, ?_⟩
    have bd : b ≠ d := fun z => by
      rw [z, hd] at h2
      cases h2
    rw [upd_ne bd, upd_ne (ne_of_none h2 nt)]
    exact h2
theorem PcR.keep {H H' : Hp} {a d : Addr} {E : List Int} {p : Pc} {kvs : List (Key × V)} (r : PcR H d E p) (ne : d ≠ a) (ha : H a = some (.dK kvs)) (k : ∀ c o, c ≠ a → H c = some o → H' c = some o) : PcR H' d E p := by
  obtain ⟨kvs2, h1, h2, h3⟩ := r
  refine ⟨kvs2, k _ _ ne h1, h2, fun x wa e => ?_⟩
  obtain ⟨t, e1, e2⟩ := h3 x wa e
  refine ⟨t, e1, k _ _ (fun z => ?_) e2⟩
  rw [z, ha] at e2
  cases e2
theorem rel_low {h : Ht} {u : Stp} {g : Int} (e : h u.fr = some g) (l : low h u = true) : rel h u = fun y => if y = u.to then some (g + u.cost) else h y := by
  obtain ⟨o, h1, _, _, h4⟩ := rel_to e
  rcases h4 with ⟨_, rfl⟩ | ⟨z, _⟩
  · funext y
    by_cases c : y = u.to
    · rw [if_pos c, c]
      exact h1
    · rw [if_neg c]
      exact rel_other c
  · rw [l] at z
    cases z
theorem rel_high {h : Ht} {u : Stp} {g : Int} (e : h u.fr = some g) (l : low h u = false) : rel h u = h := by
  obtain ⟨o, h1, _, _, h4⟩ := rel_to e
  rcases h4 with ⟨z, _⟩ | ⟨_, h4⟩
  · rw [l] at z
    cases z
  · funext y
    by_cases c : y = u.to
    · rw [c, h1, h4]
    · exact rel_other c
theorem relP_none : ∀ {L : List Stp} {h : Ht} {p : Pc} {a : Int}, h a = none → (∀ t, t ∈ L → t.fr = a) → L.foldl relP (h, p) = (h, p)
  | [], _, _, _, _, _ => rfl
  | t :: r, h, p, a, e, all => by
    have e2 : h t.fr = none := by
      rw [all t (.head _)]
      exact e
    have one : relP (h, p) t = (h, p) := by
      show (rel h t, if low h t then _ else p) = (h, p)
      rw [rel_none e2, low_none e2]
      rfl
    show r.foldl relP (relP (h, p) t) = _
    rw [one]
    exact relP_none e fun u hu => all u (.tail _ hu)
theorem HtR.same {H H' : Hp} {d : Addr} {E : List Int} {h : Ht} (s : Same H H') (r : HtR H d E h) : HtR H' d E h := by
  obtain ⟨kvs, x1, x2⟩ := r
  exact ⟨kvs, s _ _ x1, x2⟩
theorem PcR.same {H H' : Hp} {d : Addr} {E : List Int} {p : Pc} (s : Same H H') (r : PcR H d E p) : PcR H' d E p := by
  obtain ⟨kvs, x1, x2, x3⟩ := r
  exact ⟨kvs, s _ _ x1, x2, fun x wa e => let ⟨b, y1, y2⟩ := x3 x wa e; ⟨b, y1, s _ _ y2⟩⟩
theorem own_at (W : Wd) (a : Int) : own W a = atE (ptS W ++ clS W) a := (List.filter_append ..).symm
/-- all but the two dicts stands -/
def K2 (a b : Addr) (H H' : Hp) : Prop := ∀ c o, c ≠ a → c ≠ b → H c = some o → H' c = some o
theorem K2.refl (a b : Addr) (H : Hp) : K2 a b H H := fun _ _ _ _ h => h
theorem K2.trans {a b : Addr} {H H1 H2 : Hp} (x : K2 a b H H1) (y : K2 a b H1 H2) : K2 a b H H2 := fun c o n1 n2 h => y c o n1 n2 (x c o n1 n2 h)
theorem K2.of {a b : Addr} {H H' : Hp} (s : Same H H') : K2 a b H H' := fun c o _ _ h => s c o h
theorem K2.putA {a b : Addr} {H : Hp} {o : HO} : K2 a b H (upd H a o) := fun c u n1 _ h => by
  rw [upd_ne n1]
  exact h
theorem K2.putB {a b : Addr} {H : Hp} {o : HO} : K2 a b H (upd H b o) := fun c u _ n2 h => by
  rw [upd_ne n2]
  exact h
abbrev sWk : Stmt := topS 6
theorem scWk : FnScope ["steps", "start", "heights", "pieces", "edge", "own_steps", "word", "behind", "cost", "height"] ["steps", "start"] (defScope sWk) := ⟨rfl, rfl, rfl, by decide +kernel, rfl, by decide +kernel, by decide +kernel⟩
section
variable {P : Program} {w : World} {K : PySem.W.Frag} {mg : Str → Option Value} {base : Heap} {f : Addr} {fd : FuncData} {k : Nat}
def spWk : Sp := fun vs H Q _ => ∃ (W : Wd) (d : Addr) (ls : List Addr), vs = [.ref d, .int W.s] ∧ W.Ok ∧ W.cs.length ≤ 20 ∧ StepsR H d (edg W) (ptS W ++ clS W) ls ∧
  ∀ (t hd pd : Addr) (H' : Hp), Kp d H H' → H hd = none → H pd = none → H' t = some (.tup [.ref hd, .ref pd]) → HtR H' hd (edg W) (hts W) → PcR H' pd (edg W) (pcs W) → Q (.ref t) H'
theorem ok_wk (F : Fun K "walked" "walked" sWk f fd) : FnOk P w K mg base CX0 (k + 1) f fd ["steps", "start"] spWk := by
  refine F.ok scWk (fun vs H Q E h => ?_) (fun cdv A outer s H vs Q E hr h => ?_)
  · obtain ⟨W, d, ls, rfl, _⟩ := h
    rfl
  · obtain ⟨W, d, ls, rfl, ok, few, S, q⟩ := h
    have hu1 := hr.units
    have hu : (A.deeper (envOfC "walked" (defScope sWk) s.heap.objs.size f cdv)).units + 1 < cLine := by omega
    refine ⟨_, pss_cons (ps_set (i := 2) scWk.nd rfl (.inl rfl) (pe_disp (pps_cons (pv 1) pe_int pps_nil) rfl rfl (by decide) (by decide)))
      (pss_cons (ps_set (i := 3) scWk.nd rfl (.inl rfl) pe_dnewK)
      (pss_cons (ps_for PassesOwn.never rfl (pi_items (pe_frz (pv 0))) (pg_tup rfl (pgs_cons (pg_name (i := 4) scWk.nd rfl (.inl rfl)) (pgs_cons (pg_name (i := 5) scWk.nd rfl (.inl rfl)) pgs_nil)))
        (pss_cons (ps_if (pt_cmp (pc_dnotin hu (pv 4) (pv 2)))
          (pss_one ps_continue)
          pss_nil)
        (pss_one (ps_for PassesOwn.never rfl (pi_list (pv 5)) (pg_tup rfl (pgs_cons (pg_name (i := 6) scWk.nd rfl (.inl rfl)) (pgs_cons (pg_name (i := 7) scWk.nd rfl (.inl rfl)) (pgs_cons (pg_name (i := 8) scWk.nd rfl (.inl rfl)) pgs_nil))))
          (pss_cons (ps_set (i := 9) scWk.nd rfl (.inl rfl) (pe_op op_add (pe_dget hu (pv 2) (pv 4) (fun _ _ => rfl)) (pv 8)))
          (pss_one (ps_if (PW.pt (pw_or (pt_cmp (pc_dnotin hu (pv 7) (pv 2))) (pw_or1 (pt_cmpR op_lt (pv 9) (pe_dget hu (pv 2) (pv 7) (fun _ _ => rfl)) (nomark _)))))
            (pss_cons (ps_dput hu (pv 2) (pv 7) (pv 9) rfl)
            (pss_one (ps_dput hu (pv 3) (pv 7) (pe_tup (pa_cons (pv 6) (pa_cons (pv 4) (pa_cons (pv 7) pa_nil)))) rfl)))
            pss_nil)))))))
      (pss_one (ps_ret (pe_tup (pa_cons (pv 2) (pa_cons (pv 3) pa_nil))))))), ?_⟩
    obtain ⟨E0, eE⟩ : ∃ E0, edg W = E0 := ⟨_, rfl⟩
    have el := edg_len W
    have upE := edg_up W
    have sin : W.s ∈ edg W := edg_mem.mpr (.inl rfl)
    rw [eE] at S el upE sin q
    refine fun hd nh => ⟨_, rfl, upd_same, [(.inl W.s, .int 0)], rfl, (by show 1 ≤ 15; decide), fun pd np => ?_⟩
    obtain ⟨H1, e1⟩ : ∃ H1, upd (upd H hd (.dK [])) hd (.dK (mergeK [] [(Sum.inl W.s, V.int 0)])) = H1 := ⟨_, rfl⟩
    have h1d : H1 hd = some (.dK [(Sum.inl W.s, V.int 0)]) := by
      rw [← e1, upd_same]
      rfl
    have s1 : Same H H1 := fun b o e => by
      rw [← e1, upd_ne (ne_of_none e nh), upd_ne (ne_of_none e nh)]
      exact e
    rw [e1] at np ⊢
    have npH : H pd = none := s1.free np
    have hp : hd ≠ pd := fun z => by
      rw [← z, h1d] at np
      cases np
    have s2 := same_new (o := .dK []) np
    obtain ⟨H2, e2⟩ : ∃ H2, upd H1 pd (.dK []) = H2 := ⟨_, rfl⟩
    have h2p : H2 pd = some (.dK []) := by
      rw [← e2]
      exact upd_same
    rw [e2] at s2 ⊢
    have hdd := s2 _ _ (s1 _ _ S.dct)
    have dh : d ≠ hd := fun z => by
      have := S.dct
      rw [z, nh] at this
      cases this
    have dp : d ≠ pd := fun z => by
      have := S.dct
      rw [z, npH] at this
      cases this
    refine ⟨_, rfl, d, _, rfl, hdd, trivial, fun od => ?_⟩
    obtain ⟨Hz, e3⟩ : ∃ Hz, upd H2 d (.frz od (.dK (kvE E0 ls))) = Hz := ⟨_, rfl⟩
    have hz : Hz d = some (.frz od (.dK (kvE E0 ls))) := by
      rw [← e3]
      exact upd_same
    have kz : Kp d H Hz := fun b o n e => by
      rw [← e3, upd_ne n]
      exact s2 _ _ (s1 _ _ e)
    have hzh : Hz hd = some (.dK [(Sum.inl W.s, V.int 0)]) := by
      rw [← e3, upd_ne dh.symm]
      exact s2 _ _ h1d
    have hzp : Hz pd = some (.dK []) := by
      rw [← e3, upd_ne dp.symm]
      exact h2p
    rw [e3]
    have H0r : HtR Hz hd E0 (H0 W.s) := ⟨_, hzh, ⟨[W.s], rfl, by simp, fun x hx => by rw [List.mem_singleton.mp hx]; exact sin⟩, fun x => by
      unfold H0
      by_cases c : x = W.s
      · rw [if_pos c, c]
        unfold valV
        simp
      · rw [if_neg c]
        unfold valV
        simp [Ne.symm c]⟩
    have P0r : PcR Hz pd E0 (fun _ => none) := ⟨_, hzp, ⟨[], rfl, .nil, fun x h => by cases h⟩, fun x wa e => by cases e⟩
    have kl : (kvE E0 ls).length = E0.length := by
      unfold kvE
      rw [List.length_zipWith, S.len]
      omega
    refine ⟨d, od, _, rfl, hz, for_it walk_items (fun i σ Hc => ∃ z4 z5 z6 z7 z8 z9 : Option V, σ = [some (.ref d), some (.int W.s), some (.ref hd), some (.ref pd), z4, z5, z6, z7, z8, z9] ∧ K2 hd pd Hz Hc ∧ HtR Hc hd E0 (((E0.take i).flatMap (own W)).foldl relP (H0 W.s, fun _ => none)).1 ∧ PcR Hc pd E0 (((E0.take i).flatMap (own W)).foldl relP (H0 W.s, fun _ => none)).2) ⟨none, none, none, none, none, none, rfl, K2.refl _ _ _, H0r, P0r⟩ (fun i σ Hc _ ⟨_, _, _, _, _, _, _, kc, _⟩ => kc _ _ dh dp hz) ?_ ?_⟩
    · rintro i v σ Hc Hc' hi ⟨z4, z5, z6, z7, z8, z9, rfl, kc, hr2, pr2⟩ ⟨T, x, y, rfl, nT, rfl, ex, ey⟩
      rw [kl] at hi
      obtain ⟨a, ea⟩ : ∃ a, E0[i]? = some a := ⟨_, List.getElem?_eq_getElem hi⟩
      obtain ⟨l, ell⟩ : ∃ l, ls[i]? = some l := ⟨_, List.getElem?_eq_getElem (by rw [S.len]; exact hi)⟩
      dsimp only at ex ey
      rw [kvE_at ea ell] at ex ey
      obtain rfl : V.int a = x := Option.some.inj ex
      obtain rfl : V.ref l = y := Option.some.inj ey
      have sT := same_new (o := .tup [.int a, .ref l]) nT
      obtain ⟨H4, e4⟩ : ∃ H4, upd Hc T (.tup [.int a, .ref l]) = H4 := ⟨_, rfl⟩
      have hT : H4 T = some (.tup [.int a, .ref l]) := by
        rw [← e4]
        exact upd_same
      rw [e4] at sT ⊢
      have more : ((E0.take (i + 1)).flatMap (own W)).foldl relP (H0 W.s, fun _ => none) = (own W a).foldl relP (((E0.take i).flatMap (own W)).foldl relP (H0 W.s, fun _ => none)) := by
        rw [List.take_add_one, ea, List.flatMap_append, List.foldl_append]
        show ([a].flatMap (own W)).foldl relP _ = _
        rw [List.flatMap_cons, List.flatMap_nil, List.append_nil]
      rw [more]
      obtain ⟨st, est⟩ : ∃ st, ((E0.take i).flatMap (own W)).foldl relP (H0 W.s, fun _ => none) = st := ⟨_, rfl⟩
      rw [est] at hr2 pr2 ⊢
      obtain ⟨h, p⟩ := st
      have kc4 := kc.trans (K2.of sT)
      have hr3 : HtR H4 hd E0 h := hr2.same sT
      have pr3 : PcR H4 pd E0 p := pr2.same sT
      obtain ⟨kvs, hkv, kke, kva, kvv⟩ := hr3.val a
      refine ⟨T, _, rfl, SqT.of hT, rfl, _, _, rfl, _, _, rfl, rfl, ?_⟩
      cases ha : h a with
      | none =>
        rw [ha] at kva
        refine ⟨_, rfl, _, rfl, hd, none, rfl, .inl ⟨kvs, .inl a, .inl hkv, rfl, kva.symm⟩, true, rfl, if_t ?_⟩
        rw [relP_none ha fun t ht => (own_mem.mp ht).2]
        exact ⟨_, _, _, _, _, _, rfl, kc4, hr3, pr3⟩
      | some g =>
        rw [ha] at kva
        refine ⟨_, rfl, _, rfl, hd, some (.int g), rfl, .inl ⟨kvs, .inl a, .inl hkv, rfl, kva.symm⟩, false, rfl, if_f ?_⟩
        obtain ⟨ts, t1, t2, t3⟩ := S.lst i l a ell ea
        rw [← own_at] at t2 t3
        have ld : l ≠ d := fun z => by
          rw [z, S.dct] at t1
          cases t1
        have stays : ∀ (b : Addr) (o : HO) (He : Hp), b ≠ d → H b = some o → K2 hd pd Hz He → He b = some o := fun b o He n e ke => ke b o (ne_of_none e nh) (ne_of_none e npH) (kz b o n e)
        refine ⟨_, rfl, l, rfl, ⟨_, SqL.of (stays l _ _ ld t1 kc4)⟩, for_list (xs := ts.map V.ref) (fun j σ He => ∃ z6 z7 z8 z9 : Option V, σ = [some (.ref d), some (.int W.s), some (.ref hd), some (.ref pd), some (.int a), some (.ref l), z6, z7, z8, z9] ∧ K2 hd pd Hz He ∧ HtR He hd E0 (((own W a).take j).foldl relP (h, p)).1 ∧ PcR He pd E0 (((own W a).take j).foldl relP (h, p)).2 ∧ (((own W a).take j).foldl relP (h, p)).1 a = some g) ⟨_, _, _, _, rfl, kc4, hr3, pr3, ha⟩ (fun j σ He _ ⟨_, _, _, _, _, ke, _⟩ => SqL.of (stays l _ _ ld t1 ke)) ?_ ?_⟩
        · rintro j v σ He hv ⟨z6, z7, z8, z9, rfl, ke, hr5, pr5, hga⟩
          rw [List.getElem?_map] at hv
          obtain ⟨t, et, rfl⟩ := Option.map_eq_some_iff.mp hv
          have jl : j < (own W a).length := by
            rw [← t2]
            exact (List.getElem?_eq_some_iff.mp et).1
          obtain ⟨u, eu⟩ : ∃ u, (own W a)[j]? = some u := ⟨_, List.getElem?_eq_getElem jl⟩
          have ht0 := t3 j t u et eu
          have td : t ≠ d := fun z => by
            rw [z, S.dct] at ht0
            cases ht0
          have hte := stays t _ _ td ht0 ke
          obtain ⟨um, ufr⟩ := own_mem.mp (List.mem_of_getElem? eu)
          obtain ⟨_, uto, uok, _⟩ := stp_ok ok um
          rw [eE] at uto
          have ufw : u.fr < u.to := uok.fw
          have next : ((own W a).take (j + 1)).foldl relP (h, p) = relP (((own W a).take j).foldl relP (h, p)) u := by
            rw [List.take_add_one, eu, List.foldl_append]
            rfl
          rw [next]
          obtain ⟨st, est⟩ : ∃ st, ((own W a).take j).foldl relP (h, p) = st := ⟨_, rfl⟩
          rw [est] at hr5 pr5 hga ⊢
          obtain ⟨h5, p5⟩ := st
          have hga : h5 a = some g := hga
          have hr5 : HtR He hd E0 h5 := hr5
          have pr5 : PcR He pd E0 p5 := pr5
          have hgu : h5 u.fr = some g := by
            rw [ufr]
            exact hga
          obtain ⟨kvs5, k1, k2, k3, k4⟩ := hr5.val a
          rw [hga] at k3
          have kto := k4 u.to
          have ga2 : rel h5 u a = some g := by
            rw [rel_other (by omega)]
            exact hga
          refine ⟨t, _, rfl, SqT.of hte, rfl, _, _, rfl, _, _, rfl, _, _, rfl, rfl, ?_⟩
          refine ⟨_, rfl, _, rfl, hd, .int g, rfl, .inl ⟨kvs5, .inl a, .inl k1, rfl, k3.symm⟩, _, rfl, _, _, rfl, rfl, ?_⟩
          have stay : low h5 u = false → ∃ z6 z7 z8 z9 : Option V, [some (V.ref d), some (.int W.s), some (.ref hd), some (.ref pd), some (.int a), some (.ref l), some (.str (wdS u.cell)), some (.int u.to), some (.int u.cost), some (.int (g + u.cost))] = [some (.ref d), some (.int W.s), some (.ref hd), some (.ref pd), some (.int a), some (.ref l), z6, z7, z8, z9] ∧ K2 hd pd Hz He ∧ HtR He hd E0 (relP (h5, p5) u).1 ∧ PcR He pd E0 (relP (h5, p5) u).2 ∧ (relP (h5, p5) u).1 a = some g := fun lo => by
            refine ⟨_, _, _, _, rfl, ke, ?_, ?_, ga2⟩
            · show HtR He hd E0 (rel h5 u)
              rw [rel_high hgu lo]
              exact hr5
            · show PcR He pd E0 (if low h5 u then _ else p5)
              rw [lo]
              exact pr5
          cases hto : h5 u.to with
          | none =>
            rw [hto] at kto
            have lo : low h5 u = true := by
              unfold low
              rw [hgu, hto]
            refine ⟨_, rfl, _, rfl, hd, none, rfl, .inl ⟨kvs5, .inl u.to, .inl k1, rfl, kto.symm⟩, true, rfl, if_t (if_t ?_)⟩
            refine ⟨_, rfl, _, rfl, _, rfl, hd, _, rfl, .inl ⟨kvs5, .inl u.to, k1, rfl, small1000 (by have := k2.len; omega), rfl⟩, ?_⟩
            have pr6 : PcR (upd He hd (.dK (putK kvs5 (.inl u.to) (.int (g + u.cost))))) pd E0 p5 := pr5.keep hp.symm k1 fun c o n e => by rw [upd_ne n]; exact e
            have hr6 := HtR.put (g := g + u.cost) k1 k2 k4 uto
            rw [← rel_low hgu lo] at hr6
            obtain ⟨pvs, q1, q2, q3⟩ := pr6
            refine ⟨_, rfl, _, rfl, _, rfl, by show 3 ≤ sizeLine; decide, fun t2 nt2 => ?_⟩
            have s7 := same_new (o := .tup [.str (wdS u.cell), .int a, .int u.to]) nt2
            have h7 : ∀ (b : Addr) (o : HO), (upd He hd (.dK (putK kvs5 (.inl u.to) (.int (g + u.cost))))) b = some o → b ≠ t2 := fun b o e => ne_of_none e nt2
            refine ⟨_, rfl, _, rfl, pd, _, rfl, .inl ⟨pvs, .inl u.to, s7 _ _ q1, rfl, small1000 (by have := q2.len; omega), rfl⟩, _, _, _, _, rfl, ?_, ?_, ?_, ga2⟩
            · exact ke.trans (K2.putA.trans ((K2.of s7).trans K2.putB))
            · refine HtR.at_ ?_ hr6
              rw [upd_ne hp, upd_ne (h7 hd _ upd_same)]
            · have z := PcR.put (w := u.cell) (a := a) q1 q2 q3 nt2 uto
              show PcR _ pd E0 (if low h5 u then (fun x => if x = u.to then some (u.cell, u.fr) else p5 x) else p5)
              rw [lo, ufr]
              exact z
          | some o =>
            rw [hto] at kto
            refine ⟨_, rfl, _, rfl, hd, some (.int o), rfl, .inl ⟨kvs5, .inl u.to, .inl k1, rfl, kto.symm⟩, false, rfl, if_f ?_⟩
            refine ⟨_, rfl, _, rfl, _, rfl, hd, .int o, rfl, .inl ⟨kvs5, .inl u.to, .inl k1, rfl, kto.symm⟩, _, _, rfl, rfl, ?_⟩
            by_cases lt : g + u.cost < o
            · have lo : low h5 u = true := by
                unfold low
                rw [hgu, hto]
                exact decide_eq_true lt
              refine ⟨true, congrArg V.bl (decide_eq_true lt), if_t ?_⟩
              refine ⟨_, rfl, _, rfl, _, rfl, hd, _, rfl, .inl ⟨kvs5, .inl u.to, k1, rfl, small1000 (by have := k2.len; omega), rfl⟩, ?_⟩
              have pr6 : PcR (upd He hd (.dK (putK kvs5 (.inl u.to) (.int (g + u.cost))))) pd E0 p5 := pr5.keep hp.symm k1 fun c o n e => by rw [upd_ne n]; exact e
              have hr6 := HtR.put (g := g + u.cost) k1 k2 k4 uto
              rw [← rel_low hgu lo] at hr6
              obtain ⟨pvs, q1, q2, q3⟩ := pr6
              refine ⟨_, rfl, _, rfl, _, rfl, by show 3 ≤ sizeLine; decide, fun t2 nt2 => ?_⟩
              have s7 := same_new (o := .tup [.str (wdS u.cell), .int a, .int u.to]) nt2
              have h7 : ∀ (b : Addr) (o : HO), (upd He hd (.dK (putK kvs5 (.inl u.to) (.int (g + u.cost))))) b = some o → b ≠ t2 := fun b o e => ne_of_none e nt2
              refine ⟨_, rfl, _, rfl, pd, _, rfl, .inl ⟨pvs, .inl u.to, s7 _ _ q1, rfl, small1000 (by have := q2.len; omega), rfl⟩, _, _, _, _, rfl, ?_, ?_, ?_, ga2⟩
              · exact ke.trans (K2.putA.trans ((K2.of s7).trans K2.putB))
              · refine HtR.at_ ?_ hr6
                rw [upd_ne hp, upd_ne (h7 hd _ upd_same)]
              · have z := PcR.put (w := u.cell) (a := a) q1 q2 q3 nt2 uto
                show PcR _ pd E0 (if low h5 u then (fun x => if x = u.to then some (u.cell, u.fr) else p5 x) else p5)
                rw [lo, ufr]
                exact z
            · have lo : low h5 u = false := by
                unfold low
                rw [hgu, hto]
                exact decide_eq_false lt
              exact ⟨false, congrArg V.bl (decide_eq_false lt), if_f (stay lo)⟩
        · rintro σ He ⟨z6, z7, z8, z9, rfl, ke, hr5, pr5, hga⟩
          rw [List.length_map, t2, List.take_length] at hr5 pr5
          exact ⟨_, _, _, _, _, _, rfl, ke, hr5, pr5⟩
    · rintro σ Hc ⟨z4, z5, z6, z7, z8, z9, rfl, kc, hr2, pr2⟩
      rw [kl, List.take_length] at hr2 pr2
      refine ⟨_, rfl, _, rfl, by show 2 ≤ sizeLine; decide, fun t nt => ?_⟩
      have st := same_new (o := .tup [.ref hd, .ref pd]) nt
      have kall : Kp d H (upd Hc t (.tup [.ref hd, .ref pd])) := fun b o n e => st _ _ (kc b o (ne_of_none e nh) (ne_of_none e npH) (kz b o n e))
      refine q t hd pd _ kall nh npH upd_same ?_ ?_
      · obtain ⟨kvs, x1, x2⟩ := hr2
        rw [← eE] at x2 ⊢
        exact ⟨kvs, st _ _ x1, x2⟩
      · rw [← eE] at pr2 ⊢
        obtain ⟨kvs, x1, x2, x3⟩ := pr2
        exact ⟨kvs, st _ _ x1, x2, fun x wa e => let ⟨b, y1, y2⟩ := x3 x wa e; ⟨b, y1, st _ _ y2⟩⟩
end
end Tg

namespace Tg
open PySem PySem.Spec PyProof.Rows L2 Pl
/-! ### traced -/
def pceT (p : Pce) : HO := .tup [.str (wdS p.1), .int p.2.1, .int p.2.2]
/-- tuples that are pieces -/
def PLt (H : Hp) : List Addr → List Pce → Prop
  | [], [] => True
  | t :: ts, p :: L => H t = some (pceT p) ∧ PLt H ts L
  | _, _ => False
theorem PLt.len {H : Hp} : ∀ {ts : List Addr} {L : List Pce}, PLt H ts L → ts.length = L.length
  | [], [], _ => rfl
  | t :: ts, p :: L, h => congrArg (· + 1) (PLt.len h.2)
  | [], _ :: _, h => h.elim
  | _ :: _, [], h => h.elim
theorem PLt.keep {H H' : Hp} (k : ∀ t p, H t = some (pceT p) → H' t = some (pceT p)) : ∀ {ts : List Addr} {L : List Pce}, PLt H ts L → PLt H' ts L
  | [], [], _ => trivial
  | t :: ts, p :: L, h => ⟨k t p h.1, PLt.keep k h.2⟩
  | [], _ :: _, h => h.elim
  | _ :: _, [], h => h.elim
theorem PLt.same {H H' : Hp} (s : Same H H') {ts : List Addr} {L : List Pce} (h : PLt H ts L) : PLt H' ts L := h.keep fun t p e => s _ _ e
theorem PLt.at_ {H : Hp} : ∀ {ts : List Addr} {L : List Pce} {i : Nat} {t : Addr}, PLt H ts L → ts[i]? = some t → ∃ p, L[i]? = some p ∧ H t = some (pceT p)
  | [], [], _, _, _, e => by simp at e
  | t :: ts, p :: L, 0, u, h, e => by
    cases e
    exact ⟨p, rfl, h.1⟩
  | t :: ts, p :: L, i + 1, u, h, e => by
    obtain ⟨q, h1, h2⟩ := PLt.at_ h.2 (i := i) (t := u) e
    exact ⟨q, h1, h2⟩
  | [], _ :: _, _, _, h, _ => h.elim
  | _ :: _, [], _, _, h, _ => h.elim
theorem PLt.app {H : Hp} : ∀ {ts us : List Addr} {L M : List Pce}, PLt H ts L → PLt H us M → PLt H (ts ++ us) (L ++ M)
  | [], us, [], M, _, g => g
  | t :: ts, us, p :: L, M, h, g => ⟨h.1, PLt.app h.2 g⟩
  | [], _, _ :: _, _, h, _ => h.elim
  | _ :: _, _, [], _, h, _ => h.elim
def PLst (H : Hp) (b : Addr) (L : List Pce) : Prop := ∃ ts : List Addr, H b = some (.lst (ts.map V.ref)) ∧ PLt H ts L
/-- each piece is the last one on the way to its end -/
def OfP (W : Wd) (L : List Pce) : Prop := ∀ p, p ∈ L → pcs W p.2.2 = some (p.1, p.2.1)
abbrev sTr : Stmt := topS 7
theorem scTr : FnScope ["pieces", "start", "end", "back", "at"] ["pieces", "start", "end"] (defScope sTr) := ⟨rfl, rfl, rfl, by decide +kernel, rfl, by decide +kernel, by decide +kernel⟩
theorem million {n : Nat} (h : n ≤ 1000000) : n < sizeLine := Nat.lt_of_le_of_lt h (by decide)
section
variable {P : Program} {w : World} {K : PySem.W.Frag} {mg : Str → Option Value} {base : Heap} {f : Addr} {fd : FuncData} {k : Nat}
def spTr : Sp := fun vs H Q _ => ∃ (W : Wd) (pd : Addr) (o : Int), vs = [.ref pd, .int W.s, .int W.e] ∧ W.Ok ∧ W.e - W.s ≤ 1000000 ∧ PcR H pd (edg W) (pcs W) ∧ hts W W.e = some o ∧
  ∀ (b : Addr) (L : List Pce) (H' : Hp), Same H H' → H b = none → PLst H' b L → Chain W W.s L W.e → tot W.ps L = o → OfP W L → Q (.ref b) H'
theorem ok_tr (F : Fun K "traced" "traced" sTr f fd) : FnOk P w K mg base CX0 (k + 1) f fd ["pieces", "start", "end"] spTr := by
  refine F.ok scTr (fun vs H Q E h => ?_) (fun cdv A outer s H vs Q E hr h => ?_)
  · obtain ⟨W, pd, o, rfl, _⟩ := h
    rfl
  · obtain ⟨W, pd, o, rfl, ok, span, pr, ho, q⟩ := h
    have hu1 := hr.units
    have hu : (A.deeper (envOfC "traced" (defScope sTr) s.heap.objs.size f cdv)).units + 1 < cLine := by omega
    refine ⟨_, pss_cons (ps_set (i := 3) scTr.nd rfl (.inl rfl) (pe_lst pa_nil))
      (pss_cons (ps_set (i := 4) scTr.nd rfl (.inl rfl) (pv 2))
      (pss_cons (ps_while PassesOwn.never (pt_cmpR op_gt (pv 4) (pv 1) (nomark _))
        (pss_cons (ps_expr (pe_bm PySem.F.plainAttrs_list PySem.F.slot_list_append PySem.F.type_list_append mt_append (pv 3) (pa_cons (pe_dget hu (pv 0) (pv 4) (fun _ _ => rfl)) pa_nil)))
        (pss_one (ps_set (i := 4) scTr.nd rfl (.inl rfl) (pe_ix (r := rIxT K) ix_tup (pe_dget hu (pv 0) (pv 4) (fun _ _ => rfl)) pe_int (fun _ _ => rfl))))))
      (pss_one (ps_ret (pe_revL (pv 3) (po_some (pe_un un_neg pe_int))))))), ?_⟩
    obtain ⟨pvs, hpd, ke, vals⟩ := id pr
    refine ⟨Nat.zero_le _, fun b nb => ?_⟩
    have sb := same_new (o := .lst []) nb
    have se := ok.se
    refine ⟨_, rfl, while_by (fun σ Hc => ∃ (x ox : Int) (L : List Pce) (ts : List Addr), σ = [some (.ref pd), some (.int W.s), some (.int W.e), some (.ref b), some (.int x)] ∧ Same H Hc ∧ Hc b = some (.lst (ts.map V.ref)) ∧ PLt Hc ts.reverse L ∧ hts W x = some ox ∧ W.s ≤ x ∧ Chain W x L W.e ∧ tot W.ps L = o - ox ∧ (L.length : Int) ≤ W.e - x ∧ OfP W L) (fun σ _ => match σ with | _ :: _ :: _ :: _ :: some (.int x) :: _ => (x - W.s).toNat | _ => 0) ⟨W.e, o, [], [], rfl, sb, upd_same, trivial, ho, se, rfl, by show (0 : Int) = _; omega, by show (0 : Int) ≤ _; omega, fun p hp => by cases hp⟩ ?_ ?_⟩
    · rintro σ Hc ⟨x, ox, L, ts, rfl, sc, hb, pl, hx, sx, ch, tt, ll, ofp⟩
      refine ⟨_, rfl, _, rfl, x, W.s, rfl, rfl, _, rfl, ite2 (fun g => ?_) (fun g => ?_)⟩
      · have gt : W.s < x := of_decide_eq_true g
        obtain ⟨wd, a, hp, okp, hta⟩ := hts_back ok (show x ≠ W.s by omega) hx
        obtain ⟨t, vt, htt⟩ := vals x (wd, a) hp
        have fw : a < x := okp.fw
        have sa := (edg_in ok (hts_edg ok hta)).1
        have hpc := sc _ _ hpd
        have htc := sc _ _ htt
        have bt : t ≠ b := ne_of_none htt nb
        have pb : pd ≠ b := ne_of_none hpd nb
        refine ⟨_, rfl, .inl ⟨rfl, _, SqL.of hb⟩, _, rfl, _, rfl, pd, .ref t, rfl, .inl ⟨pvs, .inl x, .inl hpc, rfl, vt.symm⟩, b, _, _, rfl, rfl, hb, ?_, ?_⟩
        · have := pl.len
          rw [List.length_reverse] at this
          rw [List.length_map, this]
          exact million (by omega)
        have keep : ∀ (c : Addr) (o : HO), c ≠ b → Hc c = some o → (upd Hc b (.lst (ts.map V.ref ++ [.ref t]))) c = some o := fun c o n e => by
          rw [upd_ne n]
          exact e
        refine ⟨_, rfl, _, rfl, pd, .ref t, rfl, .inl ⟨pvs, .inl x, .inl (keep _ _ pb hpc), rfl, vt.symm⟩, t, _, 1, .int a, rfl, rfl, SqT.of (keep _ _ bt htc), atI_nat (j := 1) rfl, ?_⟩
        have len0 : tot W.ps ((wd, a, x) :: L) = cst W.ps (wd, a, x) + tot W.ps L := rfl
        refine ⟨⟨a, _, (wd, a, x) :: L, ts ++ [t], rfl, same_put nb sc, ?_, ?_, hta, sa, ⟨rfl, okp, ch⟩, ?_, ?_, fun p hp2 => ?_⟩, ?_⟩
        · rw [upd_same, List.map_append]
          rfl
        · rw [List.reverse_append]
          exact ⟨keep _ _ bt htc, pl.keep fun c p e => keep _ _ (fun z => by rw [z, hb] at e; cases e) e⟩
        · rw [len0, tt]
          omega
        · rw [List.length_cons]
          omega
        · rcases List.mem_cons.mp hp2 with e | e
          · rw [e]
            exact hp
          · exact ofp p e
        · show (a - W.s).toNat < (x - W.s).toNat
          omega
      · have xs : x = W.s := by
          have : ¬ W.s < x := fun z => g (decide_eq_true z)
          omega
        subst xs
        have z0 := (hts_inv ok).start
        rw [z0] at hx
        obtain rfl := Option.some.inj hx
        refine ⟨_, rfl, 1, rfl, _, rfl, rfl, b, _, rfl, SqL.of hb, fun p np => ?_⟩
        have sp := same_new (o := .lst (ts.map V.ref).reverse) np
        refine q p L _ (sc.trans sp) (sc.free np) ⟨ts.reverse, ?_, pl.same sp⟩ ch (by rw [tt]; omega) ofp
        rw [upd_same, List.map_reverse]
    · rintro σ Hc Q1 Q2 hq ⟨v, e, v2, e2, i1, j1, e4, e5, bb, e6, h⟩
      exact ⟨v, e, v2, e2, i1, j1, e4, e5, bb, e6, hq _ _ h⟩
end
end Tg

namespace Tg
open PySem PySem.Spec PyProof.Rows L2 Pl
/-! ### with_whole_points -/
theorem PLt.init {H : Hp} : ∀ {ti : List Addr} {tl : Addr} {L : List Pce}, PLt H (ti ++ [tl]) L → ∃ Li q, L = Li ++ [q] ∧ PLt H ti Li ∧ H tl = some (pceT q)
  | [], tl, [p], h => ⟨[], p, rfl, trivial, h.1⟩
  | [], _, [], h => h.elim
  | [], _, _ :: _ :: _, h => h.2.elim
  | t :: ti, tl, [], h => h.elim
  | t :: ti, tl, p :: L, h => by
    obtain ⟨Li, q, rfl, h1, h2⟩ := PLt.init (ti := ti) (tl := tl) (L := L) h.2
    exact ⟨p :: Li, q, rfl, ⟨h.1, h1⟩, h2⟩
theorem mrg_len (out : List Pce) (p : Pce) : (mrg out p).length ≤ out.length + 1 := by
  have plain : (out ++ [p]).length ≤ out.length + 1 := by
    rw [List.length_append]
    exact Nat.le_refl _
  unfold mrg
  split
  · split
    · exact plain
    · rw [List.length_append, List.length_dropLast]
      show out.length - 1 + 1 ≤ _
      omega
  · exact plain
theorem mrg_nil (p : Pce) : mrg [] p = [p] := rfl
theorem mrg_last (out : List Pce) (q p : Pce) : mrg (out ++ [q]) p = if q.1 = false ∧ p.1 = false then out ++ [(false, q.2.1, p.2.2)] else out ++ [q] ++ [p] := by
  unfold mrg
  rw [List.getLast?_append]
  obtain ⟨w, x, y⟩ := q
  cases w with
  | true => rfl
  | false =>
    show (if p.1 = true then out ++ [(false, x, y)] ++ [p] else (out ++ [(false, x, y)]).dropLast ++ [(false, x, p.2.2)]) = _
    cases hp : p.1 with
    | true => rfl
    | false =>
      simp only [if_false, Bool.false_eq_true]
      rw [List.dropLast_concat]
      rfl
theorem wd_pts (b : Bool) : decide (V.str (wdS b) = V.str (Str.ofString "points")) = !b := by
  cases b <;> decide +kernel
theorem bool_two (b : Bool) : b = true ∨ b = false := by cases b <;> simp
abbrev sWw : Stmt := topS 8
theorem scWw : FnScope ["pieces", "out", "word", "start", "end"] ["pieces"] (defScope sWw) := ⟨rfl, rfl, rfl, by decide +kernel, rfl, by decide +kernel, by decide +kernel⟩
section
variable {P : Program} {w : World} {K : PySem.W.Frag} {mg : Str → Option Value} {base : Heap} {f : Addr} {fd : FuncData} {k : Nat}
def spWw : Sp := fun vs H Q _ => ∃ (b : Addr) (L : List Pce), vs = [.ref b] ∧ PLst H b L ∧ L.length ≤ 1000000 ∧ ∀ (m : Addr) (H' : Hp), Same H H' → H m = none → PLst H' m (whole L) → Q (.ref m) H'
theorem ok_ww (F : Fun K "with_whole_points" "with_whole_points" sWw f fd) : FnOk P w K mg base CX0 (k + 1) f fd ["pieces"] spWw := by
  refine F.ok scWw (fun vs H Q E h => ?_) (fun cdv A outer s H vs Q E hr h => ?_)
  · obtain ⟨b, L, rfl, _⟩ := h
    rfl
  · obtain ⟨b, L, rfl, ⟨bs, hb, pl⟩, few, q⟩ := h
    refine ⟨_, pss_cons (ps_set (i := 1) scWw.nd rfl (.inl rfl) (pe_lst pa_nil))
      (pss_cons (ps_for PassesOwn.never rfl (pi_list (pv 0)) (pg_tup rfl (pgs_cons (pg_name (i := 2) scWw.nd rfl (.inl rfl)) (pgs_cons (pg_name (i := 3) scWw.nd rfl (.inl rfl)) (pgs_cons (pg_name (i := 4) scWw.nd rfl (.inl rfl)) pgs_nil))))
        (pss_one (ps_if (PW.pt (pw_and (pt_truth (pv 1) (fun _ => rfl)) (pw_and (pt_cmpR op_eq (pv 2) pe_str (nomark _)) (pw_and1 (pt_cmpR op_eq (pe_ix (r := rIxT K) ix_tup (pe_ix ix_list (pv 1) (pe_un un_neg pe_int) (fun _ _ => rfl)) pe_int (fun _ _ => rfl)) pe_str (nomark _))))))
          (pss_one (ps_asg (pe_tup (pa_cons pe_str (pa_cons (pe_ix (r := rIxT K) ix_tup (pe_ix ix_list (pv 1) (pe_un un_neg pe_int) (fun _ _ => rfl)) pe_int (fun _ _ => rfl)) (pa_cons (pv 4) pa_nil)))) (pg_sub (pv 1) (pe_un un_neg pe_int) set_list)))
          (pss_one (ps_expr (pe_bm PySem.F.plainAttrs_list PySem.F.slot_list_append PySem.F.type_list_append mt_append (pv 1) (pa_cons (pe_tup (pa_cons (pv 2) (pa_cons (pv 3) (pa_cons (pv 4) pa_nil)))) pa_nil)))))))
      (pss_one (ps_ret (pv 1)))), ?_⟩
    have bl := pl.len
    refine ⟨Nat.zero_le _, fun m nm => ?_⟩
    have sm := same_new (o := .lst []) nm
    refine ⟨_, rfl, b, rfl, ⟨_, SqL.of (sm _ _ hb)⟩, for_list (xs := bs.map V.ref) (fun i σ Hc => ∃ (z2 z3 z4 : Option V) (ts : List Addr), σ = [some (.ref b), some (.ref m), z2, z3, z4] ∧ Same H Hc ∧ Hc m = some (.lst (ts.map V.ref)) ∧ PLt Hc ts ((L.take i).foldl mrg []) ∧ ts.length ≤ i) ⟨none, none, none, [], rfl, sm, upd_same, trivial, Nat.le_refl _⟩ (fun i σ Hc _ ⟨_, _, _, _, _, sc, _⟩ => SqL.of (sc _ _ hb)) ?_ ?_⟩
    · rintro i v σ Hc hv ⟨z2, z3, z4, ts, rfl, sc, hm, pt, tl⟩
      rw [List.getElem?_map] at hv
      obtain ⟨t, et, rfl⟩ := Option.map_eq_some_iff.mp hv
      have il : i < bs.length := (List.getElem?_eq_some_iff.mp et).1
      obtain ⟨p, ep, ht⟩ := pl.at_ et
      have htc := sc _ _ ht
      have next : (L.take (i + 1)).foldl mrg [] = mrg ((L.take i).foldl mrg []) p := by
        rw [List.take_add_one, ep, List.foldl_append]
        rfl
      rw [next]
      obtain ⟨out, eo⟩ : ∃ out, (L.take i).foldl mrg [] = out := ⟨_, rfl⟩
      rw [eo] at pt ⊢
      have lo := pt.len
      have small : (ts.map V.ref).length < sizeLine := by
        rw [List.length_map]
        exact million (by omega)
      -- a piece put behind
      have more : mrg out p = out ++ [p] → ∀ (t2 : Addr), Hc t2 = none → ∃ (z2 z3 z4 : Option V) (us : List Addr), [some (V.ref b), some (.ref m), some (.str (wdS p.1)), some (.int p.2.1), some (.int p.2.2)] = [some (.ref b), some (.ref m), z2, z3, z4] ∧ Same H (upd (upd Hc t2 (pceT p)) m (.lst (ts.map V.ref ++ [.ref t2]))) ∧ (upd (upd Hc t2 (pceT p)) m (.lst (ts.map V.ref ++ [.ref t2]))) m = some (.lst (us.map V.ref)) ∧ PLt (upd (upd Hc t2 (pceT p)) m (.lst (ts.map V.ref ++ [.ref t2]))) us (mrg out p) ∧ us.length ≤ i + 1 := fun em t2 nt => by
        have st := same_new (o := pceT p) nt
        have tm : t2 ≠ m := fun z => by
          rw [z, hm] at nt
          cases nt
        have keep : ∀ c q2, (upd Hc t2 (pceT p)) c = some (pceT q2) → (upd (upd Hc t2 (pceT p)) m (.lst (ts.map V.ref ++ [.ref t2]))) c = some (pceT q2) := fun c q2 e => by
          have cm : c ≠ m := fun z => by
            rw [z, st _ _ hm] at e
            cases e
          rw [upd_ne cm]
          exact e
        refine ⟨_, _, _, ts ++ [t2], rfl, same_put nm (sc.trans st), ?_, ?_, by rw [List.length_append]; show ts.length + 1 ≤ _; omega⟩
        · rw [upd_same, List.map_append]
          rfl
        · rw [em]
          exact ((pt.same st).keep keep).app ⟨keep _ _ upd_same, trivial⟩
      refine ⟨t, _, rfl, SqT.of htc, rfl, _, _, rfl, _, _, rfl, _, _, rfl, rfl, ?_⟩
      rcases List.eq_nil_or_concat ts with e0 | ⟨ti, tlst, e0⟩
      · subst e0
        have o0 : out = [] := List.length_eq_zero_iff.mp lo.symm
        refine ⟨_, rfl, false, .inl ⟨_, SqL.of hm, rfl⟩, if_f (if_f ?_)⟩
        refine ⟨_, rfl, .inl ⟨rfl, _, SqL.of hm⟩, _, rfl, _, rfl, _, rfl, by show 3 ≤ sizeLine; decide, fun t2 nt => ?_⟩
        have st := same_new (o := pceT p) nt
        exact ⟨m, _, _, rfl, rfl, st _ _ hm, small, more (by rw [o0]; rfl) t2 nt⟩
      · rw [List.concat_eq_append] at e0
        subst e0
        obtain ⟨Li, qq, rfl, pti, htl⟩ := pt.init
        have hm2 := hm
        rw [List.map_append] at hm2
        have tru : (!(ti.map V.ref ++ [tlst].map V.ref).isEmpty) = true := by
          cases ti <;> rfl
        refine ⟨_, rfl, true, .inl ⟨_, SqL.of hm2, tru.symm⟩, if_t ?_⟩
        have ml := mrg_last Li qq p
        have wordP : ∀ c : Bool, V.bl (decide (V.str (wdS c) = V.str (Str.ofString "points"))) = V.bl (!c) := fun c => congrArg V.bl (wd_pts c)
        rcases bool_two p.1 with hp | hp
        · refine ⟨_, rfl, rfl, false, by rw [wordP, hp]; rfl, if_f (if_f ?_)⟩
          refine ⟨_, rfl, .inl ⟨rfl, _, SqL.of hm⟩, _, rfl, _, rfl, _, rfl, by show 3 ≤ sizeLine; decide, fun t2 nt => ?_⟩
          have st := same_new (o := pceT p) nt
          exact ⟨m, _, _, rfl, rfl, st _ _ hm, small, more (by rw [ml, if_neg fun z => by rw [hp] at z; cases z.2]) t2 nt⟩
        · refine ⟨_, rfl, rfl, true, by rw [wordP, hp]; rfl, if_t ?_⟩
          refine ⟨_, rfl, 1, rfl, m, _, -1, .ref tlst, rfl, rfl, SqL.of hm2, atI_last _ _, tlst, _, 0, .str (wdS qq.1), rfl, rfl, SqT.of htl, rfl, rfl, ?_⟩
          rcases bool_two qq.1 with hq | hq
          · refine ⟨false, by rw [wordP, hq]; rfl, if_f ?_⟩
            refine ⟨_, rfl, .inl ⟨rfl, _, SqL.of hm⟩, _, rfl, _, rfl, _, rfl, by show 3 ≤ sizeLine; decide, fun t2 nt => ?_⟩
            have st := same_new (o := pceT p) nt
            exact ⟨m, _, _, rfl, rfl, st _ _ hm, small, more (by rw [ml, if_neg fun z => by rw [hq] at z; cases z.1]) t2 nt⟩
          · refine ⟨true, by rw [wordP, hq]; rfl, if_t ?_⟩
            refine ⟨_, rfl, 1, rfl, m, _, -1, .ref tlst, rfl, rfl, SqL.of hm2, atI_last _ _, tlst, _, 1, .int qq.2.1, rfl, rfl, SqT.of htl, rfl, _, rfl, by show 3 ≤ sizeLine; decide, fun t2 nt => ?_⟩
            have st := same_new (o := pceT (false, qq.2.1, p.2.2)) nt
            have tm : t2 ≠ m := fun z => by
              rw [z, hm] at nt
              cases nt
            refine ⟨_, rfl, 1, rfl, m, _, -1, ti.length, rfl, rfl, st _ _ hm2, ?_, ?_⟩
            · unfold ixN
              rw [List.length_append, List.length_map, List.length_map]
              simp only [List.length_nil, List.length_cons]
              rw [if_neg (by decide), if_pos (by omega)]
              congr 1
              omega
            have eset : (ti.map V.ref ++ [tlst].map V.ref).set ti.length (.ref t2) = (ti ++ [t2]).map V.ref := by
              rw [List.set_append_right _ _ (by rw [List.length_map]; exact Nat.le_refl _), List.length_map, Nat.sub_self, List.map_append]
              rfl
            have keep : ∀ c q2, (upd Hc t2 (pceT (false, qq.2.1, p.2.2))) c = some (pceT q2) → (upd (upd Hc t2 (pceT (false, qq.2.1, p.2.2))) m (.lst ((ti.map V.ref ++ [tlst].map V.ref).set ti.length (.ref t2)))) c = some (pceT q2) := fun c q2 e => by
              have cm : c ≠ m := fun z => by
                rw [z, st _ _ hm] at e
                cases e
              rw [upd_ne cm]
              exact e
            refine ⟨_, _, _, ti ++ [t2], rfl, same_put nm (sc.trans st), ?_, ?_, ?_⟩
            · rw [← eset]
              exact upd_same
            · rw [ml, if_pos ⟨hq, hp⟩]
              exact ((pti.same st).keep keep).app ⟨keep _ _ upd_same, trivial⟩
            · rw [List.length_append] at tl ⊢
              exact Nat.le_succ_of_le tl
    · rintro σ Hc ⟨z2, z3, z4, ts, rfl, sc, hm, pt, tl⟩
      rw [List.length_map, bl, List.take_length] at pt
      exact ⟨_, rfl, q m Hc sc nm ⟨ts, hm, pt⟩⟩
end
end Tg

namespace Tg
open PySem PySem.Spec PyProof.Rows L2 Pl
/-! ### least_plan -/
/-- the edges that are reached -/
def reached (W : Wd) : List Int := (edg W).filter fun x => (hts W x).isSome
theorem val_key {kvs : List (Key × V)} {k : Key} (h : k ∈ kvs.map (·.1)) : valV kvs k ≠ none := fun z => by
  unfold valV at z
  rw [Option.map_eq_none_iff, List.find?_eq_none] at z
  obtain ⟨kv, m, e⟩ := List.mem_map.mp h
  exact z kv m (decide_eq_true e)
theorem val_nokey {kvs : List (Key × V)} {k : Key} (h : k ∉ kvs.map (·.1)) : valV kvs k = none := by
  unfold valV
  rw [Option.map_eq_none_iff, List.find?_eq_none]
  intro kv m e
  exact h (List.mem_map.mpr ⟨kv, m, of_decide_eq_true e⟩)
theorem le_lt_nd : ∀ {l : List Int}, l.Pairwise (· ≤ ·) → l.Nodup → l.Pairwise (· < ·)
  | [], _, _ => .nil
  | x :: r, h, n => by
    have h1 := List.pairwise_cons.mp h
    have n1 := List.nodup_cons.mp n
    refine List.pairwise_cons.mpr ⟨fun y hy => ?_, le_lt_nd h1.2 n1.2⟩
    have := h1.1 y hy
    have : x ≠ y := fun z => n1.1 (z ▸ hy)
    omega
theorem reached_is {W : Wd} (ok : W.Ok) {kvs : List (Key × V)} {ks ns : List Int} (hk : kvs.map (·.1) = ks.map Sum.inl) (nd : ks.Nodup) (vs : ∀ x : Int, valV kvs (.inl x) = (hts W x).map V.int) (pm : ns.Perm ks) (srt : ns.Pairwise (· ≤ ·)) : ns = reached W := by
  refine up_unique (le_lt_nd srt (pm.nodup_iff.mpr nd)) ((edg_up W).filter _) fun x => ?_
  unfold reached
  rw [List.mem_filter, pm.mem_iff]
  have key : x ∈ ks ↔ (Sum.inl x : Key) ∈ kvs.map (·.1) := by
    rw [hk]
    constructor
    · intro h
      exact List.mem_map.mpr ⟨x, h, rfl⟩
    · intro h
      obtain ⟨y, hy, e⟩ := List.mem_map.mp h
      rw [← Sum.inl.inj e]
      exact hy
  constructor
  · intro h
    have v := val_key (key.mp h)
    rw [vs] at v
    cases e : hts W x with
    | none =>
      rw [e] at v
      exact absurd rfl v
    | some o => exact ⟨hts_edg ok e, rfl⟩
  · rintro ⟨_, h⟩
    refine key.mpr (Classical.byContradiction fun n => ?_)
    have v := val_nokey n
    rw [vs] at v
    cases e : hts W x with
    | none =>
      rw [e] at h
      cases h
    | some o =>
      rw [e] at v
      cases v
/-- heights as pairs -/
def HL (H : Hp) (b : Addr) (W : Wd) : Prop := ∃ ts : List Addr, H b = some (.lst (ts.map V.ref)) ∧ ts.length = (reached W).length ∧ ∀ (i : Nat) (t : Addr) (x o : Int), ts[i]? = some t → (reached W)[i]? = some x → hts W x = some o → H t = some (.tup [.int x, .int o])
/-- the plan that is told, of those of least cost -/
def Fit (W : Wd) (L : List Pce) : Prop := ∃ L0, L = whole L0 ∧ Chain W W.s L0 W.e ∧ OfP W L0
/-- what least_plan tells -/
def Gap (H : Hp) (t : Addr) (W : Wd) : Prop := hts W W.e = none ∧ ∃ b, H t = some (.tup [.str "gap", .ref b]) ∧ NL H b (reached W)
def Plan (H : Hp) (t : Addr) (W : Wd) (o : Int) (L : List Pce) : Prop := hts W W.e = some o ∧ Chain W W.s L W.e ∧ tot W.ps L = o ∧ Fit W L ∧ ∃ b1 b2, H t = some (.tup [.str "plan", .ref b1, .ref b2]) ∧ PLst H b1 L ∧ HL H b2 W
theorem chain_len {W : Wd} : ∀ {L : List Pce} {a b : Int}, Chain W a L b → (L.length : Int) ≤ b - a
  | [], a, b, h => by
    obtain rfl : a = b := h
    show (0 : Int) ≤ _
    omega
  | p :: r, a, b, h => by
    have h1 : p.2.1 = a := h.1
    have h2 : p.2.1 < p.2.2 := h.2.1.fw
    have h3 := chain_len h.2.2
    rw [List.length_cons]
    omega
abbrev sLp : Stmt := topS 9
abbrev NLp : List Str := ["start", "end", "horizon", "cells", "points", "heights", "pieces", "edge"]
theorem scLp : FnScope NLp ["start", "end", "horizon", "cells", "points"] (defScope sLp) := ⟨rfl, rfl, rfl, by decide +kernel, rfl, by decide +kernel, by decide +kernel⟩
section
variable {P : Program} {w : World} {K : PySem.W.Frag} {mg : Str → Option Value} {base : Heap} {f : Addr} {fd : FuncData} {k : Nat}
def spLp (K : PySem.W.Frag) : Sp := fun vs H Q _ => ∃ (W : Wd) (c p : Addr), vs = [.int W.s, .int W.e, hV W.h, .ref c, .ref p] ∧ Handed K H W c p ∧ W.Ok ∧ W.e - W.s ≤ 1000000 ∧
  ∀ (t : Addr) (H' : Hp), Same H H' → H t = none → (Gap H' t W ∨ ∃ o L, Plan H' t W o L) → Q (.ref t) H'
theorem ok_lpn (F : Fun K "least_plan" "least_plan" sLp f fd) (C_steps_from : Cal P w K mg base k "steps_from" ["start", "end", "horizon", "cells", "points"] (spSf K)) (C_walked : Cal P w K mg base k "walked" ["steps", "start"] spWk) (C_traced : Cal P w K mg base k "traced" ["pieces", "start", "end"] spTr) (C_with_whole_points : Cal P w K mg base k "with_whole_points" ["pieces"] spWw) (m_sorted : mg "sorted" = none) : FnOk P w K mg base CX0 (k + 1) f fd ["start", "end", "horizon", "cells", "points"] (spLp K) := by
  refine F.ok scLp (fun vs H Q E h => ?_) (fun cdv A outer s H vs Q E hr h => ?_)
  · obtain ⟨W, c, p, rfl, _⟩ := h
    rfl
  · obtain ⟨W, c, p, rfl, hh, ok, span, q⟩ := h
    have hu1 := hr.units
    have hu : (A.deeper (envOfC "least_plan" (defScope sLp) s.heap.objs.size f cdv)).units + 1 < cLine := by omega
    refine ⟨_, pss_cons (ps_asg (pe_cal C_walked (hr.mono (by omega)) (by rfl) (pa_cons (pe_cal C_steps_from (hr.mono (by omega)) (by rfl) (pa_cons (pv 0) (pa_cons (pv 1) (pa_cons (pv 2) (pa_cons (pv 3) (pa_cons (pv 4) pa_nil)))))) (pa_cons (pv 0) pa_nil))) (pg_tup rfl (pgs_cons (pg_name (i := 5) scLp.nd rfl (.inr rfl)) (pgs_cons (pg_name (i := 6) scLp.nd rfl (.inl rfl)) pgs_nil))))
      (pss_cons (ps_if (pt_cmp (pc_dnotin hu (pv 1) (pv 5)))
        (pss_one (ps_ret (pe_tup (pa_cons pe_str (pa_cons (pe_callB (cr_sortedDI rfl) (by rfl) m_sorted (by decide +kernel) (pa_cons (pv 5) pa_nil)) pa_nil)))))
        pss_nil)
      (pss_one (ps_ret (pe_tup (pa_cons pe_str (pa_cons (pe_cal C_with_whole_points (hr.mono (by omega)) (by rfl) (pa_cons (pe_cal C_traced (hr.mono (by omega)) (by rfl) (pa_cons (pv 6) (pa_cons (pv 0) (pa_cons (pv 1) pa_nil)))) pa_nil)) (pa_cons (pe_lc (own := [("edge", 7)]) (g := (gName 7)) (tt := tYes) rfl scLp.nd (pi_list (pe_callB (cr_sortedDI rfl) (by rfl) m_sorted (by decide +kernel) (pa_cons (pv 5) pa_nil))) (blkOk_by (own := [("edge", 7)]) (N := NLp) (sc := defScope sLp) (by decide +kernel)) (fun _ _ _ _ _ => (pg_name (i := 7) scLp.nd rfl (.inl rfl))) (fun _ _ _ _ _ => pts_nil) (fun _ _ _ _ _ => (pe_tup (pa_cons (pv 7) (pa_cons (pe_dget hu (pv 5) (pv 7) (fun _ _ => rfl)) pa_nil))))) pa_nil))))))), ?_⟩
    refine ⟨_, rfl, _, rfl, _, rfl, _, rfl, _, rfl, W, c, p, rfl, hh, fun d ls H1 s1 nd S => ?_⟩
    refine ⟨_, rfl, W, d, ls, rfl, ok, hh.few, S, fun t hd pd H2 k2 nhd npd ht hr2 pr2 => ?_⟩
    have s2 : Same H H2 := fun b o e => k2 b o (ne_of_none e nd) (s1 b o e)
    obtain ⟨kvs, hkv, ⟨ks, kk, knd, kin⟩, vals⟩ := id hr2
    refine ⟨t, _, rfl, SqT.of ht, rfl, _, _, rfl, _, _, rfl, rfl, ?_⟩
    cases he : hts W W.e with
    | none =>
      have v := vals W.e
      rw [he] at v
      refine ⟨_, rfl, _, rfl, hd, none, rfl, .inl ⟨kvs, .inl W.e, .inl hkv, rfl, v.symm⟩, true, rfl, if_t ?_⟩
      refine ⟨_, rfl, hd, kvs, ks, rfl, .inl hkv, kk, fun ns b pm srt nb => ?_⟩
      obtain rfl := reached_is ok kk knd vals pm srt
      have sb := same_new (o := .lst ((reached W).map V.int)) nb
      refine ⟨by show 2 ≤ sizeLine; decide, fun u nu => ?_⟩
      have su := same_new (o := .tup [.str "gap", .ref b]) nu
      exact q u _ ((s2.trans sb).trans su) ((s2.trans sb).free nu) (.inl ⟨he, b, upd_same, su _ _ upd_same⟩)
    | some o =>
      have v := vals W.e
      rw [he] at v
      refine ⟨_, rfl, _, rfl, hd, some (.int o), rfl, .inl ⟨kvs, .inl W.e, .inl hkv, rfl, v.symm⟩, false, rfl, if_f ?_⟩
      refine ⟨_, rfl, _, rfl, _, rfl, W, pd, o, rfl, ok, span, pr2, he, fun b L H3 s3 nb pl ch tt ofp => ⟨b, L, rfl, pl, by have := chain_len ch; omega, fun m H4 s4 nm plm => ?_⟩⟩
      have hk4 := s4 _ _ (s3 _ _ hkv)
      refine ⟨_, rfl, hd, kvs, ks, rfl, .inl hk4, kk, fun ns b2 pm srt nb2 => ?_⟩
      obtain rfl := reached_is ok kk knd vals pm srt
      have s5 := same_new (o := .lst ((reached W).map V.int)) nb2
      obtain ⟨H5, e5⟩ : ∃ H5, upd H4 b2 (.lst ((reached W).map V.int)) = H5 := ⟨_, rfl⟩
      have h5 : H5 b2 = some (.lst ((reached W).map V.int)) := by
        rw [← e5]
        exact upd_same
      rw [e5] at s5 ⊢
      have hk5 := s5 _ _ hk4
      have rlen : (reached W).length ≤ 42 := by
        have h1 := List.length_filter_le (fun x => (hts W x).isSome) (edg W)
        have h2 := edg_len W
        have h3 := hh.few
        unfold reached
        omega
      refine ⟨b2, rfl, ⟨_, SqL.of h5⟩, fun D nD => lc_list (K := K) (a := b2) (xs := (reached W).map V.int) (fun i Hc => ∃ ts : List Addr, Same H5 Hc ∧ Hc D = some (.lst (ts.map V.ref)) ∧ ts.length = i ∧ ∀ (j : Nat) (t : Addr) (x o : Int), ts[j]? = some t → (reached W)[j]? = some x → hts W x = some o → Hc t = some (.tup [.int x, .int o])) ⟨[], same_new nD, upd_same, rfl, fun j t x o e => by simp at e⟩ (fun i Hc _ ⟨_, sc, _⟩ => SqL.of (sc _ _ h5)) ?_ ?_⟩
      · rintro i v2 Hc hv ⟨ts, sc, hD, tl, each⟩
        rw [List.getElem?_map] at hv
        obtain ⟨x, ex, rfl⟩ := Option.map_eq_some_iff.mp hv
        have il : i < (reached W).length := (List.getElem?_eq_some_iff.mp ex).1
        have xr := List.mem_of_getElem? ex
        unfold reached at xr
        obtain ⟨ox, eo⟩ := Option.isSome_iff_exists.mp (List.mem_filter.mp xr).2
        have vx := vals x
        rw [eo] at vx
        refine ⟨rfl, yes_b (if_t ?_)⟩
        refine ⟨_, rfl, _, rfl, _, rfl, hd, .int ox, rfl, .inl ⟨kvs, .inl x, .inl (sc _ _ hk5), rfl, vx.symm⟩, by show 2 ≤ sizeLine; decide, fun u nu => ?_⟩
        have su := same_new (o := .tup [.int x, .int ox]) nu
        have uD : u ≠ D := fun z => by
          rw [z, hD] at nu
          cases nu
        refine ⟨_, su _ _ hD, by rw [List.length_map]; exact small1000 (by omega), ts ++ [u], ?_, ?_, by rw [List.length_append, tl]; rfl, fun j t2 y oy e1 e2 e3 => ?_⟩
        · intro c2 o2 e
          rw [upd_ne (ne_of_none e nD)]
          exact su _ _ (sc _ _ e)
        · rw [upd_same, List.map_append]
          rfl
        · by_cases jl : j < ts.length
          · rw [List.getElem?_append_left jl] at e1
            have h := each j t2 y oy e1 e2 e3
            have tD : t2 ≠ D := fun z => by
              rw [z, hD] at h
              cases h
            rw [upd_ne tD]
            exact su _ _ h
          · have lt := (List.getElem?_eq_some_iff.mp e1).1
            rw [List.length_append] at lt
            have lt : j < ts.length + 1 := lt
            have ej : j = ts.length := by omega
            subst ej
            rw [List.getElem?_append_right (Nat.le_refl _), Nat.sub_self] at e1
            obtain rfl : u = t2 := Option.some.inj e1
            rw [tl, ex] at e2
            cases Option.some.inj e2
            rw [eo] at e3
            obtain rfl := Option.some.inj e3
            rw [upd_ne uD]
            exact upd_same
      · rintro Hc ⟨ts, sc, hD, tl, each⟩
        rw [List.length_map] at tl
        refine ⟨by show 3 ≤ sizeLine; decide, fun u nu => ?_⟩
        have su := same_new (o := .tup [.str "plan", .ref m, .ref D]) nu
        obtain ⟨w1, w2⟩ := whole_ok (W := W) L [] (a := W.s) (b := W.s) rfl ch
        have all := (((s2.trans s3).trans s4).trans s5).trans sc
        obtain ⟨mts, m1, m2⟩ := plm
        have s6 := (s5.trans sc).trans su
        refine q u _ (all.trans su) (all.free nu) (.inr ⟨o, whole L, he, w1, ?_, ⟨L, rfl, ch, ofp⟩, m, D, upd_same, ⟨mts, s6 _ _ m1, m2.same s6⟩, ts, su _ _ hD, tl, fun j t2 y oy e1 e2 e3 => su _ _ (each j t2 y oy e1 e2 e3)⟩)
        show tot W.ps (L.foldl mrg []) = o
        rw [w2, tt]
        show (0 : Int) + o = o
        omega
end
end Tg

namespace Tg
open PySem PySem.Spec PyProof.Rows L2 Pl
/-! ### is_whole, is_piece, is_height, cost_of: of what least_plan tells -/
abbrev sWh : Stmt := topS 1
theorem scWh : FnScope ["thing"] ["thing"] (defScope sWh) := ⟨rfl, rfl, rfl, by decide +kernel, rfl, by decide +kernel, by decide +kernel⟩
abbrev sPi : Stmt := topS 10
theorem scPi : FnScope ["thing"] ["thing"] (defScope sPi) := ⟨rfl, rfl, rfl, by decide +kernel, rfl, by decide +kernel, by decide +kernel⟩
abbrev sCo : Stmt := topS 12
abbrev NCo : List Str := ["pieces", "points", "cost", "word", "start", "end", "time"]
theorem scCo : FnScope NCo ["pieces", "points"] (defScope sCo) := ⟨rfl, rfl, rfl, by decide +kernel, rfl, by decide +kernel, by decide +kernel⟩
abbrev sIh : Stmt := topS 13
theorem scIh : FnScope ["thing"] ["thing"] (defScope sIh) := ⟨rfl, rfl, rfl, by decide +kernel, rfl, by decide +kernel, by decide +kernel⟩
section
variable {P : Program} {w : World} {K : PySem.W.Frag} {mg : Str → Option Value} {base : Heap} {f : Addr} {fd : FuncData} {k : Nat}
def spWh : Sp := fun vs H Q _ => ∃ t : Int, vs = [.int t] ∧ Q (.bl true) H
theorem ok_wh (F : Fun K "is_whole" "is_whole" sWh f fd) (m_isinstance : mg "isinstance" = none) (m_int : mg "int" = none) (m_bool : mg "bool" = none) : FnOk P w K mg base CX0 (k + 1) f fd ["thing"] spWh := by
  refine F.ok scWh (fun vs H Q E h => ?_) (fun cdv A outer s H vs Q E hr h => ?_)
  · obtain ⟨t, rfl, _⟩ := h
    rfl
  · obtain ⟨t, rfl, q⟩ := h
    refine ⟨_, pss_one (ps_ret (pe_and (pe_callB call_isi (by rfl) m_isinstance (by decide +kernel) (pa_cons (pv 0) (pa_cons (pe_bltn (v := .ty "int") (by rfl) m_int (by decide +kernel) rfl) pa_nil))) (pe_one (pe_not (pe_callB call_isi (by rfl) m_isinstance (by decide +kernel) (pa_cons (pv 0) (pa_cons (pe_bltn (v := .ty "bool") (by rfl) m_bool (by decide +kernel) rfl) pa_nil))))))), ?_⟩
    refine ⟨_, rfl, _, _, _, _, true, rfl, .ty "int", .base (.int t), rfl, true, rfl, if_t ?_⟩
    exact ⟨_, rfl, _, _, _, _, false, rfl, .ty "bool", .base (.int t), rfl, _, rfl, q⟩
def spPi : Sp := fun vs H Q _ => ∃ (t : Addr) (p : Pce), vs = [.ref t] ∧ H t = some (pceT p) ∧ p.2.1 < p.2.2 ∧ ∀ H', Same H H' → Q (.bl true) H'
theorem ok_pi (F : Fun K "is_piece" "is_piece" sPi f fd) (C_is_whole : Cal P w K mg base k "is_whole" ["thing"] spWh) (m_isinstance : mg "isinstance" = none) (m_tuple : mg "tuple" = none) (m_len : mg "len" = none) : FnOk P w K mg base CX0 (k + 1) f fd ["thing"] spPi := by
  refine F.ok scPi (fun vs H Q E h => ?_) (fun cdv A outer s H vs Q E hr h => ?_)
  · obtain ⟨t, p, rfl, _⟩ := h
    rfl
  · obtain ⟨t, p, rfl, ht, lt, q⟩ := h
    refine ⟨_, pss_cons (ps_if (PW.pt (pw_or (pt_not (pt_val (pe_callB call_isi (by rfl) m_isinstance (by decide +kernel) (pa_cons (pv 0) (pa_cons (pe_bltn (v := .ty "tuple") (by rfl) m_tuple (by decide +kernel) rfl) pa_nil))))) (pw_or (pt_cmpR op_ne (pe_callB call_len_seq (by rfl) m_len (by decide +kernel) (pa_cons (pv 0) pa_nil)) pe_int (nomark _)) (pw_or1 (pt_cmpR op_notIn_seq (pe_ix ix_tup (pv 0) pe_int (fun _ _ => rfl)) (pe_tup (pa_cons pe_str (pa_cons pe_str pa_nil))) (by with_unfolding_all rfl))))))
        (pss_one (ps_ret pe_bl))
        pss_nil)
      (pss_one (ps_ret (pe_and (pe_cal C_is_whole (hr.mono (by omega)) (by rfl) (pa_cons (pe_ix ix_tup (pv 0) pe_int (fun _ _ => rfl)) pa_nil)) (pe_and (pe_cal C_is_whole (hr.mono (by omega)) (by rfl) (pa_cons (pe_ix ix_tup (pv 0) pe_int (fun _ _ => rfl)) pa_nil)) (pe_one (pe_cmpR op_lt (pe_ix ix_tup (pv 0) pe_int (fun _ _ => rfl)) (pe_ix ix_tup (pv 0) pe_int (fun _ _ => rfl)) (nomark _))))))), ?_⟩
    refine ⟨_, rfl, _, _, _, _, true, rfl, .ty "tuple", .base (.tup ht), rfl, true, rfl, if_f ?_⟩
    refine ⟨_, rfl, t, _, rfl, .inr (SqT.of ht), rfl, false, rfl, if_f ?_⟩
    refine ⟨_, rfl, t, _, 0, .str (wdS p.1), rfl, rfl, SqT.of ht, rfl, by show 2 ≤ sizeLine; decide, fun b nb => ?_⟩
    have sb := same_new (o := .tup [.str "cell", .str "points"]) nb
    have flat : [V.str "cell", V.str "points"].all flatV = true := rfl
    have htb := sb _ _ ht
    refine ⟨b, _, rfl, .inr (SqT.of upd_same), rfl, flat, false, ?_, if_f ?_⟩
    · generalize p.1 = c
      cases c <;> decide +kernel
    refine ⟨_, rfl, t, _, 1, .int p.2.1, rfl, rfl, SqT.of htb, rfl, p.2.1, rfl, true, rfl, if_t ?_⟩
    refine ⟨_, rfl, t, _, 2, .int p.2.2, rfl, rfl, SqT.of htb, rfl, p.2.2, rfl, true, rfl, if_t ?_⟩
    refine ⟨_, rfl, t, _, 1, .int p.2.1, rfl, rfl, SqT.of htb, rfl, _, rfl, t, _, 2, .int p.2.2, rfl, rfl, SqT.of htb, rfl, _, _, rfl, rfl, ?_⟩
    show Q (V.bl (decide (p.2.1 < p.2.2))) _
    rw [decide_eq_true lt]
    exact q _ sb
def spIh : Sp := fun vs H Q _ => ∃ (t : Addr) (x o : Int), vs = [.ref t] ∧ H t = some (.tup [.int x, .int o]) ∧ Q (.bl true) H
theorem ok_ih (F : Fun K "is_height" "is_height" sIh f fd) (C_is_whole : Cal P w K mg base k "is_whole" ["thing"] spWh) (m_isinstance : mg "isinstance" = none) (m_tuple : mg "tuple" = none) (m_len : mg "len" = none) : FnOk P w K mg base CX0 (k + 1) f fd ["thing"] spIh := by
  refine F.ok scIh (fun vs H Q E h => ?_) (fun cdv A outer s H vs Q E hr h => ?_)
  · obtain ⟨t, x, o, rfl, _⟩ := h
    rfl
  · obtain ⟨t, x, o, rfl, ht, q⟩ := h
    refine ⟨_, pss_one (ps_ret (pe_and (pe_callB call_isi (by rfl) m_isinstance (by decide +kernel) (pa_cons (pv 0) (pa_cons (pe_bltn (v := .ty "tuple") (by rfl) m_tuple (by decide +kernel) rfl) pa_nil))) (pe_and (pe_cmpR op_eq (pe_callB call_len_seq (by rfl) m_len (by decide +kernel) (pa_cons (pv 0) pa_nil)) pe_int (nomark _)) (pe_and (pe_cal C_is_whole (hr.mono (by omega)) (by rfl) (pa_cons (pe_ix ix_tup (pv 0) pe_int (fun _ _ => rfl)) pa_nil)) (pe_one (pe_cal C_is_whole (hr.mono (by omega)) (by rfl) (pa_cons (pe_ix ix_tup (pv 0) pe_int (fun _ _ => rfl)) pa_nil))))))), ?_⟩
    refine ⟨_, rfl, _, _, _, _, true, rfl, .ty "tuple", .base (.tup ht), rfl, true, rfl, if_t ?_⟩
    refine ⟨_, rfl, t, _, rfl, .inr (SqT.of ht), rfl, true, rfl, if_t ?_⟩
    refine ⟨_, rfl, t, _, 0, .int x, rfl, rfl, SqT.of ht, rfl, x, rfl, true, rfl, if_t ?_⟩
    exact ⟨_, rfl, t, _, 1, .int o, rfl, rfl, SqT.of ht, rfl, o, rfl, q⟩
def spCo (K : PySem.W.Frag) : Sp := fun vs H Q _ => ∃ (b pp : Addr) (L : List Pce) (ps : List Int), vs = [.ref b, .ref pp] ∧ PLst H b L ∧ PtsR K H pp ps ∧ ps.length ≤ 1000000 ∧ ∀ H', Same H H' → Q (.int (tot ps L)) H'
theorem ok_co (F : Fun K "cost_of" "cost_of" sCo f fd) (m_len : mg "len" = none) : FnOk P w K mg base CX0 (k + 1) f fd ["pieces", "points"] (spCo K) := by
  refine F.ok scCo (fun vs H Q E h => ?_) (fun cdv A outer s H vs Q E hr h => ?_)
  · obtain ⟨b, pp, L, ps, rfl, _⟩ := h
    rfl
  · obtain ⟨b, pp, L, ps, rfl, ⟨bs, hb, pl⟩, hp, few, q⟩ := h
    refine ⟨_, pss_cons (ps_set (i := 2) scCo.nd rfl (.inl rfl) pe_int)
      (pss_cons (ps_for PassesOwn.never rfl (pi_list (pv 0)) (pg_tup rfl (pgs_cons (pg_name (i := 3) scCo.nd rfl (.inl rfl)) (pgs_cons (pg_name (i := 4) scCo.nd rfl (.inr rfl)) (pgs_cons (pg_name (i := 5) scCo.nd rfl (.inr rfl)) pgs_nil))))
        (pss_one (ps_aug (i := 2) scCo.nd rfl (.inl rfl) (pe_ifExp (pt_cmpR op_eq (pv 3) pe_str (nomark _)) pe_int (pe_callB call_len_seq (by rfl) m_len (by decide +kernel) (pa_cons (pe_lc (own := [("time", 6)]) (g := (gName 6)) rfl scCo.nd (pi_seq (pv 1)) (blkOk_by (own := [("time", 6)]) (N := NCo) (sc := defScope sCo) (by decide +kernel)) (fun _ _ _ _ _ => (pg_name (i := 6) scCo.nd rfl (.inl rfl))) (fun _ _ _ _ _ => pts_one (pt_chain op_le op_lt (pv 4) (pv 6) (pv 5))) (fun _ _ _ _ _ => (pv 6))) pa_nil))) ip_add)))
      (pss_one (ps_ret (pv 2)))), ?_⟩
    have bl := pl.len
    refine ⟨_, rfl, b, rfl, ⟨_, SqL.of hb⟩, for_list (xs := bs.map V.ref) (fun i σ Hc => ∃ z3 z4 z5 z6 : Option V, σ = [some (.ref b), some (.ref pp), some (.int (tot ps (L.take i))), z3, z4, z5, z6] ∧ Same H Hc) ⟨none, none, none, none, rfl, Same.refl _⟩ (fun i σ Hc _ ⟨_, _, _, _, _, sc⟩ => SqL.of (sc _ _ hb)) ?_ ?_⟩
    · rintro i v σ Hc hv ⟨z3, z4, z5, z6, rfl, sc⟩
      rw [List.getElem?_map] at hv
      obtain ⟨t, et, rfl⟩ := Option.map_eq_some_iff.mp hv
      obtain ⟨p, ep, ht⟩ := pl.at_ et
      have htc := sc _ _ ht
      have nx : tot ps (L.take (i + 1)) = tot ps (L.take i) + cst ps p := by
        rw [List.take_add_one, ep, tot_app]
        show _ + (cst ps p + 0) = _
        omega
      rw [nx]
      refine ⟨t, _, rfl, SqT.of htc, rfl, _, _, rfl, _, _, rfl, _, _, rfl, rfl, ?_⟩
      have wordC : ∀ c : Bool, V.bl (decide (V.str (wdS c) = V.str (Str.ofString "cell"))) = V.bl c := fun c => by cases c <;> decide +kernel
      refine ⟨_, rfl, ?_⟩
      rcases bool_two p.1 with h1 | h1
      · have e1 : cst ps p = 1 := by
          unfold cst
          rw [h1]
          rfl
        rw [e1]
        exact ⟨_, rfl, rfl, true, by rw [wordC, h1], if_t ⟨_, _, rfl, rfl, _, _, _, _, rfl, sc⟩⟩
      · have e1 : cst ps p = (cnt ps p.2.1 p.2.2 : Nat) := by
          unfold cst
          rw [h1]
          rfl
        rw [e1]
        refine ⟨_, rfl, rfl, false, by rw [wordC, h1], if_f ?_⟩
        refine ⟨_, rfl, pp, rfl, lc_seq (a := pp) (xs := ps.map V.int) (sqA_same sc hp) (fun D i H1 => Same Hc H1 ∧ H1 D = some (.lst (((ps.take i).filter fun y => decide (p.2.1 ≤ y ∧ y < p.2.2)).map V.int))) (fun D nD => ⟨same_new nD, upd_same⟩) (fun D i H1 _ h o e => h.1 _ _ e) ?_ ?_⟩
        · rintro D j v2 H1 nD hv2 ⟨s1, hD⟩
          rw [List.getElem?_map] at hv2
          obtain ⟨y, ey, rfl⟩ := Option.map_eq_some_iff.mp hv2
          have jl : j < ps.length := (List.getElem?_eq_some_iff.mp ey).1
          have fs : (ps.take (j + 1)).filter (fun y => decide (p.2.1 ≤ y ∧ y < p.2.2)) = (ps.take j).filter (fun y => decide (p.2.1 ≤ y ∧ y < p.2.2)) ++ if p.2.1 ≤ y ∧ y < p.2.2 then [y] else [] := by
            rw [List.take_add_one, ey, List.filter_append]
            congr 1
            show List.filter _ [y] = _
            rw [List.filter_cons]
            by_cases c : p.2.1 ≤ y ∧ y < p.2.2
            · rw [decide_eq_true c, if_pos c]
              rfl
            · rw [decide_eq_false c, if_neg c]
              rfl
          rw [fs]
          refine ⟨rfl, ?_⟩
          have app : ∀ c, (upd H1 D (.lst (((ps.take j).filter fun y => decide (p.2.1 ≤ y ∧ y < p.2.2)).map V.int ++ [.int c]))) D = some (.lst (((ps.take j).filter (fun y => decide (p.2.1 ≤ y ∧ y < p.2.2)) ++ [c]).map V.int)) := fun c => by
            rw [upd_same, List.map_append]
            rfl
          have sml : (((ps.take j).filter fun y => decide (p.2.1 ≤ y ∧ y < p.2.2)).map V.int).length < sizeLine := by
            have := List.length_filter_le (fun y => decide (p.2.1 ≤ y ∧ y < p.2.2)) (ps.take j)
            rw [List.length_take] at this
            rw [List.length_map]
            exact million (by omega)
          have stay : ¬ (p.2.1 ≤ y ∧ y < p.2.2) → Same Hc H1 ∧ H1 D = some (.lst (((ps.take j).filter (fun y => decide (p.2.1 ≤ y ∧ y < p.2.2)) ++ if p.2.1 ≤ y ∧ y < p.2.2 then [y] else []).map V.int)) := fun c => ⟨s1, by
            rw [if_neg c, List.append_nil]
            exact hD⟩
          by_cases c1 : p.2.1 ≤ y
          · by_cases c2 : y < p.2.2
            · refine ⟨_, rfl, _, rfl, _, _, rfl, rfl, true, congrArg V.bl (decide_eq_true c1), if_t ⟨_, rfl, _, _, rfl, rfl, true, congrArg V.bl (decide_eq_true c2), if_t ?_⟩⟩
              rw [if_pos ⟨c1, c2⟩]
              exact ⟨_, rfl, _, hD, sml, same_put nD s1, app y⟩
            · exact ⟨_, rfl, _, rfl, _, _, rfl, rfl, true, congrArg V.bl (decide_eq_true c1), if_t ⟨_, rfl, _, _, rfl, rfl, false, congrArg V.bl (decide_eq_false c2), if_f (stay fun z => c2 z.2)⟩⟩
          · exact ⟨_, rfl, _, rfl, _, _, rfl, rfl, false, congrArg V.bl (decide_eq_false c1), if_f ⟨false, rfl, if_f (stay fun z => c1 z.1)⟩⟩
        · rintro D H1 nD ⟨s1, hD⟩
          rw [List.length_map, List.take_length] at hD
          have el : (((ps.filter fun y => decide (p.2.1 ≤ y ∧ y < p.2.2)).map V.int).length : Int) = (cnt ps p.2.1 p.2.2 : Nat) := by
            rw [List.length_map]
            rfl
          rw [← el]
          exact ⟨D, _, rfl, .inl (SqL.of hD), _, _, rfl, rfl, _, _, _, _, rfl, sc.trans s1⟩
    · rintro σ Hc ⟨z3, z4, z5, z6, rfl, sc⟩
      rw [List.length_map, bl, List.take_length]
      exact ⟨_, rfl, q Hc sc⟩
end
end Tg

namespace Tg
open PySem PySem.Spec PyProof.Rows L2 Pl
/-! ### is_plan: of a chain -/
theorem dcT_seq {K : PySem.W.Frag} {a : Addr} {xs : List V} {H : Hp} {g : TG} {tt : TT} {tk tv : TE} {vs : List Nat} {σ : L2.St} {Qd : Addr → Hp → Prop} (sq : SqA K H a xs) (Pv : Addr → Nat → Hp → Prop) (first : ∀ D, H D = none → Pv D 0 (upd H D (.dT []))) (keep : ∀ D i H1, H D = none → Pv D i H1 → ∀ o, H a = some o → H1 a = some o)
    (round : ∀ D (i : Nat) (x : V) H1, H D = none → xs[i]? = some x → Pv D i H1 → TurnT g tt tk tv vs σ D (Pv D (i + 1)) x H1) (last : ∀ D H1, H D = none → Pv D xs.length H1 → Qd D H1) :
    ((∃ ys, SqL K H a ys) ∧ ∀ D, H D = none → TurnsT (Itl K a) g tt tk tv vs σ D H (Qd D)) ∨ ((∃ ys, SqT K H a ys) ∧ ∀ D, H D = none → TurnsT (Itt K a) g tt tk tv vs σ D H (Qd D)) :=
  sq.imp (fun h => ⟨⟨_, h⟩, fun D nD => dcT_it walk_list (Pv D) (first D nD) (fun i H1 _ p => sqL_at (keep D i H1 nD p) h) (fun i x H1 Hx _ p y => by obtain ⟨rfl, e⟩ := y; exact round D i x _ nD e p) fun H1 p => last D H1 nD p⟩)
    fun h => ⟨⟨_, h⟩, fun D nD => dcT_it walk_tup (Pv D) (first D nD) (fun i H1 _ p => sqT_at (keep D i H1 nD p) h) (fun i x H1 Hx _ p y => by obtain ⟨rfl, e⟩ := y; exact round D i x _ nD e p) fun H1 p => last D H1 nD p⟩
theorem chain_drop {W : Wd} {L : List Pce} {i : Nat} {p : Pce} {a b : Int} (ep : L[i]? = some p) (h : Chain W a (L.drop i) b) : p.2.1 = a ∧ OkP W p ∧ Chain W p.2.2 (L.drop (i + 1)) b := by
  obtain ⟨lt, e⟩ := List.getElem?_eq_some_iff.mp ep
  rw [List.drop_eq_getElem_cons lt, e] at h
  exact h
theorem putT_len (c : List (List Key × V)) (k : List Key) (x : V) : (putK c k x).length ≤ c.length + 1 := by
  unfold putK
  split
  · rw [List.length_map]
    omega
  · rw [List.length_append]
    exact Nat.le_refl _
abbrev sPl : Stmt := topS 11
abbrev NPl : List Str := ["pieces", "start", "end", "horizon", "cells", "cell_table", "cell_start", "cell_end", "at", "piece"]
theorem scPl : FnScope NPl ["pieces", "start", "end", "horizon", "cells"] (defScope sPl) := ⟨rfl, rfl, rfl, by decide +kernel, rfl, by decide +kernel, by decide +kernel⟩
section
variable {P : Program} {w : World} {K : PySem.W.Frag} {mg : Str → Option Value} {base : Heap} {f : Addr} {fd : FuncData} {k : Nat}
def spPl (K : PySem.W.Frag) : Sp := fun vs H Q _ => ∃ (W : Wd) (b c : Addr) (L : List Pce), vs = [.ref b, .int W.s, .int W.e, hV W.h, .ref c] ∧ PLst H b L ∧ CellsR K H c W.cs ∧ W.cs.length ≤ 20 ∧ Chain W W.s L W.e ∧ ∀ H', Same H H' → Q (.bl true) H'
theorem ok_pln (F : Fun K "is_plan" "is_plan" sPl f fd) (C_is_piece : Cal P w K mg base k "is_piece" ["thing"] spPi) (m_isinstance : mg "isinstance" = none) (m_list : mg "list" = none) : FnOk P w K mg base CX0 (k + 1) f fd ["pieces", "start", "end", "horizon", "cells"] (spPl K) := by
  refine F.ok scPl (fun vs H Q E h => ?_) (fun cdv A outer s H vs Q E hr h => ?_)
  · obtain ⟨W, b, c, L, rfl, _⟩ := h
    rfl
  · obtain ⟨W, b, c, L, rfl, ⟨bs, hb, pl⟩, hc, few, ch, q⟩ := h
    have hu1 := hr.units
    have hu : (A.deeper (envOfC "is_plan" (defScope sPl) s.heap.objs.size f cdv)).units + 1 < cLine := by omega
    refine ⟨_, pss_cons (ps_if (pt_not (pt_val (pe_callB call_isi (by rfl) m_isinstance (by decide +kernel) (pa_cons (pv 0) (pa_cons (pe_bltn (v := .ty "list") (by rfl) m_list (by decide +kernel) rfl) pa_nil)))))
        (pss_one (ps_ret pe_bl))
        pss_nil)
      (pss_cons (ps_setDcT (i := 5) (own := [("cell_start", 6), ("cell_end", 7)]) (g := gTup K 2 (gCons (gName 6) (gCons (gName 7) gNil))) (tt := tYes) rfl scPl.nd hu rfl rfl (sw_dict rfl rfl rfl (by decide +kernel)) (pi_seq (pv 4)) (blkOk_by (own := [("cell_start", 6), ("cell_end", 7)]) (N := NPl) (sc := defScope sPl) (by decide +kernel)) (fun _ _ _ _ _ => pg_tup rfl (pgs_cons (pg_name (i := 6) scPl.nd rfl (.inl rfl)) (pgs_cons (pg_name (i := 7) scPl.nd rfl (.inl rfl)) pgs_nil))) (fun _ _ _ _ _ => pts_nil) (fun _ _ _ _ _ => pe_tup (pa_cons (pv 6) (pa_cons (pv 7) pa_nil))) (fun _ _ _ _ _ => pe_bl))
      (pss_cons (ps_set (i := 8) scPl.nd rfl (.inl rfl) (pv 1))
      (pss_cons (ps_for PassesOwn.never rfl (pi_list (pv 0)) (pg_name (i := 9) scPl.nd rfl (.inl rfl))
        (pss_cons (ps_if (PW.pt (pw_or (pt_not (pt_val (pe_cal C_is_piece (hr.mono (by omega)) (by rfl) (pa_cons (pv 9) pa_nil)))) (pw_or1 (pt_cmpR op_ne (pe_ix ix_tup (pv 9) pe_int (fun _ _ => rfl)) (pv 8) (nomark _)))))
          (pss_one (ps_ret pe_bl))
          pss_nil)
        (pss_cons (ps_if (PW.pt (pw_and (pt_cmpR op_eq (pe_ix ix_tup (pv 9) pe_int (fun _ _ => rfl)) pe_str (nomark _)) (pw_and1 (pt_cmp (pc_dnotin hu (pe_tup (pa_cons (pe_ix ix_tup (pv 9) pe_int (fun _ _ => rfl)) (pa_cons (pe_ix ix_tup (pv 9) pe_int (fun _ _ => rfl)) pa_nil))) (pv 5))))))
          (pss_one (ps_ret pe_bl))
          pss_nil)
        (pss_cons (ps_if (PW.pt (pw_and (pt_cmpR op_eq (pe_ix ix_tup (pv 9) pe_int (fun _ _ => rfl)) pe_str (nomark _)) (pw_and (pt_cmpR op_notN (pv 3) pe_non (nomark _)) (pw_and1 (pt_cmpR op_lt (pe_ix ix_tup (pv 9) pe_int (fun _ _ => rfl)) (pv 3) (nomark _))))))
          (pss_one (ps_ret pe_bl))
          pss_nil)
        (pss_one (ps_set (i := 8) scPl.nd rfl (.inl rfl) (pe_ix ix_tup (pv 9) pe_int (fun _ _ => rfl))))))))
      (pss_one (ps_ret (pe_cmpR op_eq (pv 8) (pv 2) (nomark _))))))), ?_⟩
    have bl := pl.len
    obtain ⟨cts, sq, lts, hts⟩ := hc
    refine ⟨_, rfl, _, _, _, _, true, rfl, .ty "list", .base (.lst hb), rfl, true, rfl, if_f ?_⟩
    refine ⟨_, rfl, c, rfl, dcT_seq sq (fun D i H1 => ∃ kvs : List (List Key × V), Same H H1 ∧ H1 D = some (.dT kvs) ∧ kvs.length ≤ i ∧ ∀ q2, q2 ∈ W.cs.take i → ∃ v, valV kvs [.inl q2.1, .inl q2.2] = some v) (fun D nD => ⟨[], same_new nD, upd_same, Nat.le_refl _, fun q2 h => by rw [List.take_zero] at h; cases h⟩) (fun D i H1 _ ⟨_, s1, _⟩ o e => s1 _ _ e) ?_ ?_⟩
    · rintro D i x H1 nD hx ⟨kvs, s1, hD, kl, each⟩
      rw [List.getElem?_map] at hx
      obtain ⟨t, et, rfl⟩ := Option.map_eq_some_iff.mp hx
      obtain ⟨cc, ec⟩ : ∃ cc, W.cs[i]? = some cc := ⟨_, List.getElem?_eq_getElem (by rw [← lts]; exact (List.getElem?_eq_some_iff.mp et).1)⟩
      have il : i < W.cs.length := (List.getElem?_eq_some_iff.mp ec).1
      have htc := sqT_same s1 (hts i t cc et ec)
      refine ⟨t, _, rfl, htc, rfl, _, _, rfl, _, _, rfl, rfl, rfl, yes_b (if_t ?_)⟩
      refine ⟨_, rfl, _, rfl, by show 2 ≤ sizeLine; decide, fun u nu => ?_⟩
      have su := same_new (o := .tup [.int cc.1, .int cc.2]) nu
      refine ⟨kvs, [.inl cc.1, .inl cc.2], u, rfl, upd_same, su _ _ hD, small1000 (by omega), putK kvs [.inl cc.1, .inl cc.2] (.bl true), fun b2 o e => ?_, upd_same, Nat.le_trans (putT_len _ _ _) (Nat.succ_le_succ kl), fun q2 hq => ?_⟩
      · rw [upd_ne (ne_of_none e nD)]
        exact su _ _ (s1 _ _ e)
      · rw [valV_put]
        by_cases e : ([.inl q2.1, .inl q2.2] : List Key) = [.inl cc.1, .inl cc.2]
        · rw [if_pos e]
          exact ⟨_, rfl⟩
        · rw [if_neg e]
          rw [List.take_add_one, ec] at hq
          rcases List.mem_append.mp hq with h | h
          · exact each q2 h
          · have h : q2 ∈ [cc] := h
            rw [List.mem_singleton.mp h] at e
            exact absurd rfl e
    · rintro D H1 nD ⟨kvs, s1, hD, _, each⟩
      rw [List.length_map, lts, List.take_length] at each
      have wordC : ∀ c : Bool, V.bl (decide (V.str (wdS c) = V.str (Str.ofString "cell"))) = V.bl c := fun c => by cases c <;> decide +kernel
      have wordP : ∀ c : Bool, V.bl (decide (V.str (wdS c) = V.str (Str.ofString "points"))) = V.bl (!c) := fun c => congrArg V.bl (wd_pts c)
      refine ⟨_, rfl, ?_⟩
      refine ⟨_, rfl, b, rfl, ⟨_, SqL.of (s1 _ _ hb)⟩, for_list (xs := bs.map V.ref) (fun i σ Hc => ∃ (x : Int) (z9 : Option V), σ = [some (.ref b), some (.int W.s), some (.int W.e), some (hV W.h), some (.ref c), some (.ref D), none, none, some (.int x), z9] ∧ Same H1 Hc ∧ Chain W x (L.drop i) W.e) ⟨_, none, rfl, Same.refl _, ch⟩ (fun i σ Hc _ ⟨_, _, _, sc, _⟩ => SqL.of (sc _ _ (s1 _ _ hb))) ?_ ?_⟩
      · rintro i v σ Hc hv ⟨x, z9, rfl, sc, chx⟩
        rw [List.getElem?_map] at hv
        obtain ⟨t, et, rfl⟩ := Option.map_eq_some_iff.mp hv
        obtain ⟨p, ep, ht⟩ := pl.at_ et
        obtain ⟨px, okp, chn⟩ := chain_drop ep chx
        have htc := sc _ _ (s1 _ _ ht)
        refine ⟨_, rfl, t, p, rfl, htc, okp.fw, fun H2 s2 => ⟨true, rfl, if_f ?_⟩⟩
        have ht2 := s2 _ _ htc
        refine ⟨_, rfl, t, _, 1, .int p.2.1, rfl, rfl, SqT.of ht2, rfl, _, rfl, rfl, false, congrArg V.bl (by rw [px, decide_eq_true rfl]; rfl), if_f ?_⟩
        refine ⟨_, rfl, t, _, 0, .str (wdS p.1), rfl, rfl, SqT.of ht2, rfl, rfl, ?_⟩
        have fin : ∀ H3, Same H2 H3 → ∃ (x : Int) (z9 : Option V), [some (V.ref b), some (.int W.s), some (.int W.e), some (hV W.h), some (.ref c), some (.ref D), none, none, some (.int p.2.2), some (.ref t)] = [some (.ref b), some (.int W.s), some (.int W.e), some (hV W.h), some (.ref c), some (.ref D), none, none, some (.int x), z9] ∧ Same H1 H3 ∧ Chain W x (L.drop (i + 1)) W.e := fun H3 s3 => ⟨_, _, rfl, (sc.trans s2).trans s3, chn⟩
        rcases bool_two p.1 with h1 | h1
        · obtain ⟨v, ev⟩ := each p.2 (okp.cell h1)
          refine ⟨true, by rw [wordC, h1], if_t ?_⟩
          refine ⟨_, rfl, t, _, 1, .int p.2.1, rfl, rfl, SqT.of ht2, rfl, _, rfl, t, _, 2, .int p.2.2, rfl, rfl, SqT.of ht2, rfl, by show 2 ≤ sizeLine; decide, fun u nu => ?_⟩
          have su := same_new (o := .tup [.int p.2.1, .int p.2.2]) nu
          have ht3 := su _ _ ht2
          refine ⟨_, rfl, D, some v, rfl, .inr ⟨kvs, [.inl p.2.1, .inl p.2.2], u, .inl (su _ _ (s2 _ _ (sc _ _ hD))), rfl, upd_same, ev.symm⟩, false, rfl, if_f ?_⟩
          refine ⟨_, rfl, t, _, 0, .str (wdS p.1), rfl, rfl, SqT.of ht3, rfl, rfl, false, by rw [wordP, h1]; rfl, if_f (if_f ?_)⟩
          exact ⟨_, rfl, t, _, 2, .int p.2.2, rfl, rfl, SqT.of ht3, rfl, fin _ su⟩
        · refine ⟨false, by rw [wordC, h1], if_f (if_f ?_)⟩
          refine ⟨_, rfl, t, _, 0, .str (wdS p.1), rfl, rfl, SqT.of ht2, rfl, rfl, true, by rw [wordP, h1]; rfl, if_t ?_⟩
          have hk := okp.pt h1
          cases hW : W.h with
          | none =>
            refine ⟨_, rfl, rfl, false, rfl, if_f (if_f ?_)⟩
            rw [← hW]
            exact ⟨_, rfl, t, _, 2, .int p.2.2, rfl, rfl, SqT.of ht2, rfl, fin _ (Same.refl _)⟩
          | some z =>
            have zx : z ≤ p.2.1 := by
              rw [hW] at hk
              exact of_decide_eq_true hk
            refine ⟨_, rfl, rfl, true, rfl, if_t ?_⟩
            refine ⟨_, rfl, t, _, 1, .int p.2.1, rfl, rfl, SqT.of ht2, rfl, _, rfl, p.2.1, z, rfl, rfl, false, congrArg V.bl (decide_eq_false (by omega)), if_f ?_⟩
            rw [← hW]
            exact ⟨_, rfl, t, _, 2, .int p.2.2, rfl, rfl, SqT.of ht2, rfl, fin _ (Same.refl _)⟩
      · rintro σ Hc ⟨x, z9, rfl, sc, chx⟩
        rw [List.length_map, bl, List.drop_length] at chx
        have xe : x = W.e := chx
        subst xe
        refine ⟨_, rfl, _, rfl, rfl, ?_⟩
        show Q (V.bl (decide (V.int W.e = V.int W.e))) _
        rw [decide_eq_true rfl]
        exact q Hc (s1.trans sc)
end
end Tg

namespace Tg
open PySem PySem.Spec PyProof.Rows L2 Pl
/-! ### height_table: of the heights that least_plan told -/
abbrev sHt : Stmt := topS 14
abbrev NHt : List Str := ["thing", "start", "end", "steps", "part", "heights", "time", "height", "word", "behind", "cost"]
theorem scHt : FnScope NHt ["thing", "start", "end", "steps"] (defScope sHt) := ⟨rfl, rfl, rfl, by decide +kernel, rfl, by decide +kernel, by decide +kernel⟩
section
variable {P : Program} {w : World} {K : PySem.W.Frag} {mg : Str → Option Value} {base : Heap} {f : Addr} {fd : FuncData} {k : Nat}
def spHt : Sp := fun vs H Q _ => ∃ (W : Wd) (b d : Addr) (ls : List Addr) (o : Int), vs = [.ref b, .int W.s, .int W.e, .ref d] ∧ W.Ok ∧ W.cs.length ≤ 20 ∧ HL H b W ∧ hts W W.e = some o ∧ StepsR H d (edg W) (ptS W ++ clS W) ls ∧
  ∀ (hd : Addr) (H' : Hp), Same H H' → H hd = none → HtR H' hd (edg W) (hts W) → Q (.ref hd) H'
theorem ok_ht (F : Fun K "height_table" "height_table" sHt f fd) (C_is_height : Cal P w K mg base k "is_height" ["thing"] spIh) (m_isinstance : mg "isinstance" = none) (m_list : mg "list" = none) (m_all : mg "all" = none) (m_len : mg "len" = none) : FnOk P w K mg base CX0 (k + 1) f fd ["thing", "start", "end", "steps"] spHt := by
  refine F.ok scHt (fun vs H Q E h => ?_) (fun cdv A outer s H vs Q E hr h => ?_)
  · obtain ⟨W, b, d, ls, o, rfl, _⟩ := h
    rfl
  · obtain ⟨W, b, d, ls, o, rfl, ok, few, ⟨ts, hb, tl, each⟩, ho, S, q⟩ := h
    have hu1 := hr.units
    have hu : (A.deeper (envOfC "height_table" (defScope sHt) s.heap.objs.size f cdv)).units + 1 < cLine := by omega
    refine ⟨_, pss_cons (ps_if (PW.pt (pw_or (pt_not (pt_val (pe_callB call_isi (by rfl) m_isinstance (by decide +kernel) (pa_cons (pv 0) (pa_cons (pe_bltn (v := .ty "list") (by rfl) m_list (by decide +kernel) rfl) pa_nil))))) (pw_or1 (pt_not (pt_val (pe_callB (cr_all rfl) (by rfl) m_all (by decide +kernel) (pa_cons (pe_lc (own := [("part", 4)]) (g := (gName 4)) (tt := tYes) rfl scHt.nd (pi_list (pv 0)) (blkOk_by (own := [("part", 4)]) (N := NHt) (sc := defScope sHt) (by decide +kernel)) (fun _ _ _ _ _ => (pg_name (i := 4) scHt.nd rfl (.inl rfl))) (fun _ _ _ _ _ => pts_nil) (fun _ _ _ _ _ => (pe_cal C_is_height (hr.mono (by omega)) (by rfl) (pa_cons (pv 4) pa_nil)))) pa_nil)))))))
        (pss_one (ps_ret pe_non))
        pss_nil)
      (pss_cons (ps_setDc (i := 5) (own := [("time", 6), ("height", 7)]) (g := gTup K 2 (gCons (gName 6) (gCons (gName 7) gNil))) (tt := tYes) rfl scHt.nd rfl rfl (sw_dict rfl rfl rfl (by decide +kernel)) (pi_list (pv 0)) (blkOk_by (own := [("time", 6), ("height", 7)]) (N := NHt) (sc := defScope sHt) (by decide +kernel)) (fun _ _ _ _ _ => pg_tup rfl (pgs_cons (pg_name (i := 6) scHt.nd rfl (.inl rfl)) (pgs_cons (pg_name (i := 7) scHt.nd rfl (.inl rfl)) pgs_nil))) (fun _ _ _ _ _ => pts_nil) (fun _ _ _ _ _ => pv 6) (fun _ _ _ _ _ => pv 7))
      (pss_cons (ps_if (PW.pt (pw_or (pt_cmpR op_lt (pe_callB call_lenD (by rfl) m_len (by decide +kernel) (pa_cons (pv 5) pa_nil)) (pe_callB call_len_seq (by rfl) m_len (by decide +kernel) (pa_cons (pv 0) pa_nil)) (nomark _)) (pw_or (pt_cmpR op_ne (pe_dget1 hu (pv 5) (pv 1) ⟨rfl, rfl, rfl, rfl⟩) pe_int (nomark _)) (pw_or1 (pt_cmp (pc_dnotin hu (pv 2) (pv 5)))))))
        (pss_one (ps_ret pe_non))
        pss_nil)
      (pss_cons (ps_for PassesOwn.never rfl (pi_list (pv 0)) (pg_tup rfl (pgs_cons (pg_name (i := 6) scHt.nd rfl (.inl rfl)) (pgs_cons (pg_name (i := 7) scHt.nd rfl (.inl rfl)) pgs_nil)))
        (pss_cons (ps_if (pt_cmp (pc_dnotin hu (pv 6) (pv 3)))
          (pss_one (ps_ret pe_non))
          pss_nil)
        (pss_one (ps_for PassesOwn.never rfl (pi_list (pe_dget hu (pv 3) (pv 6) (fun _ _ => rfl))) (pg_tup rfl (pgs_cons (pg_name (i := 8) scHt.nd rfl (.inl rfl)) (pgs_cons (pg_name (i := 9) scHt.nd rfl (.inl rfl)) (pgs_cons (pg_name (i := 10) scHt.nd rfl (.inl rfl)) pgs_nil))))
          (pss_one (ps_if (PW.pt (pw_or (pt_cmp (pc_dnotin hu (pv 9) (pv 5))) (pw_or1 (pt_cmpR op_gt (pe_dget hu (pv 5) (pv 9) (fun _ _ => rfl)) (pe_op op_add (pv 7) (pv 10)) (nomark _)))))
            (pss_one (ps_ret pe_non))
            pss_nil))))))
      (pss_one (ps_ret (pv 5)))))), ?_⟩
    have ru : (reached W).Pairwise (· < ·) := (edg_up W).filter _
    have rin : ∀ x, x ∈ reached W → x ∈ edg W ∧ ∃ o, hts W x = some o := fun x hx => by
      unfold reached at hx
      obtain ⟨h1, h2⟩ := List.mem_filter.mp hx
      exact ⟨h1, Option.isSome_iff_exists.mp h2⟩
    have rl42 : (reached W).length ≤ 42 := by
      have h1 := List.length_filter_le (fun x => (hts W x).isSome) (edg W)
      have h2 := edg_len W
      unfold reached
      omega
    have piece : ∀ (i : Nat) (t : Addr), ts[i]? = some t → ∃ x y, (reached W)[i]? = some x ∧ hts W x = some y ∧ H t = some (.tup [.int x, .int y]) := fun i t e => by
      obtain ⟨x, ex⟩ : ∃ x, (reached W)[i]? = some x := ⟨_, List.getElem?_eq_getElem (by rw [← tl]; exact (List.getElem?_eq_some_iff.mp e).1)⟩
      obtain ⟨_, y, ey⟩ := rin x (List.mem_of_getElem? ex)
      exact ⟨x, y, ex, ey, each i t x y e ex ey⟩
    refine ⟨_, rfl, _, _, _, _, true, rfl, .ty "list", .base (.lst hb), rfl, true, rfl, if_f ?_⟩
    refine ⟨_, rfl, b, rfl, ⟨_, SqL.of hb⟩, fun D nD => lc_list (K := K) (a := b) (xs := ts.map V.ref) (fun i Hc => Same H Hc ∧ Hc D = some (.lst ((List.replicate i true).map V.bl))) ⟨same_new nD, upd_same⟩ (fun i Hc _ h => SqL.of (h.1 _ _ hb)) ?_ ?_⟩
    · rintro i v Hc hv ⟨sc, hD⟩
      rw [List.getElem?_map] at hv
      obtain ⟨t, et, rfl⟩ := Option.map_eq_some_iff.mp hv
      obtain ⟨x, y, ex, ey, ht⟩ := piece i t et
      have il := (List.getElem?_eq_some_iff.mp et).1
      refine ⟨rfl, yes_b (if_t ⟨_, rfl, t, x, y, rfl, sc _ _ ht, _, hD, ?_, same_put nD sc, ?_⟩)⟩
      · rw [List.length_map, List.length_replicate]
        exact small1000 (by omega)
      · rw [upd_same, List.replicate_succ', List.map_append]
        rfl
    rintro H1 ⟨s1, hD⟩
    refine ⟨D, _, rfl, SqL.of hD, true, ?_, if_f ?_⟩
    · rw [show (List.replicate (ts.map V.ref).length true).all id = true from List.all_eq_true.mpr fun c hc => List.eq_of_mem_replicate hc]
    have hb1 := s1 _ _ hb
    have kvOf : ∃ kvF : Int → Key × V, kvF = fun x => ((Sum.inl x : Key), V.int ((hts W x).getD 0)) := ⟨_, rfl⟩
    obtain ⟨kvF, ekv⟩ := kvOf
    refine ⟨_, rfl, b, rfl, ⟨_, SqL.of hb1⟩, fun D2 nD2 => dc_lst (a := b) (xs := ts.map V.ref) (fun i H2 => Same H1 H2 ∧ H2 D2 = some (.dK (((reached W).take i).map kvF))) ⟨same_new nD2, upd_same⟩ (fun i H2 h => SqL.of (h.1 _ _ hb1)) ?_ ?_⟩
    · rintro i v Hc hv ⟨sc, hD2⟩
      rw [List.getElem?_map] at hv
      obtain ⟨t, et, rfl⟩ := Option.map_eq_some_iff.mp hv
      obtain ⟨x, y, ex, ey, ht⟩ := piece i t et
      have il := (List.getElem?_eq_some_iff.mp ex).1
      refine ⟨t, _, rfl, SqT.of (sc _ _ (s1 _ _ ht)), rfl, _, _, rfl, _, _, rfl, rfl, rfl, yes_b (if_t ?_)⟩
      refine ⟨_, rfl, _, rfl, _, .inl x, rfl, hD2, ?_, same_put nD2 sc, ?_⟩
      · rw [List.length_map, List.length_take]
        exact small1000 (by omega)
      · rw [upd_same, putK_new, List.take_add_one, ex, List.map_append]
        · rw [ekv]
          show some (HO.dK (_ ++ [(Sum.inl x, V.int y)])) = some (HO.dK (_ ++ [(Sum.inl x, V.int ((hts W x).getD 0))]))
          rw [ey]
          rfl
        · intro hk
          rw [List.map_map] at hk
          obtain ⟨z, hz, e⟩ := List.mem_map.mp hk
          rw [ekv] at e
          obtain rfl : z = x := Sum.inl.inj e
          obtain ⟨j, hj, ej⟩ := List.mem_iff_getElem.mp hz
          rw [List.length_take] at hj
          rw [List.getElem_take] at ej
          have e1 : (reached W)[j]? = some z := by rw [List.getElem?_eq_getElem (by omega), ej]
          have := (List.getElem?_inj (by omega) (up_nodup ru)).mp (e1.trans ex.symm)
          omega
    rintro H2 ⟨s2, hD2⟩
    rw [List.length_map, tl, List.take_length] at hD2
    have keys : ((reached W).map kvF).map (·.1) = (reached W).map Sum.inl := by
      rw [List.map_map, ekv]
      rfl
    have vals : ∀ x : Int, valV ((reached W).map kvF) (.inl x) = (hts W x).map V.int := fun x => by
      cases e : hts W x with
      | none =>
        refine val_nokey fun hk => ?_
        rw [keys] at hk
        obtain ⟨z, hz, e2⟩ := List.mem_map.mp hk
        obtain rfl : z = x := Sum.inl.inj e2
        obtain ⟨_, y, ey⟩ := rin z hz
        rw [e] at ey
        cases ey
      | some y =>
        refine val_of (by rw [keys]; exact inl_nodup (up_nodup ru)) (List.mem_map.mpr ⟨x, ?_, ?_⟩)
        · unfold reached
          exact List.mem_filter.mpr ⟨hts_edg ok e, by rw [e]; rfl⟩
        · rw [ekv]
          show (Sum.inl x, V.int ((hts W x).getD 0)) = _
          rw [e]
          rfl
    have hb2 := s2 _ _ hb1
    have st0 := (hts_inv ok).start
    have v0 := vals W.s
    rw [st0] at v0
    have ve := vals W.e
    rw [ho] at ve
    refine ⟨_, rfl, D2, _, rfl, hD2, _, rfl, b, _, rfl, .inl (SqL.of hb2), _, _, rfl, rfl, false, congrArg V.bl (decide_eq_false (by rw [List.length_map, List.length_map, tl]; omega)), if_f ?_⟩
    refine ⟨_, rfl, D2, rfl, .inl ⟨_, .inl hD2⟩, _, rfl, _, .inl ⟨_, .inl W.s, .inl hD2, rfl, v0.symm⟩, rfl, false, rfl, if_f ?_⟩
    refine ⟨_, rfl, _, rfl, D2, _, rfl, .inl ⟨_, .inl W.e, .inl hD2, rfl, ve.symm⟩, false, rfl, if_f ?_⟩
    have s12 := s1.trans s2
    have S2 := S.same s12
    refine ⟨_, rfl, b, rfl, ⟨_, SqL.of hb2⟩, for_list (xs := ts.map V.ref) (fun i σ Hc => ∃ z6 z7 z8 z9 z10 : Option V, σ = [some (.ref b), some (.int W.s), some (.int W.e), some (.ref d), none, some (.ref D2), z6, z7, z8, z9, z10] ∧ Hc = H2) ⟨none, none, none, none, none, rfl, rfl⟩ (fun i σ Hc _ ⟨_, _, _, _, _, _, e⟩ => by rw [e]; exact SqL.of hb2) ?_ ?_⟩
    · rintro i v σ Hc hv ⟨z6, z7, z8, z9, z10, rfl, rfl⟩
      rw [List.getElem?_map] at hv
      obtain ⟨t, et, rfl⟩ := Option.map_eq_some_iff.mp hv
      obtain ⟨x, y, ex, ey, ht⟩ := piece i t et
      obtain ⟨xe, _⟩ := rin x (List.mem_of_getElem? ex)
      obtain ⟨j, jl, ej⟩ := List.mem_iff_getElem.mp xe
      have ejx : (edg W)[j]? = some x := by rw [List.getElem?_eq_getElem jl, ej]
      obtain ⟨l, el⟩ : ∃ l, ls[j]? = some l := ⟨_, List.getElem?_eq_getElem (by rw [S.len]; exact jl)⟩
      have vl := S2.val (edg_nd W) ejx el
      obtain ⟨us, u1, u2, u3⟩ := S2.lst j l x el ejx
      refine ⟨t, _, rfl, SqT.of (s12 _ _ ht), rfl, _, _, rfl, _, _, rfl, rfl, ?_⟩
      refine ⟨_, rfl, _, rfl, d, _, rfl, .inl ⟨_, .inl x, .inl S2.dct, rfl, vl.symm⟩, false, rfl, if_f ?_⟩
      refine ⟨_, rfl, _, rfl, d, .ref l, rfl, .inl ⟨_, .inl x, .inl S2.dct, rfl, vl.symm⟩, l, rfl, ⟨_, SqL.of u1⟩, for_list (xs := us.map V.ref) (fun j σ Hc2 => ∃ z8 z9 z10 : Option V, σ = [some (.ref b), some (.int W.s), some (.int W.e), some (.ref d), none, some (.ref D2), some (.int x), some (.int y), z8, z9, z10] ∧ Hc2 = Hc) ⟨_, _, _, rfl, rfl⟩ (fun j σ Hc2 _ ⟨_, _, _, _, e⟩ => by rw [e]; exact SqL.of u1) ?_ ?_⟩
      · rintro n v2 σ Hc2 hv2 ⟨z8, z9, z10, rfl, rfl⟩
        rw [List.getElem?_map] at hv2
        obtain ⟨t2, et2, rfl⟩ := Option.map_eq_some_iff.mp hv2
        obtain ⟨u, eu⟩ : ∃ u, (atE (ptS W ++ clS W) x)[n]? = some u := ⟨_, List.getElem?_eq_getElem (by rw [← u2]; exact (List.getElem?_eq_some_iff.mp et2).1)⟩
        have ht2 := u3 n t2 u et2 eu
        have mu := List.mem_of_getElem? eu
        rw [← own_at] at mu
        obtain ⟨um, ufr⟩ := own_mem.mp mu
        obtain ⟨o2, e2, le2⟩ := hts_tight ok um (g := y) (by rw [ufr]; exact ey)
        have vu := vals u.to
        rw [e2] at vu
        refine ⟨t2, _, rfl, SqT.of ht2, rfl, _, _, rfl, _, _, rfl, _, _, rfl, rfl, ?_⟩
        refine ⟨_, rfl, _, rfl, D2, _, rfl, .inl ⟨_, .inl u.to, .inl hD2, rfl, vu.symm⟩, false, rfl, if_f ?_⟩
        refine ⟨_, rfl, _, rfl, D2, .int o2, rfl, .inl ⟨_, .inl u.to, .inl hD2, rfl, vu.symm⟩, _, rfl, _, rfl, _, _, rfl, rfl, _, _, rfl, rfl, false, congrArg V.bl (decide_eq_false (by omega)), if_f ?_⟩
        exact ⟨_, _, _, rfl, rfl⟩
      · rintro σ Hc2 ⟨z8, z9, z10, rfl, rfl⟩
        exact ⟨_, _, _, _, _, rfl, rfl⟩
    · rintro σ Hc ⟨z6, z7, z8, z9, z10, rfl, rfl⟩
      exact ⟨_, rfl, q D2 Hc s12 (s1.free nD2) ⟨_, hD2, ⟨reached W, keys, up_nodup ru, fun x hx => (rin x hx).1⟩, vals⟩⟩
end
end Tg

set_option maxHeartbeats 2000000
namespace Tg
open PySem PySem.Spec PyProof.Rows L2 Pl
/-! ### is_gap: of what is reached -/
/-- any walk over a list that stands -/
theorem walked_l {K : PySem.W.Frag} {a : Addr} {xs : List V} {Z : Hp} {turn : (Hp → Prop) → V → Hp → Prop} {Qd : Hp → Prop} (Pv : Nat → Hp → Prop) (first : Pv 0 Z) (keep : ∀ i H2, Pv i H2 → SqL K H2 a xs)
    (round : ∀ i x H2, xs[i]? = some x → Pv i H2 → turn (Pv (i + 1)) x H2) (last : ∀ H2, Pv xs.length H2 → Qd H2) : Walked (Itl K a) Z turn Qd := by
  refine ⟨fun i m H2 => m = xs.length - i ∧ i ≤ xs.length ∧ Pv i H2, ⟨xs.length, by omega, Nat.zero_le _, first⟩, ?_⟩
  rintro i m H2 ⟨rfl, hi, p⟩
  have q := keep i H2 p
  by_cases lt : i < xs.length
  · refine .inr ⟨⟨xs, xs[i], q, List.getElem?_eq_getElem lt⟩, Pv (i + 1), fun H3 p3 => ⟨xs.length - (i + 1), by omega, rfl, lt, p3⟩, fun x H3 y => ?_⟩
    obtain ⟨rfl, y⟩ := y
    exact round i x H3 (y xs q) p
  · obtain rfl : i = xs.length := by omega
    exact .inl ⟨⟨xs, q, Nat.le_refl _⟩, last H2 p⟩
/-- n truths -/
def AllT (H : Hp) (D : Addr) (n : Nat) : Prop := H D = some (.lst ((List.replicate n true).map V.bl))
theorem AllT.put {H : Hp} {D : Addr} {n : Nat} : AllT (upd H D (.lst ((List.replicate n true).map V.bl ++ [V.bl true]))) D (n + 1) := by
  unfold AllT
  rw [upd_same, List.replicate_succ', List.map_append]
  rfl
theorem AllT.few {n m : Nat} (h : n < m) (s : m ≤ 100000) : ((List.replicate n true).map V.bl).length < sizeLine := by
  rw [List.length_map, List.length_replicate]
  exact million (by omega)
theorem all_true (n : Nat) : (List.replicate n true).all id = true := List.all_eq_true.mpr fun c hc => List.eq_of_mem_replicate hc
theorem wipe_three (σ : L2.St) (a b c : Option V) : wipe (((List.set (wipe σ [6, 7, 8]) 6 a).set 7 b).set 8 c) [6, 7, 8] = wipe σ [6, 7, 8] := by
  show List.set (List.set (List.set (List.set (List.set (List.set (List.set (List.set (List.set σ 8 none) 7 none) 6 none) 6 a) 7 b) 8 c) 8 none) 7 none) 6 none = List.set (List.set (List.set σ 8 none) 7 none) 6 none
  apply List.ext_getElem?
  intro i
  simp only [List.getElem?_set, List.length_set]
  by_cases h6 : 6 = i <;> by_cases h7 : 7 = i <;> by_cases h8 : 8 = i <;> simp only [h6, h7, h8, if_true, if_false] <;> split <;> first | rfl | (split <;> rfl)
abbrev sGa : Stmt := topS 15
abbrev NGa : List Str := ["thing", "start", "end", "steps", "edge", "edges", "word", "behind", "cost"]
theorem scGa : FnScope NGa ["thing", "start", "end", "steps"] (defScope sGa) := ⟨rfl, rfl, rfl, by decide +kernel, rfl, by decide +kernel, by decide +kernel⟩
theorem reached_up (W : Wd) : (reached W).Pairwise (· < ·) := (edg_up W).filter _
theorem reached_mem {W : Wd} {x : Int} (hx : x ∈ reached W) : x ∈ edg W ∧ ∃ o, hts W x = some o := by
  unfold reached at hx
  obtain ⟨h1, h2⟩ := List.mem_filter.mp hx
  exact ⟨h1, Option.isSome_iff_exists.mp h2⟩
theorem reached_of {W : Wd} (ok : W.Ok) {x o : Int} (h : hts W x = some o) : x ∈ reached W := by
  unfold reached
  exact List.mem_filter.mpr ⟨hts_edg ok h, by rw [h]; rfl⟩
theorem reached_len {W : Wd} (few : W.cs.length ≤ 20) : (reached W).length ≤ 42 := by
  have h1 := List.length_filter_le (fun x => (hts W x).isSome) (edg W)
  have h2 := edg_len W
  unfold reached
  omega
theorem steps_len {W : Wd} (few : W.cs.length ≤ 20) (x : Int) : (atE (ptS W ++ clS W) x).length ≤ 62 := by
  have h1 := atE_len (ptS W ++ clS W) x
  have h2 := edg_len W
  have h3 := ptP_len W ((edg W).length - 1)
  rw [ptP_all rfl] at h3
  have h4 : (clS W).length ≤ W.cs.length := by
    unfold clS ins
    rw [List.length_map]
    exact List.length_filter_le ..
  rw [List.length_append] at h1
  omega
section
variable {P : Program} {w : World} {K : PySem.W.Frag} {mg : Str → Option Value} {base : Heap} {f : Addr} {fd : FuncData} {k : Nat}
def spGa : Sp := fun vs H Q _ => ∃ (W : Wd) (b d : Addr) (ls : List Addr), vs = [.ref b, .int W.s, .int W.e, .ref d] ∧ W.Ok ∧ W.cs.length ≤ 20 ∧ NL H b (reached W) ∧ hts W W.e = none ∧ StepsR H d (edg W) (ptS W ++ clS W) ls ∧ ∀ H', Same H H' → Q (.bl true) H'
theorem ok_ga (F : Fun K "is_gap" "is_gap" sGa f fd) (C_is_whole : Cal P w K mg base k "is_whole" ["thing"] spWh) (m_isinstance : mg "isinstance" = none) (m_list : mg "list" = none) (m_all : mg "all" = none) (m_len : mg "len" = none) : FnOk P w K mg base CX0 (k + 1) f fd ["thing", "start", "end", "steps"] spGa := by
  refine F.ok scGa (fun vs H Q E h => ?_) (fun cdv A outer s H vs Q E hr h => ?_)
  · obtain ⟨W, b, d, ls, rfl, _⟩ := h
    rfl
  · obtain ⟨W, b, d, ls, rfl, ok, few, hb, ho, S, q⟩ := h
    have hu1 := hr.units
    have hu : (A.deeper (envOfC "is_gap" (defScope sGa) s.heap.objs.size f cdv)).units + 1 < cLine := by omega
    refine ⟨_, pss_cons (ps_if (PW.pt (pw_or (pt_not (pt_val (pe_callB call_isi (by rfl) m_isinstance (by decide +kernel) (pa_cons (pv 0) (pa_cons (pe_bltn (v := .ty "list") (by rfl) m_list (by decide +kernel) rfl) pa_nil))))) (pw_or1 (pt_not (pt_val (pe_callB (cr_all rfl) (by rfl) m_all (by decide +kernel) (pa_cons (pe_lc (own := [("edge", 4)]) (g := (gName 4)) (tt := tYes) rfl scGa.nd (pi_list (pv 0)) (blkOk_by (own := [("edge", 4)]) (N := NGa) (sc := defScope sGa) (by decide +kernel)) (fun _ _ _ _ _ => (pg_name (i := 4) scGa.nd rfl (.inl rfl))) (fun _ _ _ _ _ => pts_nil) (fun _ _ _ _ _ => (pe_cal C_is_whole (hr.mono (by omega)) (by rfl) (pa_cons (pv 4) pa_nil)))) pa_nil)))))))
        (pss_one (ps_ret pe_bl))
        pss_nil)
      (pss_cons (ps_set (i := 5) scGa.nd rfl (.inr rfl) (pe_dc (own := [("edge", 4)]) (g := gName 4) (tt := tYes) rfl scGa.nd (pi_list (pv 0)) (blkOk_by (own := [("edge", 4)]) (N := NGa) (sc := defScope sGa) (by decide +kernel)) (fun _ _ _ _ _ => pg_name (i := 4) scGa.nd rfl (.inl rfl)) (fun _ _ _ _ _ => pts_nil) (fun _ _ _ _ _ => pv 4) (fun _ _ _ _ _ => pe_bl)))
      (pss_cons (ps_if (PW.pt (pw_or (pt_cmpR op_lt (pe_callB call_lenD (by rfl) m_len (by decide +kernel) (pa_cons (pv 5) pa_nil)) (pe_callB call_len_seq (by rfl) m_len (by decide +kernel) (pa_cons (pv 0) pa_nil)) (nomark _)) (pw_or (pt_cmp (pc_dnotin hu (pv 1) (pv 5))) (pw_or1 (pt_cmp (pc_din hu (pv 2) (pv 5)))))))
        (pss_one (ps_ret pe_bl))
        pss_nil)
      (pss_cons (ps_if (pt_not (pt_val (pe_callB (cr_all rfl) (by rfl) m_all (by decide +kernel) (pa_cons (pe_lc (own := [("edge", 4)]) (g := (gName 4)) (tt := tYes) rfl scGa.nd (pi_list (pv 0)) (blkOk_by (own := [("edge", 4)]) (N := NGa) (sc := defScope sGa) (by decide +kernel)) (fun _ _ _ _ _ => (pg_name (i := 4) scGa.nd rfl (.inl rfl))) (fun _ _ _ _ _ => pts_nil) (fun _ _ _ _ _ => (pe_cmp (pc_din hu (pv 4) (pv 3))))) pa_nil))))
        (pss_one (ps_ret pe_bl))
        pss_nil)
      (pss_one (ps_ret (pe_callB (cr_all rfl) (by rfl) m_all (by decide +kernel) (pa_cons (pe_lc2 (own := [("edge", 4), ("word", 6), ("behind", 7), ("cost", 8)]) (vs1 := [6, 7, 8]) (g := gName 4) (tt := tYes) (wi1 := iList K (tDGet (tVar 3) (tVar 4))) (g1 := gTup K 3 (gCons (gName 6) (gCons (gName 7) (gCons (gName 8) gNil)))) (tt1 := tYes) rfl scGa.nd (pi_list (pv 0)) (blkOk_by (own := [("edge", 4), ("word", 6), ("behind", 7), ("cost", 8)]) (N := NGa) (sc := defScope sGa) (by decide +kernel)) (by decide) (fun _ _ _ _ _ => (pg_name (i := 4) scGa.nd rfl (.inl rfl))) (fun _ _ _ _ _ => pts_nil) (fun _ _ _ _ _ => pi_list (pe_dget hu (pv 3) (pv 4) (fun _ _ => rfl))) (fun _ _ _ _ _ => pg_tup rfl (pgs_cons (pg_name (i := 6) scGa.nd rfl (.inl rfl)) (pgs_cons (pg_name (i := 7) scGa.nd rfl (.inl rfl)) (pgs_cons (pg_name (i := 8) scGa.nd rfl (.inl rfl)) pgs_nil)))) (fun _ _ _ _ _ => pts_nil) (fun _ _ _ _ _ => (pe_cmp (pc_din hu (pv 7) (pv 5))))) pa_nil))))))), ?_⟩
    have ru := reached_up W
    have rl42 := reached_len few
    have stepsOf : ∀ {H1 : Hp}, StepsR H1 d (edg W) (ptS W ++ clS W) ls → ∀ x, x ∈ reached W → ∃ l, valV (kvE (edg W) ls) (.inl x) = some (.ref l) ∧ StL H1 l (atE (ptS W ++ clS W) x) := fun S2 x hx => by
      obtain ⟨xe, _⟩ := reached_mem hx
      obtain ⟨j, jl, ej⟩ := List.mem_iff_getElem.mp xe
      have ejx : (edg W)[j]? = some x := by rw [List.getElem?_eq_getElem jl, ej]
      obtain ⟨l, el⟩ : ∃ l, ls[j]? = some l := ⟨_, List.getElem?_eq_getElem (by rw [S2.len]; exact jl)⟩
      exact ⟨l, S2.val (edg_nd W) ejx el, S2.lst j l x el ejx⟩
    refine ⟨_, rfl, _, _, _, _, true, rfl, .ty "list", .base (.lst hb), rfl, true, rfl, if_f ?_⟩
    refine ⟨_, rfl, b, rfl, ⟨_, SqL.of hb⟩, fun D nD => walked_l (K := K) (a := b) (xs := (reached W).map V.int) (fun i Hc => Same H Hc ∧ AllT Hc D i) ⟨same_new nD, upd_same⟩ (fun i Hc h => SqL.of (h.1 _ _ hb)) ?_ ?_⟩
    · rintro i v Hc hv ⟨sc, hD⟩
      rw [List.getElem?_map] at hv
      obtain ⟨x, ex, rfl⟩ := Option.map_eq_some_iff.mp hv
      have il := (List.getElem?_eq_some_iff.mp ex).1
      exact ⟨rfl, yes_b (if_t ⟨_, rfl, x, rfl, _, hD, AllT.few il (by omega), same_put nD sc, AllT.put⟩)⟩
    rintro H1 ⟨s1, hD⟩
    refine ⟨D, _, rfl, SqL.of hD, true, by rw [all_true], if_f ?_⟩
    have hb1 := s1 _ _ hb
    obtain ⟨kvF, ekv⟩ : ∃ kvF : Int → Key × V, kvF = fun x => ((Sum.inl x : Key), V.bl true) := ⟨_, rfl⟩
    refine ⟨_, rfl, b, rfl, ⟨_, SqL.of hb1⟩, fun D2 nD2 => walked_l (K := K) (a := b) (xs := (reached W).map V.int) (fun i H2 => Same H1 H2 ∧ H2 D2 = some (.dK (((reached W).take i).map kvF))) ⟨same_new nD2, upd_same⟩ (fun i H2 h => SqL.of (h.1 _ _ hb1)) ?_ ?_⟩
    · rintro i v Hc hv ⟨sc, hD2⟩
      rw [List.getElem?_map] at hv
      obtain ⟨x, ex, rfl⟩ := Option.map_eq_some_iff.mp hv
      have il := (List.getElem?_eq_some_iff.mp ex).1
      refine ⟨rfl, yes_b (if_t ?_)⟩
      refine ⟨_, rfl, _, .inl x, rfl, hD2, ?_, same_put nD2 sc, ?_⟩
      · rw [List.length_map, List.length_take]
        exact small1000 (by omega)
      · rw [upd_same, putK_new, List.take_add_one, ex, List.map_append]
        · rw [ekv]
          rfl
        · intro hk
          rw [List.map_map] at hk
          obtain ⟨z, hz, e⟩ := List.mem_map.mp hk
          rw [ekv] at e
          obtain rfl : z = x := Sum.inl.inj e
          obtain ⟨j, hj, ej⟩ := List.mem_iff_getElem.mp hz
          rw [List.length_take] at hj
          rw [List.getElem_take] at ej
          have e1 : (reached W)[j]? = some z := by rw [List.getElem?_eq_getElem (by omega), ej]
          have := (List.getElem?_inj (by omega) (up_nodup ru)).mp (e1.trans ex.symm)
          omega
    rintro H2 ⟨s2, hD2⟩
    rw [List.length_map, List.take_length] at hD2
    have keys : ((reached W).map kvF).map (·.1) = (reached W).map Sum.inl := by
      rw [List.map_map, ekv]
      rfl
    have there : ∀ x o : Int, hts W x = some o → valV ((reached W).map kvF) (.inl x) = some (.bl true) := fun x o e =>
      val_of (by rw [keys]; exact inl_nodup (up_nodup ru)) (List.mem_map.mpr ⟨x, reached_of ok e, by rw [ekv]⟩)
    have gone : ∀ x : Int, hts W x = none → valV ((reached W).map kvF) (.inl x) = none := fun x e => val_nokey fun hk => by
      rw [keys] at hk
      obtain ⟨z, hz, e2⟩ := List.mem_map.mp hk
      obtain rfl : z = x := Sum.inl.inj e2
      obtain ⟨_, y, ey⟩ := reached_mem hz
      rw [e] at ey
      cases ey
    have hb2 := s2 _ _ hb1
    have v0 := there W.s 0 (hts_inv ok).start
    have ve := gone W.e ho
    refine ⟨_, rfl, D2, _, rfl, hD2, _, rfl, b, _, rfl, .inl (SqL.of hb2), _, _, rfl, rfl, false, congrArg V.bl (decide_eq_false (by rw [List.length_map, List.length_map]; omega)), if_f ?_⟩
    refine ⟨_, rfl, _, rfl, D2, _, rfl, .inl ⟨_, .inl W.s, .inl hD2, rfl, v0.symm⟩, false, rfl, if_f ?_⟩
    refine ⟨_, rfl, _, rfl, D2, _, rfl, .inl ⟨_, .inl W.e, .inl hD2, rfl, ve.symm⟩, false, rfl, if_f ?_⟩
    have s12 := s1.trans s2
    have S2 := S.same s12
    refine ⟨_, rfl, b, rfl, ⟨_, SqL.of hb2⟩, fun D3 nD3 => walked_l (K := K) (a := b) (xs := (reached W).map V.int) (fun i Hc => Same H2 Hc ∧ AllT Hc D3 i) ⟨same_new nD3, upd_same⟩ (fun i Hc h => SqL.of (h.1 _ _ hb2)) ?_ ?_⟩
    · rintro i v Hc hv ⟨sc, hD3⟩
      rw [List.getElem?_map] at hv
      obtain ⟨x, ex, rfl⟩ := Option.map_eq_some_iff.mp hv
      have il := (List.getElem?_eq_some_iff.mp ex).1
      obtain ⟨l, vl, _⟩ := stepsOf S2 x (List.mem_of_getElem? ex)
      exact ⟨rfl, yes_b (if_t ⟨_, rfl, _, rfl, d, _, rfl, .inl ⟨_, .inl x, .inl (sc _ _ S2.dct), rfl, vl.symm⟩, _, hD3, AllT.few il (by omega), same_put nD3 sc, AllT.put⟩)⟩
    rintro H3 ⟨s3, hD3⟩
    refine ⟨D3, _, rfl, SqL.of hD3, true, by rw [all_true], if_f ?_⟩
    have S3 := S2.same s3
    have hb3 := s3 _ _ hb2
    have hD23 := s3 _ _ hD2
    refine ⟨_, rfl, b, rfl, ⟨_, SqL.of hb3⟩, fun D4 nD4 => walked_l (K := K) (a := b) (xs := (reached W).map V.int) (fun i Hc => Same H3 Hc ∧ ∃ n, AllT Hc D4 n ∧ n ≤ i * 100) ⟨same_new nD4, 0, upd_same, Nat.zero_le _⟩ (fun i Hc h => SqL.of (h.1 _ _ hb3)) ?_ ?_⟩
    · rintro i v Hc hv ⟨sc, n, hD4, nl⟩
      rw [List.getElem?_map] at hv
      obtain ⟨x, ex, rfl⟩ := Option.map_eq_some_iff.mp hv
      have il := (List.getElem?_eq_some_iff.mp ex).1
      have xr := List.mem_of_getElem? ex
      obtain ⟨_, y, ey⟩ := reached_mem xr
      obtain ⟨l, vl, us, u1, u2, u3⟩ := stepsOf S3 x xr
      have sl := steps_len few x
      refine ⟨rfl, yes_b (if_t ?_)⟩
      refine ⟨_, rfl, _, rfl, d, .ref l, rfl, .inl ⟨_, .inl x, .inl (sc _ _ S3.dct), rfl, vl.symm⟩, l, rfl, ⟨_, SqL.of (sc _ _ u1)⟩, walked_l (K := K) (a := l) (xs := us.map V.ref) (fun j H4 => Same H3 H4 ∧ ∃ m, AllT H4 D4 m ∧ m ≤ i * 100 + j) ⟨sc, n, hD4, nl⟩ (fun j H4 h => SqL.of (h.1 _ _ u1)) ?_ ?_⟩
      · rintro j v2 H4 hv2 ⟨s34, m, hm, ml⟩
        rw [List.getElem?_map] at hv2
        obtain ⟨t2, et2, rfl⟩ := Option.map_eq_some_iff.mp hv2
        have jl := (List.getElem?_eq_some_iff.mp et2).1
        obtain ⟨u, eu⟩ : ∃ u, (atE (ptS W ++ clS W) x)[j]? = some u := ⟨_, List.getElem?_eq_getElem (by rw [← u2]; exact jl)⟩
        have ht2 := s34 _ _ (u3 j t2 u et2 eu)
        have mu := List.mem_of_getElem? eu
        rw [← own_at] at mu
        obtain ⟨um, ufr⟩ := own_mem.mp mu
        obtain ⟨o2, e2, _⟩ := hts_tight ok um (g := y) (by rw [ufr]; exact ey)
        have vu := there u.to o2 e2
        refine ⟨t2, _, rfl, SqT.of ht2, rfl, _, _, rfl, _, _, rfl, _, _, rfl, rfl, ?_⟩
        refine ⟨wipe_three _ _ _ _, yes_b (if_t ?_)⟩
        exact ⟨_, rfl, _, rfl, D2, _, rfl, .inl ⟨_, .inl u.to, .inl (s34 _ _ hD23), rfl, vu.symm⟩, _, hm, AllT.few (m := 100000) (by omega) (Nat.le_refl _), same_put nD4 s34, _, AllT.put, by omega⟩
      · rintro H4 ⟨s34, m, hm, ml⟩
        rw [List.length_map] at ml
        exact ⟨s34, m, hm, by omega⟩
    · rintro H4 ⟨s4, n, hD4, _⟩
      refine ⟨D4, _, rfl, SqL.of hD4, ?_⟩
      rw [all_true]
      exact q H4 ((s12.trans s3).trans s4)
end
end Tg

namespace Tg
open PySem PySem.Spec PyProof.Rows L2
/-! ### a def called with n values, then keywords ks; gV: all its parameters, from these and the defaults -/
section
variable (P : Program) (w : World) (K : PySem.W.Frag) (mg : Str → Option Value) (base : Heap)
def CalN (k : Nat) (x : Str) (ps : List Str) (n : Nat) (ks : List Str) (gV : List V → List V → List V) (sp : Sp) : Prop := ∃ f fd g, FnOk P w K mg base CX0 k f fd ps sp ∧ mg x = some (.ref f) ∧ PySem.W.keepIn K (.ref f) = true ∧ KBn K fd ps n ks g gV
end
section
variable {X : Cx} {k n : Nat} {ps ks : List Str} {gV : List V → List V → List V} {sp : Sp} {x : Str} {e : Expr} {es : List Expr} {p pos : Pos} {kws : List Keyword} {t tk : TA}
theorem pe_calN (c : CalN X.prog X.w X.K X.mg X.base k x ps n ks gV sp) (hr : Room k X.A) (gl : Gl X x) (ha : PA X (e :: es) t) (vals : PK X kws tk)
    (named : (backToKw pos (keywordEach kws X.env)).all (·.1.isSome) = true := by rfl) (names : (backToKw pos (keywordEach kws X.env)).filterMap (·.1) = ks := by rfl) (nodebug : (x == ("__debug__" : Str)) = false := by decide)
    (one : starEach (e :: es) X.env = (false, eval e X.env) :: starEach es X.env := by rfl) (nostar : ((backTo pos (starEach (e :: es) X.env)).any (·.1) || (backToKw pos (keywordEach kws X.env)).any (·.1.isNone)) = false := by rfl) :
    PE X (.Call (.Name x p) (e :: es) kws pos) (tCallN n ks.length sp gV E0 t tk) := by
  obtain ⟨f, fd, g, F, hm, hk, hb⟩ := c
  exact pe_callN F hr gl hm hk hb pass0 ha vals named names nodebug one nostar
end
end Tg

set_option maxHeartbeats 1000000
namespace Tg
open PySem PySem.Spec PyProof.Rows L2 Pl
/-! ### shows_least: of what least_plan tells -/
abbrev sSl : Stmt := topS 16
abbrev NSl : List Str := ["thing", "start", "end", "horizon", "cells", "points", "steps", "heights"]
theorem scSl : FnScope NSl ["thing", "start", "end", "horizon", "cells", "points"] (defScope sSl) := ⟨rfl, rfl, rfl, by decide +kernel, rfl, by decide +kernel, by decide +kernel⟩
section
variable {P : Program} {w : World} {K : PySem.W.Frag} {mg : Str → Option Value} {base : Heap} {f : Addr} {fd : FuncData} {k : Nat}
/-- keywords in the order of the parameters, behind the others -/
abbrev gRow : List V → List V → List V := fun vs zs => vs ++ zs
def spSl (K : PySem.W.Frag) : Sp := fun vs H Q _ => ∃ (W : Wd) (t c p : Addr), vs = [.ref t, .int W.s, .int W.e, hV W.h, .ref c, .ref p] ∧ Handed K H W c p ∧ W.Ok ∧ W.ps.length ≤ 1000000 ∧ (Gap H t W ∨ ∃ o L, Plan H t W o L) ∧ ∀ H', Same H H' → Q (.bl true) H'
theorem ok_sl (F : Fun K "shows_least" "shows_least" sSl f fd) (C_steps_from : Cal P w K mg base k "steps_from" ["start", "end", "horizon", "cells", "points"] (spSf K)) (C_is_gap : Cal P w K mg base k "is_gap" ["thing", "start", "end", "steps"] spGa) (C_is_plan_n : CalN P w K mg base k "is_plan" ["pieces", "start", "end", "horizon", "cells"] 3 ["horizon", "cells"] gRow (spPl K))
    (C_height_table : Cal P w K mg base k "height_table" ["thing", "start", "end", "steps"] spHt) (C_cost_of : Cal P w K mg base k "cost_of" ["pieces", "points"] (spCo K)) (m_isinstance : mg "isinstance" = none) (m_tuple : mg "tuple" = none) (m_len : mg "len" = none) : FnOk P w K mg base CX0 (k + 1) f fd ["thing", "start", "end", "horizon", "cells", "points"] (spSl K) := by
  refine F.ok scSl (fun vs H Q E h => ?_) (fun cdv A outer s H vs Q E hr h => ?_)
  · obtain ⟨W, t, c, p, rfl, _⟩ := h
    rfl
  · obtain ⟨W, t, c, p, rfl, hh, ok, pl, told, q⟩ := h
    have hu1 := hr.units
    have hu : (A.deeper (envOfC "shows_least" (defScope sSl) s.heap.objs.size f cdv)).units + 1 < cLine := by omega
    refine ⟨_, pss_cons (ps_if (PW.pt (pw_or (pt_not (pt_val (pe_callB call_isi (by rfl) m_isinstance (by decide +kernel) (pa_cons (pv 0) (pa_cons (pe_bltn (v := .ty "tuple") (by rfl) m_tuple (by decide +kernel) rfl) pa_nil))))) (pw_or1 (pt_cmpR op_notIn_seq (pe_callB call_len_seq (by rfl) m_len (by decide +kernel) (pa_cons (pv 0) pa_nil)) (pe_tup (pa_cons pe_int (pa_cons pe_int pa_nil))) (by with_unfolding_all rfl)))))
        (pss_one (ps_ret pe_bl))
        pss_nil)
      (pss_cons (ps_set (i := 6) scSl.nd rfl (.inl rfl) (pe_cal C_steps_from (hr.mono (by omega)) (by rfl) (pa_cons (pv 1) (pa_cons (pv 2) (pa_cons (pv 3) (pa_cons (pv 4) (pa_cons (pv 5) pa_nil)))))))
      (pss_cons (ps_if (pt_cmpR op_eq (pe_callB call_len_seq (by rfl) m_len (by decide +kernel) (pa_cons (pv 0) pa_nil)) pe_int (nomark _))
        (pss_one (ps_ret (pe_and (pe_cmpR op_eq (pe_ix ix_tup (pv 0) pe_int (fun _ _ => rfl)) pe_str (nomark _)) (pe_one (pe_cal C_is_gap (hr.mono (by omega)) (by rfl) (pa_cons (pe_ix ix_tup (pv 0) pe_int (fun _ _ => rfl)) (pa_cons (pv 1) (pa_cons (pv 2) (pa_cons (pv 6) pa_nil)))))))))
        pss_nil)
      (pss_cons (ps_if (PW.pt (pw_or (pt_cmpR op_ne (pe_ix ix_tup (pv 0) pe_int (fun _ _ => rfl)) pe_str (nomark _)) (pw_or1 (pt_not (pt_val (pe_calN C_is_plan_n (hr.mono (by omega)) (by rfl) (pa_cons (pe_ix ix_tup (pv 0) pe_int (fun _ _ => rfl)) (pa_cons (pv 1) (pa_cons (pv 2) pa_nil))) (pk_cons (pv 3) (pk_cons (pv 4) pk_nil))))))))
        (pss_one (ps_ret pe_bl))
        pss_nil)
      (pss_cons (ps_set (i := 7) scSl.nd rfl (.inl rfl) (pe_cal C_height_table (hr.mono (by omega)) (by rfl) (pa_cons (pe_ix ix_tup (pv 0) pe_int (fun _ _ => rfl)) (pa_cons (pv 1) (pa_cons (pv 2) (pa_cons (pv 6) pa_nil))))))
      (pss_one (ps_ret (pe_and (pe_cmpR op_notN (pv 7) pe_non (nomark _)) (pe_one (pe_cmpR op_eq (pe_dget hu (pv 7) (pv 2) (fun _ _ => rfl)) (pe_cal C_cost_of (hr.mono (by omega)) (by rfl) (pa_cons (pe_ix ix_tup (pv 0) pe_int (fun _ _ => rfl)) (pa_cons (pv 5) pa_nil))) (nomark _)))))))))), ?_⟩
    rcases told with ⟨ho, b, ht, hb⟩ | ⟨o, L, ho, ch, tt, _, b1, b2, ht, pls, hl⟩
    · refine ⟨_, rfl, _, _, _, _, true, rfl, .ty "tuple", .base (.tup ht), rfl, true, rfl, if_f ?_⟩
      refine ⟨_, rfl, t, _, rfl, .inr (SqT.of ht), by show 2 ≤ sizeLine; decide, fun u nu => ?_⟩
      have su := same_new (o := .tup [.int 2, .int 3]) nu
      refine ⟨u, _, rfl, .inr (SqT.of upd_same), rfl, rfl, false, rfl, if_f ?_⟩
      refine ⟨_, rfl, _, rfl, _, rfl, _, rfl, _, rfl, W, c, p, rfl, hh.same su, fun d ls H1 s1 nd S => ?_⟩
      have ht1 := s1 _ _ (su _ _ ht)
      have hb1 : NL H1 b (reached W) := s1 _ _ (su _ _ hb)
      refine ⟨_, rfl, t, _, rfl, .inr (SqT.of ht1), rfl, true, rfl, if_t ?_⟩
      refine ⟨_, rfl, t, _, 0, .str "gap", rfl, rfl, SqT.of ht1, rfl, rfl, true, rfl, if_t ?_⟩
      exact ⟨_, rfl, t, _, 1, .ref b, rfl, rfl, SqT.of ht1, rfl, _, rfl, _, rfl, _, rfl, W, b, d, ls, rfl, ok, hh.few, hb1, ho, S, fun H2 s2 => q H2 ((su.trans s1).trans s2)⟩
    · refine ⟨_, rfl, _, _, _, _, true, rfl, .ty "tuple", .base (.tup ht), rfl, true, rfl, if_f ?_⟩
      refine ⟨_, rfl, t, _, rfl, .inr (SqT.of ht), by show 2 ≤ sizeLine; decide, fun u nu => ?_⟩
      have su := same_new (o := .tup [.int 2, .int 3]) nu
      refine ⟨u, _, rfl, .inr (SqT.of upd_same), rfl, rfl, false, rfl, if_f ?_⟩
      refine ⟨_, rfl, _, rfl, _, rfl, _, rfl, _, rfl, W, c, p, rfl, hh.same su, fun d ls H1 s1 nd S => ?_⟩
      have s01 := su.trans s1
      have ht1 := s01 _ _ ht
      have pls1 : PLst H1 b1 L := by
        obtain ⟨ts, x, y⟩ := pls
        exact ⟨ts, s01 _ _ x, y.same s01⟩
      refine ⟨_, rfl, t, _, rfl, .inr (SqT.of ht1), rfl, false, rfl, if_f ?_⟩
      refine ⟨_, rfl, t, _, 0, .str "plan", rfl, rfl, SqT.of ht1, rfl, rfl, false, rfl, if_f ?_⟩
      refine ⟨_, rfl, t, _, 1, .ref b1, rfl, rfl, SqT.of ht1, rfl, _, rfl, _, rfl, _, rfl, _, rfl, rfl, rfl, W, b1, c, L, rfl, pls1, (hh.same s01).cells, hh.few, ch, fun H2 s2 => ⟨true, rfl, if_f ?_⟩⟩
      have s02 := s01.trans s2
      have ht2 := s02 _ _ ht
      have hl2 : HL H2 b2 W := by
        obtain ⟨ts, x, y, z⟩ := hl
        exact ⟨ts, s02 _ _ x, y, fun i t x o e1 e2 e3 => s02 _ _ (z i t x o e1 e2 e3)⟩
      refine ⟨_, rfl, t, _, 2, .ref b2, rfl, rfl, SqT.of ht2, rfl, _, rfl, _, rfl, _, rfl, W, b2, d, ls, o, rfl, ok, hh.few, hl2, ho, S.same s2, fun hd H3 s3 nh hr3 => ?_⟩
      obtain ⟨kvs, hk, _, v, _⟩ := hr3.val W.e
      rw [ho] at v
      have s03 := s02.trans s3
      have pls3 : PLst H3 b1 L := by
        obtain ⟨ts, x, y⟩ := pls
        exact ⟨ts, s03 _ _ x, y.same s03⟩
      refine ⟨_, rfl, rfl, true, rfl, if_t ?_⟩
      refine ⟨_, rfl, _, rfl, hd, .int o, rfl, .inl ⟨kvs, .inl W.e, .inl hk, rfl, v.symm⟩, ?_⟩
      refine ⟨_, rfl, t, _, 1, .ref b1, rfl, rfl, SqT.of (s03 _ _ ht), rfl, _, rfl, b1, p, L, W.ps, rfl, pls3, (hh.same s03).pts, pl, fun H4 s4 => ⟨rfl, ?_⟩⟩
      show Q (V.bl (decide (V.int o = V.int (tot W.ps L)))) H4
      rw [tt, decide_eq_true rfl]
      exact q H4 (s03.trans s4)
end
end Tg

namespace Tg
open PySem PySem.Spec PyProof.Rows L2 Pl
abbrev sSp : Stmt := topS 30
theorem scSp : FnScope ["_law_draws_here", "_law_pick"] ["_law_draws_here"] (defScope sSp) := ⟨rfl, rfl, rfl, by decide +kernel, rfl, by decide +kernel, by decide +kernel⟩
section
variable {P : Program} {w : World} {K : PySem.W.Frag} {mg : Str → Option Value} {base : Heap} {f : Addr} {fd : FuncData} {k : Nat}
def spSp : Sp := fun vs H Q _ => ∃ (p : Addr) (N : Nat), vs = [.ref p] ∧ Dr H p N ∧ N < 900000 ∧ ∀ (v : Int) (H' : Hp), Kp p H H' → Dr H' p (N + 1) → -10 ≤ v → v ≤ 49 → Q (.int v) H'
theorem ok_sp (F : Fun K "_law_spot" "_law_spot" sSp f fd) (L_next : Cal P w K mg base k "_law_next" ["_law_draws_here"] spNext) : FnOk P w K mg base CX0 (k + 1) f fd ["_law_draws_here"] spSp := by
  refine F.ok scSp (fun vs H Q E h => ?_) (fun cdv A outer s H vs Q E hr h => ?_)
  · obtain ⟨p, N, rfl, _⟩ := h
    rfl
  · obtain ⟨p, N, rfl, dr, n9, q⟩ := h
    refine ⟨_, pss_cons (ps_set (i := 1) scSp.nd rfl (.inl rfl) (pe_cal L_next (hr.mono (by omega)) (by rfl) (pa_cons (pv 0) pa_nil)))
      (pss_one (ps_ret (pe_ix ix_list (pe_lst (pa_cons (pe_op op_mod (pe_op op_fdiv (pv 1) pe_int) pe_int) (pa_cons (pe_op op_mul pe_int (pe_op op_mod (pe_op op_fdiv (pv 1) pe_int) pe_int)) (pa_cons (pe_op op_mul pe_int (pe_op op_mod (pe_op op_fdiv (pv 1) pe_int) pe_int)) (pa_cons (pe_op op_sub (pe_op op_mod (pe_op op_fdiv (pv 1) pe_int) pe_int) pe_int) pa_nil))))) (pe_op op_mod (pv 1) pe_int) (fun _ _ => rfl)))), ?_⟩
    refine ⟨_, rfl, p, N, rfl, dr, by omega, fun v H1 k1 d1 v0 v9 => ?_⟩
    refine ⟨_, rfl, _, _, rfl, rfl, ⟨by decide, by decide⟩, _, _, rfl, rfl, (by show (0 : Int) < 13; decide), ?_⟩
    refine ⟨_, rfl, _, _, rfl, rfl, ⟨by decide, by decide⟩, _, _, rfl, rfl, (by show (0 : Int) < 9; decide), 3, _, rfl, rfl, .inl ⟨by decide, by decide⟩, ?_⟩
    refine ⟨_, rfl, _, _, rfl, rfl, ⟨by decide, by decide⟩, _, _, rfl, rfl, (by show (0 : Int) < 5; decide), 12, _, rfl, rfl, .inl ⟨by decide, by decide⟩, ?_⟩
    refine ⟨_, rfl, _, _, rfl, rfl, ⟨by decide, by decide⟩, _, _, rfl, rfl, (by show (0 : Int) < 60; decide), _, _, rfl, rfl, by show 4 ≤ sizeLine; decide, fun u nu => ?_⟩
    have su := same_new (o := .lst [.int (v / 4 % 13), .int (3 * (v / 4 % 9)), .int (12 * (v / 4 % 5)), .int (v / 4 % 60 - 10)]) nu
    have m0 := Int.emod_nonneg v (show (4 : Int) ≠ 0 by decide)
    have m1 := Int.emod_lt_of_pos v (show (0 : Int) < 4 by decide)
    obtain ⟨e, ee, me⟩ := atI_mem (xs := [v / 4 % 13, 3 * (v / 4 % 9), 12 * (v / 4 % 5), v / 4 % 60 - 10]) (i := v % 4) m0 (by show v % 4 < ((4 : Nat) : Int); omega)
    have eb : -10 ≤ e ∧ e ≤ 49 := by
      simp only [List.mem_cons, List.not_mem_nil, or_false] at ee
      omega
    refine ⟨_, rfl, _, _, rfl, rfl, (by show (0 : Int) < 4; decide), u, _, _, _, rfl, rfl, SqL.of upd_same, me, ?_⟩
    exact q e _ (k1.trans (Kp.of su)) (d1.same su) eb.1 eb.2
end
end Tg

namespace Tg
open PySem PySem.Spec PyProof.Rows L2
/-! ### slices of lists of ints -/
theorem cutN_some (ns : List Int) (lo hi : Option Int) : ∃ ms : List Int, cutV (ns.map V.int) lo hi = ms.map V.int ∧ ms.length ≤ ns.length ∧ ∀ x, x ∈ ms → x ∈ ns := by
  unfold cutV
  refine ⟨(ns.drop (HT.sIx (ns.map V.int).length 0 lo)).take (HT.sIx (ns.map V.int).length (ns.map V.int).length hi - HT.sIx (ns.map V.int).length 0 lo), ?_, ?_, fun x hx => List.mem_of_mem_drop (List.mem_of_mem_take hx)⟩
  · rw [List.map_take, List.map_drop]
  · simp only [List.length_take, List.length_drop]
    omega
theorem cutN_take (ns : List Int) (i : Nat) : cutV (ns.map V.int) none (some (i : Int)) = (ns.take i).map V.int := by
  unfold cutV
  have e : HT.sIx (ns.map V.int).length (ns.map V.int).length (some (i : Int)) = min i ns.length := by
    show (if (i : Int) < 0 then ((i : Int) + ((ns.map V.int).length : Nat)).toNat else min (i : Int).toNat (ns.map V.int).length) = _
    rw [if_neg (by omega), List.length_map]
    rfl
  rw [HT.sIx_none, e, List.drop_zero, Nat.sub_zero, List.map_take]
  rw [← List.length_map (f := V.int), List.take_eq_take_iff]
  omega
theorem cutN_drop (ns : List Int) (i : Nat) : cutV (ns.map V.int) (some (i : Int)) none = (ns.drop i).map V.int := by
  unfold cutV
  have e : HT.sIx (ns.map V.int).length 0 (some (i : Int)) = min i ns.length := by
    show (if (i : Int) < 0 then ((i : Int) + ((ns.map V.int).length : Nat)).toNat else min (i : Int).toNat (ns.map V.int).length) = _
    rw [if_neg (by omega), List.length_map]
    rfl
  rw [HT.sIx_none, e, List.map_drop, List.length_map]
  rcases Nat.le_total i ns.length with c | c
  · rw [Nat.min_eq_left c]
    exact List.take_of_length_le (by rw [List.length_drop, List.length_map]; omega)
  · rw [Nat.min_eq_right c, Nat.sub_self, List.take_zero]
    exact (List.drop_eq_nil_of_le (by rw [List.length_map]; exact c)).symm
end Tg

namespace Tg
open PySem PySem.Spec PyProof.Rows L2
/-! ### data that may be compared: written plainly, at most n deep, and equal to itself -/
structure Form (d : PyData) (n : Nat) : Prop where
  lay : d.canLay0 = true
  deep : d.depth ≤ n
  own : PyData.eqv d d = true
structure Forms (ds : List PyData) (n : Nat) : Prop where
  lay : PyData.canLayAll0 ds = true
  deep : PyData.depthAll ds ≤ n
  own : PyData.eqvAll ds ds = true
theorem Form.shaped {d : PyData} {n : Nat} (h : Form d n) (few : n ≤ 64) : SeqAt.shaped d = true := shaped_of h.lay (Nat.le_trans h.deep few)
theorem Form.up {d : PyData} {n m : Nat} (h : Form d n) (le : n ≤ m) : Form d m := ⟨h.lay, Nat.le_trans h.deep le, h.own⟩
theorem Form.int (i : Int) (n : Nat) : Form (.int i) n := ⟨rfl, Nat.zero_le _, by show (i == i) = true; exact beq_self_eq_true i⟩
theorem Form.bl (b : Bool) (n : Nat) : Form (.bool b) n := ⟨rfl, Nat.zero_le _, by show (b == b) = true; exact beq_self_eq_true b⟩
theorem Form.non (n : Nat) : Form .none n := ⟨rfl, Nat.zero_le _, rfl⟩
theorem Form.str {z : Str} (h : PyData.strOk z = true) (n : Nat) : Form (.str z) n := ⟨h, Nat.zero_le _, by show (z == z) = true; exact beq_self_eq_true z⟩
theorem Forms.nil (n : Nat) : Forms [] n := ⟨rfl, Nat.zero_le _, rfl⟩
theorem Forms.cons {d : PyData} {ds : List PyData} {n : Nat} (a : Form d n) (b : Forms ds n) : Forms (d :: ds) n :=
  ⟨by show (d.canLay0 && PyData.canLayAll0 ds) = true; rw [a.lay, b.lay]; rfl, Nat.max_le.mpr ⟨a.deep, b.deep⟩, by show (PyData.eqv d d && PyData.eqvAll ds ds) = true; rw [a.own, b.own]; rfl⟩
theorem Forms.of {n : Nat} : ∀ {ds : List PyData}, (∀ d, d ∈ ds → Form d n) → Forms ds n
  | [], _ => .nil n
  | d :: r, h => .cons (h d (.head _)) (.of fun e he => h e (.tail _ he))
theorem Forms.map {α : Type} {f : α → PyData} {n : Nat} (h : ∀ x, Form (f x) n) (xs : List α) : Forms (xs.map f) n := .of fun d hd => by
  obtain ⟨x, _, rfl⟩ := List.mem_map.mp hd
  exact h x
theorem Form.list {ds : List PyData} {n : Nat} (h : Forms ds n) : Form (.list ds) (n + 1) := ⟨h.lay, Nat.succ_le_succ h.deep, h.own⟩
theorem Form.tup {ds : List PyData} {n : Nat} (h : Forms ds n) : Form (.tuple ds) (n + 1) := ⟨h.lay, Nat.succ_le_succ h.deep, h.own⟩
end Tg

set_option maxHeartbeats 1000000
namespace Tg
open PySem PySem.Spec PyProof.Rows L2 Pl
/-- a world in the heap -/
def WorldR (K : PySem.W.Frag) (H : Hp) (t : Addr) (W : Wd) (c p : Addr) : Prop := H t = some (.tup [.int W.s, .int W.e, hV W.h, .ref c, .ref p]) ∧ Handed K H W c p
theorem WorldR.same {K : PySem.W.Frag} {H H' : Hp} {t c p : Addr} {W : Wd} (s : Same H H') (h : WorldR K H t W c p) : WorldR K H' t W c p := ⟨s _ _ h.1, h.2.same s⟩
/-! ### what is told, as data; it is one -/
theorem chain_last {W : Wd} {L : List Pce} {p : Pce} {a b : Int} (h : Chain W a (L ++ [p]) b) : p.2.2 = b ∧ Chain W a L p.2.1 ∧ p.2.1 < p.2.2 := by
  obtain ⟨m, h1, h2, h3, h4⟩ := chain_split h
  have h2 : p.2.1 = m := h2
  have h4 : p.2.2 = b := h4
  exact ⟨h4, h2 ▸ h1, h3.fw⟩
theorem chain_empty {W : Wd} {L : List Pce} {a : Int} (h : Chain W a L a) : L = [] := by
  have := chain_len h
  cases L with
  | nil => rfl
  | cons p r =>
    rw [List.length_cons] at this
    omega
theorem ofp_one {W : Wd} : ∀ (n : Nat) {L M : List Pce} {e : Int}, L.length = n → Chain W W.s L e → Chain W W.s M e → OfP W L → OfP W M → L = M
  | 0, L, M, e, hn, h, g, _, _ => by
    obtain rfl := List.length_eq_zero_iff.mp hn
    have z : W.s = e := h
    subst z
    exact (chain_empty g).symm
  | n + 1, L, M, e, hn, h, g, o1, o2 => by
    rcases List.eq_nil_or_concat L with rfl | ⟨L0, p, rfl⟩
    · cases hn
    · rw [List.concat_eq_append] at *
      obtain ⟨pe, pc, pf⟩ := chain_last h
      rcases List.eq_nil_or_concat M with rfl | ⟨M0, q, rfl⟩
      · have z : W.s = e := g
        have := chain_len pc
        omega
      · rw [List.concat_eq_append] at *
        obtain ⟨qe, qc, _⟩ := chain_last g
        have e1 := o1 p (List.mem_append_right _ (.head _))
        have e2 := o2 q (List.mem_append_right _ (.head _))
        rw [pe] at e1
        rw [qe, e1] at e2
        have e3 := Option.some.inj e2
        have a1 : p.1 = q.1 := (Prod.mk.inj e3).1
        have a2 : p.2.1 = q.2.1 := (Prod.mk.inj e3).2
        have pq : p = q := Prod.ext a1 (Prod.ext a2 (pe.trans qe.symm))
        subst pq
        rw [ofp_one n (L := L0) (M := M0) (by rw [List.length_append] at hn; exact Nat.succ.inj hn) pc qc (fun x hx => o1 x (List.mem_append_left _ hx)) fun x hx => o2 x (List.mem_append_left _ hx)]
theorem fit_one {W : Wd} {L M : List Pce} (h : Fit W L) (g : Fit W M) : L = M := by
  obtain ⟨L0, rfl, c1, o1⟩ := h
  obtain ⟨M0, rfl, c2, o2⟩ := g
  rw [ofp_one _ rfl c1 c2 o1 o2]
def pceD (p : Pce) : PyData := .tuple [.str (wdS p.1), .int p.2.1, .int p.2.2]
def htD (W : Wd) (x : Int) : PyData := .tuple [.int x, .int ((hts W x).getD 0)]
def gapD (W : Wd) : PyData := .tuple [.str "gap", .list ((reached W).map PyData.int)]
def planD (W : Wd) (L : List Pce) : PyData := .tuple [.str "plan", .list (L.map pceD), .list ((reached W).map (htD W))]
theorem form_pce (p : Pce) : Form (pceD p) 1 := .tup (.cons (.str (by cases p.1 <;> decide +kernel) 0) (.cons (.int _ 0) (.cons (.int _ 0) (.nil 0))))
theorem form_ht (W : Wd) (x : Int) : Form (htD W x) 1 := .tup (.cons (.int _ 0) (.cons (.int _ 0) (.nil 0)))
theorem form_gap (W : Wd) : Form (gapD W) 2 := .tup (.cons (.str (by decide +kernel) 1) (.cons (.list (.map (fun x => .int x 0) _)) (.nil 1)))
theorem form_plan (W : Wd) (L : List Pce) : Form (planD W L) 3 := .tup (.cons (.str (by decide +kernel) 2) (.cons (.list (.map form_pce _)) (.cons (.list (.map (form_ht W) _)) (.nil 2))))
/-- the data told -/
def ToldD (W : Wd) (d : PyData) : Prop := (hts W W.e = none ∧ d = gapD W) ∨ ∃ o L, hts W W.e = some o ∧ Fit W L ∧ d = planD W L
theorem told_one {W : Wd} {a b : PyData} (h : ToldD W a) (g : ToldD W b) : a = b := by
  rcases h with ⟨h1, rfl⟩ | ⟨o, L, h1, h2, rfl⟩ <;> rcases g with ⟨g1, rfl⟩ | ⟨q, M, g1, g2, rfl⟩
  · rfl
  · rw [h1] at g1
    cases g1
  · rw [h1] at g1
    cases g1
  · rw [fit_one h2 g2]
theorem told_form {W : Wd} {a : PyData} (h : ToldD W a) : Form a 3 := by
  rcases h with ⟨_, rfl⟩ | ⟨_, L, _, _, rfl⟩
  · exact (form_gap W).up (by decide)
  · exact form_plan W L
section
variable {K : PySem.W.Frag} {H : Hp}
theorem plt_dp : ∀ {ts : List Addr} {L : List Pce}, PLt H ts L → DpAll K H (ts.map V.ref) (L.map pceD)
  | [], [], _ => .nil
  | t :: ts, p :: L, h => .cons (.tup (SqT.of h.1) (.cons (.str _) (.cons (.int _) (.cons (.int _) .nil)))) (plt_dp h.2)
theorem each_dp {α : Type} {f : α → PyData} : ∀ {vs : List V} {xs : List α}, vs.length = xs.length → (∀ (i : Nat) (v : V) (x : α), vs[i]? = some v → xs[i]? = some x → Dp K H v (f x)) → DpAll K H vs (xs.map f)
  | [], [], _, _ => .nil
  | v :: vs, x :: xs, l, h => .cons (h 0 v x rfl rfl) (each_dp (Nat.succ.inj l) fun i a b e1 e2 => h (i + 1) a b e1 e2)
theorem ints_dp : ∀ ns : List Int, DpAll K H (ns.map V.int) (ns.map PyData.int)
  | [] => .nil
  | n :: r => .cons (.int n) (ints_dp r)
theorem told_dp {W : Wd} {t : Addr} (h : Gap H t W ∨ ∃ o L, Plan H t W o L) : ∃ d, Dp K H (.ref t) d ∧ ToldD W d := by
  rcases h with ⟨g, b, ht, hb⟩ | ⟨o, L, g, _, _, fit, b1, b2, ht, ⟨ts, hb1, pl⟩, us, hb2, lu, each⟩
  · exact ⟨gapD W, .tup (SqT.of ht) (.cons (.str _) (.cons (.lst (SqL.of hb) (ints_dp _)) .nil)), .inl ⟨g, rfl⟩⟩
  · refine ⟨planD W L, .tup (SqT.of ht) (.cons (.str _) (.cons (.lst (SqL.of hb1) (plt_dp pl)) (.cons (.lst (SqL.of hb2) ?_) .nil))), .inr ⟨o, L, g, fit, rfl⟩⟩
    refine each_dp (by rw [List.length_map, lu]) fun i v x e1 e2 => ?_
    rw [List.getElem?_map] at e1
    obtain ⟨u, eu, rfl⟩ := Option.map_eq_some_iff.mp e1
    obtain ⟨_, y, ey⟩ := reached_mem (List.mem_of_getElem? e2)
    have := each i u x y eu e2 ey
    refine .tup (SqT.of this) (.cons (.int _) (.cons ?_ .nil))
    rw [ey]
    exact .int y
/-- the law's cells: a list -/
def CL (K : PySem.W.Frag) (H : Hp) (c : Addr) (cs : List (Int × Int)) : Prop := ∃ ts : List Addr, H c = some (.lst (ts.map V.ref)) ∧ DpAll K H (ts.map V.ref) (cs.map pd)
theorem CL.same {H' : Hp} {c : Addr} {cs : List (Int × Int)} (s : Same H H') (h : CL K H c cs) : CL K H' c cs := by
  obtain ⟨ts, h1, h2⟩ := h
  exact ⟨ts, s _ _ h1, dpAll_same s h2⟩
theorem CL.dp {c : Addr} {cs : List (Int × Int)} (h : CL K H c cs) : Dp K H (.ref c) (.list (cs.map pd)) := by
  obtain ⟨ts, h1, h2⟩ := h
  exact .lst (SqL.of h1) h2
theorem dp_pair {v : Addr} {x : Int × Int} (h : Dp K H (.ref v) (pd x)) : SqT K H v [.int x.1, .int x.2] := by
  cases h with
  | tup a b =>
    cases b with
    | cons b1 b2 =>
      cases b1
      cases b2 with
      | cons b3 b4 =>
        cases b3
        cases b4
        exact a
theorem CL.seq {c : Addr} {cs : List (Int × Int)} {ts : List Addr} {a : Addr} (sq : SqA K H a (ts.map V.ref)) (h2 : DpAll K H (ts.map V.ref) (cs.map pd)) : CellsR K H a cs := by
  refine ⟨ts, sq, by have := dl_len h2; rw [List.length_map] at this; exact this, fun i t x e1 e2 => ?_⟩
  obtain ⟨y, ey, dy⟩ := dl_at (v := .ref t) h2 (i := i) (by rw [List.getElem?_map, e1]; rfl)
  rw [e2] at ey
  obtain rfl := Option.some.inj ey
  exact dp_pair dy
theorem CL.cells {c : Addr} {cs : List (Int × Int)} (h : CL K H c cs) : CellsR K H c cs := by
  obtain ⟨ts, h1, h2⟩ := h
  exact CL.seq (c := c) (.inl (SqL.of h1)) h2
end
end Tg

set_option maxHeartbeats 1000000
namespace Tg
open PySem PySem.Spec PyProof.Rows L2 Pl
/-! ### _law_world -/
theorem pick_int {xs : List Int} {n : Int} (v : Int) (h : n = xs.length) (pos : 0 < n) : ∃ e, e ∈ xs ∧ atI (xs.map V.int) (v % n) = some (.int e) := by
  have h0 := Int.emod_nonneg v (show n ≠ 0 by omega)
  have h1 := Int.emod_lt_of_pos v pos
  exact atI_mem h0 (by omega)
theorem pick_h (v a b : Int) : ∃ h : Option Int, atI [V.non, .non, .int a, .int b] (v % 4) = some (hV h) := by
  have h0 := Int.emod_nonneg v (show (4 : Int) ≠ 0 by decide)
  have h1 := Int.emod_lt_of_pos v (show (0 : Int) < 4 by decide)
  obtain h | h | h | h : v % 4 = 0 ∨ v % 4 = 1 ∨ v % 4 = 2 ∨ v % 4 = 3 := by omega
  all_goals rw [h]
  · exact ⟨none, rfl⟩
  · exact ⟨none, rfl⟩
  · exact ⟨some a, rfl⟩
  · exact ⟨some b, rfl⟩
theorem refs_pd {K : PySem.W.Frag} {H : Hp} : ∀ {xs : List V} {cs : List (Int × Int)}, DpAll K H xs (cs.map pd) → ∃ ts : List Addr, xs = ts.map V.ref
  | [], [], _ => ⟨[], rfl⟩
  | x :: xs, c :: cs, .cons a b => by
    obtain ⟨ts, rfl⟩ := refs_pd b
    cases a with
    | tup h _ => exact ⟨_ :: ts, rfl⟩
theorem nc (n : Int) (h : 0 ≤ n) : n = ((n.toNat : Nat) : Int) := by omega
/-- a cell, moved -/
def shC (far : Int) (c : Int × Int) : Int × Int := (c.1 + far, c.2 + far)
abbrev sWo : Stmt := topS 31
abbrev NWo : List Str := ["_law_draws_here", "_law_start", "_law_end", "_law_a_cells", "_law_k", "_law_width", "_law_first", "_law_far", "_law_a_horizon", "_law_a_points", "_law_one", "_law_two", "_law_time"]
theorem scWo : FnScope NWo ["_law_draws_here"] (defScope sWo) := ⟨rfl, rfl, rfl, by decide +kernel, rfl, by decide +kernel, by decide +kernel⟩
section
variable {P : Program} {w : World} {K : PySem.W.Frag} {mg : Str → Option Value} {base : Heap} {f : Addr} {fd : FuncData} {k : Nat}
def spWo (K : PySem.W.Frag) : Sp := fun vs H Q _ => ∃ (q : Addr) (N : Nat), vs = [.ref q] ∧ Dr H q N ∧ N < 800000 ∧
  ∀ (W : Wd) (t c p : Addr) (H' : Hp) (N' : Nat), Kp q H H' → Dr H' q N' → N' ≤ N + 100 → WorldR K H' t W c p → CL K H' c W.cs → H c = none → NL H' p W.ps → H p = none → W.Ok → W.e - W.s ≤ 100 → W.ps.length ≤ 20 → W.cs.length ≤ 14 → Q (.ref t) H'
theorem ok_wo (F : Fun K "_law_world" "_law_world" sWo f fd) (L_spot : Cal P w K mg base k "_law_spot" ["_law_draws_here"] spSp) (L_next : Cal P w K mg base k "_law_next" ["_law_draws_here"] spNext) (m_range : mg "range" = none) (m_sorted : mg "sorted" = none) : FnOk P w K mg base CX0 (k + 1) f fd ["_law_draws_here"] (spWo K) := by
  refine F.ok scWo (fun vs H Q E h => ?_) (fun cdv A outer s H vs Q E hr h => ?_)
  · obtain ⟨q, N, rfl, _⟩ := h
    rfl
  · obtain ⟨q, N, rfl, dr, n8, Qd⟩ := h
    refine ⟨_, pss_cons (ps_set (i := 1) scWo.nd rfl (.inr rfl) (pe_cal L_spot (hr.mono (by omega)) (by rfl) (pa_cons (pv 0) pa_nil)))
      (pss_cons (ps_set (i := 2) scWo.nd rfl (.inl rfl) (pe_op op_add (pe_op op_add (pv 1) (pe_ix ix_list (pe_lst (pa_cons pe_int (pa_cons pe_int (pa_cons pe_int (pa_cons pe_int (pa_cons pe_int (pa_cons pe_int pa_nil))))))) (pe_op op_mod (pe_cal L_next (hr.mono (by omega)) (by rfl) (pa_cons (pv 0) pa_nil)) pe_int) (fun _ _ => rfl))) (pe_op op_mod (pe_cal L_next (hr.mono (by omega)) (by rfl) (pa_cons (pv 0) pa_nil)) pe_int)))
      (pss_cons (ps_set (i := 3) scWo.nd rfl (.inl rfl) (pe_lst pa_nil))
      (pss_cons (ps_for PassesOwn.never rfl (pi_range1 (by rfl) m_range (pa_cons (pe_op op_mod (pe_cal L_next (hr.mono (by omega)) (by rfl) (pa_cons (pv 0) pa_nil)) pe_int) pa_nil)) (pg_name (i := 4) scWo.nd rfl (.inl rfl))
        (pss_cons (ps_set (i := 5) scWo.nd rfl (.inl rfl) (pe_ix ix_list (pe_lst (pa_cons pe_int (pa_cons pe_int (pa_cons pe_int (pa_cons pe_int pa_nil))))) (pe_op op_mod (pe_cal L_next (hr.mono (by omega)) (by rfl) (pa_cons (pv 0) pa_nil)) pe_int) (fun _ _ => rfl)))
        (pss_cons (ps_set (i := 6) scWo.nd rfl (.inl rfl) (pe_op op_add (pe_op op_mul (pe_op op_fdiv (pv 1) (pv 5)) (pv 5)) (pe_op op_mul (pv 5) (pe_op op_sub (pe_op op_mod (pe_cal L_next (hr.mono (by omega)) (by rfl) (pa_cons (pv 0) pa_nil)) pe_int) pe_int))))
        (pss_one (ps_expr (pe_bm PySem.F.plainAttrs_list PySem.F.slot_list_append PySem.F.type_list_append mt_append (pv 3) (pa_cons (pe_tup (pa_cons (pv 6) (pa_cons (pe_op op_add (pv 6) (pv 5)) pa_nil))) pa_nil)))))))
      (pss_cons (ps_set (i := 7) scWo.nd rfl (.inr rfl) (pe_ix ix_list (pe_lst (pa_cons pe_int (pa_cons (pe_op op_pow pe_int pe_int) (pa_cons (pe_op op_sub pe_int (pe_op op_pow pe_int pe_int)) pa_nil)))) (pe_op op_mod (pe_cal L_next (hr.mono (by omega)) (by rfl) (pa_cons (pv 0) pa_nil)) pe_int) (fun _ _ => rfl)))
      (pss_cons (ps_set (i := 8) scWo.nd rfl (.inl rfl) (pe_ix ix_list (pe_lst (pa_cons pe_non (pa_cons pe_non (pa_cons (pv 1) (pa_cons (pe_op op_sub (pe_op op_add (pv 1) (pe_op op_mod (pe_cal L_next (hr.mono (by omega)) (by rfl) (pa_cons (pv 0) pa_nil)) pe_int)) pe_int) pa_nil))))) (pe_op op_mod (pe_cal L_next (hr.mono (by omega)) (by rfl) (pa_cons (pv 0) pa_nil)) pe_int) (fun _ _ => rfl)))
      (pss_cons (ps_setLc (i := 9) (own := [("_law_k", 4)]) (g := (gName 4)) (tt := tYes) rfl scWo.nd rfl rfl (sw_true rfl rfl rfl (by decide +kernel)) (pi_range1 (by rfl) m_range (pa_cons (pe_op op_mod (pe_cal L_next (hr.mono (by omega)) (by rfl) (pa_cons (pv 0) pa_nil)) pe_int) pa_nil)) (blkOk_by (own := [("_law_k", 4)]) (N := NWo) (sc := defScope sWo) (by decide +kernel)) (fun _ _ _ _ _ => (pg_name (i := 4) scWo.nd rfl (.inl rfl))) (fun _ _ _ _ _ => pts_nil) (fun _ _ _ _ _ => (pe_op op_add (pe_op op_sub (pv 1) pe_int) (pe_op op_mod (pe_cal L_next (hr.mono (by omega)) (by rfl) (pa_cons (pv 0) pa_nil)) pe_int))))
      (pss_cons (ps_setLc (i := 3) (own := [("_law_one", 10), ("_law_two", 11)]) (g := (gTup K 2 (gCons (gName 10) (gCons (gName 11) gNil)))) (tt := tYes) rfl scWo.nd rfl rfl (sw_true rfl rfl rfl (by decide +kernel)) (pi_list (pv 3)) (blkOk_by (own := [("_law_one", 10), ("_law_two", 11)]) (N := NWo) (sc := defScope sWo) (by decide +kernel)) (fun _ _ _ _ _ => (pg_tup rfl (pgs_cons (pg_name (i := 10) scWo.nd rfl (.inl rfl)) (pgs_cons (pg_name (i := 11) scWo.nd rfl (.inl rfl)) pgs_nil)))) (fun _ _ _ _ _ => pts_nil) (fun _ _ _ _ _ => (pe_tup (pa_cons (pe_op op_add (pv 10) (pv 7)) (pa_cons (pe_op op_add (pv 11) (pv 7)) pa_nil)))))
      (pss_cons (ps_if (pt_cmpR op_notN (pv 8) pe_non (nomark _))
        (pss_one (ps_set (i := 8) scWo.nd rfl (.inl rfl) (pe_op op_add (pv 8) (pv 7))))
        pss_nil)
      (pss_one (ps_ret (pe_tup (pa_cons (pe_op op_add (pv 1) (pv 7)) (pa_cons (pe_op op_add (pv 2) (pv 7)) (pa_cons (pv 8) (pa_cons (pv 3) (pa_cons (pe_callB cr_sortedI (by rfl) m_sorted (by decide +kernel) (pa_cons (pe_lc (own := [("_law_time", 12)]) (g := (gName 12)) (tt := tYes) rfl scWo.nd (pi_list (pv 9)) (blkOk_by (own := [("_law_time", 12)]) (N := NWo) (sc := defScope sWo) (by decide +kernel)) (fun _ _ _ _ _ => (pg_name (i := 12) scWo.nd rfl (.inl rfl))) (fun _ _ _ _ _ => pts_nil) (fun _ _ _ _ _ => (pe_op op_add (pv 12) (pv 7)))) pa_nil)) pa_nil)))))))))))))))), ?_⟩
    refine ⟨_, rfl, q, N, rfl, dr, by omega, fun a H1 k1 d1 a0 a9 => ?_⟩
    -- the end
    refine ⟨_, rfl, by show 6 ≤ sizeLine; decide, fun l1 n1 => ?_⟩
    have s1 := same_new (o := .lst [.int 0, .int 1, .int 24, .int 36, .int 48, .int 7]) n1
    refine ⟨_, rfl, q, N + 1, rfl, d1.same s1, by omega, fun v2 H2 k2 d2 _ _ => ?_⟩
    have l1q := d1.ne n1
    obtain ⟨e1, me1, at1⟩ := pick_int (xs := [0, 1, 24, 36, 48, 7]) (n := 6) v2 rfl (by decide)
    refine ⟨_, _, rfl, rfl, (by show (0 : Int) < 6; decide), l1, _, _, _, rfl, rfl, SqL.of (k2 _ _ l1q upd_same), at1, _, _, rfl, rfl, ?_⟩
    refine ⟨_, rfl, q, N + 2, rfl, d2, by omega, fun v3 H3 k3 d3 _ _ => ?_⟩
    have m30 := Int.emod_nonneg v3 (show (3 : Int) ≠ 0 by decide)
    have m31 := Int.emod_lt_of_pos v3 (show (0 : Int) < 3 by decide)
    refine ⟨_, _, rfl, rfl, (by show (0 : Int) < 3; decide), _, _, rfl, rfl, ?_⟩
    obtain ⟨b, eb⟩ : ∃ b, a + e1 + v3 % 3 = b := ⟨_, rfl⟩
    have ab : a ≤ b ∧ b - a ≤ 50 := by
      simp only [List.mem_cons, List.not_mem_nil, or_false] at me1
      omega
    show gName 2 (V.int (a + e1 + v3 % 3)) _ _ _
    rw [eb]
    have k13 : Kp q H H3 := k1.trans ((Kp.of s1).trans (k2.trans k3))
    -- the cells
    refine ⟨Nat.zero_le _, fun lc nlc => ?_⟩
    have lcq := d3.ne nlc
    have sc := same_new (o := .lst []) nlc
    refine ⟨_, rfl, q, N + 3, rfl, d3.same sc, by omega, fun v4 H4 k4 d4 _ _ => ?_⟩
    have m40 := Int.emod_nonneg v4 (show (14 : Int) ≠ 0 by decide)
    have m41 := Int.emod_lt_of_pos v4 (show (0 : Int) < 14 by decide)
    refine ⟨_, _, rfl, rfl, (by show (0 : Int) < 14; decide), (((v4 % 14).toNat : Nat) : Int), congrArg (fun n : Int => [V.int n]) (nc _ m40), by omega, by omega, for_range (lo := 0) (n := (v4 % 14).toNat) (fun i σ Hc => ∃ (z4 z5 z6 : Option V) (cs : List (Int × Int)), σ = [some (.ref q), some (.int a), some (.int b), some (.ref lc), z4, z5, z6, none, none, none, none, none, none] ∧ LD K Hc lc (cs.map pd) ∧ (∀ c, c ∈ cs → c.1 < c.2) ∧ cs.length = i ∧ Dr Hc q (N + 4 + 2 * i) ∧ (∀ c o, c ≠ q → c ≠ lc → H4 c = some o → Hc c = some o)) ⟨none, none, none, [], rfl, ⟨[], k4 _ _ lcq upd_same, .nil⟩, (fun c h => by cases h), rfl, d4, fun _ _ _ _ h => h⟩ ?_ ?_⟩
    · rintro i σ Hc hi ⟨z4, z5, z6, cs, rfl, ⟨xs, hx, dx⟩, fw, lcs, dc, kc⟩
      refine ⟨by show 4 ≤ sizeLine; decide, fun l nl => ?_⟩
      have sl := same_new (o := .lst [.int 1, .int 3, .int 12, .int 24]) nl
      have lq := dc.ne nl
      refine ⟨_, rfl, q, N + 4 + 2 * i, rfl, dc.same sl, by omega, fun w5 H5 k5 d5 _ _ => ?_⟩
      obtain ⟨wd, mw, atw⟩ := pick_int (xs := [1, 3, 12, 24]) (n := 4) w5 rfl (by decide)
      refine ⟨_, _, rfl, rfl, (by show (0 : Int) < 4; decide), l, _, _, _, rfl, rfl, SqL.of (k5 _ _ lq upd_same), atw, ?_⟩
      have wp : 0 < wd ∧ wd ≤ 24 := by
        simp only [List.mem_cons, List.not_mem_nil, or_false] at mw
        omega
      refine ⟨_, rfl, _, rfl, a, wd, rfl, rfl, ⟨wp.1, by omega⟩, _, rfl, _, wd, rfl, rfl, .inr ⟨by omega, by omega⟩, _, rfl, _, rfl, q, N + 4 + 2 * i + 1, rfl, d5, by omega, fun w6 H6 k6 d6 _ _ => ?_⟩
      refine ⟨_, _, rfl, rfl, (by show (0 : Int) < 6; decide), _, _, rfl, rfl, wd, _, rfl, rfl, .inl ⟨by omega, by omega⟩, _, _, rfl, rfl, ?_⟩
      obtain ⟨x, ex⟩ : ∃ x, a / wd * wd + wd * (w6 % 6 - 1) = x := ⟨_, rfl⟩
      show gName 6 (V.int (a / wd * wd + wd * (w6 % 6 - 1))) _ _ _
      rw [ex]
      have kq : Kp q Hc H6 := (Kp.of sl).trans (k5.trans k6)
      have hx6 := kq _ _ lcq hx
      refine ⟨_, rfl, .inl ⟨rfl, _, SqL.of hx6⟩, _, rfl, _, rfl, _, rfl, _, _, rfl, rfl, by show 2 ≤ sizeLine; decide, fun t nt => ?_⟩
      have st := same_new (o := .tup [.int x, .int (x + wd)]) nt
      obtain ⟨H7, e7⟩ : ∃ H7, upd H6 t (.tup [.int x, .int (x + wd)]) = H7 := ⟨_, rfl⟩
      have ht7 : H7 t = some (.tup [.int x, .int (x + wd)]) := by
        rw [← e7]
        exact upd_same
      rw [e7] at st ⊢
      have hx7 := st _ _ hx6
      obtain ⟨_, _, _, hq, _⟩ := id dc
      have kt : KT Hc H7 := (KT.kp kq hq nfix_lst).trans (KT.of st)
      have xl := dl_len dx
      refine ⟨lc, _, _, rfl, rfl, hx7, small1000 (by omega), _, _, _, cs ++ [(x, x + wd)], rfl, ?_, fun c hc => ?_, by rw [List.length_append, lcs]; rfl, ?_, fun c o n1 n2 e => ?_⟩
      · rw [List.map_append]
        exact .snoc kt hx7 dx (td_pds cs) (pd_new (x := (x, x + wd)) ht7) (td_pd (x, x + wd))
      · rcases List.mem_append.mp hc with h | h
        · exact fw c h
        · rw [List.mem_singleton.mp h]
          show x < x + wd
          omega
      · obtain ⟨y1, y2, y3, y4, y5, y6⟩ := d6
        refine ⟨y1, y2, y3, ?_, y5, by omega⟩
        rw [upd_ne lcq.symm]
        exact st _ _ y4
      · rw [upd_ne n2]
        exact st _ _ (kq _ _ n1 (kc c o n1 n2 e))
    · rintro σ Hc ⟨z4, z5, z6, cs, rfl, hl, fw, lcs, dc, kc⟩
      have free : ∀ {G G' : Hp} {c : Addr}, Kp q G G' → c ≠ q → G' c = none → G c = none := fun {G G' c} kk ne nn => by
        cases e : G c with
        | none => rfl
        | some o =>
          have := kk c o ne e
          rw [nn] at this
          cases this
      have nlcH : H lc = none := free k13 lcq nlc
      have few : cs.length ≤ 14 := by omega
      have kHc : Kp q H Hc := fun c o n1 e => kc c o n1 (ne_of_none e nlcH) (k4 _ _ n1 (sc _ _ (k13 _ _ n1 e)))
      obtain ⟨M, eM⟩ : ∃ M, N + 4 + 2 * (v4 % 14).toNat = M := ⟨_, rfl⟩
      have Mb : M ≤ N + 32 := by omega
      rw [eM] at dc
      -- far
      refine ⟨10, 12, rfl, rfl, ⟨by decide, by decide, by decide⟩, 10, 12, rfl, rfl, ⟨by decide, by decide, by decide⟩, _, _, rfl, rfl, by show 3 ≤ sizeLine; decide, fun l5 n5 => ?_⟩
      have s5 := same_new (o := .lst [.int 0, .int (10 ^ 12), .int (0 - 10 ^ 12)]) n5
      refine ⟨_, rfl, q, M, rfl, dc.same s5, by omega, fun v5 H5 k5 d5 _ _ => ?_⟩
      obtain ⟨far, mfar, atf⟩ := pick_int (xs := [0, 10 ^ 12, 0 - 10 ^ 12]) (n := 3) v5 rfl (by decide)
      refine ⟨_, _, rfl, rfl, (by show (0 : Int) < 3; decide), l5, _, _, _, rfl, rfl, SqL.of (k5 _ _ (dc.ne n5) upd_same), atf, ?_⟩
      have kH5 : Kp q H H5 := kHc.trans ((Kp.of s5).trans k5)
      have kc5 : Kp q Hc H5 := (Kp.of s5).trans k5
      -- the horizon
      refine ⟨_, rfl, _, rfl, _, rfl, q, M + 1, rfl, d5, by omega, fun v6 H6 k6 d6 _ _ => ?_⟩
      refine ⟨_, _, rfl, rfl, (by show (0 : Int) < 40; decide), _, _, rfl, rfl, _, _, rfl, rfl, by show 4 ≤ sizeLine; decide, fun l6 n6 => ?_⟩
      have s6 := same_new (o := .lst [.non, .non, .int a, .int (a + v6 % 40 - 4)]) n6
      refine ⟨_, rfl, q, M + 2, rfl, d6.same s6, by omega, fun v7 H7 k7 d7 _ _ => ?_⟩
      obtain ⟨h, ath⟩ := pick_h v7 a (a + v6 % 40 - 4)
      refine ⟨_, _, rfl, rfl, (by show (0 : Int) < 4; decide), l6, _, _, _, rfl, rfl, SqL.of (k7 _ _ (d6.ne n6) upd_same), ath, ?_⟩
      have kc7 : Kp q Hc H7 := kc5.trans (k6.trans ((Kp.of s6).trans k7))
      -- the points
      refine ⟨_, rfl, q, M + 3, rfl, d7, by omega, fun v8 H8 k8 d8 _ _ => ?_⟩
      have m80 := Int.emod_nonneg v8 (show (20 : Int) ≠ 0 by decide)
      have m81 := Int.emod_lt_of_pos v8 (show (0 : Int) < 20 by decide)
      have kc8 : Kp q Hc H8 := kc7.trans k8
      refine ⟨_, _, rfl, rfl, (by show (0 : Int) < 20; decide), (((v8 % 20).toNat : Nat) : Int), congrArg (fun n : Int => [V.int n]) (nc _ m80), by omega, by omega, fun D nD => lc_range (n := (v8 % 20).toNat) (fun i Hz => Kp q H8 Hz ∧ Dr Hz q (M + 4 + i) ∧ ∃ ns : List Int, NL Hz D ns ∧ ns.length = i) ⟨Kp.of (same_new nD), d8.same (same_new nD), [], upd_same, rfl⟩ ?_ ?_⟩
      · rintro i Hz hi ⟨kz, dz, ns, hD, ln⟩
        refine ⟨rfl, yes_b (if_t ⟨_, rfl, _, _, rfl, rfl, _, rfl, q, M + 4 + i, rfl, dz, by omega, fun v9 H9 k9 d9 _ _ => ?_⟩)⟩
        have Dq := d8.ne nD
        have hD9 := k9 _ _ Dq hD
        refine ⟨_, _, rfl, rfl, (by show (0 : Int) < 60; decide), _, _, rfl, rfl, _, hD9, by rw [List.length_map]; exact small1000 (by omega), fun c o n1 e => ?_, ?_, ns ++ [a - 3 + v9 % 60], ?_, by rw [List.length_append, ln]; rfl⟩
        · rw [upd_ne (ne_of_none e nD)]
          exact k9 _ _ n1 (kz _ _ n1 e)
        · obtain ⟨y1, y2, y3, y4, y5, y6⟩ := d9
          refine ⟨y1, y2, y3, ?_, y5, by omega⟩
          rw [upd_ne Dq.symm]
          exact y4
        · unfold NL
          rw [upd_same, List.map_append]
          rfl
      · rintro H9 ⟨k9, d9, ns, hD, ln⟩
        have kc9 : Kp q Hc H9 := kc8.trans k9
        obtain ⟨xs, hx, dx⟩ := hl
        obtain ⟨ts, rfl⟩ := refs_pd dx
        obtain ⟨_, _, _, hq, _⟩ := id dc
        have hx9 := kc9 _ _ lcq hx
        have dx9 := dpAll_kt (KT.kp kc9 hq nfix_lst) dx (td_pds cs)
        refine ⟨_, rfl, lc, rfl, ⟨_, SqL.of hx9⟩, fun D2 nD2 => walked_l (K := K) (a := lc) (xs := ts.map V.ref) (fun i Hz => Same H9 Hz ∧ LD K Hz D2 (((cs.take i).map (shC far)).map pd)) ⟨same_new nD2, [], upd_same, .nil⟩ (fun i Hz h => SqL.of (h.1 _ _ hx9)) ?_ ?_⟩
        · rintro i v Hz hv ⟨sz, xs2, hD2, dx2⟩
          rw [List.getElem?_map] at hv
          obtain ⟨t, et, rfl⟩ := Option.map_eq_some_iff.mp hv
          obtain ⟨c, ec, dc2⟩ := dl_at (v := .ref t) dx9 (i := i) (by rw [List.getElem?_map, et]; rfl)
          refine ⟨t, _, rfl, sqT_same sz (dp_pair dc2), rfl, _, _, rfl, _, _, rfl, rfl, rfl, yes_b (if_t ⟨_, rfl, _, rfl, _, _, rfl, rfl, _, rfl, _, rfl, _, _, rfl, rfl, by show 2 ≤ sizeLine; decide, fun u nu => ?_⟩)⟩
          have su := same_new (o := .tup [.int (c.1 + far), .int (c.2 + far)]) nu
          have xl := dl_len dx2
          rw [List.length_map, List.length_take] at xl
          refine ⟨_, su _ _ hD2, small1000 (by omega), same_put nD2 (sz.trans su), ?_⟩
          rw [List.take_add_one, ec, List.map_append, List.map_append]
          exact .snoc (KT.of su) (su _ _ hD2) dx2 (td_pds _) (pd_new (x := shC far c) upd_same) (td_pd (shC far c))
        · rintro H10 ⟨s10, hl10⟩
          have tl : (cs.take (ts.map V.ref).length) = cs := by
            rw [dl_len dx, List.take_length]
          rw [tl] at hl10
          have hD10 := s10 _ _ hD
          cases h
          case' none =>
            obtain ⟨h2, eh2⟩ : ∃ h2 : Option Int, hV none = hV h2 := ⟨none, rfl⟩
            refine ⟨_, rfl, rfl, false, rfl, if_f ?_⟩
          case' some z =>
            obtain ⟨h2, eh2⟩ : ∃ h2 : Option Int, V.int (z + far) = hV h2 := ⟨some (z + far), rfl⟩
            refine ⟨_, rfl, rfl, true, rfl, if_t ⟨_, rfl, _, rfl, _, _, rfl, rfl, ?_⟩⟩
          all_goals
            refine ⟨_, rfl, _, rfl, _, _, rfl, rfl, _, rfl, _, rfl, _, _, rfl, rfl, _, rfl, _, rfl, _, rfl, D, rfl, ⟨_, SqL.of hD10⟩, fun D3 nD3 => walked_l (K := K) (a := D) (xs := ns.map V.int) (fun i Hz => Same H10 Hz ∧ NL Hz D3 ((ns.take i).map fun x => x + far)) ⟨same_new nD3, upd_same⟩ (fun i Hz h => SqL.of (h.1 _ _ hD10)) ?_ ?_⟩
            · rintro i v Hz hv ⟨sz, hD3⟩
              rw [List.getElem?_map] at hv
              obtain ⟨x, ex, rfl⟩ := Option.map_eq_some_iff.mp hv
              have il := (List.getElem?_eq_some_iff.mp ex).1
              refine ⟨rfl, yes_b (if_t ⟨_, rfl, _, rfl, _, _, rfl, rfl, _, hD3, ?_, same_put nD3 sz, ?_⟩)⟩
              · rw [List.length_map, List.length_map, List.length_take]
                exact small1000 (by omega)
              · unfold NL
                rw [upd_same, List.take_add_one, ex, List.map_append, List.map_append]
                rfl
            · rintro H11 ⟨s11, hD3⟩
              rw [List.length_map, List.take_length] at hD3
              refine ⟨D3, _, rfl, SqL.of hD3, fun ns2 pp pm up np => ⟨by show 5 ≤ sizeLine; decide, fun t nt => ?_⟩⟩
              have s12 := same_new (o := .lst (ns2.map V.int)) np
              have s13 := same_new (o := .tup [.int (a + far), .int (b + far), hV h2, .ref D2, .ref pp]) nt
              dsimp only
              rw [eh2]
              have sl := (s11.trans s12).trans s13
              have kall : Kp q H9 _ := Kp.of (s10.trans sl)
              have kH9 : Kp q H H9 := kHc.trans kc9
              have D2q : D2 ≠ q := d9.ne nD2
              have ppn := (s10.trans s11).free np
              have ppq : pp ≠ q := d9.ne ppn
              have cl : CL K H10 D2 ((cs.map (shC far)).map id) := by
                obtain ⟨ys, y1, y2⟩ := hl10
                obtain ⟨us, rfl⟩ := refs_pd y2
                exact ⟨us, y1, by rw [List.map_id]; exact y2⟩
              rw [List.map_id] at cl
              have cl13 := cl.same sl
              refine Qd ⟨a + far, b + far, h2, cs.map (shC far), ns2⟩ t D2 pp _ (M + 4 + (v8 % 20).toNat) (kH9.trans kall) ((d9.same s10).same sl) (by omega) ⟨upd_same, cl13.cells, .inl (SqL.of (s13 _ _ upd_same)), by rw [List.length_map]; omega⟩ cl13 (free kH9 D2q nD2) (s13 _ _ upd_same) (free kH9 ppq ppn) ⟨by show a + far ≤ b + far; omega, fun c hc => ?_⟩ (by show b + far - (a + far) ≤ 100; omega) ?_ (by show (cs.map _).length ≤ 14; rw [List.length_map]; exact few)
              · obtain ⟨c0, h0, rfl⟩ := List.mem_map.mp hc
                have := fw c0 h0
                show c0.1 + far < c0.2 + far
                omega
              · show ns2.length ≤ 20
                rw [pm.length_eq, List.length_map]
                omega
end
end Tg

/-! a derivation with a told precondition in the place of the one that is read off -/
namespace Tg
open PySem PySem.Spec PyProof.Rows L2
theorem pss_by {X : Cx} {rest : List Stmt} {u R : TS} (h : PSs X rest u) (hr : ∀ D σ H, R D σ H → u D σ H) : PSs X rest R := ⟨fun pins s σ H D I hw => h.run pins s σ H D I (hr D σ H hw)⟩
theorem pe_by {X : Cx} {e : Expr} {u R : TE} (h : PE X e u) (hr : ∀ σ H Q, R σ H Q → u σ H Q) : PE X e R := ⟨fun pins s σ H Q I hw => h.run pins s σ H Q I (hr σ H Q hw)⟩
theorem pt_by {X : Cx} {e : Expr} {u R : TT} (h : PT X e u) (hr : ∀ σ H Q, R σ H Q → u σ H Q) : PT X e R := ⟨fun pins s σ H Q I hw => h.run pins s σ H Q I (hr σ H Q hw)⟩
end Tg

namespace Tg
namespace Pl
/-! ### no plan costs less than the end's height -/
theorem hok_up {h : Option Int} {a b : Int} (g : hok h a = true) (le : a ≤ b) : hok h b = true := by
  cases h with
  | none => rfl
  | some x =>
    have : x ≤ a := of_decide_eq_true g
    refine decide_eq_true ?_
    omega
theorem cnt_self (ps : List Int) (a : Int) : cnt ps a a = 0 := by
  have := below_add ps (Int.le_refl a)
  omega
theorem reach_at {W : Wd} (ok : W.Ok) {i : Nat} {y g : Int} (hy : (edg W)[i]? = some y) (ey : hts W y = some g) (hk : hok W.h y = true) : ∀ (d : Nat) {x : Int}, (edg W)[i + d]? = some x → ∃ o, hts W x = some o ∧ o ≤ g + cnt W.ps y x
  | 0, x, hx => by
    rw [Nat.add_zero, hy] at hx
    obtain rfl := Option.some.inj hx
    exact ⟨g, ey, by rw [cnt_self]; omega⟩
  | d + 1, x, hx => by
    obtain ⟨l1, e1⟩ := List.getElem?_eq_some_iff.mp hx
    obtain ⟨z, hz⟩ : ∃ z, (edg W)[i + d]? = some z := ⟨_, List.getElem?_eq_getElem (by omega)⟩
    obtain ⟨o, eo, lo⟩ := reach_at ok hy ey hk d hz
    obtain ⟨l0, e0⟩ := List.getElem?_eq_some_iff.mp hy
    obtain ⟨l2, e2⟩ := List.getElem?_eq_some_iff.mp hz
    have zx : z < x := by
      have := List.pairwise_iff_getElem.mp (edg_up W) (i + d) (i + (d + 1)) l2 l1 (by omega)
      rw [e2, e1] at this
      exact this
    have yz : y ≤ z := by
      by_cases c : d = 0
      · subst c
        rw [Nat.add_zero, hy] at hz
        have := Option.some.inj hz
        omega
      · have := List.pairwise_iff_getElem.mp (edg_up W) i (i + d) l0 l2 (by omega)
        rw [e0, e2] at this
        omega
    have nb : (z, x) ∈ nbr (edg W) := by
      unfold nbr
      refine List.mem_of_getElem? (i := i + d) ?_
      rw [List.getElem?_zip_eq_some]
      refine ⟨hz, ?_⟩
      rw [List.getElem?_drop, show 1 + (i + d) = i + (d + 1) by omega]
      exact hx
    have pt : (⟨false, z, x, ((cnt W.ps z x : Nat) : Int)⟩ : Stp) ∈ ptS W := by
      unfold ptS
      exact List.mem_map.mpr ⟨(z, x), List.mem_filter.mpr ⟨nb, hok_up hk yz⟩, rfl⟩
    obtain ⟨q, hq, lq⟩ := hts_tight ok (.inl pt) (g := o) eo
    have lq : q ≤ o + ((cnt W.ps z x : Nat) : Int) := lq
    refine ⟨q, hq, ?_⟩
    rw [cnt_add W.ps yz (Int.le_of_lt zx)]
    omega
theorem reach_next {W : Wd} (ok : W.Ok) {x y g : Int} (my : y ∈ edg W) (mx : x ∈ edg W) (le : y ≤ x) (ey : hts W y = some g) (hk : hok W.h y = true) : ∃ o, hts W x = some o ∧ o ≤ g + cnt W.ps y x := by
  obtain ⟨i, hi, e1⟩ := List.mem_iff_getElem.mp my
  obtain ⟨j, hj, e2⟩ := List.mem_iff_getElem.mp mx
  have ij : i ≤ j := by
    refine Nat.le_of_not_lt fun lt => ?_
    have := List.pairwise_iff_getElem.mp (edg_up W) j i hj hi lt
    rw [e1, e2] at this
    omega
  refine reach_at ok (i := i) (by rw [List.getElem?_eq_getElem hi, e1]) ey hk (j - i) ?_
  rw [show i + (j - i) = j by omega, List.getElem?_eq_getElem hj, e2]
/-- x can be come to at the cost c -/
def Good (W : Wd) (x c : Int) : Prop := ∃ y g, y ∈ edg W ∧ y ≤ x ∧ hts W y = some g ∧ g + cnt W.ps y x ≤ c ∧ (y = x ∨ hok W.h y = true)
theorem Good.edge {W : Wd} (ok : W.Ok) {x c : Int} (mx : x ∈ edg W) (h : Good W x c) : ∃ o, hts W x = some o ∧ o ≤ c := by
  obtain ⟨y, g, my, le, ey, lc, rfl | hk⟩ := h
  · rw [cnt_self] at lc
    exact ⟨g, ey, by omega⟩
  · obtain ⟨o, eo, lo⟩ := reach_next ok my mx le ey hk
    exact ⟨o, eo, by omega⟩
theorem chain_le {W : Wd} : ∀ {L : List Pce} {a b : Int}, Chain W a L b → a ≤ b
  | [], _, _, h => Int.le_of_eq h
  | p :: r, a, b, h => by
    have h1 : p.2.1 = a := h.1
    have h2 : p.2.1 < p.2.2 := h.2.1.fw
    have h3 := chain_le h.2.2
    omega
theorem good_chain {W : Wd} (ok : W.Ok) : ∀ {L : List Pce} {a b c : Int}, Chain W a L b → W.s ≤ a → b ≤ W.e → Good W a c → Good W b (c + tot W.ps L)
  | [], a, b, c, h, _, _, g => by
    obtain rfl : a = b := h
    show Good W a (c + 0)
    rw [Int.add_zero]
    exact g
  | p :: r, a, b, c, h, sa, be, g => by
    have pa : p.2.1 = a := h.1
    have fw : p.2.1 < p.2.2 := h.2.1.fw
    have le := chain_le h.2.2
    have next : Good W p.2.2 (c + cst W.ps p) := by
      cases hp : p.1 with
      | true =>
        have mi : p.2 ∈ ins W := mem_ins.mpr ⟨h.2.1.cell hp, by omega, by omega⟩
        have ma : a ∈ edg W := edg_mem.mpr (.inr (.inr ⟨p.2, mi, .inl pa.symm⟩))
        obtain ⟨o, eo, lo⟩ := g.edge ok ma
        have cl : (⟨true, p.2.1, p.2.2, 1⟩ : Stp) ∈ clS W := by
          unfold clS
          exact List.mem_map.mpr ⟨p.2, mi, rfl⟩
        obtain ⟨q, hq, lq⟩ := hts_tight ok (.inr cl) (g := o) (by rw [← pa] at eo; exact eo)
        have lq : q ≤ o + 1 := lq
        have hq : hts W p.2.2 = some q := hq
        have e1 : cst W.ps p = 1 := by
          unfold cst
          rw [hp]
          rfl
        refine ⟨p.2.2, q, edg_mem.mpr (.inr (.inr ⟨p.2, mi, .inr rfl⟩)), Int.le_refl _, hq, ?_, .inl rfl⟩
        rw [cnt_self, e1]
        omega
      | false =>
        have hk : hok W.h a = true := pa ▸ h.2.1.pt hp
        obtain ⟨y, g0, my, ly, ey, lc, d⟩ := g
        have hky : hok W.h y = true := by
          rcases d with rfl | d
          · exact hk
          · exact d
        have e1 : cst W.ps p = (cnt W.ps a p.2.2 : Nat) := by
          unfold cst
          rw [hp, pa]
          rfl
        refine ⟨y, g0, my, by omega, ey, ?_, .inr hky⟩
        rw [cnt_add W.ps ly (show a ≤ p.2.2 by omega), e1]
        omega
    have := good_chain ok h.2.2 (by omega) be next
    rw [tot_cons, ← Int.add_assoc]
    exact this
/-- the least cost of a plan -/
def least (W : Wd) : Option Int := hts W W.e
theorem least_le {W : Wd} (ok : W.Ok) {L : List Pce} (h : Chain W W.s L W.e) : ∃ o, least W = some o ∧ o ≤ tot W.ps L := by
  have st : Good W W.s 0 := ⟨W.s, 0, edg_mem.mpr (.inl rfl), Int.le_refl _, (hts_inv ok).start, by rw [cnt_self]; decide, .inl rfl⟩
  have g := good_chain ok h (Int.le_refl _) (Int.le_refl _) st
  rw [Int.zero_add] at g
  exact g.edge ok (edg_mem.mpr (.inr (.inl rfl)))
theorem hts_chain {W : Wd} (ok : W.Ok) : ∀ (n : Nat) {x o : Int}, (x - W.s).toNat ≤ n → hts W x = some o → ∃ L, Chain W W.s L x ∧ tot W.ps L = o
  | n, x, o, hn, e => by
    by_cases c : x = W.s
    · subst c
      rw [(hts_inv ok).start] at e
      exact ⟨[], rfl, Option.some.inj e⟩
    · obtain ⟨w, a, _, okp, ea⟩ := hts_back ok c e
      have fw : a < x := okp.fw
      have sa := (edg_in ok (hts_edg ok ea)).1
      cases n with
      | zero => omega
      | succ n =>
        obtain ⟨L, ch, tt⟩ := hts_chain ok n (x := a) (by omega) ea
        refine ⟨L ++ [(w, a, x)], chain_app ch ⟨rfl, okp, rfl⟩, ?_⟩
        rw [tot_app, tt]
        show o - cst W.ps (w, a, x) + (cst W.ps (w, a, x) + 0) = o
        omega
theorem least_chain {W : Wd} (ok : W.Ok) {o : Int} (h : least W = some o) : ∃ L, Chain W W.s L W.e ∧ tot W.ps L = o := hts_chain ok _ (Nat.le_refl _) h
/-- of two worlds whose plans go over, at no greater cost -/
theorem least_over {W V : Wd} (okW : W.Ok) (okV : V.Ok) (over : ∀ L, Chain W W.s L W.e → ∃ M, Chain V V.s M V.e ∧ tot V.ps M ≤ tot W.ps L) {o : Int} (h : least W = some o) : ∃ q, least V = some q ∧ q ≤ o := by
  obtain ⟨L, ch, tt⟩ := least_chain okW h
  obtain ⟨M, cm, le⟩ := over L ch
  obtain ⟨q, e, lq⟩ := least_le okV cm
  exact ⟨q, e, by omega⟩
/-- what plans ask of cells and horizon goes over, from a on -/
theorem chain_over {W V : Wd} {lo : Int} (cs : ∀ c, c ∈ W.cs → c ∈ V.cs) (hh : ∀ x, lo ≤ x → hok W.h x = true → hok V.h x = true) : ∀ {L : List Pce} {a b : Int}, lo ≤ a → Chain W a L b → Chain V a L b
  | [], _, _, _, h => h
  | p :: r, a, b, la, h => by
    have pa : p.2.1 = a := h.1
    have fw : p.2.1 < p.2.2 := h.2.1.fw
    exact ⟨pa, ⟨fw, fun z => cs _ (h.2.1.cell z), fun z => hh _ (by omega) (h.2.1.pt z)⟩, chain_over cs hh (by omega) h.2.2⟩
/-! ### moved -/
def shP (d : Int) (p : Pce) : Pce := (p.1, p.2.1 + d, p.2.2 + d)
def shW (d : Int) (W : Wd) : Wd := ⟨W.s + d, W.e + d, W.h.map (· + d), W.cs.map fun c => (c.1 + d, c.2 + d), W.ps.map (· + d)⟩
theorem cnt_sh (ps : List Int) (a b d : Int) : cnt (ps.map (· + d)) (a + d) (b + d) = cnt ps a b := by
  unfold cnt
  induction ps with
  | nil => rfl
  | cons p r ih =>
    rw [List.map_cons, List.filter_cons, List.filter_cons]
    by_cases c : a ≤ p ∧ p < b
    · rw [decide_eq_true c, decide_eq_true (show a + d ≤ p + d ∧ p + d < b + d by omega)]
      show (_ :: _).length = (_ :: _).length
      rw [List.length_cons, List.length_cons, ih]
    · rw [decide_eq_false c, decide_eq_false (show ¬ (a + d ≤ p + d ∧ p + d < b + d) by omega)]
      exact ih
theorem cst_sh (ps : List Int) (d : Int) (p : Pce) : cst (ps.map (· + d)) (shP d p) = cst ps p := by
  unfold cst shP
  cases p.1 with
  | true => rfl
  | false =>
    show ((cnt (ps.map (· + d)) (p.2.1 + d) (p.2.2 + d) : Nat) : Int) = (cnt ps p.2.1 p.2.2 : Nat)
    rw [cnt_sh]
theorem tot_sh (ps : List Int) (d : Int) : ∀ L : List Pce, tot (ps.map (· + d)) (L.map (shP d)) = tot ps L
  | [] => rfl
  | p :: r => by
    rw [List.map_cons, tot_cons, tot_cons, cst_sh, tot_sh ps d r]
theorem hok_sh (h : Option Int) (d x : Int) : hok (h.map (· + d)) (x + d) = hok h x := by
  cases h with
  | none => rfl
  | some z =>
    show decide (z + d ≤ x + d) = decide (z ≤ x)
    by_cases c : z ≤ x
    · rw [decide_eq_true c, decide_eq_true (by omega)]
    · rw [decide_eq_false c, decide_eq_false (by omega)]
theorem chain_sh {W : Wd} (d : Int) : ∀ {L : List Pce} {a b : Int}, Chain W a L b → Chain (shW d W) (a + d) (L.map (shP d)) (b + d)
  | [], a, b, h => by
    obtain rfl : a = b := h
    exact rfl
  | p :: r, a, b, h => by
    have pa : p.2.1 = a := h.1
    have fw : p.2.1 < p.2.2 := h.2.1.fw
    refine ⟨by show p.2.1 + d = a + d; omega, ⟨by show p.2.1 + d < p.2.2 + d; omega, fun z => List.mem_map.mpr ⟨p.2, h.2.1.cell z, rfl⟩, fun z => ?_⟩, chain_sh d h.2.2⟩
    show hok (W.h.map (· + d)) (p.2.1 + d) = true
    rw [hok_sh]
    exact h.2.1.pt z
theorem shW_ok {W : Wd} (ok : W.Ok) (d : Int) : (shW d W).Ok := by
  have := ok.se
  refine ⟨by show W.s + d ≤ W.e + d; omega, fun c hc => ?_⟩
  obtain ⟨x, hx, rfl⟩ := List.mem_map.mp hc
  have := ok.fw x hx
  show x.1 + d < x.2 + d
  omega
theorem map_back {α : Type} {f g : α → α} (h : ∀ x, g (f x) = x) (l : List α) : (l.map f).map g = l := by
  rw [List.map_map]
  exact (List.map_congr_left fun x _ => h x).trans (List.map_id l)
theorem shW_back (d : Int) (W : Wd) : shW (-d) (shW d W) = W := by
  obtain ⟨s, e, h, cs, ps⟩ := W
  unfold shW
  dsimp only
  rw [map_back (fun x : Int × Int => by
    obtain ⟨a, b⟩ := x
    show (a + d + -d, b + d + -d) = (a, b)
    rw [Int.add_neg_cancel_right, Int.add_neg_cancel_right]) cs, map_back (fun x : Int => by show x + d + -d = x; omega) ps, Int.add_neg_cancel_right, Int.add_neg_cancel_right]
  cases h with
  | none => rfl
  | some z =>
    show (⟨s, e, some (z + d + -d), cs, ps⟩ : Wd) = _
    rw [Int.add_neg_cancel_right]
theorem least_sh {W : Wd} (ok : W.Ok) (d : Int) : least (shW d W) = least W := by
  have fwd : ∀ {V : Wd} (okV : V.Ok) (d : Int) {o : Int}, least V = some o → ∃ q, least (shW d V) = some q ∧ q ≤ o := fun {V} okV d {o} h =>
    least_over okV (shW_ok okV d) (fun L ch => ⟨L.map (shP d), chain_sh d ch, Int.le_of_eq (tot_sh V.ps d L)⟩) h
  cases h : least W with
  | none =>
    cases g : least (shW d W) with
    | none => rfl
    | some q =>
      obtain ⟨o, e, _⟩ := fwd (shW_ok ok d) (-d) g
      rw [shW_back, h] at e
      cases e
  | some o =>
    obtain ⟨q, e, le⟩ := fwd ok d h
    obtain ⟨o2, e2, le2⟩ := fwd (shW_ok ok d) (-d) e
    rw [shW_back, h] at e2
    have e3 := Option.some.inj e2
    subst e3
    rw [e]
    congr 1
    omega
/-! ### parts -/
theorem least_parts {W : Wd} {m : Int} (ok : W.Ok) (sm : W.s ≤ m) (me : m ≤ W.e) {a b : Int} (h1 : least ⟨W.s, m, W.h, W.cs, W.ps⟩ = some a) (h2 : least ⟨m, W.e, W.h, W.cs, W.ps⟩ = some b) : ∃ o, least W = some o ∧ o ≤ a + b := by
  obtain ⟨L, c1, t1⟩ := least_chain (W := ⟨W.s, m, W.h, W.cs, W.ps⟩) ⟨sm, ok.fw⟩ h1
  obtain ⟨M, c2, t2⟩ := least_chain (W := ⟨m, W.e, W.h, W.cs, W.ps⟩) ⟨me, ok.fw⟩ h2
  have d1 : Chain W W.s L m := chain_over (W := ⟨W.s, m, W.h, W.cs, W.ps⟩) (V := W) (lo := W.s) (fun _ h => h) (fun _ _ h => h) (Int.le_refl _) c1
  have d2 : Chain W m M W.e := chain_over (W := ⟨m, W.e, W.h, W.cs, W.ps⟩) (V := W) (lo := m) (fun _ h => h) (fun _ _ h => h) (Int.le_refl _) c2
  obtain ⟨o, e, le⟩ := least_le ok (chain_app d1 d2)
  refine ⟨o, e, ?_⟩
  rw [tot_app] at le
  have t1 : tot W.ps L = a := t1
  have t2 : tot W.ps M = b := t2
  omega
theorem least_more {W : Wd} (ok : W.Ok) {x : Int × Int} (fx : x.1 < x.2) {o : Int} (h : least W = some o) : ∃ q, least ⟨W.s, W.e, W.h, W.cs ++ [x], W.ps⟩ = some q ∧ q ≤ o :=
  least_over (V := ⟨W.s, W.e, W.h, W.cs ++ [x], W.ps⟩) ok ⟨ok.se, fun c hc => by
    obtain h | h := List.mem_append.mp hc
    · exact ok.fw c h
    · rw [List.mem_singleton.mp h]
      exact fx⟩ (fun L ch => ⟨L, chain_over (W := W) (V := ⟨W.s, W.e, W.h, W.cs ++ [x], W.ps⟩) (lo := W.s) (fun c hc => List.mem_append_left _ hc) (fun _ _ z => z) (Int.le_refl _) ch, Int.le_refl _⟩) h
theorem least_lower {W : Wd} (ok : W.Ok) {h2 : Option Int} (low : ∀ x, W.s ≤ x → hok h2 x = true) {o : Int} (h : least W = some o) : ∃ q, least ⟨W.s, W.e, h2, W.cs, W.ps⟩ = some q ∧ q ≤ o :=
  least_over (V := ⟨W.s, W.e, h2, W.cs, W.ps⟩) ok ⟨ok.se, ok.fw⟩ (fun L ch => ⟨L, chain_over (W := W) (V := ⟨W.s, W.e, h2, W.cs, W.ps⟩) (lo := W.s) (fun c hc => hc) (fun x sx _ => low x sx) (Int.le_refl _) ch, Int.le_refl _⟩) h
end Pl
end Tg

namespace Tg
open PySem PySem.Spec PyProof.Rows L2
/-! ### a comprehension's own names, stored and taken away again: for states of many names, where rfl takes too long -/
theorem wipe_1 (σ : L2.St) (i : Nat) (a : Option V) : wipe (List.set (wipe σ [i]) i a) [i] = wipe σ [i] := by
  show List.set (List.set (List.set σ i none) i a) i none = List.set σ i none
  rw [List.set_set, List.set_set]
theorem wipe_2 (σ : L2.St) (i j : Nat) (a b : Option V) : wipe ((List.set (wipe σ [i, j]) i a).set j b) [i, j] = wipe σ [i, j] := by
  show List.set (List.set (List.set (List.set (List.set (List.set σ j none) i none) i a) j b) j none) i none = List.set (List.set σ j none) i none
  apply List.ext_getElem?
  intro n
  simp only [List.getElem?_set, List.length_set]
  by_cases hi : i = n <;> by_cases hj : j = n <;> simp only [hi, hj, if_true, if_false] <;> split <;> first | rfl | (split <;> rfl)
end Tg

set_option maxHeartbeats 2000000
namespace Tg
open PySem PySem.Spec PyProof.Rows L2
/-! ### a caught exception that is kept in a name: try: .. except T as e: kept = e -/
/-- the exception of the class cls, its dict at d, at a -/
def ExV (cls : Value) (d : Option Addr) (a : Addr) : HO := .ext fun h => ∃ (oe : Obj) (vs : Array Value), h.get? a = some oe ∧ Zc cls d oe ∧ oe.data = .fields vs
theorem exV_ok {P : Program} {w : World} {H : Hp} {h : Heap} {a : Addr} {cls : Value} {d : Option Addr} {oe : Obj} {vs : Array Value} (e : h.get? a = some oe) (z : Zc cls d oe) (q : oe.data = .fields vs) : ObjOk P w H h a (ExV cls d a) := by
  refine ⟨⟨oe, vs, e, z, q⟩, ⟨oe, e⟩, fun h1 h2 y st => ?_⟩
  obtain ⟨o1, v1, e1, z1, q1⟩ := y
  exact ⟨o1, v1, st _ e1, z1, q1⟩
section
variable {X : Cx} {s : Shared} {H : Hp} {σ : L2.St} {pins : List (Addr × Obj)}
theorem track {a : Addr} {oe : Obj} {vs : Array Value} {o : HO} (I : Inv X pins σ H s) (h0 : X.s_0.heap.get? a = none) (he : s.heap.get? a = some oe) (hd : oe.data = .fields vs) (na : H a = none)
    (nL : a ≠ X.env.locals) (np : ∀ p, p ∈ X.pn ++ pins → p.1 ≠ a) (new : ObjOk X.prog X.w (upd H a o) s.heap a o) : Inv X pins σ (upd H a o) s where
  ok := I.ok
  os := I.os
  bare := I.bare
  base := {
    keep := I.base.keep
    slot := I.base.slot
    free := fun b u q n x => by
      rw [upd_ne (fun z => by rw [z, h0] at q; cases q)]
      exact I.base.free b u q n x
    there := I.base.there
    tups := fun b xs q => by
      have y := I.base.tups b xs q
      rw [upd_ne (ne_of_none y na)]
      exact y
    frzs := fun b u xs q => by
      have y := I.base.frzs b u xs q
      rw [upd_ne (ne_of_none y na)]
      exact y
    tbls := fun b ps q => by
      obtain ⟨m, y⟩ := I.base.tbls b ps q
      refine ⟨m, ?_⟩
      rw [upd_ne (ne_of_none y na)]
      exact y }
  loc := I.loc
  cell := I.cell
  free := by
    rw [upd_ne nL.symm]
    exact I.free
  freeC := fun x c e => by
    have nc : c ≠ a := fun z => by
      obtain ⟨v, y⟩ := I.cell x c e
      obtain ⟨oc, y1, y2⟩ := y
      rw [z, he] at y1
      cases y1
      rw [hd] at y2
      cases y2
    rw [upd_ne nc]
    exact I.freeC x c e
  pin := fun p hp => by
    obtain ⟨y1, y2, y3⟩ := I.pin p hp
    refine ⟨y1, ?_, y3⟩
    rw [upd_ne (np p hp)]
    exact y2
  hok := I.hok.laidN (fun _ _ z => z) na new
  len := I.len
/-- what is wanted of an exception of the body: its class is one that the clause takes; it is kept in slot j -/
def wKeep (Mt : Value → Prop) (i j : Nat) (D : Ends) : WX := fun cls d σ H => Mt cls ∧ ∀ a, H a = none → D.nx (((σ.set i (some (.ref a))).set j (some (.ref a))).set i none) (upd H a (ExV cls d a))
/-- the clause's test: its value takes each exception of such a class -/
def Tests (X : Cx) (test : Expr) (Mt : Value → Prop) : Prop := ∀ (a : Addr) (oe : Obj) (pn : List (Addr × Obj)) (s : Shared) (σ : L2.St) (H : Hp) (Q : Value → Shared → Prop) (E : Value → Shared → Prop),
  Inv (X.suite a ((a, oe) :: pn)) [] σ H s → s.heap.get? a = some oe → Mt oe.cls →
  (∀ (c : Value) (s' : Shared), (∀ b o, s.heap.get? b = some o → s'.heap.get? b = some o) → s'.os = s.os → s'.gens = s.gens → PySem.W.Looks (model X.prog X.w) s'.heap (excMatches (.ref a) c) true → Q c s') →
    wpAny (model X.prog X.w) (X.A.mark (some (.ref a))) (eval test X.env) Q E s
theorem flying_keeps {B : Heap} {l : List Env} {a : Addr} {Z : Obj → Prop} {h h' : Heap} (k : ∀ b o, h.get? b = some o → h'.get? b = some o) (f : HandSPX.FlyingZ B l a Z h) : HandSPX.FlyingZ B l a Z h' := by
  obtain ⟨f1, f2, f3, oe, vs, T, oT, ts, y1, y2, y3, y4, y5, y6, y7, y8, y9⟩ := f
  exact ⟨fun b o e => k _ _ (f1 b o e), f2, Heap.FunFrames.of_keeps (fun b o e _ => ⟨o, k _ _ e, rfl⟩) f3, oe, vs, T, oT, ts, k _ _ y1, y2, y3, y4, y5, y6, k _ _ y7, y8, y9⟩
variable {n y : Str} {i j : Nat} {body : List Stmt} {test : Expr} {py pn' ps' pos pos' : Pos} {tb : WX → TS} {Mt : Value → Prop}
/-- a try's body, whatever is wished of the exceptions that leave it -/
def Bodies (X : Cx) (body : List Stmt) (tb : WX → TS) : Prop := ∀ W pn xe, Takes (X.tr pn xe) W → PassesOwn (model X.prog X.w) X.A X.env xe → PSs (X.tr pn xe) body (tb W)
/-- the same state, one thing more (or less) pinned -/
theorem repin {Y Z : Cx} {p q : List (Addr × Obj)} (I : Inv Y p σ H s) (ok : Z.Ok) (e : Z = { Y with A := Z.A, calm := Z.calm, pn := Z.pn, xe := Z.xe }) (sub : ∀ r, r ∈ Z.pn ++ q → r ∈ Y.pn ++ p) : Inv Z q σ H s := by
  obtain ⟨_, f2, f3, f4, f5, f6, f7, f8, f9, f10, f11⟩ := I
  rw [e] at ok sub ⊢
  exact ⟨ok, f2, f3, f4, f5, f6, f7, f8, fun r hr => f9 r (sub r hr), f10, f11⟩
theorem ps_try_keep (top : X.stack = X.env :: X.outer) (own : X.env.frame = some X.env.locals) (noex : X.ex = []) (nd : X.N.Nodup) (at_i : X.N[i]? = some n) (at_j : X.N[j]? = some y) (loc_n : X.env.scope.names.lookup n = some .local)
    (loc_y : X.env.scope.names.lookup y = some .local) (takes : Tests X test Mt) (bodies : Bodies X body tb) (nodebug : (n == ("__debug__" : Str)) = false := by decide) (noclass : (n == ("__classdict__" : Str)) = false := by decide) :
    PS X (.Try body [.ExceptHandler (some test) (some n) [.Assign [.Name y py] (.Name n pn') ps'] pos'] [] [] pos) (fun D σ H => tb (wKeep Mt i j D) D σ H) := by
  constructor
  intro pins s σ H D I read
  have frames := I.ok.frames.trans (congrArg some top)
  refine wpAny_Try_except (wpAny_mono ((bodies (wKeep Mt i j D) (X.pn ++ pins) _ (fun u s' air => ?_) PassesOwn.looking).run [] s σ H D (I.toTry _) read) (fun f s1 z => ?_) (fun _ _ z => z))
  · obtain ⟨a, B, s0, _, σ0, H0, cls, d, rfl, J0, ground, up, sky, na, os, gens, takes_it, wish⟩ := air
    have J : Inv X pins σ0 H0 s0 := J0.ofTry I.ok
    rw [show (X.tr (X.pn ++ pins) _).stack = X.env :: X.outer from top] at sky ground
    refine Sky.land Zc.steady frames own sky fun h3 fly3 up3 => ?_
    have J3 := J.landed (s' := { s' with heap := h3 }) (B := B) (by rw [top]; exact ground) fly3.1 (up.trans up3) os gens
    obtain ⟨o3, v3, get3, kind3, data3⟩ := fly3.there
    -- it is none of the frames, and it wasn't there ahead of the try
    have noframe : a ∉ frs (X.env :: X.outer) := fun m => by
      obtain ⟨_, _, e, nofields⟩ := fly3.2.2.1.mem m
      cases get3.symm.trans e
      exact nofields _ data3
    have noloc : a ≠ X.env.locals := fun z => noframe (by
      rw [z]
      exact List.mem_filterMap.mpr ⟨X.env, List.mem_cons_self, own⟩)
    have noouter : a ∉ X.fs := fun m => noframe (by
      obtain ⟨env, h1, h2⟩ := List.mem_filterMap.mp m
      exact List.mem_filterMap.mpr ⟨env, .tail _ h1, h2⟩)
    have new0 : s0.heap.get? a = none := by
      rcases q : s0.heap.get? a with _ | o
      · rfl
      · exact nomatch (ground a o q noframe).symm.trans fly3.2.1
    have new : X.s_0.heap.get? a = none := by
      rcases q : X.s_0.heap.get? a with _ | o
      · rfl
      · exact (J.base.there a o q (by rw [noex]; exact List.not_mem_nil)).elim fun _ z => nomatch z.symm.trans new0
    have nopin : ∀ p, p ∈ X.pn ++ pins → p.1 ≠ a := fun p m z => by
      have there := (J.pin p m).1
      rw [z, new0] at there
      cases there
    refine wpAny_handleBy_cons (codeAny_handlers_test (takes a o3 _ _ σ0 H0 _ _ (J3.suite get3 data3 na noloc noouter) get3 (by rw [kind3.1]; exact takes_it) fun c s4 kp4 os4 gens4 match4 => match4.here ?_)) (fun z => nomatch z)
    refine codeAny_handlers_suite_as (HandSPX.lands_againZ (flying_keeps kp4 fly3) fun h5 fly5 up5 => ?_)
    have up4 : h3.UpToSlots s4.heap := fun b o z _ => ⟨o.slots, kp4 _ _ z⟩
    have J5 := J.landed (s' := { s4 with heap := h5 }) (B := B) (by rw [top]; exact ground) fly5.1 (((up.trans up3).trans up4).trans up5) (os4.trans os) (by rw [show ({ s4 with heap := h5 } : Shared).gens = s4.gens from rfl, gens4]; exact gens)
    obtain ⟨o5, v5, get5, kind5, data5⟩ := fly5.there
    refine store_ok (X := X.suite a ((a, o5) :: (X.pn ++ pins))) (v := .ref a) (J5.suite get5 data5 na noloc noouter) nd at_i (.inl loc_n) rfl (fun s6 J6 => ?_) (.inr loc_n)
    -- kept = e
    have keep : PSs (X.suite a ((a, o5) :: (X.pn ++ pins))) [.Assign [.Name y py] (.Name n pn') ps'] (tAsg (tVar i) (gName j)) := pss_one (ps_set nd at_j (.inl loc_y) (pe_var at_i (.inl loc_n) nodebug noclass) (by rfl) (.inr loc_y))
    have short : i < σ0.length := by
      rw [J.len]
      exact (List.getElem?_eq_some_iff.mp at_i).1
    refine wpAny_mono (keep.run [] s6 _ H0 { nx := fun σ7 H7 => σ7 = (σ0.set i (some (.ref a))).set j (some (.ref a)) ∧ H0 = H7, rt := fun _ _ => False, bk := fun _ _ => False, ct := fun _ _ => False } J6 ⟨.ref a, by rw [List.getElem?_set_self short], rfl, rfl⟩) (fun f s7 z => ?_) (fun _ _ z => z.elim)
    match f, z with
    | .next, ⟨_, _, J7, e7, eH⟩ =>
      subst e7
      subst eH
      refine gone_ok (repin (q := (a, o5) :: pins) J7 I.ok rfl fun r m => ?_) nd at_i loc_n fun s8 J8 => ?_
      · refine List.mem_append_left _ ?_
        rcases List.mem_append.mp m with m | m
        · exact .tail _ (List.mem_append_left _ m)
        · cases m with
          | head => exact .head _
          | tail _ m => exact .tail _ (List.mem_append_right _ m)
      · have get8 := (J8.pin (a, o5) (List.mem_append_right _ (.head _))).1
        have J9 : Inv X pins (((σ0.set i (some (.ref a))).set j (some (.ref a))).set i none) H0 s8 := repin J8 I.ok rfl fun r m => by
          rcases List.mem_append.mp m with m | m
          · exact List.mem_append_left _ m
          · exact List.mem_append_right _ (.tail _ m)
        exact ⟨_, _, track J9 new get8 data5 na noloc nopin (exV_ok get8 kind5 data5), wish a na⟩
    | .brk, ⟨_, _, _, z⟩ => exact z.elim
    | .cont, ⟨_, _, _, z⟩ => exact z.elim
    | .ret _, ⟨_, _, _, _, _, z⟩ => exact z.elim
  · match f, z with
    | .next, ⟨σ1, H1, J1, z⟩ => exact wpAny_execs_nil ⟨σ1, H1, J1.ofTry I.ok, z⟩
    | .brk, ⟨σ1, H1, J1, z⟩ => exact ⟨σ1, H1, J1.ofTry I.ok, z⟩
    | .cont, ⟨σ1, H1, J1, z⟩ => exact ⟨σ1, H1, J1.ofTry I.ok, z⟩
    | .ret _, ⟨v, σ1, H1, J1, rel, z⟩ => exact ⟨v, σ1, H1, J1.ofTry I.ok, rel, z⟩
end
end Tg

set_option maxHeartbeats 2000000
namespace Tg
open PySem PySem.Spec PyProof.Rows L2
section
variable {X : Cx} {x1 x2 x3 x4 : Str} {c1 c2 c3 c4 : Value} {p1 p2 p3 p4 pos : Pos}
theorem tests_one (hc : Names X x1 c1) : Tests X (.Name x1 p1) (fun cls => PySem.W.exmOne X.K cls c1 = some true) := by
  intro a oe pn s σ H Q E I he mt h
  have LT : PySem.W.Looks (model X.prog X.w) s.heap (typeOf (.ref a)) oe.cls := fun A Q E s k q => wpAny_typeOf_ref (k _ _ he) q
  have LM := PySem.W.exm_one (M := model X.prog X.w) I.kIn LT mt
  have told := h c1 s (fun _ _ z => z) rfl rfl LM
  rcases hc with ⟨gl, nodebug, own | ⟨none_, boot, noname⟩⟩
  · exact ld_glob (X := X.suite a ((a, oe) :: pn)) I gl own told nodebug
  · exact ld_blt (X := X.suite a ((a, oe) :: pn)) I gl none_ boot told noname nodebug
/-- own classes named one after the other -/
structure Glb (X : Cx) (x : Str) (c : Value) : Prop where
  gl : Gl X x
  mg : X.mg x = some c
  db : (x == ("__debug__" : Str)) = false := by decide
theorem glb_args {a : Addr} {oe : Obj} {pn : List (Addr × Obj)} {s : Shared} {σ : L2.St} {H : Hp} {E : Value → Shared → Prop} {pos : Pos} (I : Inv (X.suite a ((a, oe) :: pn)) [] σ H s) :
    ∀ {xs : List (Str × Pos)} {cs : List Value} {Q : List Value → Shared → Prop}, Paired (fun x c => Glb X x.1 c) xs cs → Q cs s →
      wpAny (model X.prog X.w) (X.A.mark (some (.ref a))) (spliced (backTo pos (starEach (xs.map fun x => .Name x.1 x.2) X.env))) Q E s
  | _, _, Q, .nil, q => args_nil q
  | (x, p) :: xs, c :: cs, Q, .cons g r, q => by
    refine args_cons (ld_glob (X := X.suite a ((a, oe) :: pn)) I g.gl g.mg (glb_args I r q) g.db) rfl
theorem tests_tup {xs : List (Str × Pos)} {cs : List Value} {kt : Nat} (hp : Paired (fun x c => Glb X x.1 c) xs cs) (hl : cs.length ≤ sizeLine)
    (hm : ∀ {h : Heap} {a tp : Addr} {cls : Value}, X.K.In h → PySem.W.Looks (model X.prog X.w) h (typeOf (.ref a)) cls → h.get? tp = some { cls := .type "tuple", data := .seq cs.toArray } → PySem.W.exmAny X.K cls cs = some true → PySem.W.Looks (model X.prog X.w) h (excMatches (.ref a) (.ref tp)) true) :
    Tests X (.Tuple (xs.map fun x => .Name x.1 x.2) kt pos) (fun cls => PySem.W.exmAny X.K cls cs = some true) := by
  intro a oe pn s σ H Q E I he mt h
  refine wpAny_Tuple_spliced (glb_args I hp ⟨hl, ?_⟩)
  have kk : ∀ b o, s.heap.get? b = some o → (s.heap.push { cls := .type "tuple", data := .seq cs.toArray }).get? b = some o := fun b o e => Heap.get?_push_of_some _ e
  have LT : PySem.W.Looks (model X.prog X.w) (s.heap.push { cls := .type "tuple", data := .seq cs.toArray }) (typeOf (.ref a)) oe.cls := fun A Q E s k q => wpAny_typeOf_ref (k _ _ (kk _ _ he)) q
  exact h _ _ kk rfl rfl (hm (I.kIn.keeps kk) LT (Heap.get?_push_size _ rfl) mt)
theorem tests_2 {kt : Nat} (h1 : Glb X x1 c1) (h2 : Glb X x2 c2) : Tests X (.Tuple [.Name x1 p1, .Name x2 p2] kt pos) (fun cls => PySem.W.exmAny X.K cls [c1, c2] = some true) :=
  tests_tup (xs := [(x1, p1), (x2, p2)]) (.cons h1 (.cons h2 .nil)) (by show 2 ≤ sizeLine; decide) fun X LT hp mt => PySem.W.exm_tup2 X LT hp mt
theorem tests_3 {kt : Nat} (h1 : Glb X x1 c1) (h2 : Glb X x2 c2) (h3 : Glb X x3 c3) : Tests X (.Tuple [.Name x1 p1, .Name x2 p2, .Name x3 p3] kt pos) (fun cls => PySem.W.exmAny X.K cls [c1, c2, c3] = some true) :=
  tests_tup (xs := [(x1, p1), (x2, p2), (x3, p3)]) (.cons h1 (.cons h2 (.cons h3 .nil))) (by show 3 ≤ sizeLine; decide) fun X LT hp mt => PySem.W.exm_tup3 X LT hp mt
theorem tests_4 {kt : Nat} (h1 : Glb X x1 c1) (h2 : Glb X x2 c2) (h3 : Glb X x3 c3) (h4 : Glb X x4 c4) : Tests X (.Tuple [.Name x1 p1, .Name x2 p2, .Name x3 p3, .Name x4 p4] kt pos) (fun cls => PySem.W.exmAny X.K cls [c1, c2, c3, c4] = some true) :=
  tests_tup (xs := [(x1, p1), (x2, p2), (x3, p3), (x4, p4)]) (.cons h1 (.cons h2 (.cons h3 (.cons h4 .nil)))) (by show 4 ≤ sizeLine; decide) fun X LT hp mt => PySem.W.exm_tup4 X LT hp mt
end
/-! ### what is asked of it later: a field, isinstance -/
section
variable {X : Cx} {e : Expr} {te : TE} {pos : Pos} {n : Str}
/-- kept.f -/
def tExf (K : PySem.W.Frag) (f : Str) (te : TE) : TE := fun σ H Q => te σ H fun x H1 => ∃ (a C dd : Addr) (fs : List (Str × V)) (v : V), x = .ref a ∧ H1 a = some (ExV (.ref C) (some dd) a) ∧ XfC K C ∧ PySem.W.findIn K (.ref C) f = some none ∧ H1 dd = some (.xd fs) ∧ fs.lookup f = some v ∧ Q v H1
theorem exV_inst {a C dd : Addr} {fs : List (Str × V)} {pins : List (Addr × Obj)} {σ : L2.St} {H : Hp} {s : Shared} (I : Inv X pins σ H s) (ea : H a = some (ExV (.ref C) (some dd) a)) (ed : H dd = some (.xd fs)) :
    ∃ (oe od : Obj) (m : Str → Option Value), PySem.W.InstAt s.heap a oe C (some od) ∧ (∀ f, RelO (fs.lookup f) (m f)) ∧ ∀ x, PySem.W.lookIn x od = some (m x) := by
  obtain ⟨⟨oe, vs, he, hz, hd⟩, _, _⟩ := (show ObjOk X.prog X.w H s.heap a (ExV (.ref C) (some dd) a) from I.hok a _ ea)
  obtain ⟨m, ns, rel⟩ := (show ObjOk X.prog X.w H s.heap dd (.xd fs) from I.hok dd _ ed)
  obtain ⟨od, get, look⟩ := lookIn_ns ns
  exact ⟨oe, od, m, ⟨he, hz.1, by unfold PySem.W.notCls; rw [hd] <;> rfl, by rw [hz.2]; exact get⟩, rel, look⟩
theorem pe_exf (he : PE X e te) (base : attributeBase e n X.env (eval e X.env) = eval e X.env := by rfl) : PE X (.Attribute e n pos) (tExf X.K n te) := by
  constructor
  intro pins s σ H Q I read
  refine attr_of base (thn (he.run pins s σ H _ I read) fun u s1 z => ?_)
  obtain ⟨_, H1, J, ru, a, C, dd, fs, v, rfl, ea, T, none_, ed, is_v, told⟩ := z
  obtain rfl : u = .ref a := ru
  obtain ⟨oe, od, m, inst, rel, look⟩ := exV_inst J ea ed
  have there := rel n
  rw [is_v] at there
  obtain ⟨w, mw, rw_⟩ := RelO.some_of there
  exact HandSPX.exc_get J.kIn inst T.ga T.gg T.exC (PySem.W.findObj_own T.hdC none_ rfl ((look n).trans (congrArg some mw))) (handed_of rw_) ⟨v, H1, J.tok _, rw_, told⟩
theorem cls_some {K : PySem.W.Frag} {D : Addr} (h : PySem.W.hasDictIn K D = true) : (PySem.W.clsIn K D).isSome = true := by
  obtain ⟨cd, hc, _⟩ := PySem.W.any_some h
  rw [hc]
  rfl
/-- isinstance(kept, c) -/
def rIsV (K : PySem.W.Frag) : List V → Hp → VK → Prop := fun xs H Q => ∃ (a D dd : Addr) (fs : List (Str × V)) (c : V) (cv : Value) (b : Bool), xs = [.ref a, c] ∧ H a = some (ExV (.ref D) (some dd) a) ∧ H dd = some (.xd fs) ∧ ExcC K D ∧ ClsV c cv ∧ PySem.W.kitOne K (.ref D) cv = some b ∧ Q (.bl b) H
theorem call_isV : CallR X (.builtin "isinstance") (rIsV X.K) := by
  rintro pins s σ H _ us Q I rel ⟨a, D, dd, fs, c, cv, b, rfl, ea, ed, C, cls, kit, told⟩
  match us, rel with
  | [_, _], .cons ra (.cons rc .nil) =>
    cases ra
    cases cls.eq rc
    obtain ⟨_, _, _, inst, _⟩ := exV_inst I ea ed
    exact PySem.W.kia_one (PySem.W.kitx_exc (cls_some C.hd) C.hg C.hk C.hs C.ha C.hn C.ht C.hm) I.kIn inst kit (fun z => nomatch z) fun tk => ⟨.bl b, H, I.tok tk, rfl, told⟩
/-- isinstance(kept, (c1, c2, ..)) -/
def rIsVT (K : PySem.W.Frag) : List V → Hp → VK → Prop := fun xs H Q => ∃ (a D dd tp : Addr) (fs : List (Str × V)) (cs : List V) (us : List Value) (b : Bool), xs = [.ref a, .ref tp] ∧ H a = some (ExV (.ref D) (some dd) a) ∧ H dd = some (.xd fs) ∧ ExcC K D ∧
  H tp = some (.tup cs) ∧ Paired ClsV cs us ∧ PySem.W.kitAny K (.ref D) us = some b ∧ Q (.bl b) H
theorem call_isVT : CallR X (.builtin "isinstance") (rIsVT X.K) := by
  rintro pins s σ H _ us Q I rel ⟨a, D, dd, tp, fs, cs, ws, b, rfl, ea, ed, C, tup, cls, kit, told⟩
  match us, rel with
  | [_, _], .cons ra (.cons rt .nil) =>
    cases ra
    cases rt
    obtain ⟨_, _, _, inst, _⟩ := exV_inst I ea ed
    obtain ⟨_, items, ri, ⟨oc, od, dt, sl⟩, get, is_tup, m, is_seq⟩ := (show ObjOk X.prog X.w H s.heap tp (.tup cs) from I.hok tp _ tup)
    cases ClsV.all cls ri
    cases is_tup
    cases is_seq
    exact PySem.W.kia_tup (PySem.W.kitx_exc (cls_some C.hd) C.hg C.hk C.hs C.ha C.hn C.ht C.hm) I.kIn inst get kit (fun z => nomatch z) fun tk => ⟨.bl b, H, I.tok tk, rfl, told⟩
end
end Tg

set_option maxHeartbeats 2000000
namespace Tg
open PySem PySem.Spec PyProof.Rows L2
/-! ### class X(ValueError): def __init__(self, at): ValueError.__init__(self, "..") ; self.at = at -/
def inCls (s : Stmt) (i : Nat) : Stmt := match s with
  | .ClassDef _ _ _ body _ _ _ _ _ _ _ => body.getD i (.Pass ⟨0, 0, 0, 0⟩)
  | _ => .Pass ⟨0, 0, 0, 0⟩
/-- what __init__ leaves: the field in a new dict -/
def spErr (C : Addr) (f : Str) : Sp := fun vs H Q _ => ∃ (a : Addr) (v : V), vs = [.ref a, v] ∧ H a = some (exo a C none) ∧ ∀ dx, H dx = none → dx ≠ a → Q .non (upd (upd H dx (exd dx [(f, v)])) a (exo a C (some dx)))
/-- what raise X(v) then leads to -/
theorem err_read {C : Addr} {f : Str} {ta : TE} {σ : L2.St} {H : Hp} {Q : XK} (h : ta σ H fun v H1 => ∀ (d : Addr) (H' : Hp), Same H1 H' → H1 d = none → H' d = some (.xd [(f, v)]) → Q (.ref C) (some d) H')
    (mono : ∀ {Q Q' : VK}, (∀ v H1, Q v H1 → Q' v H1) → ta σ H Q → ta σ H Q') : tMkO C (spErr C f) [] (tCons ta tNil) σ H Q := by
  refine mono (fun v H1 q => ⟨by show 1 ≤ 1000; decide, fun a na => ?_⟩) h
  refine ⟨a, v, rfl, upd_same, fun dx nd da => ⟨rfl, dx, [(f, v)], upd_same, ?_, ?_, ?_⟩⟩
  · rw [upd_ne da, upd_same]
  · rw [upd_ne da] at nd
    exact nd
  · have nd' : H1 dx = none := by
      rw [upd_ne da] at nd
      exact nd
    refine q dx _ (fun b o e => ?_) nd' upd_same
    have nb : b ≠ dx := ne_of_none e nd'
    have nba : b ≠ a := ne_of_none e na
    rw [upd_ne nb, del_ne nba, upd_ne nba, upd_ne nb, upd_ne nba]
    exact e
end Tg

set_option maxHeartbeats 2000000
namespace Tg
open PySem PySem.Spec PyProof.Rows L2
/-! ### a call by keywords that may raise, in a try -/
section
variable {X : Cx} {CX : CXT} {k : Nat} {f : Addr} {fd : FuncData} {ps ks : List Str} {sp : Sp} {E : L2.St → XK} {x : Str} {p pos : Pos} {kws : List Keyword} {tk : TA} {g : List Value → List Value → List Value} {gV : List V → List V → List V}
theorem pe_kwS (F : FnOk X.prog X.w X.K X.mg X.base CX k f fd ps sp) (room : Room k X.A) (gl : Gl X x) (at_x : X.mg x = some (.ref f)) (kept : PySem.W.keepIn X.K (.ref f) = true) (binds : KBn X.K fd ps 0 ks g gV) (lets : ∀ σ, PassesAt CX X σ (E σ)) (vals : PK X kws tk)
    (named : (backToKw pos (keywordEach kws X.env)).all (·.1.isSome) = true := by rfl) (names : (backToKw pos (keywordEach kws X.env)).filterMap (·.1) = ks := by rfl) (nodebug : (x == ("__debug__" : Str)) = false := by decide)
    (nostar : ((backTo pos (starEach [] X.env)).any (·.1) || (backToKw pos (keywordEach kws X.env)).any (·.1.isNone)) = false := by rfl) : PE X (.Call (.Name x p) [] kws pos) (fun σ H Q => tk σ H fun zs H2 => zs.length = ks.length ∧ sp (gV [] zs) H2 Q (E σ)) := by
  constructor
  intro pins s σ H Q I read
  refine wpAny_Call_Name_kw (ld_glob I gl at_x (PySem.W.callWith_KW0 (h₀ := X.base) I.ok.mod.kin kept named (thn (vals.run pos pins s σ H _ I read) fun ws s2 y => ?_) nostar) nodebug)
  obtain ⟨zs, H2, J, rel, many, told⟩ := y
  rw [names]
  refine ⟨J.kIn, wpAny_call (codeAny_mono (F.run X.A X.stack s2 H2 ⟨[], ks.zip ws⟩ (g [] ws) (gV [] zs) Q (E σ) room J.env0 (binds.to s2 [] ws J.kIn rfl (rel.length.symm.trans many)) (binds.rel (vs := []) (us := []) .nil rel) told) fun a s' z => ?_)⟩
  match a, z with
  | .error e, z => exact lets σ pins H2 s2 e s' J z
  | .ok (.ret u), z => exact J.after z
end
end Tg

set_option maxHeartbeats 2000000
namespace Tg
open PySem PySem.Spec PyProof.Rows L2
/-! ### own errors, and classes whose __init__ may raise, as a caller needs them -/
section
variable (P : Program) (w : World) (K : PySem.W.Frag) (mg : Str → Option Value) (base : Heap)
/-- the error x, of the class C over ValueError, made of one thing that is its field fld -/
def CalE (k : Nat) (x : Str) (C : Addr) (fld : Str) : Prop := ∃ fI fdI, OexC K C ∧ PySem.W.findIn K (.ref C) "__init__" = some (some (.ref fI)) ∧ PySem.W.typeIn K (.ref fI) = some (.type "function") ∧
  FnOk P w K mg base CX0 k fI fdI ["self", fld] (spErr C fld) ∧ Binds K fdI ["self", fld] [] ∧ mg x = some (.ref C)
/-- a def that may raise -/
def CalR (k : Nat) (x : Str) (ps : List Str) (sp : Sp) : Prop := ∃ f fd, FnOk P w K mg base (L2.CX P w) k f fd ps sp ∧ mg x = some (.ref f) ∧ PySem.W.keepIn K (.ref f) = true ∧ Binds K fd ps []
def CalRK (k : Nat) (x : Str) (ps ks : List Str) (is : List Nat) (sp : Sp) : Prop := ∃ f fd, FnOk P w K mg base (L2.CX P w) k f fd ps sp ∧ mg x = some (.ref f) ∧ PySem.W.keepIn K (.ref f) = true ∧ KBn K fd ps 0 ks (fun _ ws => prm is ws) (fun _ zs => prm is zs)
/-- a class whose __init__ may raise -/
def CalRC (k : Nat) (x : Str) (C : Addr) (ps : List Str) (sp : Sp) : Prop := ∃ f fd, FnOk P w K mg base (L2.CX P w) k f fd ps sp ∧ mg x = some (.ref C) ∧ Mk K C f ∧ Binds K fd ps []
def CalRCK (k : Nat) (x : Str) (C : Addr) (ps ks : List Str) (is : List Nat) (sp : Sp) : Prop := ∃ f fd, FnOk P w K mg base (L2.CX P w) k f fd ps sp ∧ mg x = some (.ref C) ∧ Mk K C f ∧ KBn K fd ps 1 ks (fun us ws => us ++ prm is ws) (fun vs zs => vs ++ prm is zs)
end
section
variable {X : Cx} {k : Nat} {ps ks : List Str} {is : List Nat} {sp : Sp} {x fld : Str} {C : Addr} {e : Expr} {es : List Expr} {p pos : Pos} {kws : List Keyword} {ta : TE} {t tk : TA} {W : WX}
theorem pm_err (c : CalE X.prog X.w X.K X.mg X.base k x C fld) (room : Room (k + 1) X.A) (gl : Gl X x) (he : PE X e ta) (nodebug : (x == ("__debug__" : Str)) = false := by decide)
    (star : starEach [e] X.env = (false, eval e X.env) :: starEach [] X.env := by rfl) : PMk X (.Call (.Name x p) [e] [] pos) (tMkO C (spErr C fld) [] (tCons ta tNil)) := by
  obtain ⟨fI, fdI, T, iC, tI, F, b, m⟩ := c
  exact pmk_oex T iC tI F room b .nil (fun _ _ _ _ _ _ _ z => z.elim) gl m (pa_cons he pa_nil star) nodebug star
/-- raise x(e), out of the def -/
def tErr (C : Addr) (fld : Str) (ta : TE) (E : XK) : TS := fun _ σ H => ta σ H fun v H1 => ∀ (d : Addr) (H' : Hp), Same H1 H' → H1 d = none → H' d = some (.xd [(fld, v)]) → E (.ref C) (some d) H'
/-- a call that may raise, in a def that lets it out -/
def tCalR (sp : Sp) (E : XK) (t : TA) : TE := fun σ H Q => t σ H fun vs H1 => sp vs H1 Q E
theorem pe_calR {E : XK} (c : CalR X.prog X.w X.K X.mg X.base k x ps sp) (hr : Room k X.A) (gl : Gl X x) (lets : Passes (L2.CX X.prog X.w) X E) (ha : PA X (e :: es) t) (nodebug : (x == ("__debug__" : Str)) = false := by decide)
    (star : starEach (e :: es) X.env = (false, eval e X.env) :: starEach es X.env := by rfl) (plain : (backTo pos (starEach es X.env)).any (·.1) = false := by rfl) : PE X (.Call (.Name x p) (e :: es) [] pos) (tCall sp [] E t) := by
  obtain ⟨f, fd, F, m, kp, b⟩ := c
  exact pe_call F hr gl m kp b .nil lets ha nodebug star plain
/-- the same in a try -/
theorem pe_calT (c : CalR X.prog X.w X.K X.mg X.base k x ps sp) (hr : Room k X.A) (gl : Gl X x) (tks : Takes X W) (ha : PA X (e :: es) t) (nodebug : (x == ("__debug__" : Str)) = false := by decide)
    (star : starEach (e :: es) X.env = (false, eval e X.env) :: starEach es X.env := by rfl) (plain : (backTo pos (starEach es X.env)).any (·.1) = false := by rfl) : PE X (.Call (.Name x p) (e :: es) [] pos) (tCallS sp (WE W) t) := by
  obtain ⟨f, fd, F, m, kp, b⟩ := c
  exact pe_callS F hr gl m kp b (fun σ => passAt tks σ) ha nodebug star plain
def tKwT (n : Nat) (sp : Sp) (is : List Nat) (W : WX) (tk : TA) : TE := fun σ H Q => tk σ H fun zs H2 => zs.length = n ∧ sp (prm is zs) H2 Q (WE W σ)
theorem pe_calKT (c : CalRK X.prog X.w X.K X.mg X.base k x ps ks is sp) (hr : Room k X.A) (gl : Gl X x) (tks : Takes X W) (vals : PK X kws tk)
    (named : (backToKw pos (keywordEach kws X.env)).all (·.1.isSome) = true := by rfl) (names : (backToKw pos (keywordEach kws X.env)).filterMap (·.1) = ks := by rfl) (nodebug : (x == ("__debug__" : Str)) = false := by decide)
    (nostar : ((backTo pos (starEach [] X.env)).any (·.1) || (backToKw pos (keywordEach kws X.env)).any (·.1.isNone)) = false := by rfl) : PE X (.Call (.Name x p) [] kws pos) (tKwT ks.length sp is W tk) := by
  obtain ⟨f, fd, F, m, kp, b⟩ := c
  exact pe_kwS (E := WE W) F hr gl m kp b (fun σ => passAt tks σ) vals named names nodebug nostar
/-! ### C(..), whose __init__ may raise, in a try -/
theorem made_or_raised {CX : CXT} {f : Addr} {fd : FuncData} {pins : List (Addr × Obj)} {σ : L2.St} {H : Hp} {s : Shared} {Q : VK} {E : L2.St → XK} {us zs : List Value} {kwv : List (Str × Value)} {vs : List V} (M : Mk X.K C f) (F : FnOk X.prog X.w X.K X.mg X.base CX k f fd ps sp)
    (room : Room (k + 1) X.A) (lets : PassesAt CX X σ (E σ)) (I : Inv X pins σ H s) (bound : ∀ s2 : Shared, X.K.In s2.heap → BindsTo s2 fd ⟨.ref (s.heap.objs.size + 1) :: us, kwv⟩ (ps.zip zs)) (rel : Vals (.ref (s.heap.objs.size + 1) :: vs) zs)
    (told : ∀ a d, H a = none → H d = none → d ≠ a → sp (.ref a :: vs) (upd (upd H d (.own a)) a (.ins C d [])) (fun v H2 => v = .non ∧ Q (.ref a) H2) (E σ)) : wpAny (model X.prog X.w) X.A (call (.ref C) us kwv) (EP X pins σ Q) X.xe s := by
  have new := I.made (C := C)
  have now := told _ _ (I.hok.fresh (Nat.le_succ s.heap.objs.size)) (I.hok.fresh (Nat.le_refl s.heap.objs.size)) (Nat.ne_of_lt (Nat.lt_succ_self _))
  have ran := F.run _ X.stack _ _ _ zs _ _ (E σ) (room.make C us kwv) (new.env0.make C us kwv) (bound _ new.kIn) rel now
  refine wpAny_call (make_map (f := f) I.kIn M.makes M.init (beq_iff_eq.mp M.fn) (codeAny_mono ran fun out s' z => ?_))
  match out, z with
  | .error err, z => exact lets pins _ _ err s' new z
  | .ok (.ret u), z =>
    obtain ⟨_, H3, J, r, rfl, q⟩ := new.after z
    exact ⟨r, .ref (s.heap.objs.size + 1), H3, J, rfl, q⟩
def tMkT (C : Addr) (sp : Sp) (W : WX) (t : TA) : TE := fun σ H Q => t σ H fun vs H1 => ∀ a d, H1 a = none → H1 d = none → d ≠ a → sp (.ref a :: vs) (upd (upd H1 d (.own a)) a (.ins C d [])) (fun v H2 => v = .non ∧ Q (.ref a) H2) (WE W σ)
theorem pe_mkT (c : CalRC X.prog X.w X.K X.mg X.base k x C ps sp) (room : Room (k + 1) X.A) (gl : Gl X x) (tks : Takes X W) (ha : PA X (e :: es) t) (nodebug : (x == ("__debug__" : Str)) = false := by decide)
    (star : starEach (e :: es) X.env = (false, eval e X.env) :: starEach es X.env := by rfl) (plain : (backTo pos (starEach es X.env)).any (·.1) = false := by rfl) : PE X (.Call (.Name x p) (e :: es) [] pos) (tMkT C sp W t) := by
  obtain ⟨f, fd, F, m, M, b⟩ := c
  constructor
  intro pins s σ H Q I read
  refine wpAny_Call_Name_kw (ld_glob I gl m (PySem.W.callWith_K (h₀ := X.base) I.ok.mod.kin M.kp (thn (ha.run pos pins s σ H _ I read) fun us s1 y => ?_) star plain) nodebug)
  obtain ⟨vs, H1, J, rel, told⟩ := y
  refine ⟨J.kIn, made_or_raised (E := WE W) (zs := .ref (s1.heap.objs.size + 1) :: us) M F room (passAt tks σ) J (fun s2 kin => ?_) (.cons rfl rel) told⟩
  have many : (V.ref (s1.heap.objs.size + 1) :: vs).length = ps.length := F.len _ _ _ _ (told _ _ (J.hok.fresh (Nat.le_succ s1.heap.objs.size)) (J.hok.fresh (Nat.le_refl s1.heap.objs.size)) (Nat.ne_of_lt (Nat.lt_succ_self _)))
  have z := b s2 (.ref (s1.heap.objs.size + 1) :: us) kin (by rw [List.append_nil, List.length_cons, ← rel.length]; exact many)
  rw [List.append_nil] at z
  exact z
def tMkKT (C : Addr) (n : Nat) (sp : Sp) (is : List Nat) (W : WX) (tk : TA) : TE := fun σ H Q => tk σ H fun zs H1 => zs.length = n ∧ ∀ a d, H1 a = none → H1 d = none → d ≠ a → sp (.ref a :: prm is zs) (upd (upd H1 d (.own a)) a (.ins C d [])) (fun v H2 => v = .non ∧ Q (.ref a) H2) (WE W σ)
theorem pe_mkKT (c : CalRCK X.prog X.w X.K X.mg X.base k x C ps ks is sp) (room : Room (k + 1) X.A) (gl : Gl X x) (tks : Takes X W) (vals : PK X kws tk)
    (named : (backToKw pos (keywordEach kws X.env)).all (·.1.isSome) = true := by rfl) (names : (backToKw pos (keywordEach kws X.env)).filterMap (·.1) = ks := by rfl) (nodebug : (x == ("__debug__" : Str)) = false := by decide)
    (nostar : ((backTo pos (starEach [] X.env)).any (·.1) || (backToKw pos (keywordEach kws X.env)).any (·.1.isNone)) = false := by rfl) : PE X (.Call (.Name x p) [] kws pos) (tMkKT C ks.length sp is W tk) := by
  obtain ⟨f, fd, F, m, M, b⟩ := c
  constructor
  intro pins s σ H Q I read
  refine wpAny_Call_Name_kw (ld_glob I gl m (PySem.W.callWith_KW0 (h₀ := X.base) I.ok.mod.kin M.kp named (thn (vals.run pos pins s σ H _ I read) fun ws s1 y => ?_) nostar) nodebug)
  obtain ⟨zs, H1, J, rel, many, told⟩ := y
  rw [names]
  exact ⟨J.kIn, made_or_raised (E := WE W) (us := []) (zs := .ref (s1.heap.objs.size + 1) :: prm is ws) M F room (passAt tks σ) J (fun s2 kin => b.to s2 [.ref (s1.heap.objs.size + 1)] ws kin rfl (rel.length.symm.trans many)) (.cons rfl (prm_rel rel is)) told⟩
end
end Tg

set_option maxHeartbeats 1000000
namespace Tg
open PySem PySem.Spec PyProof.Rows L2
/-! ### min(xs, default=None), max(xs, default=None), xs a list of areI -/
theorem minOf_is : ∀ (ys : List Int) (y : Int), PySem.W.minOf y ys ∈ y :: ys ∧ ∀ z, z ∈ y :: ys → PySem.W.minOf y ys ≤ z
  | [], y => ⟨List.mem_cons_self, fun z hz => by
    rw [List.mem_singleton.mp hz]
    exact Int.le_refl _⟩
  | x :: ys, y => by
    have e : PySem.W.minOf y (x :: ys) = PySem.W.minOf (if decide (x < y) = true then x else y) ys := rfl
    obtain ⟨i1, i2⟩ := minOf_is ys (if decide (x < y) = true then x else y)
    rw [e]
    have a0 := i2 _ List.mem_cons_self
    by_cases c : x < y
    · rw [if_pos (decide_eq_true c)] at i1 i2 a0 ⊢
      refine ⟨List.mem_cons_of_mem _ i1, fun z inside => ?_⟩
      rcases List.mem_cons.mp inside with rfl | inside
      · omega
      · exact i2 z inside
    · rw [if_neg (fun z => c (of_decide_eq_true z))] at i1 i2 a0 ⊢
      refine ⟨?_, fun z inside => ?_⟩
      · rcases List.mem_cons.mp i1 with h | h
        · rw [h]
          exact List.mem_cons_self
        · exact List.mem_cons_of_mem _ (List.mem_cons_of_mem _ h)
      · rcases List.mem_cons.mp inside with rfl | inside
        · exact a0
        · rcases List.mem_cons.mp inside with rfl | inside
          · omega
          · exact i2 z (List.mem_cons_of_mem _ inside)
theorem maxOf_is : ∀ (ys : List Int) (y : Int), PySem.W.maxOf y ys ∈ y :: ys ∧ ∀ z, z ∈ y :: ys → z ≤ PySem.W.maxOf y ys
  | [], y => ⟨List.mem_cons_self, fun z hz => by
    rw [List.mem_singleton.mp hz]
    exact Int.le_refl _⟩
  | x :: ys, y => by
    have e : PySem.W.maxOf y (x :: ys) = PySem.W.maxOf (if decide (y < x) = true then x else y) ys := rfl
    obtain ⟨i1, i2⟩ := maxOf_is ys (if decide (y < x) = true then x else y)
    rw [e]
    have a0 := i2 _ List.mem_cons_self
    by_cases c : y < x
    · rw [if_pos (decide_eq_true c)] at i1 i2 a0 ⊢
      refine ⟨List.mem_cons_of_mem _ i1, fun z inside => ?_⟩
      rcases List.mem_cons.mp inside with rfl | inside
      · omega
      · exact i2 z inside
    · rw [if_neg (fun z => c (of_decide_eq_true z))] at i1 i2 a0 ⊢
      refine ⟨?_, fun z inside => ?_⟩
      · rcases List.mem_cons.mp i1 with h | h
        · rw [h]
          exact List.mem_cons_self
        · exact List.mem_cons_of_mem _ (List.mem_cons_of_mem _ h)
      · rcases List.mem_cons.mp inside with rfl | inside
        · exact a0
        · rcases List.mem_cons.mp inside with rfl | inside
          · omega
          · exact i2 z (List.mem_cons_of_mem _ inside)
section
variable {X : Cx} {e : Expr} {te : TE} {p pos cpos kpos : Pos} {j : Nat}
/-- a number or None -/
def vO : Option Int → V
  | none => .non
  | some m => .int m
def tMinDef (K : PySem.W.Frag) (te : TE) : TE := fun σ H Q => te σ H fun x H1 => ∃ (l : Addr) (ns : List Int), x = .ref l ∧ SqL K H1 l (ns.map V.int) ∧ Q (vO ns.min?) H1
def tMaxDef (K : PySem.W.Frag) (te : TE) : TE := fun σ H Q => te σ H fun x H1 => ∃ (l : Addr) (ns : List Int), x = .ref l ∧ SqL K H1 l (ns.map V.int) ∧ Q (vO ns.max?) H1
theorem pe_minDef (calm : X.calm = true) (room : X.A.units + 1 < cLine) (glob : Gl X "min") (unset : X.mg "min" = none) (he : PE X e te) (nostar : starEach [e] X.env = (false, eval e X.env) :: starEach [] X.env := by rfl) :
    PE X (.Call (.Name "min" p) [e] [⟨some "default", .Constant .none j cpos, kpos⟩] pos) (tMinDef X.K te) := by
  constructor
  intro pins s σ H Q I read
  refine wpAny_Call_Name_kw (ld_blt I glob unset boot_min (callWith_kw (thn ((pa_cons he pa_nil nostar).run pos pins s σ H (fun vs H1 => ∃ (l : Addr) (ns : List Int), vs = [.ref l] ∧ SqL X.K H1 l (ns.map V.int) ∧ Q (vO ns.min?) H1) I ?_) fun us s1 come => ?_) (by rw [nostar]; rfl) (by rw [nostar]; rfl) rfl rfl))
  · have mono : ∀ x H1, (∃ (l : Addr) (ns : List Int), x = .ref l ∧ SqL X.K H1 l (ns.map V.int) ∧ Q (vO ns.min?) H1) → tNil σ H1 (fun xs H2 => ∃ (l : Addr) (ns : List Int), x :: xs = [.ref l] ∧ SqL X.K H2 l (ns.map V.int) ∧ Q (vO ns.min?) H2) := fun x H1 h => by
      obtain ⟨l, ns, ex, r⟩ := h
      exact ⟨l, ns, by rw [ex], r⟩
    have ext : (fun x H1 => ∃ (l : Addr) (ns : List Int), x = V.ref l ∧ SqL X.K H1 l (ns.map V.int) ∧ Q (vO ns.min?) H1) = fun x H1 => tNil σ H1 (fun xs H2 => ∃ (l : Addr) (ns : List Int), x :: xs = [.ref l] ∧ SqL X.K H2 l (ns.map V.int) ∧ Q (vO ns.min?) H2) := by
      funext x H1
      refine propext ⟨mono x H1, fun h => ?_⟩
      obtain ⟨l, ns, ex, r⟩ := h
      exact ⟨l, ns, (List.cons.inj ex).1, r⟩
    show te σ H (fun x H1 => tNil σ H1 _)
    rw [← ext]
    exact read
  · obtain ⟨_, H1, J, rel, l, ns, rfl, hl, fin⟩ := come
    rw [Vals.ref1 rel]
    obtain ⟨its, rv, isl, _⟩ := J.list hl
    have areI : IntsAre its ns := intsAre_of rv
    refine evalAll_cons (wpAny_bind (wpAny_Constant_none (wpAny_bind (wpAny_standAt (wpAny_pure (evalAll_nil ?_))))))
    refine PySem.W.min_list_datum_default (α := Int) (xs := ns) (J.ok.hd calm) isl.isList ⟨[], areI.reads s1.heap⟩ room (fun en h' tk kp => ?_) fun y ys i v h' tk en at_i holds kp => ?_
    · refine ⟨.non, H1, J.kept kp, rfl, ?_⟩
      rw [en] at fin
      exact fin
    · obtain ⟨as, rd⟩ := holds
      obtain ⟨h1, h2⟩ := minOf_is ys y
      have rd' : Reads h' v (.int (PySem.W.minOf y ys)) as := rd
      cases rd'
      refine ⟨.int _, H1, J.kept kp, ⟨_, rfl⟩, ?_⟩
      rw [en, List.min?_eq_some_iff.mpr ⟨h1, h2⟩] at fin
      exact fin
theorem pe_maxDef (calm : X.calm = true) (room : X.A.units + 1 < cLine) (glob : Gl X "max") (unset : X.mg "max" = none) (he : PE X e te) (nostar : starEach [e] X.env = (false, eval e X.env) :: starEach [] X.env := by rfl) :
    PE X (.Call (.Name "max" p) [e] [⟨some "default", .Constant .none j cpos, kpos⟩] pos) (tMaxDef X.K te) := by
  constructor
  intro pins s σ H Q I read
  refine wpAny_Call_Name_kw (ld_blt I glob unset boot_max (callWith_kw (thn ((pa_cons he pa_nil nostar).run pos pins s σ H (fun vs H1 => ∃ (l : Addr) (ns : List Int), vs = [.ref l] ∧ SqL X.K H1 l (ns.map V.int) ∧ Q (vO ns.max?) H1) I ?_) fun us s1 come => ?_) (by rw [nostar]; rfl) (by rw [nostar]; rfl) rfl rfl))
  · have ext : (fun x H1 => ∃ (l : Addr) (ns : List Int), x = V.ref l ∧ SqL X.K H1 l (ns.map V.int) ∧ Q (vO ns.max?) H1) = fun x H1 => tNil σ H1 (fun xs H2 => ∃ (l : Addr) (ns : List Int), x :: xs = [.ref l] ∧ SqL X.K H2 l (ns.map V.int) ∧ Q (vO ns.max?) H2) := by
      funext x H1
      refine propext ⟨fun h => ?_, fun h => ?_⟩
      · obtain ⟨l, ns, ex, r⟩ := h
        exact ⟨l, ns, by rw [ex], r⟩
      · obtain ⟨l, ns, ex, r⟩ := h
        exact ⟨l, ns, (List.cons.inj ex).1, r⟩
    show te σ H (fun x H1 => tNil σ H1 _)
    rw [← ext]
    exact read
  · obtain ⟨_, H1, J, rel, l, ns, rfl, hl, fin⟩ := come
    rw [Vals.ref1 rel]
    obtain ⟨its, rv, isl, _⟩ := J.list hl
    have areI : IntsAre its ns := intsAre_of rv
    refine evalAll_cons (wpAny_bind (wpAny_Constant_none (wpAny_bind (wpAny_standAt (wpAny_pure (evalAll_nil ?_))))))
    refine PySem.W.max_list_datum_default (α := Int) (xs := ns) (J.ok.hd calm) isl.isList ⟨[], areI.reads s1.heap⟩ room (fun en h' tk kp => ?_) fun y ys i v h' tk en at_i holds kp => ?_
    · refine ⟨.non, H1, J.kept kp, rfl, ?_⟩
      rw [en] at fin
      exact fin
    · obtain ⟨as, rd⟩ := holds
      obtain ⟨h1, h2⟩ := maxOf_is ys y
      have rd' : Reads h' v (.int (PySem.W.maxOf y ys)) as := rd
      cases rd'
      refine ⟨.int _, H1, J.kept kp, ⟨_, rfl⟩, ?_⟩
      rw [en, List.max?_eq_some_iff.mpr ⟨h1, h2⟩] at fin
      exact fin
end
end Tg

/-! a != b of an own class with an own __eq__ and no __ne__, where the own == says True -/
namespace Tg
open PySem PySem.Spec PyProof.Rows L2
/-- what stands of such a class -/
structure NeC (K : PySem.W.Frag) (C f : Addr) : Prop where
  cls : ∃ (nm q : Str) (N : Addr) (bs : List Value) (hd : Bool) (sn : List Str) (sub : List Value) (ab : Bool) (col : Option Bool) (dd : Option Addr) (k0 k1 k2 k3 k5 : Option Value) (id : String),
    K.lookup C = some (excClassObj nm q C N bs [.type "object"] hd sn sub ab col dd k0 k1 k2 k3 k5 id) ∧ PySem.W.nsOkIn K N = true ∧ PySem.W.nsIn K N "__eq__" = some (some (.ref f)) ∧ PySem.W.nsIn K N "__ne__" = some none
  fn : ∃ o, K.lookup f = some o ∧ o.cls = .type "function"
/-- a name that stands in a written namespace -/
theorem ns_has {K : PySem.W.Frag} {h : Heap} {N : Addr} {x : Str} {v : Value} (inK : K.In h) (okN : PySem.W.nsOkIn K N = true) (e : PySem.W.nsIn K N x = some (some v)) : h.nsMap N x = some v := by
  obtain ⟨ob, es, ep, stands, isD, _, tells⟩ : h.Ns N (h.nsMap N) := .of_isNs (PySem.W.isNs_of_in inK okN)
  rw [← tells]
  unfold PySem.W.nsIn at e
  cases lk : K.lookup N with
  | none =>
    rw [lk] at e
    cases e
  | some ob2 =>
    have same := (inK N ob2 lk).symm.trans stands
    cases same
    obtain ⟨c, d, dt, sl⟩ := ob
    obtain rfl : dt = .dict es ep := isD
    rw [lk] at e
    dsimp only at e
    unfold nsFind findBy
    rw [← Array.find?_toList]
    cases fnd : es.toList.find? (·.key.isStr x) with
    | none =>
      rw [fnd] at e
      dsimp only at e
      split at e <;> cases e
    | some en =>
      rw [fnd] at e
      cases e
      rfl
section
variable {X : Cx} {n : Nat}
def rNeG (C : Addr) (R : Addr → Addr → Hp → Prop) : R2 := fun x y H Q => DIns C R x y H ∧ ∀ H', Ext H H' → Q (.bl false) H'
theorem op_neG {CX : CXT} {C f : Addr} {fd : FuncData} {ps : List Str} {R : Addr → Addr → Hp → Prop} {E : XK} (F : FnOk X.prog X.w X.K X.mg X.base CX n f fd ps (spEq R)) (N : NeC X.K C f) (hb : Binds X.K fd ps []) (hx : Passes CX X E) (hr : Room (n + 1) X.A) :
    OpR X (compareOp .NotEq) (rNeG C R) := by
  rintro pins s σ H x y v u Q I rx ry ⟨⟨a, b, dx, dy, fs, gs, rfl, rfl, ha, hb', holds⟩, q⟩
  cases rx
  cases ry
  obtain ⟨atA, J, _⟩ := ins_get I.hok ha
  obtain ⟨atB, J', _⟩ := ins_get I.hok hb'
  obtain ⟨od, J, _⟩ := J.look
  obtain ⟨odB, J', _⟩ := J'.look
  have there : ∀ p o, X.K.lookup p = some o → s.heap.get? p = some o := fun p o h => I.kIn p o h
  obtain ⟨nm, qn, Ns, bs, hd, sn, sub, ab, col, dd, k0, k1, k2, k3, k5, id_, eC, okN, eE, eN⟩ := N.cls
  obtain ⟨of, eF, cF⟩ := N.fn
  have own : s.heap.OwnEqNoNe a C f "object" [.type "object"] := by
    refine ⟨_, of, nm, qn, Ns, bs, hd, sn, sub, ab, col, dd, k0, k1, k2, k3, k5, id_, s.heap.nsMap Ns, _, J.at_, J.cls, there _ _ eC, .of_isNs (PySem.W.isNs_of_in I.kIn okN), ?_, there _ _ eF, cF, PySem.F.cmp_object.mro, PySem.F.cmp_object.eq.lookup, PySem.W.nsMap_none_of_in I.kIn okN eN⟩
    exact ns_has I.kIn okN eE
  have sb : Sub X n X.A.in1 := Sub.in1 ⟨hr, rfl⟩
  refine compareOp_ne_ownEq PySem.F.cmp_object own J'.at_ J'.cls (by have := hr.units; omega) ?_
  have hsp : spEq R [.ref a, .ref b] H (fun v H' => v = .bl true ∧ Ext H H') E := ⟨a, b, rfl, holds, fun H' e => ⟨rfl, e⟩⟩
  have e0 : Env0 X.prog X.w X.K X.mg X.base X.A.in1 X.stack s H := by
    have env := I.env0
    exact ⟨sb.fr.symm ▸ env.frames, env.mod, env.bs, env.bsz, env.funs, env.frf, env.hok, env.bare⟩
  have len2 := F.len _ _ _ _ hsp
  refine wpAny_call (codeAny_mono (F.run X.A.in1 X.stack s H ⟨[.ref a, .ref b], []⟩ [.ref a, .ref b] [.ref a, .ref b] _ E sb.room e0 (by
    have z := hb s [.ref a, .ref b] I.kIn (by simpa using len2)
    simpa using z) (.cons rfl (.cons rfl .nil)) hsp) fun r s' told => ?_)
  cases r with
  | error e => exact hx pins σ H s e s' I told
  | ok fl =>
    cases fl with
    | ret w =>
      obtain ⟨z, H', I', rz, ez, ex⟩ := I.after told
      subst ez
      cases rz
      exact ⟨true, rfl, .bl false, H', I', rfl, q H' ex⟩
    | next => exact False.elim told
    | brk => exact False.elim told
    | cont => exact False.elim told
end
end Tg

namespace Tg
open PySem PySem.Spec PyProof.Rows L2
abbrev sFI : Stmt := inCls (topS 20) 0
abbrev sRisen : Stmt := topS 22
abbrev sHB : Stmt := topS 23
abbrev sCkR : Stmt := topS 24
abbrev NFI : List Str := ["self", "count", "total", "squares", "least", "greatest", "first", "last", "rise", "held"]
theorem scFI : FnScope NFI NFI (defScope sFI) := ⟨rfl, rfl, rfl, by decide +kernel, rfl, by decide +kernel, by decide +kernel⟩
theorem scRisen : FnScope ["ahead", "behind"] ["ahead", "behind"] (defScope sRisen) := ⟨rfl, rfl, rfl, by decide +kernel, rfl, by decide +kernel, by decide +kernel⟩
theorem scHB : FnScope ["ahead", "behind"] ["ahead", "behind"] (defScope sHB) := ⟨rfl, rfl, rfl, by decide +kernel, rfl, by decide +kernel, by decide +kernel⟩
theorem scCkR : FnScope ["points", "at"] ["points"] (defScope sCkR) := ⟨rfl, rfl, rfl, by decide +kernel, rfl, by decide +kernel, by decide +kernel⟩
theorem if_n {c : Bool} {A B : Prop} (h : c = false) (b : B) : if c = true then A else B := by
  subst h
  exact if_f b
theorem if_y {c : Bool} {A B : Prop} (h : c = true) (a : A) : if c = true then A else B := by
  subst h
  exact if_t a
/-! ### points and their folds -/
abbrev Pt := Int × Int
def riz (a b : Int) : Int := if b ≥ a then b - a else if 0 > b then 0 else b
def hld (p q : Pt) : Int := p.2 * (q.1 - p.1)
def wts (ps : List Pt) : List Int := ps.map (·.2)
structure FD where
  cnt : Int
  tot : Int
  sq : Int
  lo : Option Int
  hi : Option Int
  fst : Option Pt
  lst : Option Pt
  ris : Int
  hel : Int
def fOf (ps : List Pt) : FD := ⟨ps.length, (wts ps).sum, ((wts ps).map fun w => w * w).sum, (wts ps).min?, (wts ps).max?, ps.head?, ps.getLast?, (List.zipWith riz (wts ps) ((wts ps).drop 1)).sum, (List.zipWith hld ps (ps.drop 1)).sum⟩
theorem min_is {ns : List Int} {m : Int} (h : m ∈ ns) (le : ∀ y, y ∈ ns → m ≤ y) : ns.min? = some m := List.min?_eq_some_iff.mpr ⟨h, le⟩
theorem max_is {ns : List Int} {m : Int} (h : m ∈ ns) (le : ∀ y, y ∈ ns → y ≤ m) : ns.max? = some m := List.max?_eq_some_iff.mpr ⟨h, le⟩
/-- points whose times rise, of some size -/
structure POk (ps : List Pt) : Prop where
  len : ps.length < 40
  up : ∀ (i : Nat) (p q : Pt), ps[i]? = some p → ps[i + 1]? = some q → p.1 < q.1
  sz : ∀ p, p ∈ ps → p.2.natAbs < 2 ^ 60
section
variable {K : PySem.W.Frag} {H H' : Hp}
/-- a point or None -/
def PO (K : PySem.W.Frag) (H : Hp) (v : V) : Option Pt → Prop
  | none => v = .non
  | some p => ∃ t, v = .ref t ∧ SqT K H t [.int p.1, .int p.2]
theorem PO.same {v : V} (s : Same H H') : ∀ {o : Option Pt}, PO K H v o → PO K H' v o
  | none, h => h
  | some p, ⟨t, e, h⟩ => ⟨t, e, sqT_same s h⟩
theorem dp_pd {v : V} {x : Pt} (h : Dp K H v (pd x)) : ∃ a, v = .ref a ∧ SqT K H a [.int x.1, .int x.2] := by
  cases h with
  | tup a b =>
    cases b with
    | cons h1 b =>
      cases b with
      | cons h2 b =>
        cases b
        cases h1
        cases h2
        exact ⟨_, rfl, a⟩
def flds (F : FD) (vf vl : V) : List (Str × V) := [("count", .int F.cnt), ("total", .int F.tot), ("squares", .int F.sq), ("least", vw F.lo), ("greatest", vw F.hi), ("first", vf), ("last", vl), ("rise", .int F.ris), ("held", .int F.hel)]
/-- a Fold in the heap -/
def FdO (K : PySem.W.Frag) (C : Addr) (H : Hp) (a : Addr) (F : FD) : Prop := ∃ dx vf vl, H a = some (.ins C dx (flds F vf vl)) ∧ PO K H vf F.fst ∧ PO K H vl F.lst
theorem FdO.same {C a : Addr} {F : FD} (s : Same H H') (h : FdO K C H a F) : FdO K C H' a F := by
  obtain ⟨dx, vf, vl, e, h1, h2⟩ := h
  exact ⟨dx, vf, vl, s _ _ e, h1.same s, h2.same s⟩
/-- points in a list -/
def PtL (K : PySem.W.Frag) (H : Hp) (l : Addr) (ps : List Pt) : Prop := ∃ xs, SqL K H l xs ∧ DpAll K H xs (ps.map pd)
theorem PtL.same {l : Addr} {ps : List Pt} (s : Same H H') (h : PtL K H l ps) : PtL K H' l ps := by
  obtain ⟨xs, h1, h2⟩ := h
  exact ⟨xs, sqL_same s h1, dpAll_same s h2⟩
structure TFold (K : PySem.W.Frag) (C : Addr) : Prop where
  cl : Cls K C
  no : ∀ n, n ∈ ["count", "total", "squares", "least", "greatest", "first", "last", "rise", "held"] → PySem.W.findIn K (.ref C) n = some none
end
section
variable {P : Program} {w : World} {K : PySem.W.Frag} {mg : Str → Option Value} {base : Heap} {C : Addr}
/-- C(k = v, ..), keywords alone -/
def CalCK (P : Program) (w : World) (K : PySem.W.Frag) (mg : Str → Option Value) (base : Heap) (k : Nat) (x : Str) (C : Addr) (ps ks : List Str) (gV : List V → List V → List V) (sp : Sp) : Prop := ∃ f fd g, FnOk P w K mg base CX0 k f fd ps sp ∧ mg x = some (.ref C) ∧ Mk K C f ∧ KBn K fd ps 1 ks g gV
theorem pe_calCK {X : Cx} {k : Nat} {x : Str} {ps ks : List Str} {gV : List V → List V → List V} {sp : Sp} {kws : List Keyword} {tk : TA} {p pos : Pos} (c : CalCK X.prog X.w X.K X.mg X.base k x C ps ks gV sp) (hr : Room (k + 1) X.A) (gl : Gl X x) (vals : PK X kws tk)
    (named : (backToKw pos (keywordEach kws X.env)).all (·.1.isSome) = true := by rfl) (names : (backToKw pos (keywordEach kws X.env)).filterMap (·.1) = ks := by rfl) (nodebug : (x == ("__debug__" : Str)) = false := by decide)
    (nostar : ((backTo pos (starEach [] X.env)).any (·.1) || (backToKw pos (keywordEach kws X.env)).any (·.1.isNone)) = false := by rfl) :
    PE X (.Call (.Name x p) [] kws pos) (tMakeK C 0 ks.length sp gV E0 tNil tk) := by
  obtain ⟨f, fd, g, F, hm, M, hb⟩ := c
  exact pe_makeK0 M F hr gl hm hb pass0 vals named names nodebug nostar
/-! ### Fold.__init__ -/
def spFI (C : Addr) : Sp := fun vs H Q _ => ∃ (p dx : Addr) (a b c d e f g h i : V), vs = [.ref p, a, b, c, d, e, f, g, h, i] ∧ H p = some (.ins C dx []) ∧
  Q .non (upd H p (.ins C dx [("count", a), ("total", b), ("squares", c), ("least", d), ("greatest", e), ("first", f), ("last", g), ("rise", h), ("held", i)]))
theorem ok_fi {f : Addr} {fd : FuncData} {kws : List (Str × V)} {k : Nat} (F : FunD K "__init__" "Fold.__init__" (defArgs sFI) (defBody sFI) (defScope sFI) [] kws f fd) (T : TFold K C) : FnOk P w K mg base CX0 (k + 1) f fd NFI (spFI C) := by
  refine F.ok scFI (fun vs H Q E h => ?_) (fun cdv A outer s H vs Q E hr h => ?_)
  · obtain ⟨p, dx, a, b, c, d, e, f, g, h, i, rfl, _⟩ := h
    rfl
  · obtain ⟨p, dx, a, b, c, d, e, f, g, h, i, rfl, hp, q⟩ := h
    refine ⟨_, pss_cons (ps_fld (pv 0) (pv 1) rfl) (pss_cons (ps_fld (pv 0) (pv 2) rfl) (pss_cons (ps_fld (pv 0) (pv 3) rfl) (pss_cons (ps_fld (pv 0) (pv 4) rfl) (pss_cons (ps_fld (pv 0) (pv 5) rfl)
      (pss_cons (ps_fld (pv 0) (pv 6) rfl) (pss_cons (ps_fld (pv 0) (pv 7) rfl) (pss_cons (ps_fld (pv 0) (pv 8) rfl) (pss_one (ps_fld (pv 0) (pv 9) rfl))))))))), ?_⟩
    refine ⟨_, rfl, _, rfl, p, C, dx, _, rfl, hp, T.cl, T.no _ (by decide), (by show 0 < 1000; decide), ?_⟩
    refine ⟨_, rfl, _, rfl, p, C, dx, _, rfl, upd_same, T.cl, T.no _ (by decide), (by show 1 < 1000; decide), ?_⟩
    rw [upd_upd]
    refine ⟨_, rfl, _, rfl, p, C, dx, _, rfl, upd_same, T.cl, T.no _ (by decide), (by show 2 < 1000; decide), ?_⟩
    rw [upd_upd]
    refine ⟨_, rfl, _, rfl, p, C, dx, _, rfl, upd_same, T.cl, T.no _ (by decide), (by show 3 < 1000; decide), ?_⟩
    rw [upd_upd]
    refine ⟨_, rfl, _, rfl, p, C, dx, _, rfl, upd_same, T.cl, T.no _ (by decide), (by show 4 < 1000; decide), ?_⟩
    rw [upd_upd]
    refine ⟨_, rfl, _, rfl, p, C, dx, _, rfl, upd_same, T.cl, T.no _ (by decide), (by show 5 < 1000; decide), ?_⟩
    rw [upd_upd]
    refine ⟨_, rfl, _, rfl, p, C, dx, _, rfl, upd_same, T.cl, T.no _ (by decide), (by show 6 < 1000; decide), ?_⟩
    rw [upd_upd]
    refine ⟨_, rfl, _, rfl, p, C, dx, _, rfl, upd_same, T.cl, T.no _ (by decide), (by show 7 < 1000; decide), ?_⟩
    rw [upd_upd]
    refine ⟨_, rfl, _, rfl, p, C, dx, _, rfl, upd_same, T.cl, T.no _ (by decide), (by show 8 < 1000; decide), ?_⟩
    rw [upd_upd]
    exact q
/-! ### risen, held_between, check_rising -/
def spRisen : Sp := fun vs H Q _ => ∃ a b : Int, vs = [.int a, .int b] ∧ Q (.int (riz a b)) H
theorem ok_risen {f : Addr} {fd : FuncData} {k : Nat} (F : Fun K "risen" "risen" sRisen f fd) (m_max : mg "max" = none) : FnOk P w K mg base CX0 (k + 1) f fd ["ahead", "behind"] spRisen := by
  refine F.ok scRisen (fun vs H Q E h => ?_) (fun cdv A outer s H vs Q E hr h => ?_)
  · obtain ⟨a, b, rfl, _⟩ := h
    rfl
  · obtain ⟨a, b, rfl, q⟩ := h
    refine ⟨_, pss_cons (ps_if (pt_cmpR op_ge (pv 1) (pv 0) (nomark _))
        (pss_one (ps_ret (pe_op op_sub (pv 1) (pv 0))))
        pss_nil)
      (pss_one (ps_ret (pe_callB (call_max2 rfl) (by rfl) m_max (by decide +kernel) (pa_cons (pv 1) (pa_cons pe_int pa_nil))))), ?_⟩
    unfold riz at q
    refine ⟨_, rfl, _, rfl, _, _, rfl, rfl, _, rfl, ite2 (fun g => ?_) (fun g => ?_)⟩
    · rw [if_pos (of_decide_eq_true g)] at q
      exact ⟨_, rfl, _, rfl, _, _, rfl, rfl, q⟩
    · rw [if_neg (fun z => g (decide_eq_true z))] at q
      exact ⟨_, rfl, _, _, rfl, q⟩
def spHB (K : PySem.W.Frag) : Sp := fun vs H Q _ => ∃ (a b : Addr) (p q : Pt), vs = [.ref a, .ref b] ∧ SqT K H a [.int p.1, .int p.2] ∧ SqT K H b [.int q.1, .int q.2] ∧ p.2.natAbs < 2 ^ 60 ∧ Q (.int (hld p q)) H
theorem small_mul {i j : Int} (h : i.natAbs < 2 ^ 60) : CMul i j := .inl ⟨by omega, by omega⟩
theorem ok_hb {f : Addr} {fd : FuncData} {k : Nat} (F : Fun K "held_between" "held_between" sHB f fd) : FnOk P w K mg base CX0 (k + 1) f fd ["ahead", "behind"] (spHB K) := by
  refine F.ok scHB (fun vs H Q E h => ?_) (fun cdv A outer s H vs Q E hr h => ?_)
  · obtain ⟨a, b, p, q, rfl, _⟩ := h
    rfl
  · obtain ⟨a, b, p, q, rfl, ha, hb, hs, fin⟩ := h
    refine ⟨_, pss_one (ps_ret (pe_op op_mul (pe_ix ix_tup (pv 0) pe_int (fun _ _ => rfl)) (pe_op op_sub (pe_ix ix_tup (pv 1) pe_int (fun _ _ => rfl)) (pe_ix ix_tup (pv 0) pe_int (fun _ _ => rfl))))), ?_⟩
    exact ⟨_, rfl, a, _, _, _, rfl, rfl, ha, rfl, _, rfl, b, _, _, _, rfl, rfl, hb, rfl, _, rfl, a, _, _, _, rfl, rfl, ha, rfl, _, _, rfl, rfl, _, _, rfl, rfl, small_mul hs, fin⟩
def spCkR (K : PySem.W.Frag) : Sp := fun vs H Q _ => ∃ (l : Addr) (ps : List Pt), vs = [.ref l] ∧ PtL K H l ps ∧ POk ps ∧ Q .non H
theorem ok_ckR {f : Addr} {fd : FuncData} {k : Nat} (F : Fun K "check_rising" "check_rising" sCkR f fd) (m_range : mg "range" = none) (m_len : mg "len" = none) : FnOk P w K mg base CX0 (k + 1) f fd ["points"] (spCkR K) := by
  refine F.ok scCkR (fun vs H Q E h => ?_) (fun cdv A outer s H vs Q E hr h => ?_)
  · obtain ⟨l, ps, rfl, _⟩ := h
    rfl
  · obtain ⟨l, ps, rfl, ⟨xs, hl, hd⟩, ok, q⟩ := h
    refine ⟨_, pss_one (ps_for PassesOwn.never rfl (pi_range2 (by rfl) m_range (pa_cons pe_int (pa_cons (pe_callB call_len_seq (by rfl) m_len (by decide +kernel) (pa_cons (pv 0) pa_nil)) pa_nil))) (pg_name (i := 1) scCkR.nd rfl (.inl rfl))
        (pss_one (ps_if (pt_cmpR op_le (pe_ix ix_tup (pe_ix ix_list (pv 0) (pv 1) (fun _ _ => rfl)) pe_int (fun _ _ => rfl)) (pe_ix ix_tup (pe_ix ix_list (pv 0) (pe_op op_sub (pv 1) pe_int) (fun _ _ => rfl)) pe_int (fun _ _ => rfl)) (nomark _))
          (pss_one ps_dead)
          pss_nil))), ?_⟩
    have ll := dl_len hd
    have l40 := ok.len
    refine ⟨_, rfl, l, xs, rfl, .inl hl, 1, _, rfl, ⟨by decide, by decide, by omega, by omega⟩, ?_⟩
    rw [show (((xs.length : Nat) : Int) - 1).toNat = xs.length - 1 by omega]
    refine for_range (n := xs.length - 1) (fun i σ H2 => ∃ z : Option V, σ = [some (.ref l), z] ∧ H2 = H) ⟨none, rfl, rfl⟩ ?_ ?_
    · rintro i σ H2 hi ⟨z, rfl, rfl⟩
      obtain ⟨p, hp⟩ : ∃ p, ps[i]? = some p := ⟨_, List.getElem?_eq_getElem (by omega)⟩
      obtain ⟨r, hr2⟩ : ∃ r, ps[i + 1]? = some r := ⟨_, List.getElem?_eq_getElem (by omega)⟩
      obtain ⟨v1, e1, d1⟩ := dl_get hd hp
      obtain ⟨v2, e2, d2⟩ := dl_get hd hr2
      obtain ⟨t1, rfl, h1⟩ := dp_pd d1
      obtain ⟨t2, rfl, h2⟩ := dp_pd d2
      have lt := ok.up i p r hp hr2
      refine ⟨_, rfl, _, rfl, l, xs, _, .ref t2, rfl, rfl, hl, ?_, t2, _, _, _, rfl, rfl, h2, rfl, _, rfl, _, rfl, _, _, rfl, rfl, l, xs, _, .ref t1, rfl, rfl, hl, ?_, t1, _, _, _, rfl, rfl, h1, rfl, _, _, rfl, rfl, _, rfl, if_n ?_ ⟨_, rfl, rfl⟩⟩
      · rw [show (1 + ((i : Nat) : Int)) = ((i + 1 : Nat) : Int) by omega]
        exact atI_nat e2
      · rw [show (1 + ((i : Nat) : Int)) - 1 = ((i : Nat) : Int) by omega]
        exact atI_nat e1
      · exact decide_eq_false (by omega)
    · rintro σ H2 ⟨z, rfl, rfl⟩
      exact q
end
end Tg

namespace Tg
open PySem PySem.Spec PyProof.Rows L2
abbrev sFO : Stmt := topS 25
abbrev NFO : List Str := ["points", "told", "worths", "time", "worth", "ahead", "behind"]
theorem scFO : FnScope NFO ["points"] (defScope sFO) := ⟨rfl, rfl, rfl, by decide +kernel, rfl, by decide +kernel, by decide +kernel⟩
theorem cut_from (xs : List V) (a : Nat) : cutV xs (some (a : Int)) none = xs.drop a := by
  unfold cutV
  rw [HT.sIx_none, HT.sIx_nat]
  rcases Nat.le_total a xs.length with h | h
  · rw [Nat.min_eq_left h]
    exact List.take_of_length_le (by rw [List.length_drop]; exact Nat.le_refl _)
  · rw [Nat.min_eq_right h, List.drop_length, List.drop_of_length_le h, List.take_nil]
theorem cut_1 (xs : List V) : cutV xs (some 1) none = xs.drop 1 := cut_from xs 1
theorem fd_made {K : PySem.W.Frag} {C x dx : Addr} {H : Hp} (nx : H x = none) (nd : H dx = none) (ne : dx ≠ x) {F : FD} {vf vl : V} (h1 : PO K H vf F.fst) (h2 : PO K H vl F.lst) :
    Same H (upd (upd (upd H dx (.own x)) x (.ins C dx [])) x (.ins C dx (flds F vf vl))) ∧ FdO K C (upd (upd (upd H dx (.own x)) x (.ins C dx [])) x (.ins C dx (flds F vf vl))) x F := by
  have sm : Same H (upd (upd (upd H dx (.own x)) x (.ins C dx [])) x (.ins C dx (flds F vf vl))) := same_put nx (same_put nx (same_new nd))
  exact ⟨sm, dx, vf, vl, upd_same, h1.same sm, h2.same sm⟩
theorem fOf_nil : fOf [] = ⟨0, 0, 0, none, none, none, none, 0, 0⟩ := rfl
theorem wts_at {ps : List Pt} {i : Nat} {p : Pt} (h : ps[i]? = some p) : (wts ps)[i]? = some p.2 := by
  unfold wts
  rw [List.getElem?_map, h]
  rfl
theorem wts_len (ps : List Pt) : (wts ps).length = ps.length := List.length_map ..
theorem zw_at {α β γ : Type} {f : α → β → γ} {xs : List α} {ys : List β} {i : Nat} {a : α} {b : β} (h1 : xs[i]? = some a) (h2 : ys[i]? = some b) : (List.zipWith f xs ys)[i]? = some (f a b) := by
  rw [List.getElem?_zipWith, h1, h2]
theorem mapi_at {ns : List Int} {i : Nat} {v : V} (h : (ns.map V.int)[i]? = some v) : ∃ a, ns[i]? = some a ∧ v = .int a := by
  rw [List.getElem?_map] at h
  obtain ⟨a, h1, rfl⟩ := Option.map_eq_some_iff.mp h
  exact ⟨a, h1, rfl⟩
theorem atI_end {xs : List V} {v : V} (h : xs.getLast? = some v) : atI xs (-1) = some v := by
  obtain ⟨ys, rfl⟩ := List.getLast?_eq_some_iff.mp h
  exact atI_last ys v
theorem pt_ends {K : PySem.W.Frag} {H : Hp} {xs : List V} {ps : List Pt} (hd : DpAll K H xs (ps.map pd)) (ne : ps ≠ []) :
    (∃ t p, atI xs 0 = some (.ref t) ∧ ps.head? = some p ∧ SqT K H t [.int p.1, .int p.2]) ∧ ∃ t p, atI xs (-1) = some (.ref t) ∧ ps.getLast? = some p ∧ SqT K H t [.int p.1, .int p.2] := by
  have l0 : 0 < ps.length := List.length_pos_iff.mpr ne
  have ll := dl_len hd
  constructor
  · obtain ⟨p, hp⟩ : ∃ p, ps[0]? = some p := ⟨_, List.getElem?_eq_getElem l0⟩
    obtain ⟨v, e, d⟩ := dl_get hd hp
    obtain ⟨t, rfl, h⟩ := dp_pd d
    exact ⟨t, p, atI_nat e, by rw [List.head?_eq_getElem?]; exact hp, h⟩
  · obtain ⟨p, hp⟩ : ∃ p, ps[ps.length - 1]? = some p := ⟨_, List.getElem?_eq_getElem (by omega)⟩
    obtain ⟨v, e, d⟩ := dl_get hd hp
    obtain ⟨t, rfl, h⟩ := dp_pd d
    exact ⟨t, p, atI_end (by rw [List.getLast?_eq_getElem?, ll]; exact e), by rw [List.getLast?_eq_getElem?]; exact hp, h⟩
abbrev kFold : List Str := ["count", "total", "squares", "least", "greatest", "first", "last", "rise", "held"]
section
variable {P : Program} {w : World} {K : PySem.W.Frag} {mg : Str → Option Value} {base : Heap} {C : Addr}
abbrev KF9 (P : Program) (w : World) (K : PySem.W.Frag) (mg : Str → Option Value) (base : Heap) (C : Addr) (k : Nat) : Prop := CalCK P w K mg base k "Fold" C NFI kFold (fun vs zs => vs ++ zs) (spFI C)
abbrev KF0 (P : Program) (w : World) (K : PySem.W.Frag) (mg : Str → Option Value) (base : Heap) (C : Addr) (k : Nat) : Prop := CalCK P w K mg base k "Fold" C NFI [] (fun vs _ => vs ++ [.int 0, .int 0, .int 0, .non, .non, .non, .non, .int 0, .int 0]) (spFI C)
def spFO (K : PySem.W.Frag) (C : Addr) : Sp := fun vs H Q _ => ∃ (l : Addr) (ps : List Pt), vs = [.ref l] ∧ PtL K H l ps ∧ POk ps ∧ ∀ a H', Same H H' → FdO K C H' a (fOf ps) → Q (.ref a) H'
theorem ok_fo {f : Addr} {fd : FuncData} {k : Nat} (F : Fun K "fold_of" "fold_of" sFO f fd) (C_check_rising : Cal P w K mg base k "check_rising" ["points"] (spCkR K)) (K_Fold0 : KF0 P w K mg base C k) (K_Fold9 : KF9 P w K mg base C k) (C_risen : Cal P w K mg base k "risen" ["ahead", "behind"] spRisen) (C_held_between : Cal P w K mg base k "held_between" ["ahead", "behind"] (spHB K))
    (m_list : mg "list" = none) (m_len : mg "len" = none) (m_sum : mg "sum" = none) (m_min : mg "min" = none) (m_max : mg "max" = none) (m_zip : mg "zip" = none) : FnOk P w K mg base CX0 (k + 2) f fd ["points"] (spFO K C) := by
  refine F.ok scFO (fun vs H Q E h => ?_) (fun cdv A outer s H vs Q E hr h => ?_)
  · obtain ⟨l, ps, rfl, _⟩ := h
    rfl
  · obtain ⟨l, ps, rfl, ⟨xs, hl, hd⟩, ok, q⟩ := h
    refine ⟨_, pss_cons (ps_set (i := 1) scFO.nd rfl (.inl rfl) (pe_callTy call_list_of (by rfl) m_list (by decide +kernel) (pa_cons (pv 0) pa_nil)))
      (pss_cons (ps_expr (pe_cal C_check_rising (hr.mono (by omega)) (by rfl) (pa_cons (pv 1) pa_nil)))
      (pss_cons (ps_if (pt_not (pt_truth (pv 1) (fun _ => rfl)))
        (pss_one (ps_ret (pe_calCK K_Fold0 (hr.mono (by omega)) (by rfl) pk_nil)))
        pss_nil)
      (pss_cons (ps_setLc (i := 2) (own := [("time", 3), ("worth", 4)]) (g := gTup K 2 _) (tt := tYes) rfl scFO.nd rfl rfl (sw_true rfl rfl rfl (by decide +kernel)) (pi_list (pv 1)) (blkOk_by (own := [("time", 3), ("worth", 4)]) (N := NFO) (sc := defScope sFO) (by decide +kernel)) (fun _ _ _ _ _ => (pg_tup rfl (pgs_cons (pg_name (i := 3) scFO.nd rfl (.inl rfl)) (pgs_cons (pg_name (i := 4) scFO.nd rfl (.inl rfl)) pgs_nil)))) (fun _ _ _ _ _ => pts_nil) (fun _ _ _ _ _ => (pv 4)))
      (pss_one (ps_ret (pe_calCK K_Fold9 (hr.mono (by omega)) (by rfl) (pk_cons (pe_callB call_len_seq (by rfl) m_len (by decide +kernel) (pa_cons (pv 1) pa_nil)) (pk_cons (pe_callB (cr_sum rfl) (by rfl) m_sum (by decide +kernel) (pa_cons (pv 2) pa_nil)) (pk_cons (pe_callB (cr_sum rfl) (by rfl) m_sum (by decide +kernel) (pa_cons (pe_lc (own := [("worth", 4)]) (g := (gName 4)) (tt := tYes) rfl scFO.nd (pi_list (pv 2)) (blkOk_by (own := [("worth", 4)]) (N := NFO) (sc := defScope sFO) (by decide +kernel)) (fun _ _ _ _ _ => (pg_name (i := 4) scFO.nd rfl (.inl rfl))) (fun _ _ _ _ _ => pts_nil) (fun _ _ _ _ _ => (pe_op op_mul (pv 4) (pv 4)))) pa_nil)) (pk_cons (pe_callB (cr_min rfl) (by rfl) m_min (by decide +kernel) (pa_cons (pv 2) pa_nil)) (pk_cons (pe_callB (cr_max rfl) (by rfl) m_max (by decide +kernel) (pa_cons (pv 2) pa_nil)) (pk_cons (pe_ix ix_list (pv 1) pe_int (fun _ _ => rfl)) (pk_cons (pe_ix ix_list (pv 1) (pe_un un_neg pe_int) (fun _ _ => rfl)) (pk_cons (pe_callB (cr_sum rfl) (by rfl) m_sum (by decide +kernel) (pa_cons (pe_lc (own := [("ahead", 5), ("behind", 6)]) (g := gTup K 2 _) (tt := tYes) rfl scFO.nd (pi_zip (by rfl) m_zip (pa_cons (pv 2) (pa_cons (pe_slice sl_list (pv 2) (po_some pe_int) po_none) pa_nil))) (blkOk_by (own := [("ahead", 5), ("behind", 6)]) (N := NFO) (sc := defScope sFO) (by decide +kernel)) (fun _ _ _ _ _ => (pg_tup rfl (pgs_cons (pg_name (i := 5) scFO.nd rfl (.inl rfl)) (pgs_cons (pg_name (i := 6) scFO.nd rfl (.inl rfl)) pgs_nil)))) (fun _ _ _ _ _ => pts_nil) (fun _ _ _ _ _ => (pe_cal C_risen (hr.mono (by omega)) (by rfl) (pa_cons (pv 5) (pa_cons (pv 6) pa_nil))))) pa_nil)) (pk_cons (pe_callB (cr_sum rfl) (by rfl) m_sum (by decide +kernel) (pa_cons (pe_lc (own := [("ahead", 5), ("behind", 6)]) (g := gTup K 2 _) (tt := tYes) rfl scFO.nd (pi_zip (by rfl) m_zip (pa_cons (pv 1) (pa_cons (pe_slice sl_list (pv 1) (po_some pe_int) po_none) pa_nil))) (blkOk_by (own := [("ahead", 5), ("behind", 6)]) (N := NFO) (sc := defScope sFO) (by decide +kernel)) (fun _ _ _ _ _ => (pg_tup rfl (pgs_cons (pg_name (i := 5) scFO.nd rfl (.inl rfl)) (pgs_cons (pg_name (i := 6) scFO.nd rfl (.inl rfl)) pgs_nil)))) (fun _ _ _ _ _ => pts_nil) (fun _ _ _ _ _ => (pe_cal C_held_between (hr.mono (by omega)) (by rfl) (pa_cons (pv 5) (pa_cons (pv 6) pa_nil))))) pa_nil)) pk_nil))))))))))))))), ?_⟩
    have ll := dl_len hd
    have l40 := ok.len
    refine ⟨_, rfl, l, xs, rfl, .inl hl, fun t nt => ?_⟩
    have s1 : Same H (upd H t (.lst xs)) := same_new nt
    obtain ⟨H1, e1⟩ : ∃ H1, upd H t (.lst xs) = H1 := ⟨_, rfl⟩
    have ht1 : H1 t = some (.lst xs) := by
      rw [← e1]
      exact upd_same
    rw [e1] at s1
    rw [e1]
    have hd1 := dpAll_same s1 hd
    refine ⟨_, rfl, t, ps, rfl, ⟨xs, SqL.of ht1, hd1⟩, ok, ?_⟩
    refine ⟨_, rfl, !xs.isEmpty, .inl ⟨xs, SqL.of ht1, rfl⟩, ?_⟩
    cases ps with
    | nil =>
      obtain rfl : xs = [] := List.length_eq_zero_iff.mp ll
      refine if_t ⟨rfl, rfl, fun x dx nx nd ne => ⟨x, dx, _, _, _, _, _, _, _, _, _, rfl, upd_same, rfl, ?_⟩⟩
      have z := fd_made (K := K) (C := C) nx nd ne (F := fOf []) (vf := .non) (vl := .non) rfl rfl
      exact q x _ (s1.trans z.1) z.2
    | cons p0 pr =>
      obtain ⟨ps, eps⟩ : ∃ ps, p0 :: pr = ps := ⟨_, rfl⟩
      have h0 : ps[0]? = some p0 := by
        rw [← eps]
        rfl
      have hne : ps ≠ [] := by
        rw [← eps]
        exact List.cons_ne_nil _ _
      rw [eps] at hd hd1 ok ll l40 q
      have l0 : 0 < ps.length := List.length_pos_iff.mpr hne
      have xe : xs.isEmpty = false := by
        cases xs with
        | nil => rw [← ll] at l0; cases l0
        | cons a b => rfl
      rw [xe]
      refine if_f ⟨_, rfl, t, rfl, ⟨_, SqL.of ht1⟩, fun D1 nD1 => lc_list (K := K) (a := t) (xs := xs) (fun j Hc => Same H1 Hc ∧ Hc D1 = some (.lst (((wts ps).take j).map V.int))) ⟨same_new nD1, upd_same⟩ (fun j Hc _ h => SqL.of (h.1 _ _ ht1)) ?_ ?_⟩
      · rintro j v Hc hj ⟨sc, hD⟩
        obtain ⟨r, hr1, dr⟩ := dl_at hd1 hj
        obtain ⟨a, rfl, ha⟩ := dp_pd (dp_same sc dr)
        refine ⟨a, _, rfl, ha, rfl, _, _, rfl, _, [], rfl, rfl, rfl, ?_⟩
        unfold tYes
        dsimp only
        rw [if_pos rfl]
        refine ⟨_, rfl, _, hD, ?_, same_put nD1 sc, ?_⟩
        · rw [List.length_map, List.length_take, wts_len]
          exact small1000 (by omega)
        · rw [upd_same, take_snoc (wts_at hr1), List.map_append]
          rfl
      · rintro H2 ⟨s2, hD1⟩
        rw [ll, ← wts_len, List.take_length] at hD1
        have hd2 := dpAll_same s2 hd1
        have ht2 := s2 _ _ ht1
        have lw0 : 0 < (wts ps).length := by
          rw [wts_len]
          exact l0
        -- the squares
        refine ⟨_, rfl, t, xs, rfl, .inl (SqL.of ht2), _, rfl, D1, wts ps, rfl, SqL.of hD1, _, rfl, D1, rfl, ⟨_, SqL.of hD1⟩, fun D3 nD3 => lc_list (K := K) (a := D1) (xs := (wts ps).map V.int) (fun j Hc => Same H2 Hc ∧ Hc D3 = some (.lst ((((wts ps).map fun w => w * w).take j).map V.int))) ⟨same_new nD3, upd_same⟩ (fun j Hc _ h => SqL.of (h.1 _ _ hD1)) ?_ ?_⟩
        · rintro j v Hc hj ⟨sc, hD⟩
          obtain ⟨a, ha, rfl⟩ := mapi_at hj
          refine ⟨rfl, ?_⟩
          unfold tYes
          dsimp only
          rw [if_pos rfl]
          have sz : a.natAbs < 2 ^ 60 := by
            obtain ⟨p, hp, rfl⟩ := List.mem_map.mp (List.mem_of_getElem? ha)
            exact ok.sz p hp
          have e2 : ((wts ps).map fun w => w * w)[j]? = some (a * a) := by rw [List.getElem?_map, ha]; rfl
          refine ⟨_, rfl, _, rfl, _, _, rfl, rfl, small_mul sz, _, hD, ?_, same_put nD3 sc, ?_⟩
          · rw [List.length_map, List.length_take, List.length_map, wts_len]
            exact small1000 (by omega)
          · rw [upd_same, take_snoc e2, List.map_append]
            rfl
        · rintro H3 ⟨s3, hD3⟩
          rw [List.length_map, ← List.length_map (as := wts ps) (f := fun w => w * w), List.take_length] at hD3
          have hD1' := s3 _ _ hD1
          have ht3 := s3 _ _ ht2
          have hd3 := dpAll_same s3 hd2
          obtain ⟨⟨ta, pa, ea, eA, hA⟩, ⟨tz, pz, ez, eZ, hZ⟩⟩ := pt_ends hd3 hne
          refine ⟨D3, _, rfl, SqL.of hD3, _, rfl, D1, wts ps, rfl, SqL.of hD1', lw0, fun mn mn1 mn2 => ⟨_, rfl, D1, wts ps, rfl, SqL.of hD1', lw0, fun mx mx1 mx2 => ?_⟩⟩
          refine ⟨_, rfl, t, xs, _, _, rfl, rfl, SqL.of ht3, ea, _, rfl, 1, rfl, t, xs, _, _, rfl, rfl, SqL.of ht3, ez, ?_⟩
          -- the rises
          refine ⟨_, rfl, _, rfl, 1, rfl, D1, _, rfl, SqL.of hD1', fun S4 nS4 => ?_⟩
          rw [cut_1, ← List.map_drop]
          have s4 : Same H3 (upd H3 S4 (.lst (((wts ps).drop 1).map V.int))) := same_new nS4
          obtain ⟨H4, e4⟩ : ∃ H4, upd H3 S4 (.lst (((wts ps).drop 1).map V.int)) = H4 := ⟨_, rfl⟩
          have hS4 : H4 S4 = some (.lst (((wts ps).drop 1).map V.int)) := by
            rw [← e4]
            exact upd_same
          rw [e4] at s4
          rw [e4]
          have hD4 := s4 _ _ hD1'
          have ln : (List.zipWith riz (wts ps) ((wts ps).drop 1)).length = min ((wts ps).map V.int).length (((wts ps).drop 1).map V.int).length := by rw [List.length_zipWith, List.length_map, List.length_map]
          have lz : (List.zipWith riz (wts ps) ((wts ps).drop 1)).length ≤ ps.length := by
            rw [List.length_zipWith, wts_len]
            omega
          refine ⟨D1, S4, _, _, rfl, SqL.of hD4, SqL.of hS4, fun D5 nD5 => lc_it (walk_zip ln) (fun j Hc => Same H4 Hc ∧ Hc D5 = some (.lst (((List.zipWith riz (wts ps) ((wts ps).drop 1)).take j).map V.int))) ⟨same_new nD5, upd_same⟩ (fun j Hc _ h => ⟨SqL.of (h.1 _ _ hD4), SqL.of (h.1 _ _ hS4)⟩) ?_ ?_⟩
          · rintro j v Hc Hc' hj ⟨sc, hD⟩ ⟨T, x, y, rfl, nT, rfl, ex, ey⟩
            dsimp only at ex ey
            obtain ⟨a, ha, rfl⟩ := mapi_at ex
            obtain ⟨b, hb, rfl⟩ := mapi_at ey
            have sT : Same Hc (upd Hc T (.tup [.int a, .int b])) := same_new nT
            refine ⟨T, _, rfl, SqT.of upd_same, rfl, _, _, rfl, _, [], rfl, rfl, rfl, ?_⟩
            unfold tYes
            dsimp only
            rw [if_pos rfl]
            refine ⟨_, rfl, _, rfl, a, b, rfl, _, sT _ _ hD, ?_, same_put nD5 (sc.trans sT), ?_⟩
            · rw [List.length_map, List.length_take]
              exact small1000 (by omega)
            · rw [upd_same, take_snoc (zw_at ha hb), List.map_append]
              rfl
          · rintro H5 ⟨s5, hD5⟩
            rw [List.take_length] at hD5
            have s35 := s4.trans s5
            have ht5 := s35 _ _ ht3
            have hd5 := dpAll_same s35 hd3
            refine ⟨D5, _, rfl, SqL.of hD5, ?_⟩
            -- what was held
            refine ⟨_, rfl, _, rfl, 1, rfl, t, _, rfl, SqL.of ht5, fun S6 nS6 => ?_⟩
            rw [cut_1]
            have s6 : Same H5 (upd H5 S6 (.lst (xs.drop 1))) := same_new nS6
            obtain ⟨H6, e6⟩ : ∃ H6, upd H5 S6 (.lst (xs.drop 1)) = H6 := ⟨_, rfl⟩
            have hS6 : H6 S6 = some (.lst (xs.drop 1)) := by
              rw [← e6]
              exact upd_same
            rw [e6] at s6
            rw [e6]
            have ht6 := s6 _ _ ht5
            have hd6 := dpAll_same s6 hd5
            have ln6 : (List.zipWith hld ps (ps.drop 1)).length = min xs.length (xs.drop 1).length := by rw [List.length_zipWith, List.length_drop, List.length_drop, ll]
            have lz6 : (List.zipWith hld ps (ps.drop 1)).length ≤ ps.length := by
              rw [List.length_zipWith]
              omega
            refine ⟨t, S6, _, _, rfl, SqL.of ht6, SqL.of hS6, fun D7 nD7 => lc_it (walk_zip ln6) (fun j Hc => Same H6 Hc ∧ Hc D7 = some (.lst (((List.zipWith hld ps (ps.drop 1)).take j).map V.int))) ⟨same_new nD7, upd_same⟩ (fun j Hc _ h => ⟨SqL.of (h.1 _ _ ht6), SqL.of (h.1 _ _ hS6)⟩) ?_ ?_⟩
            · rintro j v Hc Hc' hj ⟨sc, hD⟩ ⟨T, x, y, rfl, nT, rfl, ex, ey⟩
              dsimp only at ex ey
              rw [List.getElem?_drop] at ey
              obtain ⟨pa1, ha, da⟩ := dl_at hd6 ex
              obtain ⟨pb1, hb, db⟩ := dl_at hd6 ey
              have sT : Same Hc (upd Hc T (.tup [x, y])) := same_new nT
              obtain ⟨ra, rfl, sa⟩ := dp_pd (dp_same (sc.trans sT) da)
              obtain ⟨rb, rfl, sb⟩ := dp_pd (dp_same (sc.trans sT) db)
              refine ⟨T, _, rfl, SqT.of upd_same, rfl, _, _, rfl, _, [], rfl, rfl, rfl, ?_⟩
              unfold tYes
              dsimp only
              rw [if_pos rfl]
              have hb2 : (ps.drop 1)[j]? = some pb1 := by
                rw [List.getElem?_drop]
                exact hb
              refine ⟨_, rfl, _, rfl, ra, rb, pa1, pb1, rfl, sa, sb, ok.sz _ (List.mem_of_getElem? ha), _, sT _ _ hD, ?_, same_put nD7 (sc.trans sT), ?_⟩
              · rw [List.length_map, List.length_take]
                exact small1000 (by omega)
              · rw [upd_same, take_snoc (zw_at ha hb2), List.map_append]
                rfl
            · rintro H7 ⟨s7, hD7⟩
              rw [List.take_length] at hD7
              have s37 := (s35.trans s6).trans s7
              refine ⟨D7, _, rfl, SqL.of hD7, rfl, rfl, fun x dx nx nd ne => ⟨x, dx, _, _, _, _, _, _, _, _, _, rfl, upd_same, rfl, ?_⟩⟩
              have z := fd_made (K := K) (C := C) nx nd ne (F := fOf ps) (vf := .ref ta) (vl := .ref tz) (by show PO K H7 _ ps.head?; rw [eA]; exact ⟨ta, rfl, sqT_same s37 hA⟩) (by show PO K H7 _ ps.getLast?; rw [eZ]; exact ⟨tz, rfl, sqT_same s37 hZ⟩)
              have efl : flds (fOf ps) (.ref ta) (.ref tz) = ([("count", .int ((xs.length : Nat) : Int)), ("total", .int (wts ps).sum), ("squares", .int ((wts ps).map fun w => w * w).sum), ("least", .int mn), ("greatest", .int mx), ("first", .ref ta), ("last", .ref tz), ("rise", .int (List.zipWith riz (wts ps) ((wts ps).drop 1)).sum), ("held", .int (List.zipWith hld ps (ps.drop 1)).sum)] : List (Str × V)) := by
                unfold flds fOf
                rw [min_is mn1 mn2, max_is mx1 mx2, ll]
                rfl
              rw [efl] at z
              exact q x _ ((((s1.trans s2).trans s3).trans s37).trans z.1) z.2
end
end Tg

namespace Tg
open PySem PySem.Spec PyProof.Rows L2
abbrev sEq : Stmt := inCls (topS 20) 1
abbrev sTg : Stmt := topS 26
theorem scEq : FnScope ["self", "other"] ["self", "other"] (defScope sEq) := ⟨rfl, rfl, rfl, by decide +kernel, rfl, by decide +kernel, by decide +kernel⟩
theorem scTg : FnScope ["one", "two"] ["one", "two"] (defScope sTg) := ⟨rfl, rfl, rfl, by decide +kernel, rfl, by decide +kernel, by decide +kernel⟩
/-- what isinstance asks of the class -/
structure TIns (K : PySem.W.Frag) (C : Addr) : Prop where
  cc : PySem.W.findIn K (.ref C) "__class__" = some (some (.builtin "object.__class__"))
  get : PySem.W.specialIn K (.builtin "object.__class__") "__get__" = some (some (.builtin "getset_descriptor.__get__"))
  takes : PySem.W.takesIn K (.builtin "object.__class__") = some true
  obj : PySem.W.mroIn K C (.type "object") = some true
  kit : PySem.W.kitOne K (.ref C) (.ref C) = some true
def od : Option Pt → PyData
  | none => .none
  | some p => pd p
theorem PO.dp {K : PySem.W.Frag} {H : Hp} {v : V} : ∀ {o : Option Pt}, PO K H v o → Dp K H v (od o)
  | none, h => by
    obtain rfl : v = .non := h
    exact .non
  | some p, ⟨t, e, h⟩ => by
    subst e
    exact .tup h (.cons (.int _) (.cons (.int _) .nil))
theorem od_form : ∀ o : Option Pt, SeqAt.shaped (od o) = true ∧ PyData.eqv (od o) (od o) = true
  | none => ⟨by decide +kernel, rfl⟩
  | some p => ⟨shaped_of rfl (by show 1 ≤ 64; decide), ref_pd p⟩
theorem dw_form : ∀ o : Option Int, SeqAt.shaped (dw o) = true ∧ PyData.eqv (dw o) (dw o) = true := fun o => ⟨shaped_of (lay_dw o) (by rw [dep_dw]; decide), by rw [eq_dw]; exact decide_eq_true rfl⟩
section
variable {P : Program} {w : World} {K : PySem.W.Frag} {mg : Str → Option Value} {base : Heap} {C : Addr}
/-- two folds that tell the same -/
def SameF (K : PySem.W.Frag) (C : Addr) (a b : Addr) (H : Hp) : Prop := ∃ F, FdO K C H a F ∧ FdO K C H b F
theorem ok_eq {f : Addr} {fd : FuncData} {k : Nat} (F : Fun K "__eq__" "Fold.__eq__" sEq f fd) (T : TFold K C) (TI : TIns K C) (g_Fold : mg "Fold" = some (.ref C)) (m_isinstance : mg "isinstance" = none) : FnOk P w K mg base CX0 (k + 1) f fd ["self", "other"] (spEq (SameF K C)) := by
  refine F.ok scEq (fun vs H Q E h => ?_) (fun cdv A outer s H vs Q E hr h => ?_)
  · obtain ⟨a, b, rfl, _⟩ := h
    rfl
  · obtain ⟨a, b, rfl, ⟨F, ⟨dA, fA, lA, eA, pA, zA⟩, ⟨dB, fB, lB, eB, pB, zB⟩⟩, q⟩ := h
    have hu := hr.units
    refine ⟨_, pss_one (ps_ret (pe_and (pe_callB call_isi (by rfl) m_isinstance (by decide +kernel) (pa_cons (pv 1) (pa_cons (pe_glob (v := .ref C) rfl g_Fold rfl) pa_nil))) (pe_and (pe_cmpR op_eq (pe_fld (pv 0) rfl) (pe_fld (pv 1) rfl) (nomark _)) (pe_and (pe_cmpR op_eq (pe_fld (pv 0) rfl) (pe_fld (pv 1) rfl) (nomark _)) (pe_and (pe_cmpR op_eq (pe_fld (pv 0) rfl) (pe_fld (pv 1) rfl) (nomark _)) (pe_and (pe_cmpR (op_eqD hu) (pe_fld (pv 0) rfl) (pe_fld (pv 1) rfl) (nomark _)) (pe_and (pe_cmpR (op_eqD hu) (pe_fld (pv 0) rfl) (pe_fld (pv 1) rfl) (nomark _)) (pe_and (pe_cmpR (op_eqD hu) (pe_fld (pv 0) rfl) (pe_fld (pv 1) rfl) (nomark _)) (pe_and (pe_cmpR (op_eqD hu) (pe_fld (pv 0) rfl) (pe_fld (pv 1) rfl) (nomark _)) (pe_and (pe_cmpR op_eq (pe_fld (pv 0) rfl) (pe_fld (pv 1) rfl) (nomark _)) (pe_one (pe_cmpR op_eq (pe_fld (pv 0) rfl) (pe_fld (pv 1) rfl) (nomark _))))))))))))), ?_⟩
    refine ⟨_, rfl, .ref b, .ref C, .ref C, .ref C, true, rfl, .own _, .base (.ins eB T.cl TI.cc TI.get TI.takes TI.obj), TI.kit, true, rfl, if_t ?_⟩
    refine ⟨_, rfl, a, C, dA, _, _, rfl, eA, T.cl, T.no _ (by decide), rfl, _, rfl, b, C, dB, _, _, rfl, eB, T.cl, T.no _ (by decide), rfl, rfl, true, congrArg V.bl (decide_eq_true rfl), if_t ?_⟩
    refine ⟨_, rfl, a, C, dA, _, _, rfl, eA, T.cl, T.no _ (by decide), rfl, _, rfl, b, C, dB, _, _, rfl, eB, T.cl, T.no _ (by decide), rfl, rfl, true, congrArg V.bl (decide_eq_true rfl), if_t ?_⟩
    refine ⟨_, rfl, a, C, dA, _, _, rfl, eA, T.cl, T.no _ (by decide), rfl, _, rfl, b, C, dB, _, _, rfl, eB, T.cl, T.no _ (by decide), rfl, rfl, true, congrArg V.bl (decide_eq_true rfl), if_t ?_⟩
    refine ⟨_, rfl, a, C, dA, _, _, rfl, eA, T.cl, T.no _ (by decide), rfl, _, rfl, b, C, dB, _, _, rfl, eB, T.cl, T.no _ (by decide), rfl, _, _, dp_vw F.lo, dp_vw F.lo, (dw_form _).1, (dw_form _).1, true, congrArg V.bl (dw_form _).2, if_t ?_⟩
    refine ⟨_, rfl, a, C, dA, _, _, rfl, eA, T.cl, T.no _ (by decide), rfl, _, rfl, b, C, dB, _, _, rfl, eB, T.cl, T.no _ (by decide), rfl, _, _, dp_vw F.hi, dp_vw F.hi, (dw_form _).1, (dw_form _).1, true, congrArg V.bl (dw_form _).2, if_t ?_⟩
    refine ⟨_, rfl, a, C, dA, _, _, rfl, eA, T.cl, T.no _ (by decide), rfl, _, rfl, b, C, dB, _, _, rfl, eB, T.cl, T.no _ (by decide), rfl, _, _, pA.dp, pB.dp, (od_form _).1, (od_form _).1, true, congrArg V.bl (od_form _).2, if_t ?_⟩
    refine ⟨_, rfl, a, C, dA, _, _, rfl, eA, T.cl, T.no _ (by decide), rfl, _, rfl, b, C, dB, _, _, rfl, eB, T.cl, T.no _ (by decide), rfl, _, _, zA.dp, zB.dp, (od_form _).1, (od_form _).1, true, congrArg V.bl (od_form _).2, if_t ?_⟩
    refine ⟨_, rfl, a, C, dA, _, _, rfl, eA, T.cl, T.no _ (by decide), rfl, _, rfl, b, C, dB, _, _, rfl, eB, T.cl, T.no _ (by decide), rfl, rfl, true, congrArg V.bl (decide_eq_true rfl), if_t ?_⟩
    refine ⟨_, rfl, a, C, dA, _, _, rfl, eA, T.cl, T.no _ (by decide), rfl, _, rfl, b, C, dB, _, _, rfl, eB, T.cl, T.no _ (by decide), rfl, rfl, ?_⟩
    rw [decide_eq_true rfl]
    exact q H Ext.rfl'
end
end Tg

namespace Tg
open PySem PySem.Spec PyProof.Rows L2
/-! ### folds of points behind points -/
def zch {α : Type} (f : α → α → Int) (xs : List α) : Int := (List.zipWith f xs (xs.drop 1)).sum
theorem zch_cons {α : Type} (f : α → α → Int) (a b : α) (r : List α) : zch f (a :: b :: r) = f a b + zch f (b :: r) := by
  unfold zch
  show (f a b :: List.zipWith f (b :: r) r).sum = _
  rw [List.sum_cons]
  rfl
theorem zch_app {α : Type} (f : α → α → Int) {y : α} {ys : List α} {z : α} : ∀ {xs : List α}, xs.getLast? = some z → zch f (xs ++ y :: ys) = zch f xs + f z y + zch f (y :: ys)
  | [], h => nomatch h
  | [a], h => by
    cases h
    show zch f (a :: y :: ys) = zch f [a] + f a y + zch f (y :: ys)
    rw [zch_cons]
    show f a y + _ = 0 + f a y + _
    omega
  | a :: b :: r, h => by
    have e := zch_app f (y := y) (ys := ys) (z := z) (xs := b :: r) (by rw [← h]; rfl)
    show zch f (a :: b :: (r ++ y :: ys)) = _
    rw [zch_cons, zch_cons]
    have e2 : zch f (b :: (r ++ y :: ys)) = zch f (b :: r) + f z y + zch f (y :: ys) := e
    rw [e2]
    omega
theorem min_app {xs ys : List Int} {a b : Int} (h1 : xs.min? = some a) (h2 : ys.min? = some b) : (xs ++ ys).min? = some (if b < a then b else a) := by
  obtain ⟨i1, l1⟩ := List.min?_eq_some_iff.mp h1
  obtain ⟨i2, l2⟩ := List.min?_eq_some_iff.mp h2
  refine min_is ?_ fun y hy => ?_
  · split
    · exact List.mem_append_right _ i2
    · exact List.mem_append_left _ i1
  · rcases List.mem_append.mp hy with h | h
    · have := l1 y h
      split <;> omega
    · have := l2 y h
      split <;> omega
theorem max_app {xs ys : List Int} {a b : Int} (h1 : xs.max? = some a) (h2 : ys.max? = some b) : (xs ++ ys).max? = some (if b > a then b else a) := by
  obtain ⟨i1, l1⟩ := List.max?_eq_some_iff.mp h1
  obtain ⟨i2, l2⟩ := List.max?_eq_some_iff.mp h2
  refine max_is ?_ fun y hy => ?_
  · split
    · exact List.mem_append_right _ i2
    · exact List.mem_append_left _ i1
  · rcases List.mem_append.mp hy with h | h
    · have := l1 y h
      split <;> omega
    · have := l2 y h
      split <;> omega
theorem wts_app (ps qs : List Pt) : wts (ps ++ qs) = wts ps ++ wts qs := List.map_append
theorem fOf_app {ps qs : List Pt} {z y : Pt} {a b c d : Int} (hz : ps.getLast? = some z) (hy : qs.head? = some y) (h1 : (fOf ps).lo = some a) (h2 : (fOf qs).lo = some b) (h3 : (fOf ps).hi = some c) (h4 : (fOf qs).hi = some d) :
    fOf (ps ++ qs) = ⟨(fOf ps).cnt + (fOf qs).cnt, (fOf ps).tot + (fOf qs).tot, (fOf ps).sq + (fOf qs).sq, some (if b < a then b else a), some (if d > c then d else c), (fOf ps).fst, (fOf qs).lst, (fOf ps).ris + riz z.2 y.2 + (fOf qs).ris, (fOf ps).hel + hld z y + (fOf qs).hel⟩ := by
  obtain ⟨qr, rfl⟩ : ∃ qr, qs = y :: qr := by
    cases qs with
    | nil => cases hy
    | cons q r => cases hy; exact ⟨r, rfl⟩
  have e1 : wts (ps ++ y :: qr) = wts ps ++ y.2 :: wts qr := wts_app ps (y :: qr)
  have lz : (wts ps).getLast? = some z.2 := by
    unfold wts
    rw [List.getLast?_map, hz]
    rfl
  have c1 : zch riz (wts (ps ++ y :: qr)) = zch riz (wts ps) + riz z.2 y.2 + zch riz (wts (y :: qr)) := by
    rw [e1]
    exact zch_app riz lz
  have c2 : zch hld (ps ++ y :: qr) = zch hld ps + hld z y + zch hld (y :: qr) := zch_app hld hz
  have t1 : (wts (ps ++ y :: qr)).sum = (wts ps).sum + (wts (y :: qr)).sum := by rw [wts_app, List.sum_append]
  have t2 : ((wts (ps ++ y :: qr)).map fun w => w * w).sum = ((wts ps).map fun w => w * w).sum + ((wts (y :: qr)).map fun w => w * w).sum := by rw [wts_app, List.map_append, List.sum_append]
  have m1 : (wts (ps ++ y :: qr)).min? = some (if b < a then b else a) := by
    rw [wts_app]
    exact min_app h1 h2
  have m2 : (wts (ps ++ y :: qr)).max? = some (if d > c then d else c) := by
    rw [wts_app]
    exact max_app h3 h4
  have n1 : (((ps ++ y :: qr).length : Nat) : Int) = ((ps.length : Nat) : Int) + (((y :: qr).length : Nat) : Int) := by
    rw [List.length_append]
    omega
  have f1 : (ps ++ y :: qr).head? = ps.head? := by
    cases ps with
    | nil => cases hz
    | cons p r => rfl
  have f2 : (ps ++ y :: qr).getLast? = (y :: qr).getLast? := by
    rw [List.getLast?_append, List.getLast?_eq_some_getLast (List.cons_ne_nil y qr)]
    rfl
  show FD.mk _ _ _ _ _ _ _ (zch riz (wts (ps ++ y :: qr))) (zch hld (ps ++ y :: qr)) = _
  rw [c1, c2, t1, t2, m1, m2, n1, f1, f2]
  rfl
end Tg

namespace Tg
open PySem PySem.Spec PyProof.Rows L2
theorem vi_z (n : Int) : decide (V.int n = V.int 0) = decide (n = 0) := by
  rw [dec_int]
  rfl
section
variable {P : Program} {w : World} {K : PySem.W.Frag} {mg : Str → Option Value} {base : Heap} {C CW TW : Addr}
end
end Tg

namespace Tg
open PySem PySem.Spec PyProof.Rows L2
theorem POk.edge {ps qs : List Pt} {z y : Pt} (ok : POk (ps ++ qs)) (hz : ps.getLast? = some z) (hy : qs.head? = some y) : z.1 < y.1 ∧ z.2.natAbs < 2 ^ 60 := by
  have l0 : 0 < ps.length := by
    cases ps with
    | nil => cases hz
    | cons p r => exact Nat.succ_pos _
  rw [List.getLast?_eq_getElem?] at hz
  rw [List.head?_eq_getElem?] at hy
  have e1 : (ps ++ qs)[ps.length - 1]? = some z := by rw [List.getElem?_append_left (by omega)]; exact hz
  have e2 : (ps ++ qs)[ps.length - 1 + 1]? = some y := by
    rw [List.getElem?_append_right (by omega), show ps.length - 1 + 1 - ps.length = 0 by omega]
    exact hy
  exact ⟨ok.up _ z y e1 e2, ok.sz z (List.mem_of_getElem? e1)⟩
theorem cnt_nil {ps : List Pt} (h : (fOf ps).cnt = 0) : ps = [] := by
  have none_ : ((ps.length : Nat) : Int) = 0 := h
  exact List.length_eq_zero_iff.mp (Int.ofNat_eq_zero.mp none_)
theorem full {ps : List Pt} (h : ¬ (fOf ps).cnt = 0) : (∃ m, (fOf ps).lo = some m) ∧ (∃ m, (fOf ps).hi = some m) ∧ (∃ p, (fOf ps).fst = some p) ∧ ∃ p, (fOf ps).lst = some p := by
  cases ps with
  | nil => exact absurd rfl h
  | cons p r => exact ⟨⟨_, rfl⟩, ⟨_, rfl⟩, ⟨_, rfl⟩, ⟨_, List.getLast?_eq_some_getLast (List.cons_ne_nil p r)⟩⟩
section
variable {P : Program} {w : World} {K : PySem.W.Frag} {mg : Str → Option Value} {base : Heap} {C : Addr}
def spTg (K : PySem.W.Frag) (C : Addr) : Sp := fun vs H Q _ => ∃ (a b : Addr) (ps qs : List Pt), vs = [.ref a, .ref b] ∧ FdO K C H a (fOf ps) ∧ FdO K C H b (fOf qs) ∧ POk (ps ++ qs) ∧ ∀ c H', Same H H' → FdO K C H' c (fOf (ps ++ qs)) → Q (.ref c) H'
theorem ok_tg {f : Addr} {fd : FuncData} {k : Nat} (F : Fun K "together" "together" sTg f fd) (T : TFold K C) (K_Fold9 : KF9 P w K mg base C k) (C_risen : Cal P w K mg base k "risen" ["ahead", "behind"] spRisen) (C_held_between : Cal P w K mg base k "held_between" ["ahead", "behind"] (spHB K)) (m_min : mg "min" = none) (m_max : mg "max" = none) : FnOk P w K mg base CX0 (k + 2) f fd ["one", "two"] (spTg K C) := by
  refine F.ok scTg (fun vs H Q E h => ?_) (fun cdv A outer s H vs Q E hr h => ?_)
  · obtain ⟨a, b, ps, qs, rfl, _⟩ := h
    rfl
  · obtain ⟨a, b, ps, qs, rfl, hA0, hB0, ok, q⟩ := h
    refine ⟨_, pss_cons (ps_if (pt_cmpR op_eq (pe_fld (pv 0) rfl) pe_int (nomark _))
        (pss_one (ps_ret (pv 1)))
        pss_nil)
      (pss_cons (ps_if (pt_cmpR op_eq (pe_fld (pv 1) rfl) pe_int (nomark _))
        (pss_one (ps_ret (pv 0)))
        pss_nil)
      (pss_cons (ps_if (pt_cmpR op_le (pe_ix ix_tup (pe_fld (pv 1) rfl) pe_int (fun _ _ => rfl)) (pe_ix ix_tup (pe_fld (pv 0) rfl) pe_int (fun _ _ => rfl)) (nomark _))
        (pss_one ps_dead)
        pss_nil)
      (pss_one (ps_ret (pe_calCK K_Fold9 (hr.mono (by omega)) (by rfl) (pk_cons (pe_op op_add (pe_fld (pv 0) rfl) (pe_fld (pv 1) rfl)) (pk_cons (pe_op op_add (pe_fld (pv 0) rfl) (pe_fld (pv 1) rfl)) (pk_cons (pe_op op_add (pe_fld (pv 0) rfl) (pe_fld (pv 1) rfl)) (pk_cons (pe_callB (call_min2 rfl) (by rfl) m_min (by decide +kernel) (pa_cons (pe_fld (pv 0) rfl) (pa_cons (pe_fld (pv 1) rfl) pa_nil))) (pk_cons (pe_callB (call_max2 rfl) (by rfl) m_max (by decide +kernel) (pa_cons (pe_fld (pv 0) rfl) (pa_cons (pe_fld (pv 1) rfl) pa_nil))) (pk_cons (pe_fld (pv 0) rfl) (pk_cons (pe_fld (pv 1) rfl) (pk_cons (pe_op op_add (pe_op op_add (pe_fld (pv 0) rfl) (pe_cal C_risen (hr.mono (by omega)) (by rfl) (pa_cons (pe_ix ix_tup (pe_fld (pv 0) rfl) pe_int (fun _ _ => rfl)) (pa_cons (pe_ix ix_tup (pe_fld (pv 1) rfl) pe_int (fun _ _ => rfl)) pa_nil)))) (pe_fld (pv 1) rfl)) (pk_cons (pe_op op_add (pe_op op_add (pe_fld (pv 0) rfl) (pe_cal C_held_between (hr.mono (by omega)) (by rfl) (pa_cons (pe_fld (pv 0) rfl) (pa_cons (pe_fld (pv 1) rfl) pa_nil)))) (pe_fld (pv 1) rfl)) pk_nil)))))))))))))), ?_⟩
    have hA := hA0
    have hB := hB0
    obtain ⟨dA, fA, lA, eA, pA, zA⟩ := hA
    obtain ⟨dB, fB, lB, eB, pB, zB⟩ := hB
    refine ⟨_, rfl, a, C, dA, _, _, rfl, eA, T.cl, T.no _ (by decide), rfl, rfl, _, rfl, ite2 (fun g => ?_) (fun g => ?_)⟩
    · rw [vi_z] at g
      obtain rfl := cnt_nil (of_decide_eq_true g)
      exact ⟨_, rfl, q b H (Same.refl _) hB0⟩
    · rw [vi_z] at g
      have c1 : ¬ (fOf ps).cnt = 0 := fun z => g (decide_eq_true z)
      refine ⟨_, rfl, b, C, dB, _, _, rfl, eB, T.cl, T.no _ (by decide), rfl, rfl, _, rfl, ite2 (fun g2 => ?_) (fun g2 => ?_)⟩
      · rw [vi_z] at g2
        obtain rfl := cnt_nil (of_decide_eq_true g2)
        rw [List.append_nil] at q
        exact ⟨_, rfl, q a H (Same.refl _) hA0⟩
      · rw [vi_z] at g2
        have c2 : ¬ (fOf qs).cnt = 0 := fun z => g2 (decide_eq_true z)
        obtain ⟨⟨m1, w1⟩, ⟨m2, w2⟩, _, ⟨z, w4⟩⟩ := full c1
        obtain ⟨⟨n1, v1⟩, ⟨n2, v2⟩, ⟨y, v3⟩, _⟩ := full c2
        obtain ⟨lt, sz⟩ := ok.edge w4 v3
        rw [w4] at zA
        rw [v3] at pB
        obtain ⟨tz, rfl, hz⟩ := zA
        obtain ⟨ty, rfl, hy⟩ := pB
        refine ⟨_, rfl, b, C, dB, _, _, rfl, eB, T.cl, T.no _ (by decide), rfl, ty, _, _, _, rfl, rfl, hy, rfl, _, rfl, a, C, dA, _, _, rfl, eA, T.cl, T.no _ (by decide), rfl, tz, _, _, _, rfl, rfl, hz, rfl, _, _, rfl, rfl, _, rfl, if_n (decide_eq_false (by omega)) ?_⟩
        refine ⟨_, rfl, a, C, dA, _, _, rfl, eA, T.cl, T.no _ (by decide), rfl, _, rfl, b, C, dB, _, _, rfl, eB, T.cl, T.no _ (by decide), rfl, _, _, rfl, rfl, _, rfl, a, C, dA, _, _, rfl, eA, T.cl, T.no _ (by decide), rfl, _, rfl, b, C, dB, _, _, rfl, eB, T.cl, T.no _ (by decide), rfl, _, _, rfl, rfl, _, rfl, a, C, dA, _, _, rfl, eA, T.cl, T.no _ (by decide), rfl, _, rfl, b, C, dB, _, _, rfl, eB, T.cl, T.no _ (by decide), rfl, _, _, rfl, rfl, _, rfl, a, C, dA, _, _, rfl, eA, T.cl, T.no _ (by decide), rfl, _, rfl, b, C, dB, _, _, rfl, eB, T.cl, T.no _ (by decide), rfl, m1, n1, (by rw [w1, v1]; rfl), _, rfl, a, C, dA, _, _, rfl, eA, T.cl, T.no _ (by decide), rfl, _, rfl, b, C, dB, _, _, rfl, eB, T.cl, T.no _ (by decide), rfl, m2, n2, (by rw [w2, v2]; rfl), _, rfl, a, C, dA, _, _, rfl, eA, T.cl, T.no _ (by decide), rfl, _, rfl, b, C, dB, _, _, rfl, eB, T.cl, T.no _ (by decide), rfl, ?_⟩
        refine ⟨_, rfl, a, C, dA, _, _, rfl, eA, T.cl, T.no _ (by decide), rfl, _, rfl, a, C, dA, _, _, rfl, eA, T.cl, T.no _ (by decide), rfl, tz, _, _, _, rfl, rfl, hz, rfl, _, rfl, b, C, dB, _, _, rfl, eB, T.cl, T.no _ (by decide), rfl, ty, _, _, _, rfl, rfl, hy, rfl, z.2, y.2, rfl, _, _, rfl, rfl, _, rfl, b, C, dB, _, _, rfl, eB, T.cl, T.no _ (by decide), rfl, _, _, rfl, rfl, ?_⟩
        refine ⟨_, rfl, a, C, dA, _, _, rfl, eA, T.cl, T.no _ (by decide), rfl, _, rfl, a, C, dA, _, _, rfl, eA, T.cl, T.no _ (by decide), rfl, _, rfl, b, C, dB, _, _, rfl, eB, T.cl, T.no _ (by decide), rfl, tz, ty, z, y, rfl, hz, hy, sz, _, _, rfl, rfl, _, rfl, b, C, dB, _, _, rfl, eB, T.cl, T.no _ (by decide), rfl, _, _, rfl, rfl, ?_⟩
        refine ⟨rfl, rfl, fun x dx nx nd ne => ⟨x, dx, _, _, _, _, _, _, _, _, _, rfl, upd_same, rfl, ?_⟩⟩
        have e := fOf_app w4 v3 w1 v1 w2 v2
        rw [e] at q
        have zz := fd_made (K := K) (C := C) nx nd ne (F := ⟨(fOf ps).cnt + (fOf qs).cnt, (fOf ps).tot + (fOf qs).tot, (fOf ps).sq + (fOf qs).sq, some (if n1 < m1 then n1 else m1), some (if n2 > m2 then n2 else m2), (fOf ps).fst, (fOf qs).lst, (fOf ps).ris + riz z.2 y.2 + (fOf qs).ris, (fOf ps).hel + hld z y + (fOf qs).hel⟩) pA zB
        exact q x _ zz.1 zz.2
end
end Tg

namespace Tg
open PySem PySem.Spec PyProof.Rows L2
section
variable {P : Program} {w : World} {K : PySem.W.Frag} {mg : Str → Option Value} {base : Heap} {C : Addr}
/-- the own == of folds -/
def OwnE (P : Program) (w : World) (K : PySem.W.Frag) (mg : Str → Option Value) (base : Heap) (C : Addr) (k : Nat) (f : Addr) (fd : FuncData) : Prop := FnOk P w K mg base CX0 k f fd ["self", "other"] (spEq (SameF K C)) ∧ PySem.W.findIn K (.ref C) "__eq__" = some (some (.ref f)) ∧ PySem.W.isFn K (.ref f) = true ∧ Binds K fd ["self", "other"] [] ∧ NeC K C f
theorem FdO.ins {H : Hp} {a b : Addr} {F : FD} (hA : FdO K C H a F) (hB : FdO K C H b F) : DIns C (SameF K C) (.ref a) (.ref b) H := by
  obtain ⟨dA, fA, lA, eA, _⟩ := id hA
  obtain ⟨dB, fB, lB, eB, _⟩ := id hB
  exact ⟨a, b, dA, dB, _, _, rfl, rfl, eA, eB, F, hA, hB⟩
end
end Tg

namespace Tg
open PySem PySem.Spec PyProof.Rows L2
section
variable {K : PySem.W.Frag} {f : Addr} {fd : FuncData}
def kw9 : List (Str × V) := [("count", .int 0), ("total", .int 0), ("squares", .int 0), ("least", .non), ("greatest", .non), ("first", .non), ("last", .non), ("rise", .int 0), ("held", .int 0)]
abbrev FFold (K : PySem.W.Frag) (f : Addr) (fd : FuncData) : Prop := FunD K "__init__" "Fold.__init__" (defArgs sFI) (defBody sFI) (defScope sFI) [] kw9 f fd
set_option maxHeartbeats 0 in
theorem kb_9 (F : FFold K f fd) : ∃ g, KBn K fd NFI 1 kFold g (fun vs zs => vs ++ zs) := by
  obtain ⟨mv, h⟩ := F.kbinds0 (ps := NFI) 1 kFold [] (fun us _ ws => us ++ ws) (fun z => nomatch z) (fun q hq => nomatch hq) (fun h1 _ h2 => h1.append h2) (fun D doc pm an cdv ct us mv ws h1 h2 h3 => match us, mv, ws, h1, h2, h3 with | [_], [], [_, _, _, _, _, _, _, _, _], _, _, _ => rfl)
  exact ⟨_, h⟩
set_option maxHeartbeats 0 in
theorem kb_0 (F : FFold K f fd) : ∃ g, KBn K fd NFI 1 [] g (fun vs _ => vs ++ [.int 0, .int 0, .int 0, .non, .non, .non, .non, .int 0, .int 0]) := by
  obtain ⟨mv, h⟩ := F.kbinds0 (ps := NFI) 1 [] kw9 (fun us ms _ => us ++ ms) (fun z => nomatch z) (fun q hq => hq) (fun h1 h2 _ => h1.append h2) (fun D doc pm an cdv ct us mv ws h1 h2 h3 => match us, mv, ws, h1, h2, h3 with
    | [_], [_, _, _, _, _, _, _, _, _], [], _, _, _ => ⟨_, _, _, _, _, _, rfl, rfl, _, _, _, _, _, _, rfl, rfl, _, _, _, _, _, _, rfl, rfl, _, _, _, _, _, _, rfl, rfl, _, _, _, _, _, _, rfl, rfl, _, _, _, _, _, _, rfl, rfl, _, _, _, _, _, _, rfl, rfl, _, _, _, _, _, _, rfl, rfl, _, _, _, _, _, _, rfl, rfl, rfl⟩)
  exact ⟨_, h⟩
end
end Tg

set_option maxHeartbeats 1000000
namespace Tg
open PySem PySem.Spec PyProof.Rows L2 Pl
/-! ### _law_least, _law_no_greater -/
abbrev NL5 : List Str := ["start", "end", "horizon", "cells", "points"]
abbrev NS6 : List Str := ["thing", "start", "end", "horizon", "cells", "points"]
abbrev NP5 : List Str := ["pieces", "start", "end", "horizon", "cells"]
/-- what _law_least tells -/
def LRes (H : Hp) (u : Addr) (W : Wd) : Prop := ∃ pv, H u = some (.tup [.bl true, hV (least W), pv]) ∧ ((least W = none ∧ pv = .non) ∨ ∃ o L b, least W = some o ∧ Chain W W.s L W.e ∧ pv = .ref b ∧ PLst H b L)
theorem PLst.same {H H' : Hp} {b : Addr} {L : List Pce} (s : Same H H') (h : PLst H b L) : PLst H' b L := by
  obtain ⟨ts, h1, h2⟩ := h
  exact ⟨ts, s _ _ h1, h2.same s⟩
theorem LRes.same {H H' : Hp} {u : Addr} {W : Wd} (s : Same H H') (h : LRes H u W) : LRes H' u W := by
  obtain ⟨pv, h1, h2⟩ := h
  refine ⟨pv, s _ _ h1, h2.imp id fun ⟨o, L, b, a, c, d, e⟩ => ⟨o, L, b, a, c, d, e.same s⟩⟩
theorem CL.kp {K : PySem.W.Frag} {H H' : Hp} {c q : Addr} {cs : List (Int × Int)} {xs : List V} (h : CL K H c cs) (k : Kp q H H') (hq : H q = some (.lst xs)) (ne : c ≠ q) : CL K H' c cs := by
  obtain ⟨ts, h1, h2⟩ := h
  exact ⟨ts, k _ _ ne h1, dpAll_kt (KT.kp k hq nfix_lst) h2 (td_pds cs)⟩
abbrev sLL : Stmt := topS 32
theorem scLL : FnScope ["_law_world_here", "_law_start", "_law_end", "_law_a_horizon", "_law_a_cells", "_law_a_points", "_law_told"] ["_law_world_here"] (defScope sLL) := ⟨rfl, rfl, rfl, by decide +kernel, rfl, by decide +kernel, by decide +kernel⟩
abbrev sNG : Stmt := topS 33
theorem scNG : FnScope ["_law_one", "_law_other"] ["_law_one", "_law_other"] (defScope sNG) := ⟨rfl, rfl, rfl, by decide +kernel, rfl, by decide +kernel, by decide +kernel⟩
section
variable {P : Program} {w : World} {K : PySem.W.Frag} {mg : Str → Option Value} {base : Heap} {f : Addr} {fd : FuncData} {k : Nat}
def spLL (K : PySem.W.Frag) : Sp := fun vs H Q _ => ∃ (W : Wd) (t c p : Addr), vs = [.ref t] ∧ WorldR K H t W c p ∧ W.Ok ∧ W.e - W.s ≤ 1000000 ∧ W.ps.length ≤ 1000 ∧ ∀ (u : Addr) (H' : Hp), Same H H' → H u = none → LRes H' u W → Q (.ref u) H'
theorem ok_ll (F : Fun K "_law_least" "_law_least" sLL f fd) (C_least_plan_n : CalN P w K mg base k "least_plan" NL5 2 ["horizon", "cells", "points"] gRow (spLp K)) (C_shows_least_n : CalN P w K mg base k "shows_least" NS6 3 ["horizon", "cells", "points"] gRow (spSl K)) (C_cost_of : Cal P w K mg base k "cost_of" ["pieces", "points"] (spCo K)) : FnOk P w K mg base CX0 (k + 1) f fd ["_law_world_here"] (spLL K) := by
  refine F.ok scLL (fun vs H Q E h => ?_) (fun cdv A outer s H vs Q E hr h => ?_)
  · obtain ⟨W, t, c, p, rfl, _⟩ := h
    rfl
  · obtain ⟨W, t, c, p, rfl, ⟨ht, hd⟩, ok, span, many, q⟩ := h
    refine ⟨_, pss_cons (ps_asg (pv 0) (pg_tup rfl (pgs_cons (pg_name (i := 1) scLL.nd rfl (.inl rfl)) (pgs_cons (pg_name (i := 2) scLL.nd rfl (.inl rfl)) (pgs_cons (pg_name (i := 3) scLL.nd rfl (.inl rfl)) (pgs_cons (pg_name (i := 4) scLL.nd rfl (.inl rfl)) (pgs_cons (pg_name (i := 5) scLL.nd rfl (.inl rfl)) pgs_nil)))))))
      (pss_cons (ps_set (i := 6) scLL.nd rfl (.inl rfl) (pe_calN C_least_plan_n (hr.mono (by omega)) (by rfl) (pa_cons (pv 1) (pa_cons (pv 2) pa_nil)) (pk_cons (pv 3) (pk_cons (pv 4) (pk_cons (pv 5) pk_nil)))))
      (pss_cons (ps_if (pt_cmpR op_notBl (pe_calN C_shows_least_n (hr.mono (by omega)) (by rfl) (pa_cons (pv 6) (pa_cons (pv 1) (pa_cons (pv 2) pa_nil))) (pk_cons (pv 3) (pk_cons (pv 4) (pk_cons (pv 5) pk_nil)))) pe_bl (nomark _))
        (pss_one (ps_ret (pe_tup (pa_cons pe_bl (pa_cons pe_non (pa_cons pe_non pa_nil))))))
        pss_nil)
      (pss_cons (ps_if (pt_cmpR op_eq (pe_ix ix_tup (pv 6) pe_int (fun _ _ => rfl)) pe_str (nomark _))
        (pss_one (ps_ret (pe_tup (pa_cons pe_bl (pa_cons pe_non (pa_cons pe_non pa_nil))))))
        pss_nil)
      (pss_one (ps_ret (pe_tup (pa_cons pe_bl (pa_cons (pe_cal C_cost_of (hr.mono (by omega)) (by rfl) (pa_cons (pe_ix ix_tup (pv 6) pe_int (fun _ _ => rfl)) (pa_cons (pv 5) pa_nil))) (pa_cons (pe_ix ix_tup (pv 6) pe_int (fun _ _ => rfl)) pa_nil))))))))), ?_⟩
    refine ⟨_, rfl, t, _, rfl, SqT.of ht, rfl, _, _, rfl, _, _, rfl, _, _, rfl, _, _, rfl, _, _, rfl, rfl, ?_⟩
    refine ⟨_, rfl, _, rfl, _, rfl, _, rfl, _, rfl, rfl, rfl, W, c, p, rfl, hd, ok, span, fun u H1 s1 nu told => ?_⟩
    refine ⟨_, rfl, _, rfl, _, rfl, _, rfl, _, rfl, _, rfl, rfl, rfl, W, u, c, p, rfl, hd.same s1, ok, (by omega), told, fun H2 s2 => ⟨true, true, rfl, rfl, false, rfl, if_f ?_⟩⟩
    have s12 := s1.trans s2
    rcases told with ⟨ho, b, hu, _⟩ | ⟨o, L, ho, ch, tt, _, b1, b2, hu, pls, _⟩
    · refine ⟨_, rfl, u, _, 0, .str "gap", rfl, rfl, SqT.of (s2 _ _ hu), rfl, rfl, true, rfl, if_t ?_⟩
      refine ⟨by show 3 ≤ sizeLine; decide, fun v nv => ?_⟩
      have sv := same_new (o := .tup [.bl true, .non, .non]) nv
      refine q v _ (s12.trans sv) (s12.free nv) ⟨.non, ?_, .inl ⟨ho, rfl⟩⟩
      rw [show hV (least W) = .non from by
        unfold least
        rw [ho]
        rfl]
      exact upd_same
    · refine ⟨_, rfl, u, _, 0, .str "plan", rfl, rfl, SqT.of (s2 _ _ hu), rfl, rfl, false, rfl, if_f ?_⟩
      refine ⟨_, rfl, u, _, 1, .ref b1, rfl, rfl, SqT.of (s2 _ _ hu), rfl, _, rfl, b1, p, L, W.ps, rfl, pls.same s2, (hd.same s12).pts, (by omega), fun H3 s3 => ?_⟩
      have s13 := s12.trans s3
      refine ⟨_, rfl, u, _, 1, .ref b1, rfl, rfl, SqT.of (s3 _ _ (s2 _ _ hu)), rfl, by show 3 ≤ sizeLine; decide, fun v nv => ?_⟩
      have sv := same_new (o := .tup [.bl true, .int (tot W.ps L), .ref b1]) nv
      refine q v _ (s13.trans sv) (s13.free nv) ⟨.ref b1, ?_, .inr ⟨o, L, b1, ho, ch, rfl, ((pls.same s2).same s3).same sv⟩⟩
      rw [show hV (least W) = .int (tot W.ps L) from by
        unfold least
        rw [ho, tt]
        rfl]
      exact upd_same
def spNG : Sp := fun vs H Q _ => ∃ x y : Option Int, vs = [hV x, hV y] ∧ (∀ b, y = some b → ∃ a, x = some a ∧ a ≤ b) ∧ Q (.bl true) H
theorem ok_ng (F : Fun K "_law_no_greater" "_law_no_greater" sNG f fd) : FnOk P w K mg base CX0 (k + 1) f fd ["_law_one", "_law_other"] spNG := by
  refine F.ok scNG (fun vs H Q E h => ?_) (fun cdv A outer s H vs Q E hr h => ?_)
  · obtain ⟨x, y, rfl, _⟩ := h
    rfl
  · obtain ⟨x, y, rfl, le, q⟩ := h
    refine ⟨_, pss_one (ps_ret (pe_or (pe_cmpR op_isN (pv 1) pe_non (nomark _)) (pe_one (pe_and (pe_cmpR op_notN (pv 0) pe_non (nomark _)) (pe_one (pe_cmpR op_le (pv 0) (pv 1) (nomark _))))))), ?_⟩
    cases y with
    | none => exact ⟨_, rfl, rfl, true, rfl, if_t q⟩
    | some b =>
      obtain ⟨a, rfl, ab⟩ := le b rfl
      refine ⟨_, rfl, rfl, false, rfl, if_f ⟨_, rfl, rfl, true, rfl, if_t ⟨_, rfl, _, rfl, a, b, rfl, rfl, ?_⟩⟩⟩
      show Q (V.bl (decide (a ≤ b))) _
      rw [decide_eq_true ab]
      exact q
end
end Tg

set_option maxHeartbeats 1000000
namespace Tg
open PySem PySem.Spec PyProof.Rows L2 Pl
/-! ### _law_drawn_way -/
abbrev sDW : Stmt := topS 35
abbrev NDW : List Str := ["_law_draws_here", "_law_world_here", "_law_start", "_law_end", "_law_a_horizon", "_law_a_cells", "_law_a_points", "_law_pieces", "_law_at", "_law_some", "_law_one", "_law_two"]
theorem scDW : FnScope NDW ["_law_draws_here", "_law_world_here"] (defScope sDW) := ⟨rfl, rfl, rfl, by decide +kernel, rfl, by decide +kernel, by decide +kernel⟩
/-- a piece from x that stays in the stretch -/
structure From (W : Wd) (x : Int) (p : Pce) : Prop where
  at_ : p.2.1 = x
  in_ : p.2.2 ≤ W.e
  ok : OkP W p
theorem chain_snoc {W : Wd} {L : List Pce} {x : Int} {p : Pce} (h : Chain W W.s L x) (f : From W x p) : Chain W W.s (L ++ [p]) p.2.2 := chain_app h ⟨f.at_, f.ok, rfl⟩
theorem Dr.le {H : Hp} {q : Addr} {n m : Nat} (d : Dr H q n) (h : n ≤ m) : Dr H q m := by
  obtain ⟨a, b, c, e, f, g⟩ := d
  exact ⟨a, b, c, e, f, by omega⟩
theorem PLt.kp {H H' : Hp} {q : Addr} {xs : List V} {ts : List Addr} {L : List Pce} (h : PLt H ts L) (k : Kp q H H') (hq : H q = some (.lst xs)) : PLt H' ts L := h.keep fun t p e => k _ _ (fun z => by
  rw [z, hq] at e
  cases e) e
theorem PLt.upd_ {H : Hp} {D : Addr} {ys : List V} {ts : List Addr} {L : List Pce} {o : HO} (h : PLt H ts L) (hD : H D = some (.lst ys)) : PLt (upd H D o) ts L := h.keep fun t p e => by
  rw [upd_ne fun z => by
    rw [z, hD] at e
    cases e]
  exact e
theorem PLt.put {H : Hp} {D u : Addr} {ys : List V} {ts : List Addr} {L : List Pce} {o : HO} (p : Pce) (h : PLt H ts L) (hD : H D = some (.lst ys)) (nu : H u = none) : PLt (upd (upd H u (pceT p)) D o) (ts ++ [u]) (L ++ [p]) := by
  have su := same_new (o := pceT p) nu
  have a : PLt (upd H u (pceT p)) (ts ++ [u]) (L ++ [p]) := (h.same su).app ⟨upd_same, trivial⟩
  exact a.upd_ (su _ _ hD)
theorem pick_ref {us : List Addr} (v : Int) (pos : 0 < us.length) : ∃ (j : Nat) (u : Addr), us[j]? = some u ∧ atI (us.map V.ref) (v % (((us.map V.ref).length : Nat) : Int)) = some (.ref u) := by
  rw [List.length_map]
  have h0 := Int.emod_nonneg v (show ((us.length : Nat) : Int) ≠ 0 by omega)
  have h1 := Int.emod_lt_of_pos v (show (0 : Int) < ((us.length : Nat) : Int) by omega)
  obtain ⟨j, ej⟩ : ∃ j : Nat, v % ((us.length : Nat) : Int) = (j : Int) := ⟨_, nc _ h0⟩
  rw [ej] at h1 ⊢
  have jl : j < us.length := by omega
  exact ⟨j, us[j], List.getElem?_eq_getElem jl, atI_nat (by rw [List.getElem?_map, List.getElem?_eq_getElem jl]; rfl)⟩
section
variable {P : Program} {w : World} {K : PySem.W.Frag} {mg : Str → Option Value} {base : Heap} {f : Addr} {fd : FuncData} {k : Nat}
def spDW (K : PySem.W.Frag) : Sp := fun vs H Q _ => ∃ (W : Wd) (q t c p : Addr) (N : Nat), vs = [.ref q, .ref t] ∧ Dr H q N ∧ N < 800000 ∧ WorldR K H t W c p ∧ CL K H c W.cs ∧ W.Ok ∧ c ≠ q ∧ ∀ (v : V) (H' : Hp) (N' : Nat), Kp q H H' → Dr H' q N' → N' ≤ N + 130 → (v = .non ∨ ∃ b L, v = .ref b ∧ PLst H' b L ∧ Chain W W.s L W.e) → Q v H'
theorem ok_dw (F : Fun K "_law_drawn_way" "_law_drawn_way" sDW f fd) (L_next : Cal P w K mg base k "_law_next" ["_law_draws_here"] spNext) (m_len : mg "len" = none) (m_min : mg "min" = none) : FnOk P w K mg base CX0 (k + 1) f fd ["_law_draws_here", "_law_world_here"] (spDW K) := by
  refine F.ok scDW (fun vs H Q E h => ?_) (fun cdv A outer s H vs Q E hr h => ?_)
  · obtain ⟨W, q, t, c, p, N, rfl, _⟩ := h
    rfl
  · obtain ⟨W, q, t, c, p, N, rfl, dr, n8, wd, cl, ok, cq, Qd⟩ := h
    have hu64 : (A.deeper (envOfC "_law_drawn_way" (defScope sDW) s.heap.objs.size f cdv)).units + 64 < cLine := by
      have := hr.un
      omega
    refine ⟨_, pss_cons (ps_asg (pv 1) (pg_tup rfl (pgs_cons (pg_name (i := 2) scDW.nd rfl (.inl rfl)) (pgs_cons (pg_name (i := 3) scDW.nd rfl (.inr rfl)) (pgs_cons (pg_name (i := 4) scDW.nd rfl (.inl rfl)) (pgs_cons (pg_name (i := 5) scDW.nd rfl (.inl rfl)) (pgs_cons (pg_name (i := 6) scDW.nd rfl (.inl rfl)) pgs_nil)))))))
      (pss_cons (ps_set (i := 7) scDW.nd rfl (.inl rfl) (pe_lst pa_nil))
      (pss_cons (ps_set (i := 8) scDW.nd rfl (.inr rfl) (pv 2))
      (pss_cons (ps_while PassesOwn.never (PW.pt (pw_and (pt_cmpR op_ne (pv 8) (pv 3) (nomark _)) (pw_and1 (pt_cmpR op_lt (pe_callB call_len_seq (by rfl) m_len (by decide +kernel) (pa_cons (pv 7) pa_nil)) pe_int (nomark _)))))
        (pss_cons (ps_setLc (i := 9) (own := [("_law_one", 10), ("_law_two", 11)]) (g := (gTup K 2 (gCons (gName 10) (gCons (gName 11) gNil)))) rfl scDW.nd rfl rfl (sw_true rfl rfl rfl (by decide +kernel)) (pi_seq (pv 5)) (blkOk_by (own := [("_law_one", 10), ("_law_two", 11)]) (N := NDW) (sc := defScope sDW) (by decide +kernel)) (fun _ _ _ _ _ => (pg_tup rfl (pgs_cons (pg_name (i := 10) scDW.nd rfl (.inl rfl)) (pgs_cons (pg_name (i := 11) scDW.nd rfl (.inl rfl)) pgs_nil)))) (fun _ _ _ _ _ => pts_one (PW.pt (pw_and (pt_cmpR op_eq (pv 10) (pv 8) (nomark _)) (pw_and1 (pt_cmpR op_le (pv 11) (pv 3) (nomark _)))))) (fun _ _ _ _ _ => (pe_tup (pa_cons pe_str (pa_cons (pv 10) (pa_cons (pv 11) pa_nil))))))
        (pss_cons (ps_if (PW.pt (pw_or (pt_cmpR op_isN (pv 4) pe_non (nomark _)) (pw_or1 (pt_cmpR op_ge (pv 8) (pv 4) (nomark _)))))
          (pss_one (ps_expr (pe_bm PySem.F.plainAttrs_list PySem.F.slot_list_append PySem.F.type_list_append mt_append (pv 9) (pa_cons (pe_tup (pa_cons pe_str (pa_cons (pv 8) (pa_cons (pe_callB (call_min2 rfl) (by rfl) m_min (by decide +kernel) (pa_cons (pv 3) (pa_cons (pe_op op_add (pe_op op_add (pv 8) pe_int) (pe_op op_mod (pe_cal L_next (hr.mono (by omega)) (by rfl) (pa_cons (pv 0) pa_nil)) pe_int)) pa_nil))) pa_nil)))) pa_nil))))
          pss_nil)
        (pss_cons (ps_if (pt_cmpR (op_eqD hu64) (pv 9) (pe_lst pa_nil) (nomark _))
          (pss_one (ps_ret pe_non))
          pss_nil)
        (pss_cons (ps_expr (pe_bm PySem.F.plainAttrs_list PySem.F.slot_list_append PySem.F.type_list_append mt_append (pv 7) (pa_cons (pe_ix ix_list (pv 9) (pe_op op_mod (pe_cal L_next (hr.mono (by omega)) (by rfl) (pa_cons (pv 0) pa_nil)) (pe_callB call_len_seq (by rfl) m_len (by decide +kernel) (pa_cons (pv 9) pa_nil))) (fun _ _ => rfl)) pa_nil)))
        (pss_one (ps_set (i := 8) scDW.nd rfl (.inr rfl) (pe_ix (r := rIxT K) ix_tup (pe_ix ix_list (pv 7) (pe_un un_neg pe_int) (fun _ _ => rfl)) pe_int (fun _ _ => rfl)))))))))
      (pss_cons (ps_if (pt_cmpR op_ne (pv 8) (pv 3) (nomark _))
        (pss_one (ps_ret pe_non))
        pss_nil)
      (pss_one (ps_ret (pv 7))))))), ?_⟩
    obtain ⟨ht, hd⟩ := id wd
    obtain ⟨_, _, _, hq0, _⟩ := id dr
    have few := hd.few
    refine ⟨_, rfl, t, _, rfl, SqT.of ht, rfl, _, _, rfl, _, _, rfl, _, _, rfl, _, _, rfl, _, _, rfl, rfl, ?_⟩
    refine ⟨Nat.zero_le _, fun lp nlp => ?_⟩
    have lpq := dr.ne nlp
    have s1 := same_new (o := .lst []) nlp
    have st0 := ok.se
    refine ⟨_, rfl, while_by (fun σ Hc => ∃ (x : Int) (L : List Pce) (ts : List Addr) (z9 : Option V), σ = [some (.ref q), some (.ref t), some (.int W.s), some (.int W.e), some (hV W.h), some (.ref c), some (.ref p), some (.ref lp), some (.int x), z9, none, none] ∧ Hc lp = some (.lst (ts.map V.ref)) ∧ PLt Hc ts L ∧ Chain W W.s L x ∧ x ≤ W.e ∧ L.length ≤ 60 ∧ Dr Hc q (N + 2 * L.length) ∧ ∀ a o, a ≠ q → a ≠ lp → H a = some o → Hc a = some o) (fun σ _ => match σ with | _ :: _ :: _ :: _ :: _ :: _ :: _ :: _ :: some (.int x) :: _ => (W.e - x).toNat | _ => 0) ⟨W.s, [], [], none, rfl, upd_same, trivial, rfl, st0, Nat.zero_le _, dr.same s1, fun a o _ _ e => s1 _ _ e⟩ ?_ ?_⟩
    · rintro σ Hc ⟨x, L, ts, z9, rfl, hlp, pl, ch, xe, l60, dc, kc⟩
      have tl := pl.len
      have kH : Kp q H Hc := fun a o n e => kc a o n (ne_of_none e nlp) e
      have fin : x = W.e ∨ ¬ x = W.e := Classical.em _
      rcases fin with fin | fin
      · subst fin
        refine ⟨_, rfl, _, rfl, rfl, false, congrArg V.bl (by rw [decide_eq_true rfl]; rfl), if_f (if_f ?_)⟩
        refine ⟨_, rfl, _, rfl, rfl, false, congrArg V.bl (by rw [decide_eq_true rfl]; rfl), if_f ?_⟩
        exact ⟨_, rfl, Qd _ Hc _ kH dc (by omega) (.inr ⟨lp, L, rfl, ⟨ts, hlp, pl⟩, ch⟩)⟩
      have xne : V.bl (!decide (V.int x = V.int W.e)) = .bl true := congrArg V.bl (by rw [decide_eq_false fun z => fin (V.int.inj z)]; rfl)
      by_cases full : L.length < 60
      case neg =>
        refine ⟨_, rfl, _, rfl, rfl, true, xne, if_t ?_⟩
        refine ⟨_, rfl, lp, _, rfl, .inl (SqL.of hlp), _, _, rfl, rfl, false, congrArg V.bl (decide_eq_false (by rw [List.length_map, tl]; omega)), if_f ?_⟩
        refine ⟨_, rfl, _, rfl, rfl, true, xne, if_t ?_⟩
        exact Qd _ Hc _ kH dc (by omega) (.inl rfl)
      case pos =>
        refine ⟨_, rfl, _, rfl, rfl, true, xne, if_t ?_⟩
        refine ⟨_, rfl, lp, _, rfl, .inl (SqL.of hlp), _, _, rfl, rfl, true, congrArg V.bl (decide_eq_true (by rw [List.length_map, tl]; omega)), if_t ?_⟩
        have xlt : x < W.e := by omega
        have cR : CellsR K Hc c W.cs := (cl.kp kH hq0 cq).cells
        obtain ⟨cts, csq, clen, ceach⟩ := cR
        refine ⟨_, rfl, c, rfl, lc_seq (a := c) (xs := cts.map V.ref) csq (fun D i H1 => Same Hc H1 ∧ ∃ (us : List Addr) (S : List Pce), H1 D = some (.lst (us.map V.ref)) ∧ PLt H1 us S ∧ (∀ p, p ∈ S → From W x p) ∧ S.length ≤ i) (fun D nD => ⟨same_new nD, [], [], upd_same, trivial, (fun p h => by cases h), Nat.zero_le _⟩) (fun D i H1 _ h o e => h.1 _ _ e) ?_ ?_⟩
        · rintro D i v H1 nD hv ⟨s2, us, S, hD, plS, allS, sl⟩
          rw [List.getElem?_map] at hv
          obtain ⟨tc, et, rfl⟩ := Option.map_eq_some_iff.mp hv
          obtain ⟨cc, ec⟩ : ∃ cc, W.cs[i]? = some cc := ⟨_, List.getElem?_eq_getElem (by rw [← clen]; exact (List.getElem?_eq_some_iff.mp et).1)⟩
          have il : i < W.cs.length := (List.getElem?_eq_some_iff.mp ec).1
          have mc := List.mem_of_getElem? ec
          have ul := plS.len
          refine ⟨tc, _, rfl, sqT_same s2 (ceach i tc cc et ec), rfl, _, _, rfl, _, _, rfl, rfl, rfl, ?_⟩
          by_cases h1 : cc.1 = x
          · refine ⟨_, rfl, _, rfl, rfl, true, congrArg V.bl (by rw [h1, decide_eq_true rfl]), if_t ?_⟩
            by_cases h2 : cc.2 ≤ W.e
            · refine ⟨_, rfl, _, rfl, _, _, rfl, rfl, true, congrArg V.bl (decide_eq_true h2), if_t ?_⟩
              refine ⟨_, rfl, _, rfl, by show 3 ≤ sizeLine; decide, fun u nu => ?_⟩
              have su := same_new (o := pceT (true, cc.1, cc.2)) nu
              refine ⟨_, su _ _ hD, by rw [List.length_map, ul]; exact small1000 (by omega), same_put nD (s2.trans su), us ++ [u], S ++ [(true, cc.1, cc.2)], ?_, plS.put (true, cc.1, cc.2) hD nu, fun p hp => ?_, by rw [List.length_append]; exact Nat.succ_le_succ sl⟩
              · rw [upd_same, List.map_append]
                rfl
              · obtain h | h := List.mem_append.mp hp
                · exact allS p h
                · rw [List.mem_singleton.mp h]
                  exact ⟨h1, h2, ok.fw cc mc, fun _ => mc, fun z => nomatch z⟩
            · exact ⟨_, rfl, _, rfl, _, _, rfl, rfl, false, congrArg V.bl (decide_eq_false h2), if_f ⟨s2, us, S, hD, plS, allS, Nat.le_succ_of_le sl⟩⟩
          · exact ⟨_, rfl, _, rfl, rfl, false, congrArg V.bl (decide_eq_false fun z => h1 (V.int.inj z)), if_f (if_f ⟨s2, us, S, hD, plS, allS, Nat.le_succ_of_le sl⟩)⟩
        · rintro D H1 nD ⟨s2, us, S, hD, plS, allS, sl⟩
          rw [List.length_map, clen] at sl
          have lD : lp ≠ D := ne_of_none hlp nD
          have qD : D ≠ q := dc.ne nD
          have hlp1 := s2 _ _ hlp
          have dr1 := dc.same s2
          have plL1 := pl.same s2
          have ul := plS.len
          cases hk : hok W.h x
          case' true =>
            cases hW : W.h
            case' none =>
              refine ⟨_, rfl, rfl, true, rfl, if_t (if_t ?_)⟩
            case' some z =>
              have zx : z ≤ x := by
                rw [hW] at hk
                exact of_decide_eq_true hk
              refine ⟨_, rfl, rfl, false, rfl, if_f ⟨_, rfl, _, rfl, x, z, rfl, rfl, true, congrArg V.bl (decide_eq_true zx), if_t ?_⟩⟩
            all_goals
              rw [← hW]
              refine ⟨_, rfl, .inl ⟨rfl, _, SqL.of hD⟩, _, rfl, _, rfl, _, rfl, _, _, rfl, rfl, _, rfl, q, N + 2 * L.length, rfl, dr1, by omega, fun v H5 k5 d5 _ _ => ?_⟩
              have m0 := Int.emod_nonneg v (show (9 : Int) ≠ 0 by decide)
              refine ⟨_, _, rfl, rfl, (by show (0 : Int) < 9; decide), _, _, rfl, rfl, _, _, rfl, by show 3 ≤ sizeLine; decide, fun u nu => ?_⟩
              obtain ⟨y, ey⟩ : ∃ y, (if x + 1 + v % 9 < W.e then x + 1 + v % 9 else W.e) = y := ⟨_, rfl⟩
              have yb : x < y ∧ y ≤ W.e := by
                by_cases lt : x + 1 + v % 9 < W.e
                · rw [if_pos lt] at ey
                  omega
                · rw [if_neg lt] at ey
                  omega
              have hD5 := k5 _ _ qD hD
              have su := same_new (o := pceT (false, x, y)) nu
              obtain ⟨_, _, _, hq1, _⟩ := id dr1
              refine ⟨D, us.map V.ref, _, rfl, rfl, (same_new nu) _ _ hD5, by rw [List.length_map, ul]; exact small1000 (by omega), ?_⟩
              dsimp only
              rw [ey]
              obtain ⟨H9, e9⟩ : ∃ H9, upd (upd H5 u (pceT (false, x, y))) D (.lst (us.map V.ref ++ [.ref u])) = H9 := ⟨_, rfl⟩
              have e9b : upd (upd H5 u (.tup [.str "points", .int x, .int y])) D (.lst (us.map V.ref ++ [.ref u])) = H9 := e9
              rw [e9b]
              have hD9 : H9 D = some (.lst ((us ++ [u]).map V.ref)) := by
                rw [← e9, upd_same, List.map_append]
                rfl
              have pl9 : PLt H9 (us ++ [u]) (S ++ [(false, x, y)]) := by
                rw [← e9]
                exact (plS.kp k5 hq1).put (false, x, y) hD5 nu
              have all9 : ∀ p, p ∈ S ++ [(false, x, y)] → From W x p := fun p hp => by
                obtain h | h := List.mem_append.mp hp
                · exact allS p h
                · rw [List.mem_singleton.mp h]
                  exact ⟨rfl, yb.2, yb.1, (fun z => nomatch z), fun _ => hk⟩
              have k59 : Same H5 (upd H5 u (pceT (false, x, y))) := su
              have dr9 : Dr H9 q (N + 2 * L.length + 1) := by
                obtain ⟨b1, b2, b3, b4, b5, b6⟩ := d5
                refine ⟨b1, b2, b3, ?_, b5, by omega⟩
                rw [← e9, upd_ne qD.symm]
                exact su _ _ b4
              have k9 : Kp q Hc H9 := fun a o n e => by
                rw [← e9, upd_ne (ne_of_none e nD)]
                exact su _ _ (k5 _ _ n (s2 _ _ e))
              obtain ⟨us9, S9, eS9⟩ : ∃ us9 S9, us9 = us ++ [u] ∧ S9 = S ++ [(false, x, y)] := ⟨_, _, rfl, rfl⟩
              rw [← eS9.1] at hD9 pl9
              rw [← eS9.2] at pl9 all9
              have l9 : S9.length ≤ 30 := by
                rw [eS9.2, List.length_append]
                show S.length + 1 ≤ 30
                omega
          case' false =>
            cases hW : W.h
            case' none =>
              rw [hW] at hk
              cases hk
            case' some z =>
              have zx : ¬ z ≤ x := by
                rw [hW] at hk
                exact of_decide_eq_false hk
              refine ⟨_, rfl, rfl, false, rfl, if_f ⟨_, rfl, _, rfl, x, z, rfl, rfl, false, congrArg V.bl (decide_eq_false zx), if_f ?_⟩⟩
              rw [← hW]
              obtain ⟨H9, us9, S9, rfl, rfl, rfl⟩ : ∃ H9 us9 S9, H9 = H1 ∧ us9 = us ∧ S9 = S := ⟨_, _, _, rfl, rfl, rfl⟩
              have hD9 := hD
              have pl9 := plS
              have all9 := allS
              have dr9 : Dr H9 q (N + 2 * L.length + 1) := dr1.le (by omega)
              have k9 : Kp q Hc H9 := Kp.of s2
              have l9 : S9.length ≤ 30 := by omega
          all_goals
            refine ⟨_, rfl, Nat.zero_le _, fun l nl => ?_⟩
            have sl := same_new (o := .lst []) nl
            refine ⟨.list (S9.map pceD), .list [], .lst (SqL.of (sl _ _ hD9)) (plt_dp (pl9.same sl)), .lst (SqL.of upd_same) .nil, (Form.list (.map form_pce S9)).shaped (by decide), rfl, S9.isEmpty, congrArg V.bl (by cases S9 <;> rfl), ?_⟩
            have kl : Kp q Hc (upd H9 l (.lst [])) := k9.trans (Kp.of sl)
            cases hS : S9.isEmpty
            case' true =>
              refine if_t ?_
              exact Qd _ _ _ (kH.trans kl) (dr9.same sl) (by omega) (.inl rfl)
            case' false =>
              refine if_f ?_
              have hlp9 := kl _ _ lpq hlp
              refine ⟨_, rfl, .inl ⟨rfl, _, SqL.of hlp9⟩, _, rfl, _, rfl, q, _, rfl, dr9.same sl, by omega, fun v H6 k6 d6 _ _ => ?_⟩
              have hD6 := k6 _ _ qD (sl _ _ hD9)
              have len9 := pl9.len
              have pos9 : 0 < us9.length := by
                cases S9 with
                | nil => cases hS
                | cons _ _ => rw [len9]; exact Nat.succ_pos _
              obtain ⟨j, u2, ej, atj⟩ := pick_ref (us := us9) v pos9
              obtain ⟨pz, ez, hz⟩ := pl9.at_ ej
              have fz := all9 pz (List.mem_of_getElem? ez)
              obtain ⟨_, _, _, hq9, _⟩ := id (dr9.same sl)
              have hz6 : H6 u2 = some (pceT pz) := k6 _ _ (fun z => by
                have := sl _ _ hz
                rw [z, hq9] at this
                cases this) (sl _ _ hz)
              have hlp6 := k6 _ _ lpq hlp9
              obtain ⟨_, _, _, hqc, _⟩ := id dc
              have plL6 : PLt H6 ts L := (pl.kp kl hqc).kp k6 hq9
              refine ⟨_, rfl, D, _, rfl, .inl (SqL.of hD6), _, _, rfl, rfl, (by rw [List.length_map]; omega), D, _, _, .ref u2, rfl, rfl, SqL.of hD6, atj, lp, _, _, rfl, rfl, hlp6, by rw [List.length_map, tl]; exact small1000 (by omega), ?_⟩
              have u2lp : u2 ≠ lp := fun z => by
                rw [z, hlp6] at hz6
                cases hz6
              have hz7 : (upd H6 lp (.lst (ts.map V.ref ++ [.ref u2]))) u2 = some (pceT pz) := by
                rw [upd_ne u2lp]
                exact hz6
              refine ⟨_, rfl, 1, rfl, lp, _, _, .ref u2, rfl, rfl, SqL.of upd_same, atI_last _ _, u2, _, 2, .int pz.2.2, rfl, rfl, SqT.of hz7, rfl, ?_⟩
              have fw := fz.ok.fw
              have fa := fz.at_
              have fi := fz.in_
              refine ⟨⟨pz.2.2, L ++ [pz], ts ++ [u2], _, rfl, ?_, ?_, chain_snoc ch fz, fi, ?_, ?_, fun a o n1 n2 e => ?_⟩, ?_⟩
              · rw [upd_same, List.map_append]
                rfl
              · have a : PLt H6 (ts ++ [u2]) (L ++ [pz]) := plL6.app ⟨hz6, trivial⟩
                exact a.upd_ hlp6
              · rw [List.length_append]
                exact full
              · rw [List.length_append]
                obtain ⟨b1, b2, b3, b4, b5, b6⟩ := d6
                refine ⟨b1, b2, b3, ?_, b5, ?_⟩
                · rw [upd_ne lpq.symm]
                  exact b4
                · show b2 ≤ ((N + 2 * (L.length + 1) : Nat) : Int)
                  omega
              · rw [upd_ne n2]
                exact k6 _ _ n1 (kl _ _ n1 (kc a o n1 n2 e))
              · show (W.e - pz.2.2).toNat < (W.e - x).toNat
                omega
    · rintro σ H3 Q1 Q2 hq ⟨v, e, v2, e2, e3, b, e4, h⟩
      refine ⟨v, e, v2, e2, e3, b, e4, ?_⟩
      cases b with
      | false => exact if_f (hq _ _ ((if_neg (by decide)).mp h))
      | true =>
        obtain ⟨v3, e5, a, ys, e6, sq, i1, j1, e7, e8, b2, e9, h⟩ := (if_pos rfl).mp h
        exact if_t ⟨v3, e5, a, ys, e6, sq, i1, j1, e7, e8, b2, e9, hq _ _ h⟩
end
end Tg

set_option maxHeartbeats 1000000
namespace Tg
open PySem PySem.Spec PyProof.Rows L2 Pl
/-! ### _law_ways_right -/
/-- the law's world, beside its draws at q -/
structure LW (K : PySem.W.Frag) (H : Hp) (q t : Addr) (W : Wd) (c p : Addr) : Prop where
  tup : H t = some (.tup [.int W.s, .int W.e, hV W.h, .ref c, .ref p])
  cl : CL K H c W.cs
  pts : NL H p W.ps
  cq : c ≠ q
  pq : p ≠ q
  few : W.cs.length ≤ 14
  many : W.ps.length ≤ 20
  ok : W.Ok
  span : W.e - W.s ≤ 100
theorem LW.world {K : PySem.W.Frag} {H : Hp} {q t : Addr} {W : Wd} {c p : Addr} (h : LW K H q t W c p) : WorldR K H t W c p := ⟨h.tup, h.cl.cells, .inl (SqL.of h.pts), Nat.le_trans h.few (by decide)⟩
theorem LW.kp {K : PySem.W.Frag} {H H' : Hp} {q t : Addr} {W : Wd} {c p : Addr} {N : Nat} (h : LW K H q t W c p) (k : Kp q H H') (d : Dr H q N) : LW K H' q t W c p := by
  obtain ⟨_, _, _, hq, _⟩ := d
  exact ⟨k _ _ (fun z => by
    have := h.tup
    rw [z, hq] at this
    cases this) h.tup, h.cl.kp k hq h.cq, k _ _ h.pq h.pts, h.cq, h.pq, h.few, h.many, h.ok, h.span⟩
theorem LW.same {K : PySem.W.Frag} {H H' : Hp} {q t : Addr} {W : Wd} {c p : Addr} (h : LW K H q t W c p) (s : Same H H') : LW K H' q t W c p := ⟨s _ _ h.tup, h.cl.same s, s _ _ h.pts, h.cq, h.pq, h.few, h.many, h.ok, h.span⟩
abbrev sWR : Stmt := topS 36
theorem scWR : FnScope ["_law_draws_here", "_law_world_here", "_law_least_here", "_law_start", "_law_end", "_law_a_horizon", "_law_a_cells", "_law_a_points", "_law_k", "_law_pieces"] ["_law_draws_here", "_law_world_here", "_law_least_here"] (defScope sWR) := ⟨rfl, rfl, rfl, by decide +kernel, rfl, by decide +kernel, by decide +kernel⟩
section
variable {P : Program} {w : World} {K : PySem.W.Frag} {mg : Str → Option Value} {base : Heap} {f : Addr} {fd : FuncData} {k : Nat}
/-- a question about the world at hand, with its least cost: True -/
def spAsk (K : PySem.W.Frag) : Sp := fun vs H Q _ => ∃ (W : Wd) (q t c p : Addr) (N : Nat), vs = [.ref q, .ref t, hV (least W)] ∧ Dr H q N ∧ N < 700000 ∧ LW K H q t W c p ∧ ∀ (H' : Hp) (N' : Nat), Kp q H H' → Dr H' q N' → N' ≤ N + 1000 → Q (.bl true) H'
theorem ok_wr (F : Fun K "_law_ways_right" "_law_ways_right" sWR f fd) (L_drawn_way : Cal P w K mg base k "_law_drawn_way" ["_law_draws_here", "_law_world_here"] (spDW K)) (C_cost_of : Cal P w K mg base k "cost_of" ["pieces", "points"] (spCo K)) (C_is_plan_n : CalN P w K mg base k "is_plan" NP5 3 ["horizon", "cells"] gRow (spPl K)) (m_range : mg "range" = none) : FnOk P w K mg base CX0 (k + 1) f fd ["_law_draws_here", "_law_world_here", "_law_least_here"] (spAsk K) := by
  refine F.ok scWR (fun vs H Q E h => ?_) (fun cdv A outer s H vs Q E hr h => ?_)
  · obtain ⟨W, q, t, c, p, N, rfl, _⟩ := h
    rfl
  · obtain ⟨W, q, t, c, p, N, rfl, dr, n7, lw, Qd⟩ := h
    refine ⟨_, pss_cons (ps_asg (pv 1) (pg_tup rfl (pgs_cons (pg_name (i := 3) scWR.nd rfl (.inl rfl)) (pgs_cons (pg_name (i := 4) scWR.nd rfl (.inl rfl)) (pgs_cons (pg_name (i := 5) scWR.nd rfl (.inl rfl)) (pgs_cons (pg_name (i := 6) scWR.nd rfl (.inl rfl)) (pgs_cons (pg_name (i := 7) scWR.nd rfl (.inl rfl)) pgs_nil)))))))
      (pss_cons (ps_for PassesOwn.never rfl (pi_range1 (by rfl) m_range (pa_cons pe_int pa_nil)) (pg_name (i := 8) scWR.nd rfl (.inl rfl))
        (pss_cons (ps_set (i := 9) scWR.nd rfl (.inl rfl) (pe_cal L_drawn_way (hr.mono (by omega)) (by rfl) (pa_cons (pv 0) (pa_cons (pv 1) pa_nil))))
        (pss_one (ps_if (pt_cmpR op_notN (pv 9) pe_non (nomark _))
          (pss_cons (ps_if (PW.pt (pw_or (pt_cmpR op_isN (pv 2) pe_non (nomark _)) (pw_or1 (pt_cmpR op_lt (pe_cal C_cost_of (hr.mono (by omega)) (by rfl) (pa_cons (pv 9) (pa_cons (pv 7) pa_nil))) (pv 2) (nomark _)))))
            (pss_one (ps_ret pe_bl))
            pss_nil)
          (pss_one (ps_if (pt_cmpR op_notBl (pe_calN C_is_plan_n (hr.mono (by omega)) (by rfl) (pa_cons (pv 9) (pa_cons (pv 3) (pa_cons (pv 4) pa_nil))) (pk_cons (pv 5) (pk_cons (pv 6) pk_nil))) pe_bl (nomark _))
            (pss_one (ps_ret pe_bl))
            pss_nil)))
          pss_nil))))
      (pss_one (ps_ret pe_bl))), ?_⟩
    refine ⟨_, rfl, t, _, rfl, SqT.of lw.tup, rfl, _, _, rfl, _, _, rfl, _, _, rfl, _, _, rfl, _, _, rfl, rfl, ?_⟩
    refine ⟨6, rfl, by decide, by decide, for_range (lo := 0) (n := 6) (fun i σ Hc => ∃ (z8 z9 : Option V) (M : Nat), σ = [some (.ref q), some (.ref t), some (hV (least W)), some (.int W.s), some (.int W.e), some (hV W.h), some (.ref c), some (.ref p), z8, z9] ∧ Kp q H Hc ∧ Dr Hc q M ∧ M ≤ N + 130 * i) ⟨none, none, N, rfl, Kp.refl _ _, dr, by omega⟩ ?_ ?_⟩
    · rintro i σ Hc hi ⟨z8, z9, M, rfl, kc, dc, mb⟩
      have lc := lw.kp kc dr
      refine ⟨_, rfl, _, rfl, W, q, t, c, p, M, rfl, dc, by omega, lc.world, lc.cl, lc.ok, lc.cq, fun v H1 N1 k1 d1 nb told => ?_⟩
      rcases told with rfl | ⟨b, L, rfl, pls, ch⟩
      · exact ⟨_, rfl, rfl, false, rfl, if_f ⟨_, _, N1, rfl, kc.trans k1, d1, by omega⟩⟩
      · obtain ⟨o, eo, lo⟩ := least_le lw.ok ch
        have l1 := lc.kp k1 dc
        refine ⟨_, rfl, rfl, true, rfl, if_t ?_⟩
        refine ⟨_, rfl, rfl, false, by rw [eo]; rfl, if_f ?_⟩
        refine ⟨_, rfl, _, rfl, b, p, L, W.ps, rfl, pls, .inl (SqL.of l1.pts), (by have := lw.many; omega), fun H2 s2 => ⟨_, rfl, tot W.ps L, o, rfl, by rw [eo]; rfl, false, congrArg V.bl (decide_eq_false (by omega)), if_f ?_⟩⟩
        refine ⟨_, rfl, _, rfl, _, rfl, _, rfl, _, rfl, rfl, rfl, W, b, c, L, rfl, pls.same s2, (l1.cl.same s2).cells, (by have := lw.few; omega), ch, fun H3 s3 => ⟨true, true, rfl, rfl, false, rfl, if_f ?_⟩⟩
        exact ⟨_, _, N1, rfl, kc.trans (k1.trans (Kp.of (s2.trans s3))), d1.same (s2.trans s3), by omega⟩
    · rintro σ Hc ⟨z8, z9, M, rfl, kc, dc, mb⟩
      exact Qd Hc M kc dc (by omega)
end
end Tg

set_option maxHeartbeats 2000000
namespace Tg
open PySem PySem.Spec PyProof.Rows L2 Pl
/-! ### _law_more_right -/
theorem pick_low (v s : Int) : ∃ h : Option Int, atI [V.non, .int (s - 1)] (v % 2) = some (hV h) ∧ ∀ x, s ≤ x → hok h x = true := by
  have h0 := Int.emod_nonneg v (show (2 : Int) ≠ 0 by decide)
  have h1 := Int.emod_lt_of_pos v (show (0 : Int) < 2 by decide)
  obtain h | h : v % 2 = 0 ∨ v % 2 = 1 := by omega
  all_goals rw [h]
  · exact ⟨none, rfl, fun _ _ => rfl⟩
  · exact ⟨some (s - 1), rfl, fun x hx => decide_eq_true (by omega)⟩
/-- a world that the law makes beside its own: no greater cost -/
def Beside (K : PySem.W.Frag) (H : Hp) (v : V) (W : Wd) : Prop := ∃ (t c p : Addr) (V0 : Wd), v = .ref t ∧ H t = some (.tup [.int V0.s, .int V0.e, hV V0.h, .ref c, .ref p]) ∧ CL K H c V0.cs ∧ NL H p V0.ps ∧ V0.cs.length ≤ 20 ∧ V0.Ok ∧ V0.e - V0.s ≤ 1000000 ∧ V0.ps.length ≤ 1000 ∧ ∀ b, least W = some b → ∃ a, least V0 = some a ∧ a ≤ b
theorem Beside.same {K : PySem.W.Frag} {H H' : Hp} {v : V} {W : Wd} (s : Same H H') (h : Beside K H v W) : Beside K H' v W := by
  obtain ⟨t, c, p, V0, e, h1, h2, h3, r⟩ := h
  exact ⟨t, c, p, V0, e, s _ _ h1, h2.same s, s _ _ h3, r⟩
theorem Beside.world {K : PySem.W.Frag} {H : Hp} {v : V} {W : Wd} (h : Beside K H v W) : ∃ (t c p : Addr) (V0 : Wd), v = .ref t ∧ WorldR K H t V0 c p ∧ V0.Ok ∧ V0.e - V0.s ≤ 1000000 ∧ V0.ps.length ≤ 1000 ∧ ∀ b, least W = some b → ∃ a, least V0 = some a ∧ a ≤ b := by
  obtain ⟨t, c, p, V0, e, h1, h2, h3, h4, r⟩ := h
  exact ⟨t, c, p, V0, e, ⟨h1, h2.cells, .inl (SqL.of h3), h4⟩, r⟩
theorem bl_ref {ts : List Addr} {b : Bool} {x y : V} : HO.lst [x, y, .bl b] ≠ .lst (ts.map V.ref) := fun z => by
  have e : [x, y, V.bl b] = ts.map V.ref := HO.lst.inj z
  match ts, e with
  | [_, _, _], e => cases (List.cons.inj (List.cons.inj (List.cons.inj e).2).2).1
theorem bl_int {ns : List Int} {b : Bool} {x y : V} : HO.lst [x, y, .bl b] ≠ .lst (ns.map V.int) := fun z => by
  have e : [x, y, V.bl b] = ns.map V.int := HO.lst.inj z
  match ns, e with
  | [_, _, _], e => cases (List.cons.inj (List.cons.inj (List.cons.inj e).2).2).1
theorem Beside.kp {K : PySem.W.Frag} {H H' : Hp} {v : V} {W : Wd} {q : Addr} {N : Nat} (h : Beside K H v W) (k : Kp q H H') (d : Dr H q N) : Beside K H' v W := by
  obtain ⟨t, c, p, V0, e, h1, h2, h3, r⟩ := h
  obtain ⟨a1, a2, a3, hq, _⟩ := d
  have tq : t ≠ q := fun z => by
    rw [z, hq] at h1
    cases h1
  have cq : c ≠ q := fun z => by
    obtain ⟨ts, y1, _⟩ := h2
    rw [z, hq] at y1
    exact bl_ref (Option.some.inj y1)
  have pq : p ≠ q := fun z => by
    have y1 : H p = some (.lst (V0.ps.map V.int)) := h3
    rw [z, hq] at y1
    exact bl_int (Option.some.inj y1)
  exact ⟨t, c, p, V0, e, k _ _ tq h1, h2.kp k hq cq, k _ _ pq h3, r⟩
theorem hv_ne (x : Option Int) : V.bl (!decide (hV x = hV x)) = V.bl false := by
  rw [decide_eq_true rfl]
  rfl
abbrev sMR : Stmt := topS 37
abbrev NMR : List Str := ["_law_draws_here", "_law_world_here", "_law_least_here", "_law_start", "_law_end", "_law_a_horizon", "_law_a_cells", "_law_a_points", "_law_first", "_law_more", "_law_lower", "_law_by", "_law_moved_cells", "_law_one", "_law_two", "_law_moved_horizon", "_law_shifted", "_law_time", "_law_right", "_law_same", "_law_pieces", "_law_some", "_law_cost"]
theorem scMR : FnScope NMR ["_law_draws_here", "_law_world_here", "_law_least_here"] (defScope sMR) := ⟨rfl, rfl, rfl, by decide +kernel, rfl, by decide +kernel, by decide +kernel⟩
section
variable {P : Program} {w : World} {K : PySem.W.Frag} {mg : Str → Option Value} {base : Heap} {f : Addr} {fd : FuncData} {k : Nat} {cdv : Value} {A : Around} {outer : List Env} {s : Shared} {H0 : Hp} {E : XK}
abbrev bMR : List Stmt := defBody sMR
def R8 (K : PySem.W.Frag) : TS := fun D σ H => ∃ (W : Wd) (q t c p tm tl Dc : Addr) (d : Int) (z8 : Option V), σ = [some (.ref q), some (.ref t), some (hV (least W)), some (.int W.s), some (.int W.e), some (hV W.h), some (.ref c), some (.ref p), z8, some (.ref tm), some (.ref tl), some (.int d), some (.ref Dc), none, none, some (hV (W.h.map (· + d))), none, none, none, none, none, none, none] ∧
  LW K H q t W c p ∧ Beside K H (.ref tm) W ∧ Beside K H (.ref tl) W ∧ CL K H Dc (W.cs.map fun c => (c.1 + d, c.2 + d)) ∧ ∀ H', Same H H' → D.rt (.bl true) H'
theorem mr_8 (hr : Room k (A.deeper (envOfC "_law_more_right" (defScope sMR) s.heap.objs.size f cdv))) (L_least : Cal P w K mg base k "_law_least" ["_law_world_here"] (spLL K)) (L_no_greater : Cal P w K mg base k "_law_no_greater" ["_law_one", "_law_other"] spNG) :
    PSs (cxOf CX0 P w K mg base NMR "_law_more_right" (defScope sMR) f cdv A outer s H0 E).nox (bMR.drop 8) (R8 K) := by
  refine pss_by (pss_cons (ps_set (i := 16) scMR.nd rfl (.inl rfl) (pe_tup (pa_cons (pe_op op_add (pv 3) (pv 11)) (pa_cons (pe_op op_add (pv 4) (pv 11)) (pa_cons (pv 15) (pa_cons (pv 12) (pa_cons (pe_lc (own := [("_law_time", 17)]) (g := (gName 17)) (tt := tYes) rfl scMR.nd (pi_list (pv 7)) (blkOk_by (own := [("_law_time", 17)]) (N := NMR) (sc := defScope sMR) (by decide +kernel)) (fun _ _ _ _ _ => (pg_name (i := 17) scMR.nd rfl (.inl rfl))) (fun _ _ _ _ _ => pts_nil) (fun _ _ _ _ _ => (pe_op op_add (pv 17) (pv 11)))) pa_nil)))))))
      (pss_cons (ps_asg (pe_cal L_least (hr.mono (by omega)) (by rfl) (pa_cons (pv 16) pa_nil)) (pg_tup rfl (pgs_cons (pg_name (i := 18) scMR.nd rfl (.inl rfl)) (pgs_cons (pg_name (i := 19) scMR.nd rfl (.inl rfl)) (pgs_cons (pg_name (i := 20) scMR.nd rfl (.inl rfl)) pgs_nil)))))
      (pss_cons (ps_if (PW.pt (pw_or (pt_not (pt_val (pv 18))) (pw_or1 (pt_cmpR op_ne (pv 19) (pv 2) (nomark _)))))
        (pss_one (ps_ret pe_bl))
        pss_nil)
      (pss_cons (ps_for PassesOwn.never rfl (pi_list (pe_lst (pa_cons (pv 9) (pa_cons (pv 10) pa_nil)))) (pg_name (i := 21) scMR.nd rfl (.inl rfl))
        (pss_cons (ps_asg (pe_cal L_least (hr.mono (by omega)) (by rfl) (pa_cons (pv 21) pa_nil)) (pg_tup rfl (pgs_cons (pg_name (i := 18) scMR.nd rfl (.inl rfl)) (pgs_cons (pg_name (i := 22) scMR.nd rfl (.inl rfl)) (pgs_cons (pg_name (i := 20) scMR.nd rfl (.inl rfl)) pgs_nil)))))
        (pss_one (ps_if (PW.pt (pw_or (pt_not (pt_val (pv 18))) (pw_or1 (pt_not (pt_val (pe_cal L_no_greater (hr.mono (by omega)) (by rfl) (pa_cons (pv 22) (pa_cons (pv 2) pa_nil))))))))
          (pss_one (ps_ret pe_bl))
          pss_nil))))
      (pss_one (ps_ret pe_bl)))))) ?_
  rintro D σ H ⟨W, q, t, c, p, tm, tl, Dc, d, z8, rfl, lw, bm, bl, cl, Qd⟩
  have lf := lw.few
  have lm := lw.many
  refine ⟨_, rfl, _, rfl, _, _, rfl, rfl, _, rfl, _, rfl, _, _, rfl, rfl, _, rfl, _, rfl, _, rfl, p, rfl, ⟨_, SqL.of lw.pts⟩, fun D3 nD3 => walked_l (K := K) (a := p) (xs := W.ps.map V.int) (fun i Hz => Same H Hz ∧ NL Hz D3 ((W.ps.take i).map fun x => x + d)) ⟨same_new nD3, upd_same⟩ (fun i Hz h => SqL.of (h.1 _ _ lw.pts)) ?_ ?_⟩
  · rintro i v Hz hv ⟨sz, hD3⟩
    rw [List.getElem?_map] at hv
    obtain ⟨x, ex, rfl⟩ := Option.map_eq_some_iff.mp hv
    have il := (List.getElem?_eq_some_iff.mp ex).1
    refine ⟨wipe_1 _ _ _, yes_b (if_t ⟨_, rfl, _, rfl, _, _, rfl, rfl, _, hD3, ?_, same_put nD3 sz, ?_⟩)⟩
    · rw [List.length_map, List.length_map, List.length_take]
      exact small1000 (by omega)
    · unfold NL
      rw [upd_same, List.take_add_one, ex, List.map_append, List.map_append]
      rfl
  rintro H1 ⟨s1, hD3⟩
  rw [List.length_map, List.take_length] at hD3
  refine ⟨by show 5 ≤ sizeLine; decide, fun tS ntS => ?_⟩
  dsimp only
  have s2 := same_new (o := .tup [.int (W.s + d), .int (W.e + d), hV (W.h.map (· + d)), .ref Dc, .ref D3]) ntS
  have wS : WorldR K (upd H1 tS (.tup [.int (W.s + d), .int (W.e + d), hV (W.h.map (· + d)), .ref Dc, .ref D3])) tS (shW d W) Dc D3 := ⟨upd_same, ((cl.same s1).same s2).cells, .inl (SqL.of (s2 _ _ hD3)), by show (W.cs.map _).length ≤ 20; rw [List.length_map]; omega⟩
  refine ⟨_, rfl, shW d W, tS, Dc, D3, rfl, wS, shW_ok lw.ok d, (by have := lw.span; show W.e + d - (W.s + d) ≤ 1000000; omega), (by show (W.ps.map _).length ≤ 1000; rw [List.length_map]; omega), fun u3 H3 s3 nu3 ⟨pv, hu3, _⟩ => ?_⟩
  rw [least_sh lw.ok] at hu3
  have s03 := (s1.trans s2).trans s3
  refine ⟨u3, _, rfl, SqT.of hu3, rfl, _, _, rfl, _, _, rfl, _, _, rfl, rfl, ?_⟩
  refine ⟨_, rfl, true, rfl, if_f ?_⟩
  refine ⟨_, rfl, _, rfl, (by cases least W <;> rfl), false, hv_ne _, if_f ?_⟩
  refine ⟨_, rfl, _, rfl, by show 2 ≤ sizeLine; decide, fun ll nll => ?_⟩
  have s4 := same_new (o := .lst [.ref tm, .ref tl]) nll
  have s04 := s03.trans s4
  have hll := upd_same (H := H3) (a := ll) (o := .lst [.ref tm, .ref tl])
  obtain ⟨H4, e4⟩ : ∃ H4, upd H3 ll (.lst [.ref tm, .ref tl]) = H4 := ⟨_, rfl⟩
  rw [e4] at s04 hll ⊢
  refine ⟨ll, rfl, ⟨_, SqL.of hll⟩, for_list (K := K) (a := ll) (xs := [.ref tm, .ref tl]) (fun i σ Hz => ∃ (z15 z16 z18 z19 z20 z21 z22 : Option V), σ = [some (.ref q), some (.ref t), some (hV (least W)), some (.int W.s), some (.int W.e), some (hV W.h), some (.ref c), some (.ref p), z8, some (.ref tm), some (.ref tl), some (.int d), some (.ref Dc), none, none, z15, z16, none, z18, z19, z20, z21, z22] ∧ Same H4 Hz) ⟨_, _, _, _, _, _, _, rfl, Same.refl _⟩ (fun i σ Hz _ ⟨_, _, _, _, _, _, _, _, sz⟩ => SqL.of (sz _ _ hll)) ?_ ?_⟩
  · rintro i v σ Hz hv ⟨z15, z16, z18, z19, z20, z21, z22, rfl, sz⟩
    have bv : Beside K H v W := by
      match i, hv with
      | 0, hv =>
        obtain rfl : V.ref tm = v := Option.some.inj hv
        exact bm
      | 1, hv =>
        obtain rfl : V.ref tl = v := Option.some.inj hv
        exact bl
      | i + 2, hv => cases hv
    obtain ⟨t0, c0, p0, V0, rfl, w0, ok0, sp0, ps0, le0⟩ := (bv.same (s04.trans sz)).world
    refine ⟨_, rfl, V0, t0, c0, p0, rfl, w0, ok0, sp0, ps0, fun u5 H5 s5 nu5 ⟨pv5, hu5, _⟩ => ?_⟩
    refine ⟨u5, _, rfl, SqT.of hu5, rfl, _, _, rfl, _, _, rfl, _, _, rfl, rfl, ?_⟩
    refine ⟨_, rfl, true, rfl, if_f ?_⟩
    refine ⟨_, rfl, _, rfl, least V0, least W, rfl, le0, true, rfl, if_f ?_⟩
    exact ⟨_, _, _, _, _, _, _, rfl, sz.trans s5⟩
  · rintro σ Hz ⟨z15, z16, z18, z19, z20, z21, z22, rfl, sz⟩
    exact Qd Hz (s04.trans sz)
def R5 (K : PySem.W.Frag) : TS := fun D σ H => ∃ (W : Wd) (q t c p tm tl : Addr) (d : Int) (z8 : Option V), σ = [some (.ref q), some (.ref t), some (hV (least W)), some (.int W.s), some (.int W.e), some (hV W.h), some (.ref c), some (.ref p), z8, some (.ref tm), some (.ref tl), some (.int d), none, none, none, none, none, none, none, none, none, none, none] ∧
  LW K H q t W c p ∧ Beside K H (.ref tm) W ∧ Beside K H (.ref tl) W ∧ ∀ H', Same H H' → D.rt (.bl true) H'
theorem mr_5 (hr : Room k (A.deeper (envOfC "_law_more_right" (defScope sMR) s.heap.objs.size f cdv))) (L_least : Cal P w K mg base k "_law_least" ["_law_world_here"] (spLL K)) (L_no_greater : Cal P w K mg base k "_law_no_greater" ["_law_one", "_law_other"] spNG) :
    PSs (cxOf CX0 P w K mg base NMR "_law_more_right" (defScope sMR) f cdv A outer s H0 E).nox (bMR.drop 5) (R5 K) := by
  refine pss_by (pss_cons (ps_setLc (i := 12) (own := [("_law_one", 13), ("_law_two", 14)]) (g := (gTup K 2 (gCons (gName 13) (gCons (gName 14) gNil)))) (tt := tYes) rfl scMR.nd rfl rfl (sw_true rfl rfl rfl (by decide +kernel)) (pi_list (pv 6)) (blkOk_by (own := [("_law_one", 13), ("_law_two", 14)]) (N := NMR) (sc := defScope sMR) (by decide +kernel)) (fun _ _ _ _ _ => (pg_tup rfl (pgs_cons (pg_name (i := 13) scMR.nd rfl (.inl rfl)) (pgs_cons (pg_name (i := 14) scMR.nd rfl (.inl rfl)) pgs_nil)))) (fun _ _ _ _ _ => pts_nil) (fun _ _ _ _ _ => (pe_tup (pa_cons (pe_op op_add (pv 13) (pv 11)) (pa_cons (pe_op op_add (pv 14) (pv 11)) pa_nil)))))
      (pss_cons (ps_set (i := 15) scMR.nd rfl (.inl rfl) pe_non)
      (pss_cons (ps_if (pt_cmpR op_notN (pv 5) pe_non (nomark _))
        (pss_one (ps_set (i := 15) scMR.nd rfl (.inl rfl) (pe_op op_add (pv 5) (pv 11))))
        pss_nil)
      (mr_8 hr L_least L_no_greater)))) ?_
  rintro D σ H ⟨W, q, t, c, p, tm, tl, d, z8, rfl, lw, bm, bl, Qd⟩
  have lf := lw.few
  obtain ⟨ts6, hc6, dx6⟩ := lw.cl
  refine ⟨_, rfl, c, rfl, ⟨_, SqL.of hc6⟩, fun D2 nD2 => walked_l (K := K) (a := c) (xs := ts6.map V.ref) (fun i Hz => Same H Hz ∧ LD K Hz D2 (((W.cs.take i).map (shC d)).map pd)) ⟨same_new nD2, [], upd_same, .nil⟩ (fun i Hz h => SqL.of (h.1 _ _ hc6)) ?_ ?_⟩
  · rintro i v Hz hv ⟨sz, xs2, hD2, dx2⟩
    rw [List.getElem?_map] at hv
    obtain ⟨t0, et, rfl⟩ := Option.map_eq_some_iff.mp hv
    obtain ⟨c0, ec, dc2⟩ := dl_at (v := .ref t0) dx6 (i := i) (by rw [List.getElem?_map, et]; rfl)
    refine ⟨t0, _, rfl, sqT_same sz (dp_pair dc2), rfl, _, _, rfl, _, _, rfl, rfl, wipe_2 _ _ _ _ _, yes_b (if_t ⟨_, rfl, _, rfl, _, _, rfl, rfl, _, rfl, _, rfl, _, _, rfl, rfl, by show 2 ≤ sizeLine; decide, fun u nu => ?_⟩)⟩
    have su := same_new (o := .tup [.int (c0.1 + d), .int (c0.2 + d)]) nu
    have xl := dl_len dx2
    rw [List.length_map, List.length_take] at xl
    refine ⟨_, su _ _ hD2, small1000 (by omega), same_put nD2 (sz.trans su), ?_⟩
    rw [List.take_add_one, ec, List.map_append, List.map_append]
    exact .snoc (KT.of su) (su _ _ hD2) dx2 (td_pds _) (pd_new (x := shC d c0) upd_same) (td_pd (shC d c0))
  rintro H7 ⟨s7, hl7⟩
  have tl7 : (W.cs.take (ts6.map V.ref).length) = W.cs := by
    rw [dl_len dx6, List.take_length]
  rw [tl7] at hl7
  have clS : CL K H7 D2 (W.cs.map (shC d)) := by
    obtain ⟨ys, y1, y2⟩ := hl7
    obtain ⟨us, rfl⟩ := refs_pd y2
    exact ⟨us, y1, y2⟩
  have l7w := lw.same s7
  have bm7 := bm.same s7
  have bl7 := bl.same s7
  cases hW : W.h
  case' none =>
    have eh : V.non = hV (W.h.map (· + d)) := by
      rw [hW]
      rfl
    refine ⟨_, rfl, rfl, false, rfl, if_f ?_⟩
  case' some z =>
    have eh : V.int (z + d) = hV (W.h.map (· + d)) := by
      rw [hW]
      rfl
    refine ⟨_, rfl, rfl, true, rfl, if_t ⟨_, rfl, _, rfl, _, _, rfl, rfl, ?_⟩⟩
  all_goals
    rw [← hW]
    refine ⟨W, q, t, c, p, tm, tl, D2, d, z8, ?_, l7w, bm7, bl7, clS, fun H' s' => Qd H' (s7.trans s')⟩
    rw [← eh]
    rfl
theorem ok_mr (F : Fun K "_law_more_right" "_law_more_right" sMR f fd) (L_next : Cal P w K mg base k "_law_next" ["_law_draws_here"] spNext) (L_least : Cal P w K mg base k "_law_least" ["_law_world_here"] (spLL K)) (L_no_greater : Cal P w K mg base k "_law_no_greater" ["_law_one", "_law_other"] spNG) : FnOk P w K mg base CX0 (k + 1) f fd ["_law_draws_here", "_law_world_here", "_law_least_here"] (spAsk K) := by
  refine F.ok scMR (fun vs H Q E h => ?_) (fun cdv A outer s H vs Q E hr h => ?_)
  · obtain ⟨W, q, t, c, p, N, rfl, _⟩ := h
    rfl
  · obtain ⟨W, q, t, c, p, N, rfl, dr, n7, lw, Qd⟩ := h
    refine ⟨_, pss_cons (ps_asg (pv 1) (pg_tup rfl (pgs_cons (pg_name (i := 3) scMR.nd rfl (.inl rfl)) (pgs_cons (pg_name (i := 4) scMR.nd rfl (.inl rfl)) (pgs_cons (pg_name (i := 5) scMR.nd rfl (.inl rfl)) (pgs_cons (pg_name (i := 6) scMR.nd rfl (.inl rfl)) (pgs_cons (pg_name (i := 7) scMR.nd rfl (.inl rfl)) pgs_nil)))))))
      (pss_cons (ps_set (i := 8) scMR.nd rfl (.inl rfl) (pe_op op_sub (pe_op op_add (pv 3) (pe_op op_mod (pe_cal L_next (hr.mono (by omega)) (by rfl) (pa_cons (pv 0) pa_nil)) pe_int)) pe_int))
      (pss_cons (ps_set (i := 9) scMR.nd rfl (.inl rfl) (pe_tup (pa_cons (pv 3) (pa_cons (pv 4) (pa_cons (pv 5) (pa_cons (pe_op op_cat (pv 6) (pe_lst (pa_cons (pe_tup (pa_cons (pv 8) (pa_cons (pe_op op_add (pe_op op_add (pv 8) pe_int) (pe_op op_mod (pe_cal L_next (hr.mono (by omega)) (by rfl) (pa_cons (pv 0) pa_nil)) pe_int)) pa_nil))) pa_nil))) (pa_cons (pv 7) pa_nil)))))))
      (pss_cons (ps_set (i := 10) scMR.nd rfl (.inl rfl) (pe_tup (pa_cons (pv 3) (pa_cons (pv 4) (pa_cons (pe_ix ix_list (pe_lst (pa_cons pe_non (pa_cons (pe_op op_sub (pv 3) pe_int) pa_nil))) (pe_op op_mod (pe_cal L_next (hr.mono (by omega)) (by rfl) (pa_cons (pv 0) pa_nil)) pe_int) (fun _ _ => rfl)) (pa_cons (pv 6) (pa_cons (pv 7) pa_nil)))))))
      (pss_cons (ps_set (i := 11) scMR.nd rfl (.inr rfl) (pe_ix ix_list (pe_lst (pa_cons pe_int (pa_cons (pe_op op_sub pe_int pe_int) (pa_cons (pe_op op_pow pe_int pe_int) pa_nil)))) (pe_op op_mod (pe_cal L_next (hr.mono (by omega)) (by rfl) (pa_cons (pv 0) pa_nil)) pe_int) (fun _ _ => rfl)))
      (mr_5 (hr.mono (by omega)) L_least L_no_greater))))), ?_⟩
    refine ⟨_, rfl, t, _, rfl, SqT.of lw.tup, rfl, _, _, rfl, _, _, rfl, _, _, rfl, _, _, rfl, _, _, rfl, rfl, ?_⟩
    refine ⟨_, rfl, _, rfl, q, N, rfl, dr, by omega, fun v1 H1 k1 d1 _ _ => ?_⟩
    refine ⟨_, _, rfl, rfl, (by show (0 : Int) < 30; decide), _, _, rfl, rfl, _, _, rfl, rfl, ?_⟩
    obtain ⟨x1, ex1⟩ : ∃ x1, W.s + v1 % 30 - 3 = x1 := ⟨_, rfl⟩
    show gName 8 (V.int (W.s + v1 % 30 - 3)) _ _ _
    rw [ex1]
    -- one cell more
    refine ⟨_, rfl, _, rfl, _, rfl, _, rfl, _, rfl, _, rfl, _, _, rfl, rfl, _, rfl, q, N + 1, rfl, d1, by omega, fun v2 H2 k2 d2 _ _ => ?_⟩
    have m2 := Int.emod_nonneg v2 (show (24 : Int) ≠ 0 by decide)
    refine ⟨_, _, rfl, rfl, (by show (0 : Int) < 24; decide), _, _, rfl, rfl, by show 2 ≤ sizeLine; decide, fun u nu => ?_⟩
    dsimp only
    obtain ⟨y1, ey1⟩ : ∃ y1, x1 + 1 + v2 % 24 = y1 := ⟨_, rfl⟩
    rw [ey1]
    have xy : x1 < y1 := by omega
    have l2 := (lw.kp k1 dr).kp k2 d1
    obtain ⟨ts, hc2, dx2⟩ := l2.cl
    have su := same_new (o := .tup [.int x1, .int y1]) nu
    refine ⟨by show 1 ≤ sizeLine; decide, fun l nl => ?_⟩
    have sl := same_new (o := .lst [.ref u]) nl
    have tsl := dl_len dx2
    rw [List.length_map] at tsl
    have lf := l2.few
    refine ⟨c, l, _, _, rfl, rfl, sl _ _ (su _ _ hc2), upd_same, Nat.le_of_lt (small1000 (by rw [List.length_map]; show ts.length + 1 ≤ 1000; omega)), fun l3 nl3 => ?_⟩
    have s3 := same_new (o := .lst (ts.map V.ref ++ [.ref u])) nl3
    refine ⟨_, rfl, by show 5 ≤ sizeLine; decide, fun tm ntm => ?_⟩
    have sm := same_new (o := .tup [.int W.s, .int W.e, hV W.h, .ref l3, .ref p]) ntm
    obtain ⟨H3, e3⟩ : ∃ H3, upd (upd (upd (upd H2 u (.tup [.int x1, .int y1])) l (.lst [.ref u])) l3 (.lst (ts.map V.ref ++ [.ref u]))) tm (.tup [.int W.s, .int W.e, hV W.h, .ref l3, .ref p]) = H3 := ⟨_, rfl⟩
    have s23 : Same H2 H3 := by
      rw [← e3]
      exact ((su.trans sl).trans s3).trans sm
    have hl3 : H3 l3 = some (.lst ((ts ++ [u]).map V.ref)) := by
      rw [← e3, List.map_append]
      exact sm _ _ upd_same
    have hu3 : H3 u = some (.tup [.int x1, .int y1]) := by
      rw [← e3]
      exact sm _ _ (s3 _ _ (sl _ _ upd_same))
    have htm : H3 tm = some (.tup [.int W.s, .int W.e, hV W.h, .ref l3, .ref p]) := by
      rw [← e3]
      exact upd_same
    rw [e3]
    have l3w := l2.same s23
    have clM : CL K H3 l3 (W.cs ++ [(x1, y1)]) := ⟨ts ++ [u], hl3, by
      rw [List.map_append, List.map_append]
      exact dpAll_app (dpAll_same s23 dx2) (.cons (pd_new (x := (x1, y1)) hu3) .nil)⟩
    have bM : Beside K H3 (.ref tm) W := ⟨tm, l3, p, ⟨W.s, W.e, W.h, W.cs ++ [(x1, y1)], W.ps⟩, rfl, htm, clM, l3w.pts, (by show (W.cs ++ [(x1, y1)]).length ≤ 20; rw [List.length_append]; show W.cs.length + 1 ≤ 20; omega), ⟨lw.ok.se, fun c0 hc0 => by
      rcases List.mem_append.mp hc0 with h | h
      · exact lw.ok.fw c0 h
      · rw [List.mem_singleton.mp h]
        exact xy⟩, (by have := lw.span; show W.e - W.s ≤ 1000000; omega), (by have := lw.many; show W.ps.length ≤ 1000; omega), fun b hb => least_more lw.ok (x := (x1, y1)) xy hb⟩
    have d3 := d2.same s23
    -- a lesser horizon
    refine ⟨_, rfl, _, rfl, _, rfl, _, _, rfl, rfl, by show 2 ≤ sizeLine; decide, fun l4 nl4 => ?_⟩
    have s4 := same_new (o := .lst [.non, .int (W.s - 1)]) nl4
    refine ⟨_, rfl, q, N + 2, rfl, d3.same s4, by omega, fun v4 H4 k4 d4 _ _ => ?_⟩
    obtain ⟨h4, at4, low⟩ := pick_low v4 W.s
    refine ⟨_, _, rfl, rfl, (by show (0 : Int) < 2; decide), l4, _, _, _, rfl, rfl, SqL.of (k4 _ _ (d3.ne nl4) upd_same), at4, _, rfl, _, rfl, by show 5 ≤ sizeLine; decide, fun tl ntl => ?_⟩
    have l4w := (l3w.same s4).kp k4 (d3.same s4)
    have stl := same_new (o := .tup [.int W.s, .int W.e, hV h4, .ref c, .ref p]) ntl
    obtain ⟨H5, e5⟩ : ∃ H5, upd H4 tl (.tup [.int W.s, .int W.e, hV h4, .ref c, .ref p]) = H5 := ⟨_, rfl⟩
    rw [e5] at stl ⊢
    have htl : H5 tl = some (.tup [.int W.s, .int W.e, hV h4, .ref c, .ref p]) := by
      rw [← e5]
      exact upd_same
    have l5w := l4w.same stl
    have k35 : Kp q H3 H5 := (Kp.of s4).trans (k4.trans (Kp.of stl))
    obtain ⟨_, _, _, hq3, _⟩ := id d3
    have bM5 : Beside K H5 (.ref tm) W := bM.kp k35 d3
    have bL5 : Beside K H5 (.ref tl) W := ⟨tl, c, p, ⟨W.s, W.e, h4, W.cs, W.ps⟩, rfl, htl, l5w.cl, l5w.pts, (by show W.cs.length ≤ 20; omega), ⟨lw.ok.se, lw.ok.fw⟩, (by have := lw.span; show W.e - W.s ≤ 1000000; omega), (by have := lw.many; show W.ps.length ≤ 1000; omega), fun b hb => least_lower lw.ok low hb⟩
    have d5 := d4.same stl
    -- all moved
    refine ⟨_, _, rfl, rfl, 10, 14, rfl, rfl, ⟨by decide, by decide, by decide⟩, by show 3 ≤ sizeLine; decide, fun l6 nl6 => ?_⟩
    have s6 := same_new (o := .lst [.int 7, .int (0 - 7), .int (10 ^ 14)]) nl6
    refine ⟨_, rfl, q, N + 3, rfl, d5.same s6, by omega, fun v6 H6 k6 d6 _ _ => ?_⟩
    obtain ⟨by_, mby, at6⟩ := pick_int (xs := [7, 0 - 7, 10 ^ 14]) (n := 3) v6 rfl (by decide)
    refine ⟨_, _, rfl, rfl, (by show (0 : Int) < 3; decide), l6, _, _, _, rfl, rfl, SqL.of (k6 _ _ (d5.ne nl6) upd_same), at6, ?_⟩
    have l6w := (l5w.same s6).kp k6 (d5.same s6)
    have k56 : Kp q H5 H6 := (Kp.of s6).trans k6
    have kH6 : Kp q H H6 := k1.trans (k2.trans ((Kp.of s23).trans (k35.trans k56)))
    exact ⟨W, q, t, c, p, tm, tl, by_, some (.int x1), rfl, l6w, bM5.kp k56 d5, bL5.kp k56 d5, fun H' s' => Qd H' (N + 4) (kH6.trans (Kp.of s')) (d6.same s') (by omega)⟩
end
end Tg

set_option maxHeartbeats 2000000
namespace Tg
open PySem PySem.Spec PyProof.Rows L2 Pl
/-! ### _law_parts_right -/
abbrev sPR : Stmt := topS 38
theorem scPR : FnScope ["_law_draws_here", "_law_world_here", "_law_least_here", "_law_start", "_law_end", "_law_a_horizon", "_law_a_cells", "_law_a_points", "_law_middle", "_law_first", "_law_second"] ["_law_draws_here", "_law_world_here", "_law_least_here"] (defScope sPR) := ⟨rfl, rfl, rfl, by decide +kernel, rfl, by decide +kernel, by decide +kernel⟩
section
variable {P : Program} {w : World} {K : PySem.W.Frag} {mg : Str → Option Value} {base : Heap} {f : Addr} {fd : FuncData} {k : Nat}
theorem ok_parts (F : Fun K "_law_parts_right" "_law_parts_right" sPR f fd) (L_next : Cal P w K mg base k "_law_next" ["_law_draws_here"] spNext) (L_least : Cal P w K mg base k "_law_least" ["_law_world_here"] (spLL K)) : FnOk P w K mg base CX0 (k + 1) f fd ["_law_draws_here", "_law_world_here", "_law_least_here"] (spAsk K) := by
  refine F.ok scPR (fun vs H Q E h => ?_) (fun cdv A outer s H vs Q E hr h => ?_)
  · obtain ⟨W, q, t, c, p, N, rfl, _⟩ := h
    rfl
  · obtain ⟨W, q, t, c, p, N, rfl, dr, n7, lw, Qd⟩ := h
    refine ⟨_, pss_cons (ps_asg (pv 1) (pg_tup rfl (pgs_cons (pg_name (i := 3) scPR.nd rfl (.inl rfl)) (pgs_cons (pg_name (i := 4) scPR.nd rfl (.inl rfl)) (pgs_cons (pg_name (i := 5) scPR.nd rfl (.inl rfl)) (pgs_cons (pg_name (i := 6) scPR.nd rfl (.inl rfl)) (pgs_cons (pg_name (i := 7) scPR.nd rfl (.inl rfl)) pgs_nil)))))))
      (pss_cons (ps_set (i := 8) scPR.nd rfl (.inl rfl) (pe_op op_add (pv 3) (pe_op op_mod (pe_cal L_next (hr.mono (by omega)) (by rfl) (pa_cons (pv 0) pa_nil)) (pe_op op_add (pe_op op_sub (pv 4) (pv 3)) pe_int))))
      (pss_cons (ps_set (i := 9) scPR.nd rfl (.inl rfl) (pe_cal L_least (hr.mono (by omega)) (by rfl) (pa_cons (pe_tup (pa_cons (pv 3) (pa_cons (pv 8) (pa_cons (pv 5) (pa_cons (pv 6) (pa_cons (pv 7) pa_nil)))))) pa_nil)))
      (pss_cons (ps_set (i := 10) scPR.nd rfl (.inl rfl) (pe_cal L_least (hr.mono (by omega)) (by rfl) (pa_cons (pe_tup (pa_cons (pv 8) (pa_cons (pv 4) (pa_cons (pv 5) (pa_cons (pv 6) (pa_cons (pv 7) pa_nil)))))) pa_nil)))
      (pss_cons (ps_if (PW.pt (pw_or (pt_not (pt_val (pe_ix ix_tup (pv 9) pe_int (fun _ _ => rfl)))) (pw_or1 (pt_not (pt_val (pe_ix ix_tup (pv 10) pe_int (fun _ _ => rfl)))))))
        (pss_one (ps_ret pe_bl))
        pss_nil)
      (pss_cons (ps_if (PW.pt (pw_or (pt_cmpR op_isN (pe_ix ix_tup (pv 9) pe_int (fun _ _ => rfl)) pe_non (nomark _)) (pw_or1 (pt_cmpR op_isN (pe_ix ix_tup (pv 10) pe_int (fun _ _ => rfl)) pe_non (nomark _)))))
        (pss_one (ps_ret pe_bl))
        pss_nil)
      (pss_one (ps_ret (pe_and (pe_cmpR op_notN (pv 2) pe_non (nomark _)) (pe_one (pe_cmpR op_ge (pe_op op_add (pe_ix ix_tup (pv 9) pe_int (fun _ _ => rfl)) (pe_ix ix_tup (pv 10) pe_int (fun _ _ => rfl))) (pv 2) (nomark _))))))))))), ?_⟩
    have se := lw.ok.se
    have sp := lw.span
    have lm := lw.many
    have lf := lw.few
    refine ⟨_, rfl, t, _, rfl, SqT.of lw.tup, rfl, _, _, rfl, _, _, rfl, _, _, rfl, _, _, rfl, _, _, rfl, rfl, ?_⟩
    refine ⟨_, rfl, _, rfl, q, N, rfl, dr, by omega, fun v H1 k1 d1 _ _ => ?_⟩
    have m0 := Int.emod_nonneg v (show W.e - W.s + 1 ≠ 0 by omega)
    have m1 := Int.emod_lt_of_pos v (show (0 : Int) < W.e - W.s + 1 by omega)
    refine ⟨_, rfl, _, rfl, _, _, rfl, rfl, _, _, rfl, rfl, _, _, rfl, rfl, (by show (0 : Int) < W.e - W.s + 1; omega), _, _, rfl, rfl, ?_⟩
    obtain ⟨m, em⟩ : ∃ m, W.s + v % (W.e - W.s + 1) = m := ⟨_, rfl⟩
    show gName 8 (V.int (W.s + v % (W.e - W.s + 1))) _ _ _
    rw [em]
    have l1 := lw.kp k1 dr
    refine ⟨_, rfl, _, rfl, _, rfl, _, rfl, _, rfl, by show 5 ≤ sizeLine; decide, fun t1 nt1 => ?_⟩
    have s1 := same_new (o := .tup [.int W.s, .int m, hV W.h, .ref c, .ref p]) nt1
    have w1 : WorldR K (upd H1 t1 (.tup [.int W.s, .int m, hV W.h, .ref c, .ref p])) t1 ⟨W.s, m, W.h, W.cs, W.ps⟩ c p := ⟨upd_same, (l1.cl.same s1).cells, .inl (SqL.of (s1 _ _ l1.pts)), (by show W.cs.length ≤ 20; omega)⟩
    refine ⟨⟨W.s, m, W.h, W.cs, W.ps⟩, t1, c, p, rfl, w1, ⟨by show W.s ≤ m; omega, lw.ok.fw⟩, (by show m - W.s ≤ 1000000; omega), (by show W.ps.length ≤ 1000; omega), fun u1 H2 s2 nu1 ⟨pv1, hu1, _⟩ => ?_⟩
    have s12 := s1.trans s2
    refine ⟨_, rfl, _, rfl, _, rfl, _, rfl, _, rfl, by show 5 ≤ sizeLine; decide, fun t2 nt2 => ?_⟩
    have s3 := same_new (o := .tup [.int m, .int W.e, hV W.h, .ref c, .ref p]) nt2
    have s13 := s12.trans s3
    have w2 : WorldR K (upd H2 t2 (.tup [.int m, .int W.e, hV W.h, .ref c, .ref p])) t2 ⟨m, W.e, W.h, W.cs, W.ps⟩ c p := ⟨upd_same, (l1.cl.same s13).cells, .inl (SqL.of (s13 _ _ l1.pts)), (by show W.cs.length ≤ 20; omega)⟩
    refine ⟨⟨m, W.e, W.h, W.cs, W.ps⟩, t2, c, p, rfl, w2, ⟨by show m ≤ W.e; omega, lw.ok.fw⟩, (by show W.e - m ≤ 1000000; omega), (by show W.ps.length ≤ 1000; omega), fun u2 H3 s4 nu2 ⟨pv2, hu2, _⟩ => ?_⟩
    have hu1 := s4 _ _ (s3 _ _ hu1)
    have fin : ∀ b : Bool, b = true → Q (.bl b) H3 := fun b hb => by
      subst hb
      exact Qd H3 (N + 1) (k1.trans (Kp.of (s13.trans s4))) (d1.same (s13.trans s4)) (by omega)
    refine ⟨_, rfl, u1, _, 0, .bl true, rfl, rfl, SqT.of hu1, rfl, true, rfl, if_f ?_⟩
    refine ⟨_, rfl, u2, _, 0, .bl true, rfl, rfl, SqT.of hu2, rfl, true, rfl, if_f ?_⟩
    cases h1 : least ⟨W.s, m, W.h, W.cs, W.ps⟩ with
    | none =>
      rw [h1] at hu1
      exact ⟨_, rfl, u1, _, 1, .non, rfl, rfl, SqT.of hu1, rfl, rfl, true, rfl, if_t (if_t (fin true rfl))⟩
    | some a =>
      rw [h1] at hu1
      refine ⟨_, rfl, u1, _, 1, .int a, rfl, rfl, SqT.of hu1, rfl, rfl, false, rfl, if_f ?_⟩
      cases h2 : least ⟨m, W.e, W.h, W.cs, W.ps⟩ with
      | none =>
        rw [h2] at hu2
        exact ⟨_, rfl, u2, _, 1, .non, rfl, rfl, SqT.of hu2, rfl, rfl, true, rfl, if_t (fin true rfl)⟩
      | some b =>
        rw [h2] at hu2
        refine ⟨_, rfl, u2, _, 1, .int b, rfl, rfl, SqT.of hu2, rfl, rfl, false, rfl, if_f ?_⟩
        obtain ⟨o, eo, le⟩ := least_parts lw.ok (m := m) (by omega) (by omega) h1 h2
        refine ⟨_, rfl, rfl, true, by rw [eo]; rfl, if_t ?_⟩
        refine ⟨_, rfl, u1, _, 1, .int a, rfl, rfl, SqT.of hu1, rfl, _, rfl, u2, _, 1, .int b, rfl, rfl, SqT.of hu2, rfl, _, _, rfl, rfl, _, rfl, a + b, o, rfl, by rw [eo]; rfl, ?_⟩
        exact fin _ (decide_eq_true (by omega))
end
end Tg

set_option maxHeartbeats 2000000
namespace Tg
open PySem PySem.Spec PyProof.Rows L2 Pl
/-! ### _law_folds_right -/
/-- the points of a stretch -/
def flt (pts : List Pt) (a b : Int) : List Pt := pts.filter fun p => decide (a ≤ p.1 ∧ p.1 < b)
abbrev Ups (pts : List Pt) : Prop := pts.Pairwise fun p q => p.1 < q.1
theorem flt_app {a b c : Int} (ab : a ≤ b) (bc : b ≤ c) : ∀ {pts : List Pt}, Ups pts → flt pts a b ++ flt pts b c = flt pts a c
  | [], _ => rfl
  | p :: r, up => by
    have u := List.pairwise_cons.mp up
    have ih := flt_app ab bc u.2
    unfold flt at ih ⊢
    rw [List.filter_cons, List.filter_cons, List.filter_cons]
    by_cases h1 : p.1 < a
    · rw [decide_eq_false (show ¬ (a ≤ p.1 ∧ p.1 < b) by omega), decide_eq_false (show ¬ (b ≤ p.1 ∧ p.1 < c) by omega), decide_eq_false (show ¬ (a ≤ p.1 ∧ p.1 < c) by omega)]
      exact ih
    · by_cases h2 : p.1 < b
      · rw [decide_eq_true (show a ≤ p.1 ∧ p.1 < b by omega), decide_eq_false (show ¬ (b ≤ p.1 ∧ p.1 < c) by omega), decide_eq_true (show a ≤ p.1 ∧ p.1 < c by omega)]
        exact congrArg (p :: ·) ih
      · have no : r.filter (fun p => decide (a ≤ p.1 ∧ p.1 < b)) = [] := List.filter_eq_nil_iff.mpr fun x hx => by
          have := u.1 x hx
          rw [decide_eq_true_iff]
          omega
        rw [no, List.nil_append] at ih
        by_cases h3 : p.1 < c
        · rw [decide_eq_false (show ¬ (a ≤ p.1 ∧ p.1 < b) by omega), decide_eq_true (show b ≤ p.1 ∧ p.1 < c by omega), decide_eq_true (show a ≤ p.1 ∧ p.1 < c by omega)]
          show r.filter _ ++ p :: r.filter _ = p :: r.filter _
          rw [no, ih]
          rfl
        · rw [decide_eq_false (show ¬ (a ≤ p.1 ∧ p.1 < b) by omega), decide_eq_false (show ¬ (b ≤ p.1 ∧ p.1 < c) by omega), decide_eq_false (show ¬ (a ≤ p.1 ∧ p.1 < c) by omega)]
          show r.filter _ ++ r.filter _ = r.filter _
          rw [no, ih]
          rfl
theorem flt_none (pts : List Pt) (a : Int) : flt pts a a = [] := List.filter_eq_nil_iff.mpr fun x hx => by
  rw [decide_eq_true_iff]
  omega
theorem flt_ok {pts : List Pt} (up : Ups pts) (few : pts.length ≤ 20) (sz : ∀ p, p ∈ pts → p.2.natAbs ≤ 10) (a b : Int) : POk (flt pts a b) := by
  have up2 : Ups (flt pts a b) := up.filter _
  refine ⟨Nat.lt_of_le_of_lt (Nat.le_trans (List.length_filter_le ..) few) (by decide), fun i p q h1 h2 => ?_, fun p hp => Nat.lt_of_le_of_lt (sz p (List.mem_filter.mp hp).1) (by decide)⟩
  obtain ⟨l1, e1⟩ := List.getElem?_eq_some_iff.mp h1
  obtain ⟨l2, e2⟩ := List.getElem?_eq_some_iff.mp h2
  have := List.pairwise_iff_getElem.mp up2 i (i + 1) l1 l2 (by omega)
  rw [e1, e2] at this
  exact this
theorem flt_step {pts : List Pt} {a b : Int} {j : Nat} {p : Pt} (e : pts[j]? = some p) : flt (pts.take (j + 1)) a b = flt (pts.take j) a b ++ if a ≤ p.1 ∧ p.1 < b then [p] else [] := by
  unfold flt
  rw [List.take_add_one, e, List.filter_append]
  congr 1
  show List.filter _ [p] = _
  rw [List.filter_cons]
  by_cases c : a ≤ p.1 ∧ p.1 < b
  · rw [decide_eq_true c, if_pos c]
    rfl
  · rw [decide_eq_false c, if_neg c]
    rfl
theorem ups_map {pts : List Pt} {ns : List Int} (e : pts.map (·.1) = ns) (up : ns.Pairwise (· < ·)) : Ups pts := by
  subst e
  exact List.pairwise_map.mp up
abbrev sFR : Stmt := topS 34
abbrev NFR : List Str := ["_law_draws_here", "_law_world_here", "_law_pieces", "_law_a_points", "_law_time", "_law_told", "_law_word", "_law_one", "_law_two", "_law_point"]
theorem scFR : FnScope NFR ["_law_draws_here", "_law_world_here", "_law_pieces"] (defScope sFR) := ⟨rfl, rfl, rfl, by decide +kernel, rfl, by decide +kernel, by decide +kernel⟩
section
variable {P : Program} {w : World} {K : PySem.W.Frag} {mg : Str → Option Value} {base : Heap} {f : Addr} {fd : FuncData} {k : Nat} {C fE : Addr} {fdE : FuncData} {j : Nat}
def spFR (K : PySem.W.Frag) : Sp := fun vs H Q _ => ∃ (W : Wd) (q t c p b : Addr) (N : Nat) (L : List Pce), vs = [.ref q, .ref t, .ref b] ∧ Dr H q N ∧ N < 700000 ∧ LW K H q t W c p ∧ PLst H b L ∧ Chain W W.s L W.e ∧ ∀ H', Kp q H H' → Q (.bl true) H'
theorem ok_fr (F : Fun K "_law_folds_right" "_law_folds_right" sFR f fd) (OE : OwnE P w K mg base C j fE fdE) (hj : j + 1 ≤ k) (L_next : Cal P w K mg base k "_law_next" ["_law_draws_here"] spNext) (K_Fold0 : KF0 P w K mg base C (k - 1)) (C_fold_of : Cal P w K mg base k "fold_of" ["points"] (spFO K C)) (C_together : Cal P w K mg base k "together" ["one", "two"] (spTg K C)) (m_sorted : mg "sorted" = none) (m_set : mg "set" = none) : FnOk P w K mg base CX0 (k + 1) f fd ["_law_draws_here", "_law_world_here", "_law_pieces"] (spFR K) := by
  obtain ⟨FE, hs, hf, hbE, NE⟩ := OE
  refine F.ok scFR (fun vs H Q E h => ?_) (fun cdv A outer s H vs Q E hr h => ?_)
  · obtain ⟨W, q, t, c, p, b, N, L, rfl, _⟩ := h
    rfl
  · obtain ⟨W, q, t, c, p, b, N, L, rfl, dr, n7, lw, pls, ch, Qd⟩ := h
    refine ⟨_, pss_cons (ps_set (i := 3) scFR.nd rfl (.inl rfl) (pe_lst pa_nil))
      (pss_cons (ps_for PassesOwn.never rfl (pi_list (pe_callB (cr_sortedSetA rfl) (by rfl) m_sorted (by decide +kernel) (pa_cons (pe_callTy (cr_setL rfl) (by rfl) m_set (by decide +kernel) (pa_cons (pe_ix ix_tup (pv 1) pe_int (fun _ _ => rfl)) pa_nil)) pa_nil))) (pg_name (i := 4) scFR.nd rfl (.inl rfl))
        (pss_one (ps_expr (pe_bm PySem.F.plainAttrs_list PySem.F.slot_list_append PySem.F.type_list_append mt_append (pv 3) (pa_cons (pe_tup (pa_cons (pv 4) (pa_cons (pe_op op_sub (pe_op op_mod (pe_cal L_next (hr.mono (by omega)) (by rfl) (pa_cons (pv 0) pa_nil)) pe_int) pe_int) pa_nil))) pa_nil)))))
      (pss_cons (ps_set (i := 5) scFR.nd rfl (.inl rfl) (pe_calCK K_Fold0 (hr.mono (by omega)) (by rfl) pk_nil))
      (pss_cons (ps_for PassesOwn.never rfl (pi_list (pv 2)) (pg_tup rfl (pgs_cons (pg_name (i := 6) scFR.nd rfl (.inl rfl)) (pgs_cons (pg_name (i := 7) scFR.nd rfl (.inr rfl)) (pgs_cons (pg_name (i := 8) scFR.nd rfl (.inr rfl)) pgs_nil))))
        (pss_one (ps_set (i := 5) scFR.nd rfl (.inl rfl) (pe_cal C_together (hr.mono (by omega)) (by rfl) (pa_cons (pv 5) (pa_cons (pe_cal C_fold_of (hr.mono (by omega)) (by rfl) (pa_cons (pe_lc (own := [("_law_point", 9)]) (g := (gName 9)) rfl scFR.nd (pi_list (pv 3)) (blkOk_by (own := [("_law_point", 9)]) (N := NFR) (sc := defScope sFR) (by decide +kernel)) (fun _ _ _ _ _ => (pg_name (i := 9) scFR.nd rfl (.inl rfl))) (fun _ _ _ _ _ => pts_one (pt_chain op_le op_lt (pv 7) (pe_ix (r := rIxT K) ix_tup (pv 9) pe_int (fun _ _ => rfl)) (pv 8))) (fun _ _ _ _ _ => (pv 9))) pa_nil)) pa_nil))))))
      (pss_one (ps_ret (pe_cmpR (op_eqG (rcG_ins (C := C) FE hs hf hbE pass0) (hr.mono (by omega))) (pv 5) (pe_cal C_fold_of (hr.mono (by omega)) (by rfl) (pa_cons (pe_lc (own := [("_law_point", 9)]) (g := (gName 9)) rfl scFR.nd (pi_list (pv 3)) (blkOk_by (own := [("_law_point", 9)]) (N := NFR) (sc := defScope sFR) (by decide +kernel)) (fun _ _ _ _ _ => (pg_name (i := 9) scFR.nd rfl (.inl rfl))) (fun _ _ _ _ _ => pts_one (pt_chain op_le op_lt (pe_ix (r := rIxT K) ix_tup (pv 1) pe_int (fun _ _ => rfl)) (pe_ix (r := rIxT K) ix_tup (pv 9) pe_int (fun _ _ => rfl)) (pe_ix (r := rIxT K) ix_tup (pv 1) pe_int (fun _ _ => rfl)))) (fun _ _ _ _ _ => (pv 9))) pa_nil)) (nomark _))))))), ?_⟩
    refine ⟨Nat.zero_le _, fun l nl => ?_⟩
    have sl := same_new (o := .lst []) nl
    have lq := dr.ne nl
    have lm := lw.many
    have l0 := lw.same sl
    refine ⟨_, rfl, t, _, 4, .ref p, rfl, rfl, SqT.of l0.tup, rfl, p, W.ps, rfl, SqL.of l0.pts, by omega, fun a cn na cnt => ?_⟩
    have c100 : cn ≤ W.ps.length := cnt _ fun _ h => h
    have sa : Same _ (upd _ a (SetO w a (fun k => decide (k ∈ W.ps)) cn)) := same_new na
    refine ⟨a, _, cn, rfl, upd_same, Nat.le_of_lt (small1000 (by omega)), fun ns pp ⟨up, mem, len⟩ np => ?_⟩
    have nsl : ns.length ≤ 20 := by omega
    have lnp : pp ≠ l := fun z => (ne_of_none (sa l _ upd_same) np) z.symm
    have sp := same_new (o := .lst (ns.map V.int)) np
    obtain ⟨H1, e1⟩ : ∃ H1, upd (upd (upd H l (.lst [])) a (SetO (cxOf CX0 P w K mg base NFR "_law_folds_right" (defScope sFR) f cdv A outer s H E).nox.w a (fun j => decide (j ∈ W.ps)) cn)) pp (.lst (ns.map V.int)) = H1 := ⟨_, rfl⟩
    have s1 : Same H H1 := by
      rw [← e1]
      exact (sl.trans sa).trans sp
    have hl1 : H1 l = some (.lst []) := by
      rw [← e1]
      exact sp _ _ (sa _ _ upd_same)
    have hpp : H1 pp = some (.lst (ns.map V.int)) := by
      rw [← e1]
      exact upd_same
    rw [e1]
    have d1 := dr.same s1
    have ppq : pp ≠ q := (dr.same (sl.trans sa)).ne np
    refine ⟨pp, rfl, ⟨_, SqL.of hpp⟩, for_list (K := K) (a := pp) (xs := ns.map V.int) (fun i σ Hc => ∃ (z4 : Option V) (pts : List Pt), σ = [some (.ref q), some (.ref t), some (.ref b), some (.ref l), z4, none, none, none, none, none] ∧ LD K Hc l (pts.map pd) ∧ pts.map (·.1) = ns.take i ∧ (∀ x, x ∈ pts → x.2.natAbs ≤ 10) ∧ Dr Hc q (N + i) ∧ ∀ a o, a ≠ q → a ≠ l → H1 a = some o → Hc a = some o) ⟨none, [], rfl, ⟨[], hl1, .nil⟩, rfl, (fun x h => by cases h), d1, fun _ _ _ _ e => e⟩ (fun i σ Hc _ ⟨_, _, _, _, _, _, _, kc⟩ => SqL.of (kc _ _ ppq lnp hpp)) ?_ ?_⟩
    · rintro i v σ Hc hv ⟨z4, pts, rfl, ⟨xs, hx, dx⟩, em, sz, dc, kc⟩
      rw [List.getElem?_map] at hv
      obtain ⟨x, ex, rfl⟩ := Option.map_eq_some_iff.mp hv
      have il := (List.getElem?_eq_some_iff.mp ex).1
      have xl := dl_len dx
      have pl : pts.length = i := by
        have := congrArg List.length em
        rw [List.length_map, List.length_take] at this
        omega
      refine ⟨_, rfl, .inl ⟨rfl, _, SqL.of hx⟩, _, rfl, _, rfl, q, N + i, rfl, dc, by omega, fun v9 H5 k5 d5 _ _ => ?_⟩
      have m0 := Int.emod_nonneg v9 (show (9 : Int) ≠ 0 by decide)
      have m1 := Int.emod_lt_of_pos v9 (show (0 : Int) < 9 by decide)
      refine ⟨_, _, rfl, rfl, (by show (0 : Int) < 9; decide), _, _, rfl, rfl, by show 2 ≤ sizeLine; decide, fun u nu => ?_⟩
      have hx5 := k5 _ _ lq hx
      have st := same_new (o := .tup [.int x, .int (v9 % 9 - 4)]) nu
      obtain ⟨H7, e7⟩ : ∃ H7, upd H5 u (.tup [.int x, .int (v9 % 9 - 4)]) = H7 := ⟨_, rfl⟩
      have ht7 : H7 u = some (.tup [.int x, .int (v9 % 9 - 4)]) := by
        rw [← e7]
        exact upd_same
      rw [e7] at st ⊢
      have hx7 := st _ _ hx5
      obtain ⟨_, _, _, hq, _⟩ := id dc
      have kt : KT Hc H7 := (KT.kp k5 hq nfix_lst).trans (KT.of st)
      refine ⟨l, _, _, rfl, rfl, hx7, small1000 (by omega), _, pts ++ [(x, v9 % 9 - 4)], rfl, ?_, ?_, fun y hy => ?_, ?_, fun a o n1 n2 e => ?_⟩
      · rw [List.map_append]
        exact .snoc kt hx7 dx (td_pds pts) (pd_new (x := (x, v9 % 9 - 4)) ht7) (td_pd (x, v9 % 9 - 4))
      · rw [List.map_append, em, List.take_add_one, ex]
        rfl
      · rcases List.mem_append.mp hy with h | h
        · exact sz y h
        · rw [List.mem_singleton.mp h]
          show (v9 % 9 - 4).natAbs ≤ 10
          omega
      · obtain ⟨y1, y2, y3, y4, y5, y6⟩ := d5
        refine ⟨y1, y2, y3, ?_, y5, by omega⟩
        rw [upd_ne lq.symm]
        exact st _ _ y4
      · rw [upd_ne n2]
        exact st _ _ (k5 _ _ n1 (kc a o n1 n2 e))
    rintro σ Hc ⟨z4, pts, rfl, ⟨xs, hx, dx⟩, em, sz, dc, kc⟩
    rw [List.length_map, List.take_length] at em
    have ups := ups_map em up
    have pl : pts.length ≤ 20 := by
      have := congrArg List.length em
      rw [List.length_map] at this
      omega
    have xl := dl_len dx
    obtain ⟨_, _, _, hq, _⟩ := id dr
    have nlH : H l = none := nl
    have tc : Hc t = some (.tup [.int W.s, .int W.e, hV W.h, .ref c, .ref p]) := kc _ _ (fun z => by
      have := lw.tup
      rw [z, hq] at this
      cases this) (ne_of_none lw.tup nl) (s1 _ _ lw.tup)
    obtain ⟨bs, hb, pt⟩ := pls
    have bq : b ≠ q := fun z => by
      rw [z, hq] at hb
      exact bl_ref (Option.some.inj hb)
    have hbc : Hc b = some (.lst (bs.map V.ref)) := kc _ _ bq (ne_of_none hb nl) (s1 _ _ hb)
    have ptc : PLt Hc bs L := pt.keep fun u p e => kc _ _ (fun z => by
      rw [z, hq] at e
      cases e) (ne_of_none e nl) (s1 _ _ e)
    have bl := ptc.len
    refine ⟨rfl, rfl, fun x dx2 nx nd ne => ⟨x, dx2, _, _, _, _, _, _, _, _, _, rfl, upd_same, rfl, ?_⟩⟩
    obtain ⟨sZ, fz⟩ := fd_made (K := K) (C := C) nx nd ne (F := fOf []) (vf := .non) (vl := .non) rfl rfl
    -- one comprehension over the points: those of a stretch
    refine ⟨_, rfl, b, rfl, ⟨_, SqL.of (sZ _ _ hbc)⟩, for_list (K := K) (a := b) (xs := bs.map V.ref) (fun i σ Hd => ∃ (y : Int) (x5 : Addr) (z6 z7 z8 : Option V), σ = [some (.ref q), some (.ref t), some (.ref b), some (.ref l), z4, some (.ref x5), z6, z7, z8, none] ∧ Same Hc Hd ∧ W.s ≤ y ∧ Chain W y (L.drop i) W.e ∧ FdO K C Hd x5 (fOf (flt pts W.s y))) ⟨W.s, x, none, none, none, rfl, sZ, Int.le_refl _, ch, by rw [flt_none]; exact fz⟩ (fun i σ Hd _ ⟨_, _, _, _, _, _, sd, _⟩ => SqL.of (sd _ _ hbc)) ?_ ?_⟩
    · rintro i v σ Hd hv ⟨y, x5, z6, z7, z8, rfl, sd, sy, chy, fd5⟩
      rw [List.getElem?_map] at hv
      obtain ⟨u, eu, rfl⟩ := Option.map_eq_some_iff.mp hv
      obtain ⟨pc, ep, hu0⟩ := ptc.at_ eu
      obtain ⟨px, okp, chn⟩ := chain_drop ep chy
      have fw := okp.fw
      have hxd := sd _ _ hx
      have dxd := dpAll_same sd dx
      refine ⟨u, _, rfl, SqT.of (sd _ _ hu0), rfl, _, _, rfl, _, _, rfl, _, _, rfl, rfl, ?_⟩
      refine ⟨_, rfl, _, rfl, l, rfl, ⟨_, SqL.of hxd⟩, fun D nD => walked_l (K := K) (a := l) (xs := xs) (fun j Hz => Same Hd Hz ∧ LD K Hz D ((flt (pts.take j) pc.2.1 pc.2.2).map pd)) ⟨same_new nD, [], upd_same, .nil⟩ (fun j Hz h => SqL.of (h.1 _ _ hxd)) ?_ ?_⟩
      · rintro j v Hz hv ⟨sz2, ys, hD, dys⟩
        obtain ⟨p0, ep0, dpv⟩ := dl_at dxd hv
        obtain ⟨a0, rfl, h0⟩ := dp_pd dpv
        have h0z := sqT_same sz2 h0
        have yl := dl_len dys
        have fl := List.length_filter_le (fun p : Pt => decide (pc.2.1 ≤ p.1 ∧ p.1 < pc.2.2)) (pts.take j)
        rw [List.length_take] at fl
        have stay : ¬ (pc.2.1 ≤ p0.1 ∧ p0.1 < pc.2.2) → Same Hd Hz ∧ LD K Hz D ((flt (pts.take (j + 1)) pc.2.1 pc.2.2).map pd) := fun c => ⟨sz2, by
          rw [flt_step ep0, if_neg c, List.append_nil]
          exact ⟨ys, hD, dys⟩⟩
        refine ⟨rfl, ?_⟩
        by_cases c1 : pc.2.1 ≤ p0.1
        · by_cases c2 : p0.1 < pc.2.2
          · refine ⟨_, rfl, _, rfl, a0, _, 0, .int p0.1, rfl, rfl, h0z, rfl, _, _, rfl, rfl, true, congrArg V.bl (decide_eq_true c1), if_t ⟨_, rfl, _, _, rfl, rfl, true, congrArg V.bl (decide_eq_true c2), if_t ?_⟩⟩
            refine ⟨_, rfl, _, hD, small1000 (by unfold flt at yl; omega), same_put nD sz2, ?_⟩
            rw [flt_step ep0, if_pos ⟨c1, c2⟩, List.map_append]
            exact .snoc (KT.refl _) hD dys (td_pds _) (dp_same sz2 dpv) (td_pd p0)
          · exact ⟨_, rfl, _, rfl, a0, _, 0, .int p0.1, rfl, rfl, h0z, rfl, _, _, rfl, rfl, true, congrArg V.bl (decide_eq_true c1), if_t ⟨_, rfl, _, _, rfl, rfl, false, congrArg V.bl (decide_eq_false c2), if_f (stay fun z => c2 z.2)⟩⟩
        · exact ⟨_, rfl, _, rfl, a0, _, 0, .int p0.1, rfl, rfl, h0z, rfl, _, _, rfl, rfl, false, congrArg V.bl (decide_eq_false c1), if_f ⟨false, rfl, if_f (stay fun z => c1 z.1)⟩⟩
      · rintro Hz ⟨sz2, hD⟩
        rw [xl, List.take_length] at hD
        obtain ⟨ys, hys, dys⟩ := hD
        have okf := flt_ok ups pl sz
        refine ⟨D, flt pts pc.2.1 pc.2.2, rfl, ⟨ys, SqL.of hys, dys⟩, okf _ _, fun a2 H3 s3 fa => ?_⟩
        have both : flt pts W.s y ++ flt pts pc.2.1 pc.2.2 = flt pts W.s pc.2.2 := by
          rw [px]
          exact flt_app sy (by omega) ups
        refine ⟨x5, a2, flt pts W.s y, flt pts pc.2.1 pc.2.2, rfl, (fd5.same sz2).same s3, fa, by rw [both]; exact okf _ _, fun c2 H4 s4 fc => ?_⟩
        rw [both] at fc
        exact ⟨pc.2.2, c2, _, _, _, rfl, ((sd.trans sz2).trans s3).trans s4, by omega, chn, fc⟩
    · rintro σ Hd ⟨y, x5, z6, z7, z8, rfl, sd, sy, chy, fd5⟩
      rw [List.length_map, bl, List.drop_length] at chy
      have ye : y = W.e := chy
      subst ye
      have hxd := sd _ _ hx
      have dxd := dpAll_same sd dx
      have td := sd _ _ tc
      refine ⟨_, rfl, _, rfl, l, rfl, ⟨_, SqL.of hxd⟩, fun D nD => walked_l (K := K) (a := l) (xs := xs) (fun j Hz => Same Hd Hz ∧ LD K Hz D ((flt (pts.take j) W.s W.e).map pd)) ⟨same_new nD, [], upd_same, .nil⟩ (fun j Hz h => SqL.of (h.1 _ _ hxd)) ?_ ?_⟩
      · rintro j v Hz hv ⟨sz2, ys, hD, dys⟩
        obtain ⟨p0, ep0, dpv⟩ := dl_at dxd hv
        obtain ⟨a0, rfl, h0⟩ := dp_pd dpv
        have h0z := sqT_same sz2 h0
        have yl := dl_len dys
        have fl := List.length_filter_le (fun p : Pt => decide (W.s ≤ p.1 ∧ p.1 < W.e)) (pts.take j)
        rw [List.length_take] at fl
        have stay : ¬ (W.s ≤ p0.1 ∧ p0.1 < W.e) → Same Hd Hz ∧ LD K Hz D ((flt (pts.take (j + 1)) W.s W.e).map pd) := fun c => ⟨sz2, by
          rw [flt_step ep0, if_neg c, List.append_nil]
          exact ⟨ys, hD, dys⟩⟩
        refine ⟨rfl, ?_⟩
        by_cases c1 : W.s ≤ p0.1
        · by_cases c2 : p0.1 < W.e
          · refine ⟨_, rfl, t, _, 0, .int W.s, rfl, rfl, SqT.of (sz2 _ _ td), rfl, _, rfl, a0, _, 0, .int p0.1, rfl, rfl, h0z, rfl, _, _, rfl, rfl, true, congrArg V.bl (decide_eq_true c1), if_t ⟨_, rfl, t, _, 1, .int W.e, rfl, rfl, SqT.of (sz2 _ _ td), rfl, _, _, rfl, rfl, true, congrArg V.bl (decide_eq_true c2), if_t ?_⟩⟩
            refine ⟨_, rfl, _, hD, small1000 (by unfold flt at yl; omega), same_put nD sz2, ?_⟩
            rw [flt_step ep0, if_pos ⟨c1, c2⟩, List.map_append]
            exact .snoc (KT.refl _) hD dys (td_pds _) (dp_same sz2 dpv) (td_pd p0)
          · exact ⟨_, rfl, t, _, 0, .int W.s, rfl, rfl, SqT.of (sz2 _ _ td), rfl, _, rfl, a0, _, 0, .int p0.1, rfl, rfl, h0z, rfl, _, _, rfl, rfl, true, congrArg V.bl (decide_eq_true c1), if_t ⟨_, rfl, t, _, 1, .int W.e, rfl, rfl, SqT.of (sz2 _ _ td), rfl, _, _, rfl, rfl, false, congrArg V.bl (decide_eq_false c2), if_f (stay fun z => c2 z.2)⟩⟩
        · exact ⟨_, rfl, t, _, 0, .int W.s, rfl, rfl, SqT.of (sz2 _ _ td), rfl, _, rfl, a0, _, 0, .int p0.1, rfl, rfl, h0z, rfl, _, _, rfl, rfl, false, congrArg V.bl (decide_eq_false c1), if_f ⟨false, rfl, if_f (stay fun z => c1 z.1)⟩⟩
      · rintro Hz ⟨sz2, hD⟩
        rw [xl, List.take_length] at hD
        obtain ⟨ys, hys, dys⟩ := hD
        exact ⟨D, flt pts W.s W.e, rfl, ⟨ys, SqL.of hys, dys⟩, flt_ok ups pl sz _ _, fun a2 H3 s3 fa => ⟨FdO.ins ((fd5.same sz2).same s3) fa, fun H4 e4 => Qd H4 fun a o n e => e4 _ _ (s3 _ _ (sz2 _ _ (sd _ _ (kc a o n (ne_of_none e nl) (s1 _ _ e)))))⟩⟩
end
end Tg

set_option maxHeartbeats 2000000
namespace Tg
open PySem PySem.Spec PyProof.Rows L2 Pl
/-! ### law -/
theorem PLst.kp {H H' : Hp} {q b : Addr} {N : Nat} {L : List Pce} (h : PLst H b L) (k : Kp q H H') (d : Dr H q N) : PLst H' b L := by
  obtain ⟨ts, h1, h2⟩ := h
  obtain ⟨_, _, _, hq, _⟩ := d
  exact ⟨ts, k _ _ (fun z => by
    rw [z, hq] at h1
    exact bl_ref (Option.some.inj h1)) h1, h2.kp k hq⟩
abbrev sLaw : Stmt := topS 39
theorem scLaw : FnScope ["_law_script", "_law_cell", "_law_draws_here", "_law_world_here", "_law_right", "_law_least_here", "_law_pieces"] ["_law_script"] (defScope sLaw) := ⟨rfl, rfl, rfl, by decide +kernel, rfl, by decide +kernel, by decide +kernel⟩
section
variable {P : Program} {w : World} {K : PySem.W.Frag} {mg : Str → Option Value} {base : Heap} {f : Addr} {fd : FuncData} {k : Nat}
def spLaw (K : PySem.W.Frag) : Sp := fun vs H Q _ => ∃ (a : Addr) (ns : List Int), vs = [.ref a] ∧ SqL K H a (ns.map V.int) ∧ ns.length ≤ 63 ∧ ∀ H', Q (.bl true) H'
theorem ok_law (F : Fun K "law" "law" sLaw f fd) (L_draws : Cal P w K mg base k "_law_draws" ["_law_cell"] spDraws) (L_world : Cal P w K mg base k "_law_world" ["_law_draws_here"] (spWo K)) (L_least : Cal P w K mg base k "_law_least" ["_law_world_here"] (spLL K)) (L_ways_right : Cal P w K mg base k "_law_ways_right" ["_law_draws_here", "_law_world_here", "_law_least_here"] (spAsk K)) (L_more_right : Cal P w K mg base k "_law_more_right" ["_law_draws_here", "_law_world_here", "_law_least_here"] (spAsk K))
    (L_parts_right : Cal P w K mg base k "_law_parts_right" ["_law_draws_here", "_law_world_here", "_law_least_here"] (spAsk K)) (L_folds_right : Cal P w K mg base k "_law_folds_right" ["_law_draws_here", "_law_world_here", "_law_pieces"] (spFR K)) : FnOk P w K mg base CX0 (k + 1) f fd ["_law_script"] (spLaw K) := by
  refine F.ok scLaw (fun vs H Q E h => ?_) (fun cdv A outer s H vs Q E hr h => ?_)
  · obtain ⟨a, ns, rfl, _⟩ := h
    rfl
  · obtain ⟨a, ns, rfl, hS, hlen, q0⟩ := h
    refine ⟨_, pss_cons (ps_for PassesOwn.never rfl (pi_list (pe_op op_cat (pe_slice sl_list (pv 0) po_none (po_some pe_int)) (pe_lst (pa_cons pe_int pa_nil)))) (pg_name (i := 1) scLaw.nd rfl (.inl rfl))
        (pss_cons (ps_set (i := 2) scLaw.nd rfl (.inl rfl) (pe_cal L_draws (hr.mono (by omega)) (by rfl) (pa_cons (pv 1) pa_nil)))
        (pss_cons (ps_set (i := 3) scLaw.nd rfl (.inl rfl) (pe_cal L_world (hr.mono (by omega)) (by rfl) (pa_cons (pv 2) pa_nil)))
        (pss_cons (ps_asg (pe_cal L_least (hr.mono (by omega)) (by rfl) (pa_cons (pv 3) pa_nil)) (pg_tup rfl (pgs_cons (pg_name (i := 4) scLaw.nd rfl (.inl rfl)) (pgs_cons (pg_name (i := 5) scLaw.nd rfl (.inl rfl)) (pgs_cons (pg_name (i := 6) scLaw.nd rfl (.inl rfl)) pgs_nil)))))
        (pss_cons (ps_if (PW.pt (pw_or (pt_not (pt_val (pv 4))) (pw_or (pt_not (pt_val (pe_cal L_ways_right (hr.mono (by omega)) (by rfl) (pa_cons (pv 2) (pa_cons (pv 3) (pa_cons (pv 5) pa_nil)))))) (pw_or1 (pt_not (pt_val (pe_cal L_more_right (hr.mono (by omega)) (by rfl) (pa_cons (pv 2) (pa_cons (pv 3) (pa_cons (pv 5) pa_nil))))))))))
          (pss_one (ps_ret pe_bl))
          pss_nil)
        (pss_cons (ps_if (pt_not (pt_val (pe_cal L_parts_right (hr.mono (by omega)) (by rfl) (pa_cons (pv 2) (pa_cons (pv 3) (pa_cons (pv 5) pa_nil))))))
          (pss_one (ps_ret pe_bl))
          pss_nil)
        (pss_one (ps_if (PW.pt (pw_and (pt_cmpR op_notN (pv 6) pe_non (nomark _)) (pw_and1 (pt_not (pt_val (pe_cal L_folds_right (hr.mono (by omega)) (by rfl) (pa_cons (pv 2) (pa_cons (pv 3) (pa_cons (pv 6) pa_nil)))))))))
          (pss_one (ps_ret pe_bl))
          pss_nil))))))))
      (pss_one (ps_ret pe_bl)), ?_⟩
    obtain ⟨ms, em, lm, _⟩ := cutN_some ns none (some 5)
    refine ⟨_, rfl, 5, rfl, a, _, rfl, hS, fun l1 n1 => ?_⟩
    rw [em]
    refine ⟨(by show 1 ≤ sizeLine; decide), fun l2 n2 => ?_⟩
    have s2 := same_new (o := .lst [.int 0]) n2
    refine ⟨l1, l2, _, _, rfl, rfl, s2 _ _ upd_same, upd_same, Nat.le_of_lt (small1000 (by rw [List.length_map]; show ms.length + 1 ≤ 1000; omega)), fun l3 n3 => ?_⟩
    have e3 : (ms.map V.int ++ [V.int 0]) = (ms ++ [0]).map V.int := by
      rw [List.map_append]
      rfl
    rw [e3]
    obtain ⟨H3, eH3⟩ : ∃ H3, upd (upd (upd H l1 (.lst (ms.map V.int))) l2 (.lst [.int 0])) l3 (.lst ((ms ++ [0]).map V.int)) = H3 := ⟨_, rfl⟩
    have m3 : H3 l3 = some (.lst ((ms ++ [0]).map V.int)) := by
      rw [← eH3]
      exact upd_same
    rw [eH3]
    refine ⟨l3, rfl, ⟨_, SqL.of m3⟩, for_list (K := K) (a := l3) (xs := (ms ++ [0]).map V.int) (fun i σ Hc => ∃ z1 z2 z3 z4 z5 z6 : Option V, σ = [some (.ref a), z1, z2, z3, z4, z5, z6] ∧ Same H3 Hc) ⟨none, none, none, none, none, none, rfl, Same.refl _⟩ (fun i σ Hc _ ⟨_, _, _, _, _, _, _, sc⟩ => SqL.of (sc _ _ m3)) ?_ ?_⟩
    · rintro i xv σ Hc hx ⟨z1, z2, z3, z4, z5, z6, rfl, sc⟩
      rw [List.getElem?_map] at hx
      obtain ⟨cell, _, rfl⟩ := Option.map_eq_some_iff.mp hx
      refine ⟨_, rfl, cell, rfl, fun q x0 b0 nq => ?_⟩
      have d0 : Dr (upd Hc q (.lst [.int x0, .int 0, .bl b0])) q 0 := ⟨x0, 0, b0, upd_same, by omega, by omega⟩
      refine ⟨_, rfl, q, 0, rfl, d0, by omega, fun W t c p H1 N1 k1 d1 nb wd cl nc1 nlp np ok span few few14 => ?_⟩
      refine ⟨_, rfl, W, t, c, p, rfl, wd, ok, by omega, by omega, fun u H2 s2 nu ⟨pv, hu, alt⟩ => ?_⟩
      have cq : c ≠ q := d0.ne nc1
      have pq : p ≠ q := d0.ne np
      have lw1 : LW K H1 q t W c p := ⟨wd.1, cl, nlp, cq, pq, few14, few, ok, span⟩
      have lw2 := lw1.same s2
      have d2 := d1.same s2
      refine ⟨u, _, rfl, SqT.of hu, rfl, _, _, rfl, _, _, rfl, _, _, rfl, rfl, ?_⟩
      refine ⟨_, rfl, true, rfl, if_f ?_⟩
      refine ⟨_, rfl, _, rfl, _, rfl, W, q, t, c, p, N1, rfl, d2, by omega, lw2, fun H4 N4 k4 d4 nb4 => ⟨true, rfl, if_f ?_⟩⟩
      have lw4 := lw2.kp k4 d2
      refine ⟨_, rfl, _, rfl, _, rfl, W, q, t, c, p, N4, rfl, d4, by omega, lw4, fun H5 N5 k5 d5 nb5 => ⟨true, rfl, if_f ?_⟩⟩
      have lw5 := lw4.kp k5 d4
      refine ⟨_, rfl, _, rfl, _, rfl, W, q, t, c, p, N5, rfl, d5, by omega, lw5, fun H6 N6 k6 d6 nb6 => ⟨true, rfl, if_f ?_⟩⟩
      have lw6 := lw5.kp k6 d5
      have kall : Kp q (upd Hc q (.lst [.int x0, .int 0, .bl b0])) H6 := k1.trans ((Kp.of s2).trans (k4.trans (k5.trans k6)))
      have fin : ∀ H7, Kp q H6 H7 → Same H3 H7 := fun H7 k7 => Kp.same (sc.trans (same_new nq)) (sc.free nq) (kall.trans k7)
      rcases alt with ⟨_, rfl⟩ | ⟨o, L, b, _, ch, rfl, pls⟩
      · exact ⟨_, rfl, rfl, false, rfl, if_f (if_f ⟨_, _, _, _, _, _, rfl, fin H6 (Kp.refl _ _)⟩)⟩
      · have pl6 := ((pls.kp k4 d2).kp k5 d4).kp k6 d5
        refine ⟨_, rfl, rfl, true, rfl, if_t ⟨_, rfl, _, rfl, _, rfl, W, q, t, c, p, b, N6, L, rfl, d6, by omega, lw6, pl6, ch, fun H7 k7 => ⟨true, rfl, if_f ?_⟩⟩⟩
        exact ⟨_, _, _, _, _, _, rfl, fin H7 k7⟩
    · rintro σ Hc ⟨_, _, _, _, _, _, rfl, _⟩
      exact q0 Hc
end
end Tg

namespace Tg
open PySem PySem.Spec PyProof.Rows L2
section
variable {K : PySem.W.Frag} {f : Addr} {fd : FuncData}
theorem lp_n (F : Fun K "least_plan" "least_plan" sLp f fd) : KBn K fd NL5 2 ["horizon", "cells", "points"] (fun us ws => us ++ ws) gRow := by
  obtain ⟨_, _, kV, doc, pm, an, cdv, ct, _, rfl, _, _⟩ := F.ex
  exact ⟨fun s us ws _ h0 h2 => match us, ws, h0, h2 with | [_, _], [_, _, _], _, _ => .of_eq rfl, fun r1 r2 => r1.append r2⟩
theorem sl_n (F : Fun K "shows_least" "shows_least" sSl f fd) : KBn K fd NS6 3 ["horizon", "cells", "points"] (fun us ws => us ++ ws) gRow := by
  obtain ⟨_, _, kV, doc, pm, an, cdv, ct, _, rfl, _, _⟩ := F.ex
  exact ⟨fun s us ws _ h0 h2 => match us, ws, h0, h2 with | [_, _, _], [_, _, _], _, _ => .of_eq rfl, fun r1 r2 => r1.append r2⟩
theorem ip_n (F : Fun K "is_plan" "is_plan" sPl f fd) : KBn K fd NP5 3 ["horizon", "cells"] (fun us ws => us ++ ws) gRow := by
  obtain ⟨_, _, kV, doc, pm, an, cdv, ct, _, rfl, _, _⟩ := F.ex
  exact ⟨fun s us ws _ h0 h2 => match us, ws, h0, h2 with | [_, _, _], [_, _], _, _ => .of_eq rfl, fun r1 r2 => r1.append r2⟩
end
/-! ### what the top has written; the law's own head -/
set_option maxHeartbeats 0 in
theorem all_mk {l : PySem.W.OpenLaw} {w : World} {K : PySem.W.Frag} {h : Heap} {mg : Str → Option Value} {fa C1 f1 f2 f3 f4 f5 f6 f7 f8 f9 f10 f11 f12 f13 f14 f15 f16 f17 f18 f19 f20 f21 f22 f23 f24 f25 f26 f27 f28 f29 f30 f31 f32 f33 f34 : Addr} {KD NF : Addr} {nmF qF : Str} {bsF subF : List Value} {hdF abF : Bool} {snF : List Str} {colF : Option Bool} {ddF : Option Addr} {v0F v1F v2F v3F v5F : Option Value} {idF : String} {cN : Value} {dN : Option Addr} {esN : Array DictEntry} {epN : Nat} {slN : Array (Option Value)} {tk_count : Tok} {tk_total : Tok} {tk_squares : Tok} {tk_rise : Tok} {tk_held : Tok} (X : K.In h) (G : h.Ns mainGlobals mg) (hfa : mg "law" = some (.ref fa))
    {od1 an1 od2 an2 od3 an3 od4 an4 od5 an5 od6 an6 od7 an7 od8 an8 od9 an9 od10 an10 od11 an11 od12 an12 od13 an13 od14 an14 od15 an15 od16 an16 od17 an17 od18 an18 od19 an19 od20 an20 od21 an21 od22 an22 od23 an23 od24 an24 od25 an25 od26 an26 od27 an27 od28 an28 od29 an29 od30 an30 od31 an31 od32 an32 od33 an33 od34 an34 : Option Addr} {sl1 sl2 sl3 sl4 sl5 sl6 sl7 sl8 sl9 sl10 sl11 sl12 sl13 sl14 sl15 sl16 sl17 sl18 sl19 sl20 sl21 sl22 sl23 sl24 sl25 sl26 sl27 sl28 sl29 sl30 sl31 sl32 sl33 sl34 : Array (Option Value)} {oc1 dc1 pm1 cd1 ct1 oc2 kV2 dc2 pm2 cd2 ct2 oc3 kV3 dc3 pm3 cd3 ct3 oc4 kV4 dc4 pm4 cd4 ct4 oc5 kV5 dc5 pm5 cd5 ct5 oc6 kV6 dc6 pm6 cd6 ct6 oc7 kV7 dc7 pm7 cd7 ct7 oc8 kV8 dc8 pm8 cd8 ct8 oc9 kV9 dc9 pm9 cd9 ct9 oc10 kV10 dc10 pm10 cd10 ct10 oc11 kV11 dc11 pm11 cd11 ct11 oc12 kV12 dc12 pm12 cd12 ct12 oc13 kV13 dc13 pm13 cd13 ct13 oc14 kV14 dc14 pm14 cd14 ct14 oc15 kV15 dc15 pm15 cd15 ct15 oc16 kV16 dc16 pm16 cd16 ct16 oc17 kV17 dc17 pm17 cd17 ct17 oc18 kV18 dc18 pm18 cd18 ct18 oc19 kV19 dc19 pm19 cd19 ct19 oc20 kV20 dc20 pm20 cd20 ct20 oc21 kV21 dc21 pm21 cd21 ct21 oc22 kV22 dc22 pm22 cd22 ct22 oc23 kV23 dc23 pm23 cd23 ct23 oc24 kV24 dc24 pm24 cd24 ct24 oc25 kV25 dc25 pm25 cd25 ct25 oc26 kV26 dc26 pm26 cd26 ct26 oc27 kV27 dc27 pm27 cd27 ct27 oc28 kV28 dc28 pm28 cd28 ct28 oc29 kV29 dc29 pm29 cd29 ct29 oc30 kV30 dc30 pm30 cd30 ct30 oc31 kV31 dc31 pm31 cd31 ct31 oc32 kV32 dc32 pm32 cd32 ct32 oc33 kV33 dc33 pm33 cd33 ct33 oc34 kV34 dc34 pm34 cd34 ct34 : Value}
    (aC1 : PySem.W.nsIn K mainGlobals "Fold" = some (some (.ref C1)))
    (pgC1 : PySem.W.plainGet K C1 Str.empty = true)
    (hdC1 : PySem.W.hasDictIn K C1 = true)
    (poC1 : PySem.W.plainOver K C1 = true)
    (saC1 : PySem.W.findIn K (.ref C1) "__setattr__" = some (some (.builtin "object.__setattr__")))
    (mkC1 : PySem.W.makesIn K C1 = true)
    (kcC1 : PySem.W.keepIn K (.ref C1) = true)
    (noC1_count : PySem.W.findIn K (.ref C1) "count" = some none)
    (noC1_total : PySem.W.findIn K (.ref C1) "total" = some none)
    (noC1_squares : PySem.W.findIn K (.ref C1) "squares" = some none)
    (noC1_least : PySem.W.findIn K (.ref C1) "least" = some none)
    (noC1_greatest : PySem.W.findIn K (.ref C1) "greatest" = some none)
    (noC1_first : PySem.W.findIn K (.ref C1) "first" = some none)
    (noC1_last : PySem.W.findIn K (.ref C1) "last" = some none)
    (noC1_rise : PySem.W.findIn K (.ref C1) "rise" = some none)
    (noC1_held : PySem.W.findIn K (.ref C1) "held" = some none)
    (a1 : PySem.W.findIn K (.ref C1) "__init__" = some (some (.ref f1)))
    (i1 : PySem.W.isFn K (.ref f1) = true)
    (l1 : K.lookup f1 = some ⟨oc1, od1, .func (PySem.W.fnOf "__init__" "Fold.__init__" (defArgs sFI) (defBody sFI) (defScope sFI) .none (.ref KD) dc1 pm1 an1 cd1 ct1), sl1⟩)
    (d_count : PySem.W.nsIn K KD "count" = some (some (.int 0 tk_count)))
    (d_total : PySem.W.nsIn K KD "total" = some (some (.int 0 tk_total)))
    (d_squares : PySem.W.nsIn K KD "squares" = some (some (.int 0 tk_squares)))
    (d_least : PySem.W.nsIn K KD "least" = some (some (.none)))
    (d_greatest : PySem.W.nsIn K KD "greatest" = some (some (.none)))
    (d_first : PySem.W.nsIn K KD "first" = some (some (.none)))
    (d_last : PySem.W.nsIn K KD "last" = some (some (.none)))
    (d_rise : PySem.W.nsIn K KD "rise" = some (some (.int 0 tk_rise)))
    (d_held : PySem.W.nsIn K KD "held" = some (some (.int 0 tk_held)))
    (c1 : PySem.W.codeIn K cd1 "Fold.__init__" = true)
    (k1 : PySem.W.keepIn K (.ref f1) = true)
    (a2 : PySem.W.findIn K (.ref C1) "__eq__" = some (some (.ref f2)))
    (i2 : PySem.W.isFn K (.ref f2) = true)
    (l2 : K.lookup f2 = some ⟨oc2, od2, .func (PySem.W.fnOf "__eq__" "Fold.__eq__" (defArgs sEq) (defBody sEq) (defScope sEq) .none kV2 dc2 pm2 an2 cd2 ct2), sl2⟩)
    (c2 : PySem.W.codeIn K cd2 "Fold.__eq__" = true)
    (k2 : PySem.W.keepIn K (.ref f2) = true)
    (a3 : PySem.W.nsIn K mainGlobals "is_whole" = some (some (.ref f3)))
    (l3 : K.lookup f3 = some ⟨oc3, od3, .func (PySem.W.fnOf "is_whole" "is_whole" (defArgs sWh) (defBody sWh) (defScope sWh) .none kV3 dc3 pm3 an3 cd3 ct3), sl3⟩)
    (c3 : PySem.W.codeIn K cd3 "is_whole" = true)
    (k3 : PySem.W.keepIn K (.ref f3) = true)
    (a4 : PySem.W.nsIn K mainGlobals "edges_of" = some (some (.ref f4)))
    (l4 : K.lookup f4 = some ⟨oc4, od4, .func (PySem.W.fnOf "edges_of" "edges_of" (defArgs sEd) (defBody sEd) (defScope sEd) .none kV4 dc4 pm4 an4 cd4 ct4), sl4⟩)
    (c4 : PySem.W.codeIn K cd4 "edges_of" = true)
    (k4 : PySem.W.keepIn K (.ref f4) = true)
    (a5 : PySem.W.nsIn K mainGlobals "counts_below" = some (some (.ref f5)))
    (l5 : K.lookup f5 = some ⟨oc5, od5, .func (PySem.W.fnOf "counts_below" "counts_below" (defArgs sCb) (defBody sCb) (defScope sCb) .none kV5 dc5 pm5 an5 cd5 ct5), sl5⟩)
    (c5 : PySem.W.codeIn K cd5 "counts_below" = true)
    (k5 : PySem.W.keepIn K (.ref f5) = true)
    (a6 : PySem.W.nsIn K mainGlobals "steps_from" = some (some (.ref f6)))
    (l6 : K.lookup f6 = some ⟨oc6, od6, .func (PySem.W.fnOf "steps_from" "steps_from" (defArgs sSf) (defBody sSf) (defScope sSf) .none kV6 dc6 pm6 an6 cd6 ct6), sl6⟩)
    (c6 : PySem.W.codeIn K cd6 "steps_from" = true)
    (k6 : PySem.W.keepIn K (.ref f6) = true)
    (a7 : PySem.W.nsIn K mainGlobals "walked" = some (some (.ref f7)))
    (l7 : K.lookup f7 = some ⟨oc7, od7, .func (PySem.W.fnOf "walked" "walked" (defArgs sWk) (defBody sWk) (defScope sWk) .none kV7 dc7 pm7 an7 cd7 ct7), sl7⟩)
    (c7 : PySem.W.codeIn K cd7 "walked" = true)
    (k7 : PySem.W.keepIn K (.ref f7) = true)
    (a8 : PySem.W.nsIn K mainGlobals "traced" = some (some (.ref f8)))
    (l8 : K.lookup f8 = some ⟨oc8, od8, .func (PySem.W.fnOf "traced" "traced" (defArgs sTr) (defBody sTr) (defScope sTr) .none kV8 dc8 pm8 an8 cd8 ct8), sl8⟩)
    (c8 : PySem.W.codeIn K cd8 "traced" = true)
    (k8 : PySem.W.keepIn K (.ref f8) = true)
    (a9 : PySem.W.nsIn K mainGlobals "with_whole_points" = some (some (.ref f9)))
    (l9 : K.lookup f9 = some ⟨oc9, od9, .func (PySem.W.fnOf "with_whole_points" "with_whole_points" (defArgs sWw) (defBody sWw) (defScope sWw) .none kV9 dc9 pm9 an9 cd9 ct9), sl9⟩)
    (c9 : PySem.W.codeIn K cd9 "with_whole_points" = true)
    (k9 : PySem.W.keepIn K (.ref f9) = true)
    (a10 : PySem.W.nsIn K mainGlobals "least_plan" = some (some (.ref f10)))
    (l10 : K.lookup f10 = some ⟨oc10, od10, .func (PySem.W.fnOf "least_plan" "least_plan" (defArgs sLp) (defBody sLp) (defScope sLp) .none kV10 dc10 pm10 an10 cd10 ct10), sl10⟩)
    (c10 : PySem.W.codeIn K cd10 "least_plan" = true)
    (k10 : PySem.W.keepIn K (.ref f10) = true)
    (a11 : PySem.W.nsIn K mainGlobals "is_piece" = some (some (.ref f11)))
    (l11 : K.lookup f11 = some ⟨oc11, od11, .func (PySem.W.fnOf "is_piece" "is_piece" (defArgs sPi) (defBody sPi) (defScope sPi) .none kV11 dc11 pm11 an11 cd11 ct11), sl11⟩)
    (c11 : PySem.W.codeIn K cd11 "is_piece" = true)
    (k11 : PySem.W.keepIn K (.ref f11) = true)
    (a12 : PySem.W.nsIn K mainGlobals "is_plan" = some (some (.ref f12)))
    (l12 : K.lookup f12 = some ⟨oc12, od12, .func (PySem.W.fnOf "is_plan" "is_plan" (defArgs sPl) (defBody sPl) (defScope sPl) .none kV12 dc12 pm12 an12 cd12 ct12), sl12⟩)
    (c12 : PySem.W.codeIn K cd12 "is_plan" = true)
    (k12 : PySem.W.keepIn K (.ref f12) = true)
    (a13 : PySem.W.nsIn K mainGlobals "cost_of" = some (some (.ref f13)))
    (l13 : K.lookup f13 = some ⟨oc13, od13, .func (PySem.W.fnOf "cost_of" "cost_of" (defArgs sCo) (defBody sCo) (defScope sCo) .none kV13 dc13 pm13 an13 cd13 ct13), sl13⟩)
    (c13 : PySem.W.codeIn K cd13 "cost_of" = true)
    (k13 : PySem.W.keepIn K (.ref f13) = true)
    (a14 : PySem.W.nsIn K mainGlobals "is_height" = some (some (.ref f14)))
    (l14 : K.lookup f14 = some ⟨oc14, od14, .func (PySem.W.fnOf "is_height" "is_height" (defArgs sIh) (defBody sIh) (defScope sIh) .none kV14 dc14 pm14 an14 cd14 ct14), sl14⟩)
    (c14 : PySem.W.codeIn K cd14 "is_height" = true)
    (k14 : PySem.W.keepIn K (.ref f14) = true)
    (a15 : PySem.W.nsIn K mainGlobals "height_table" = some (some (.ref f15)))
    (l15 : K.lookup f15 = some ⟨oc15, od15, .func (PySem.W.fnOf "height_table" "height_table" (defArgs sHt) (defBody sHt) (defScope sHt) .none kV15 dc15 pm15 an15 cd15 ct15), sl15⟩)
    (c15 : PySem.W.codeIn K cd15 "height_table" = true)
    (k15 : PySem.W.keepIn K (.ref f15) = true)
    (a16 : PySem.W.nsIn K mainGlobals "is_gap" = some (some (.ref f16)))
    (l16 : K.lookup f16 = some ⟨oc16, od16, .func (PySem.W.fnOf "is_gap" "is_gap" (defArgs sGa) (defBody sGa) (defScope sGa) .none kV16 dc16 pm16 an16 cd16 ct16), sl16⟩)
    (c16 : PySem.W.codeIn K cd16 "is_gap" = true)
    (k16 : PySem.W.keepIn K (.ref f16) = true)
    (a17 : PySem.W.nsIn K mainGlobals "shows_least" = some (some (.ref f17)))
    (l17 : K.lookup f17 = some ⟨oc17, od17, .func (PySem.W.fnOf "shows_least" "shows_least" (defArgs sSl) (defBody sSl) (defScope sSl) .none kV17 dc17 pm17 an17 cd17 ct17), sl17⟩)
    (c17 : PySem.W.codeIn K cd17 "shows_least" = true)
    (k17 : PySem.W.keepIn K (.ref f17) = true)
    (a18 : PySem.W.nsIn K mainGlobals "risen" = some (some (.ref f18)))
    (l18 : K.lookup f18 = some ⟨oc18, od18, .func (PySem.W.fnOf "risen" "risen" (defArgs sRisen) (defBody sRisen) (defScope sRisen) .none kV18 dc18 pm18 an18 cd18 ct18), sl18⟩)
    (c18 : PySem.W.codeIn K cd18 "risen" = true)
    (k18 : PySem.W.keepIn K (.ref f18) = true)
    (a19 : PySem.W.nsIn K mainGlobals "held_between" = some (some (.ref f19)))
    (l19 : K.lookup f19 = some ⟨oc19, od19, .func (PySem.W.fnOf "held_between" "held_between" (defArgs sHB) (defBody sHB) (defScope sHB) .none kV19 dc19 pm19 an19 cd19 ct19), sl19⟩)
    (c19 : PySem.W.codeIn K cd19 "held_between" = true)
    (k19 : PySem.W.keepIn K (.ref f19) = true)
    (a20 : PySem.W.nsIn K mainGlobals "check_rising" = some (some (.ref f20)))
    (l20 : K.lookup f20 = some ⟨oc20, od20, .func (PySem.W.fnOf "check_rising" "check_rising" (defArgs sCkR) (defBody sCkR) (defScope sCkR) .none kV20 dc20 pm20 an20 cd20 ct20), sl20⟩)
    (c20 : PySem.W.codeIn K cd20 "check_rising" = true)
    (k20 : PySem.W.keepIn K (.ref f20) = true)
    (a21 : PySem.W.nsIn K mainGlobals "fold_of" = some (some (.ref f21)))
    (l21 : K.lookup f21 = some ⟨oc21, od21, .func (PySem.W.fnOf "fold_of" "fold_of" (defArgs sFO) (defBody sFO) (defScope sFO) .none kV21 dc21 pm21 an21 cd21 ct21), sl21⟩)
    (c21 : PySem.W.codeIn K cd21 "fold_of" = true)
    (k21 : PySem.W.keepIn K (.ref f21) = true)
    (a22 : PySem.W.nsIn K mainGlobals "together" = some (some (.ref f22)))
    (l22 : K.lookup f22 = some ⟨oc22, od22, .func (PySem.W.fnOf "together" "together" (defArgs sTg) (defBody sTg) (defScope sTg) .none kV22 dc22 pm22 an22 cd22 ct22), sl22⟩)
    (c22 : PySem.W.codeIn K cd22 "together" = true)
    (k22 : PySem.W.keepIn K (.ref f22) = true)
    (a23 : PySem.W.nsIn K mainGlobals "_law_draws" = some (some (.ref f23)))
    (l23 : K.lookup f23 = some ⟨oc23, od23, .func (PySem.W.fnOf "_law_draws" "_law_draws" (defArgs sDraws) (defBody sDraws) (defScope sDraws) .none kV23 dc23 pm23 an23 cd23 ct23), sl23⟩)
    (c23 : PySem.W.codeIn K cd23 "_law_draws" = true)
    (k23 : PySem.W.keepIn K (.ref f23) = true)
    (a24 : PySem.W.nsIn K mainGlobals "_law_next" = some (some (.ref f24)))
    (l24 : K.lookup f24 = some ⟨oc24, od24, .func (PySem.W.fnOf "_law_next" "_law_next" (defArgs sNext) (defBody sNext) (defScope sNext) .none kV24 dc24 pm24 an24 cd24 ct24), sl24⟩)
    (c24 : PySem.W.codeIn K cd24 "_law_next" = true)
    (k24 : PySem.W.keepIn K (.ref f24) = true)
    (a25 : PySem.W.nsIn K mainGlobals "_law_spot" = some (some (.ref f25)))
    (l25 : K.lookup f25 = some ⟨oc25, od25, .func (PySem.W.fnOf "_law_spot" "_law_spot" (defArgs sSp) (defBody sSp) (defScope sSp) .none kV25 dc25 pm25 an25 cd25 ct25), sl25⟩)
    (c25 : PySem.W.codeIn K cd25 "_law_spot" = true)
    (k25 : PySem.W.keepIn K (.ref f25) = true)
    (a26 : PySem.W.nsIn K mainGlobals "_law_world" = some (some (.ref f26)))
    (l26 : K.lookup f26 = some ⟨oc26, od26, .func (PySem.W.fnOf "_law_world" "_law_world" (defArgs sWo) (defBody sWo) (defScope sWo) .none kV26 dc26 pm26 an26 cd26 ct26), sl26⟩)
    (c26 : PySem.W.codeIn K cd26 "_law_world" = true)
    (k26 : PySem.W.keepIn K (.ref f26) = true)
    (a27 : PySem.W.nsIn K mainGlobals "_law_least" = some (some (.ref f27)))
    (l27 : K.lookup f27 = some ⟨oc27, od27, .func (PySem.W.fnOf "_law_least" "_law_least" (defArgs sLL) (defBody sLL) (defScope sLL) .none kV27 dc27 pm27 an27 cd27 ct27), sl27⟩)
    (c27 : PySem.W.codeIn K cd27 "_law_least" = true)
    (k27 : PySem.W.keepIn K (.ref f27) = true)
    (a28 : PySem.W.nsIn K mainGlobals "_law_no_greater" = some (some (.ref f28)))
    (l28 : K.lookup f28 = some ⟨oc28, od28, .func (PySem.W.fnOf "_law_no_greater" "_law_no_greater" (defArgs sNG) (defBody sNG) (defScope sNG) .none kV28 dc28 pm28 an28 cd28 ct28), sl28⟩)
    (c28 : PySem.W.codeIn K cd28 "_law_no_greater" = true)
    (k28 : PySem.W.keepIn K (.ref f28) = true)
    (a29 : PySem.W.nsIn K mainGlobals "_law_folds_right" = some (some (.ref f29)))
    (l29 : K.lookup f29 = some ⟨oc29, od29, .func (PySem.W.fnOf "_law_folds_right" "_law_folds_right" (defArgs sFR) (defBody sFR) (defScope sFR) .none kV29 dc29 pm29 an29 cd29 ct29), sl29⟩)
    (c29 : PySem.W.codeIn K cd29 "_law_folds_right" = true)
    (k29 : PySem.W.keepIn K (.ref f29) = true)
    (a30 : PySem.W.nsIn K mainGlobals "_law_drawn_way" = some (some (.ref f30)))
    (l30 : K.lookup f30 = some ⟨oc30, od30, .func (PySem.W.fnOf "_law_drawn_way" "_law_drawn_way" (defArgs sDW) (defBody sDW) (defScope sDW) .none kV30 dc30 pm30 an30 cd30 ct30), sl30⟩)
    (c30 : PySem.W.codeIn K cd30 "_law_drawn_way" = true)
    (k30 : PySem.W.keepIn K (.ref f30) = true)
    (a31 : PySem.W.nsIn K mainGlobals "_law_ways_right" = some (some (.ref f31)))
    (l31 : K.lookup f31 = some ⟨oc31, od31, .func (PySem.W.fnOf "_law_ways_right" "_law_ways_right" (defArgs sWR) (defBody sWR) (defScope sWR) .none kV31 dc31 pm31 an31 cd31 ct31), sl31⟩)
    (c31 : PySem.W.codeIn K cd31 "_law_ways_right" = true)
    (k31 : PySem.W.keepIn K (.ref f31) = true)
    (a32 : PySem.W.nsIn K mainGlobals "_law_more_right" = some (some (.ref f32)))
    (l32 : K.lookup f32 = some ⟨oc32, od32, .func (PySem.W.fnOf "_law_more_right" "_law_more_right" (defArgs sMR) (defBody sMR) (defScope sMR) .none kV32 dc32 pm32 an32 cd32 ct32), sl32⟩)
    (c32 : PySem.W.codeIn K cd32 "_law_more_right" = true)
    (k32 : PySem.W.keepIn K (.ref f32) = true)
    (a33 : PySem.W.nsIn K mainGlobals "_law_parts_right" = some (some (.ref f33)))
    (l33 : K.lookup f33 = some ⟨oc33, od33, .func (PySem.W.fnOf "_law_parts_right" "_law_parts_right" (defArgs sPR) (defBody sPR) (defScope sPR) .none kV33 dc33 pm33 an33 cd33 ct33), sl33⟩)
    (c33 : PySem.W.codeIn K cd33 "_law_parts_right" = true)
    (k33 : PySem.W.keepIn K (.ref f33) = true)
    (a34 : PySem.W.nsIn K mainGlobals "law" = some (some (.ref f34)))
    (l34 : K.lookup f34 = some ⟨oc34, od34, .func (PySem.W.fnOf "law" "law" (defArgs sLaw) (defBody sLaw) (defScope sLaw) .none kV34 dc34 pm34 an34 cd34 ct34), sl34⟩)
    (c34 : PySem.W.codeIn K cd34 "law" = true)
    (k34 : PySem.W.keepIn K (.ref f34) = true)
    (z_range : PySem.W.nsIn K mainGlobals "range" = some none)
    (z_len : PySem.W.nsIn K mainGlobals "len" = some none)
    (z_min : PySem.W.nsIn K mainGlobals "min" = some none)
    (z_max : PySem.W.nsIn K mainGlobals "max" = some none)
    (z_sum : PySem.W.nsIn K mainGlobals "sum" = some none)
    (z_int : PySem.W.nsIn K mainGlobals "int" = some none)
    (z_list : PySem.W.nsIn K mainGlobals "list" = some none)
    (z_zip : PySem.W.nsIn K mainGlobals "zip" = some none)
    (z_sorted : PySem.W.nsIn K mainGlobals "sorted" = some none)
    (z_set : PySem.W.nsIn K mainGlobals "set" = some none)
    (z_isinstance : PySem.W.nsIn K mainGlobals "isinstance" = some none)
    (z_bool : PySem.W.nsIn K mainGlobals "bool" = some none)
    (z_tuple : PySem.W.nsIn K mainGlobals "tuple" = some none)
    (z_all : PySem.W.nsIn K mainGlobals "all" = some none)
    (xF : K.lookup C1 = some (excClassObj nmF qF C1 NF bsF [.type "object"] hdF snF subF abF colF ddF v0F v1F v2F v3F v5F idF))
    (lNF : K.lookup NF = some ⟨cN, dN, .dict esN epN, slN⟩)
    (okE : (esN.toList.all fun e => match e.key with | .str _ _ => true | _ => false) = true)
    (eqF : PySem.W.nsIn K NF "__eq__" = some (some (.ref f2)))
    (neF : PySem.W.nsIn K NF "__ne__" = some none)
    (ocE : oc2 = .type "function")
    (ccF : PySem.W.findIn K (.ref C1) "__class__" = some (some (.builtin "object.__class__")))
    (hnF : PySem.W.specialIn K (.builtin "object.__class__") "__get__" = some (some (.builtin "getset_descriptor.__get__")))
    (htF : PySem.W.takesIn K (.builtin "object.__class__") = some true)
    (hmF : PySem.W.mroIn K C1 (.type "object") = some true)
    (kitF : PySem.W.kitOne K (.ref C1) (.ref C1) = some true)
    : ∃ fd : FuncData, (∀ (s : Shared) (v : Value), BindsTo s fd ⟨[v], []⟩ [("_law_script", v)]) ∧ ∀ base : Heap, K.In base → base.Ns mainGlobals mg → FnOk l.prog w K mg base CX0 7 fa fd ["_law_script"] (spLaw K) := by
  have e := hfa.symm.trans (PySem.W.mg_of X G a34)
  cases e
  have F1 : FFold K f1 _ := ⟨⟨oc1, od1, .none, .ref KD, dc1, pm1, an1, cd1, ct1, sl1, rfl, l1, c1, .inl ⟨rfl, rfl⟩, .inr ⟨KD, rfl, fun q lack => by
    rcases List.mem_cons.mp lack with rfl | lack
    · exact ⟨_, d_count, ⟨_, rfl⟩⟩
    rcases List.mem_cons.mp lack with rfl | lack
    · exact ⟨_, d_total, ⟨_, rfl⟩⟩
    rcases List.mem_cons.mp lack with rfl | lack
    · exact ⟨_, d_squares, ⟨_, rfl⟩⟩
    rcases List.mem_cons.mp lack with rfl | lack
    · exact ⟨_, d_least, rfl⟩
    rcases List.mem_cons.mp lack with rfl | lack
    · exact ⟨_, d_greatest, rfl⟩
    rcases List.mem_cons.mp lack with rfl | lack
    · exact ⟨_, d_first, rfl⟩
    rcases List.mem_cons.mp lack with rfl | lack
    · exact ⟨_, d_last, rfl⟩
    rcases List.mem_cons.mp lack with rfl | lack
    · exact ⟨_, d_rise, ⟨_, rfl⟩⟩
    rcases List.mem_cons.mp lack with rfl | lack
    · exact ⟨_, d_held, ⟨_, rfl⟩⟩
    cases lack⟩⟩, k1⟩
  have F2 := fun_mk (st := sEq) l2 c2 k2
  have F3 := fun_mk (st := sWh) l3 c3 k3
  have F4 := fun_mk (st := sEd) l4 c4 k4
  have F5 := fun_mk (st := sCb) l5 c5 k5
  have F6 := fun_mk (st := sSf) l6 c6 k6
  have F7 := fun_mk (st := sWk) l7 c7 k7
  have F8 := fun_mk (st := sTr) l8 c8 k8
  have F9 := fun_mk (st := sWw) l9 c9 k9
  have F10 := fun_mk (st := sLp) l10 c10 k10
  have F11 := fun_mk (st := sPi) l11 c11 k11
  have F12 := fun_mk (st := sPl) l12 c12 k12
  have F13 := fun_mk (st := sCo) l13 c13 k13
  have F14 := fun_mk (st := sIh) l14 c14 k14
  have F15 := fun_mk (st := sHt) l15 c15 k15
  have F16 := fun_mk (st := sGa) l16 c16 k16
  have F17 := fun_mk (st := sSl) l17 c17 k17
  have F18 := fun_mk (st := sRisen) l18 c18 k18
  have F19 := fun_mk (st := sHB) l19 c19 k19
  have F20 := fun_mk (st := sCkR) l20 c20 k20
  have F21 := fun_mk (st := sFO) l21 c21 k21
  have F22 := fun_mk (st := sTg) l22 c22 k22
  have F23 := fun_mk (st := sDraws) l23 c23 k23
  have F24 := fun_mk (st := sNext) l24 c24 k24
  have F25 := fun_mk (st := sSp) l25 c25 k25
  have F26 := fun_mk (st := sWo) l26 c26 k26
  have F27 := fun_mk (st := sLL) l27 c27 k27
  have F28 := fun_mk (st := sNG) l28 c28 k28
  have F29 := fun_mk (st := sFR) l29 c29 k29
  have F30 := fun_mk (st := sDW) l30 c30 k30
  have F31 := fun_mk (st := sWR) l31 c31 k31
  have F32 := fun_mk (st := sMR) l32 c32 k32
  have F33 := fun_mk (st := sPR) l33 c33 k33
  have F34 := fun_mk (st := sLaw) l34 c34 k34
  have b2 := F2.binds (ps := ["self", "other"]) fun _ _ _ _ _ _ us hl => match us, hl with | [_, _], _ => rfl
  have b3 := F3.binds (ps := ["thing"]) fun _ _ _ _ _ _ us hl => match us, hl with | [_], _ => rfl
  have b4 := F4.binds (ps := ["start", "end", "cells"]) fun _ _ _ _ _ _ us hl => match us, hl with | [_, _, _], _ => rfl
  have b5 := F5.binds (ps := ["edges", "points"]) fun _ _ _ _ _ _ us hl => match us, hl with | [_, _], _ => rfl
  have b6 := F6.binds (ps := ["start", "end", "horizon", "cells", "points"]) fun _ _ _ _ _ _ us hl => match us, hl with | [_, _, _, _, _], _ => rfl
  have b7 := F7.binds (ps := ["steps", "start"]) fun _ _ _ _ _ _ us hl => match us, hl with | [_, _], _ => rfl
  have b8 := F8.binds (ps := ["pieces", "start", "end"]) fun _ _ _ _ _ _ us hl => match us, hl with | [_, _, _], _ => rfl
  have b9 := F9.binds (ps := ["pieces"]) fun _ _ _ _ _ _ us hl => match us, hl with | [_], _ => rfl
  have b11 := F11.binds (ps := ["thing"]) fun _ _ _ _ _ _ us hl => match us, hl with | [_], _ => rfl
  have b13 := F13.binds (ps := ["pieces", "points"]) fun _ _ _ _ _ _ us hl => match us, hl with | [_, _], _ => rfl
  have b14 := F14.binds (ps := ["thing"]) fun _ _ _ _ _ _ us hl => match us, hl with | [_], _ => rfl
  have b15 := F15.binds (ps := ["thing", "start", "end", "steps"]) fun _ _ _ _ _ _ us hl => match us, hl with | [_, _, _, _], _ => rfl
  have b16 := F16.binds (ps := ["thing", "start", "end", "steps"]) fun _ _ _ _ _ _ us hl => match us, hl with | [_, _, _, _], _ => rfl
  have b18 := F18.binds (ps := ["ahead", "behind"]) fun _ _ _ _ _ _ us hl => match us, hl with | [_, _], _ => rfl
  have b19 := F19.binds (ps := ["ahead", "behind"]) fun _ _ _ _ _ _ us hl => match us, hl with | [_, _], _ => rfl
  have b20 := F20.binds (ps := ["points"]) fun _ _ _ _ _ _ us hl => match us, hl with | [_], _ => rfl
  have b21 := F21.binds (ps := ["points"]) fun _ _ _ _ _ _ us hl => match us, hl with | [_], _ => rfl
  have b22 := F22.binds (ps := ["one", "two"]) fun _ _ _ _ _ _ us hl => match us, hl with | [_, _], _ => rfl
  have b23 := F23.binds (ps := ["_law_cell"]) fun _ _ _ _ _ _ us hl => match us, hl with | [_], _ => rfl
  have b24 := F24.binds (ps := ["_law_draws_here"]) fun _ _ _ _ _ _ us hl => match us, hl with | [_], _ => rfl
  have b25 := F25.binds (ps := ["_law_draws_here"]) fun _ _ _ _ _ _ us hl => match us, hl with | [_], _ => rfl
  have b26 := F26.binds (ps := ["_law_draws_here"]) fun _ _ _ _ _ _ us hl => match us, hl with | [_], _ => rfl
  have b27 := F27.binds (ps := ["_law_world_here"]) fun _ _ _ _ _ _ us hl => match us, hl with | [_], _ => rfl
  have b28 := F28.binds (ps := ["_law_one", "_law_other"]) fun _ _ _ _ _ _ us hl => match us, hl with | [_, _], _ => rfl
  have b29 := F29.binds (ps := ["_law_draws_here", "_law_world_here", "_law_pieces"]) fun _ _ _ _ _ _ us hl => match us, hl with | [_, _, _], _ => rfl
  have b30 := F30.binds (ps := ["_law_draws_here", "_law_world_here"]) fun _ _ _ _ _ _ us hl => match us, hl with | [_, _], _ => rfl
  have b31 := F31.binds (ps := ["_law_draws_here", "_law_world_here", "_law_least_here"]) fun _ _ _ _ _ _ us hl => match us, hl with | [_, _, _], _ => rfl
  have b32 := F32.binds (ps := ["_law_draws_here", "_law_world_here", "_law_least_here"]) fun _ _ _ _ _ _ us hl => match us, hl with | [_, _, _], _ => rfl
  have b33 := F33.binds (ps := ["_law_draws_here", "_law_world_here", "_law_least_here"]) fun _ _ _ _ _ _ us hl => match us, hl with | [_, _, _], _ => rfl
  have g3 := PySem.W.mg_of X G a3
  have g4 := PySem.W.mg_of X G a4
  have g5 := PySem.W.mg_of X G a5
  have g6 := PySem.W.mg_of X G a6
  have g7 := PySem.W.mg_of X G a7
  have g8 := PySem.W.mg_of X G a8
  have g9 := PySem.W.mg_of X G a9
  have g10 := PySem.W.mg_of X G a10
  have g11 := PySem.W.mg_of X G a11
  have g12 := PySem.W.mg_of X G a12
  have g13 := PySem.W.mg_of X G a13
  have g14 := PySem.W.mg_of X G a14
  have g15 := PySem.W.mg_of X G a15
  have g16 := PySem.W.mg_of X G a16
  have g17 := PySem.W.mg_of X G a17
  have g18 := PySem.W.mg_of X G a18
  have g19 := PySem.W.mg_of X G a19
  have g20 := PySem.W.mg_of X G a20
  have g21 := PySem.W.mg_of X G a21
  have g22 := PySem.W.mg_of X G a22
  have g23 := PySem.W.mg_of X G a23
  have g24 := PySem.W.mg_of X G a24
  have g25 := PySem.W.mg_of X G a25
  have g26 := PySem.W.mg_of X G a26
  have g27 := PySem.W.mg_of X G a27
  have g28 := PySem.W.mg_of X G a28
  have g29 := PySem.W.mg_of X G a29
  have g30 := PySem.W.mg_of X G a30
  have g31 := PySem.W.mg_of X G a31
  have g32 := PySem.W.mg_of X G a32
  have g33 := PySem.W.mg_of X G a33
  have gC1 := PySem.W.mg_of X G aC1
  have m_range := PySem.W.mg_none_of X G z_range
  have m_len := PySem.W.mg_none_of X G z_len
  have m_min := PySem.W.mg_none_of X G z_min
  have m_max := PySem.W.mg_none_of X G z_max
  have m_sum := PySem.W.mg_none_of X G z_sum
  have m_int := PySem.W.mg_none_of X G z_int
  have m_list := PySem.W.mg_none_of X G z_list
  have m_zip := PySem.W.mg_none_of X G z_zip
  have m_sorted := PySem.W.mg_none_of X G z_sorted
  have m_set := PySem.W.mg_none_of X G z_set
  have m_isinstance := PySem.W.mg_none_of X G z_isinstance
  have m_bool := PySem.W.mg_none_of X G z_bool
  have m_tuple := PySem.W.mg_none_of X G z_tuple
  have m_all := PySem.W.mg_none_of X G z_all
  refine ⟨PySem.W.fnOf "law" "law" (defArgs sLaw) (defBody sLaw) (defScope sLaw) .none kV34 dc34 pm34 an34 cd34 ct34, fun s v => .of_eq rfl, fun base _ _ => ?_⟩
  have T : TFold K C1 := ⟨⟨pgC1, hdC1, poC1, saC1⟩, fun n hn => by
    rcases List.mem_cons.mp hn with rfl | hn
    · exact noC1_count
    rcases List.mem_cons.mp hn with rfl | hn
    · exact noC1_total
    rcases List.mem_cons.mp hn with rfl | hn
    · exact noC1_squares
    rcases List.mem_cons.mp hn with rfl | hn
    · exact noC1_least
    rcases List.mem_cons.mp hn with rfl | hn
    · exact noC1_greatest
    rcases List.mem_cons.mp hn with rfl | hn
    · exact noC1_first
    rcases List.mem_cons.mp hn with rfl | hn
    · exact noC1_last
    rcases List.mem_cons.mp hn with rfl | hn
    · exact noC1_rise
    obtain rfl := List.mem_singleton.mp hn
    exact noC1_held⟩
  have OI : ∀ j, FnOk l.prog w K mg base CX0 (j + 1) f1 _ NFI (spFI C1) := fun j => ok_fi F1 T
  have MK : Mk K C1 f1 := ⟨mkC1, a1, i1, kcC1⟩
  obtain ⟨q0, z0⟩ := kb_0 F1
  obtain ⟨q9, z9⟩ := kb_9 F1
  have okF : PySem.W.nsOkIn K NF = true := by
    unfold PySem.W.nsOkIn
    rw [lNF]
    dsimp only
    rw [← Array.all_toList]
    exact okE
  have OE : ∀ j, OwnE l.prog w K mg base C1 (j + 1) f2 _ := fun j => ⟨ok_eq F2 T ⟨ccF, hnF, htF, hmF, kitF⟩ gC1 m_isinstance, a2, i2, b2, ⟨⟨nmF, qF, NF, bsF, hdF, snF, subF, abF, colF, ddF, v0F, v1F, v2F, v3F, v5F, idF, xF, okF, eqF, neF⟩, _, l2, ocE⟩⟩
  have K0 : ∀ j, KF0 l.prog w K mg base C1 (j + 1) := fun j => ⟨f1, _, q0, OI j, gC1, MK, z0⟩
  have K9 : ∀ j, KF9 l.prog w K mg base C1 (j + 1) := fun j => ⟨f1, _, q9, OI j, gC1, MK, z9⟩
  have RIS : ∀ j, Cal l.prog w K mg base (j + 1) "risen" ["ahead", "behind"] spRisen := fun j => ⟨f18, _, ok_risen F18 m_max, g18, k18, b18⟩
  have HB : ∀ j, Cal l.prog w K mg base (j + 1) "held_between" ["ahead", "behind"] (spHB K) := fun j => ⟨f19, _, ok_hb F19, g19, k19, b19⟩
  have CKR : ∀ j, Cal l.prog w K mg base (j + 1) "check_rising" ["points"] (spCkR K) := fun j => ⟨f20, _, ok_ckR F20 m_range m_len, g20, k20, b20⟩
  have FO : ∀ j, Cal l.prog w K mg base (j + 3) "fold_of" ["points"] (spFO K C1) := fun j => ⟨f21, _, ok_fo (k := j + 1) F21 (CKR j) (K0 j) (K9 j) (RIS j) (HB j) m_list m_len m_sum m_min m_max m_zip, g21, k21, b21⟩
  have TG : ∀ j, Cal l.prog w K mg base (j + 3) "together" ["one", "two"] (spTg K C1) := fun j => ⟨f22, _, ok_tg (k := j + 1) F22 T (K9 j) (RIS j) (HB j) m_min m_max, g22, k22, b22⟩
  have WH : ∀ j, Cal l.prog w K mg base (j + 1) "is_whole" ["thing"] spWh := fun j => ⟨f3, _, ok_wh F3 m_isinstance m_int m_bool, g3, k3, b3⟩
  have ED : ∀ j, Cal l.prog w K mg base (j + 1) "edges_of" ["start", "end", "cells"] (spEd K) := fun j => ⟨f4, _, ok_ed F4 m_sorted m_set, g4, k4, b4⟩
  have CB : ∀ j, Cal l.prog w K mg base (j + 1) "counts_below" ["edges", "points"] (spCb K) := fun j => ⟨f5, _, ok_cb F5 m_sorted m_len, g5, k5, b5⟩
  have SF : ∀ j, Cal l.prog w K mg base (j + 2) "steps_from" ["start", "end", "horizon", "cells", "points"] (spSf K) := fun j => ⟨f6, _, ok_sf (k := j + 1) F6 (ED j) (CB j) m_len m_range, g6, k6, b6⟩
  have WK : ∀ j, Cal l.prog w K mg base (j + 1) "walked" ["steps", "start"] spWk := fun j => ⟨f7, _, ok_wk F7, g7, k7, b7⟩
  have TR : ∀ j, Cal l.prog w K mg base (j + 1) "traced" ["pieces", "start", "end"] spTr := fun j => ⟨f8, _, ok_tr F8, g8, k8, b8⟩
  have WW : ∀ j, Cal l.prog w K mg base (j + 1) "with_whole_points" ["pieces"] spWw := fun j => ⟨f9, _, ok_ww F9, g9, k9, b9⟩
  have LPo : ∀ j, FnOk l.prog w K mg base CX0 (j + 3) f10 _ ["start", "end", "horizon", "cells", "points"] (spLp K) := fun j => ok_lpn (k := j + 2) F10 (SF j) (WK (j + 1)) (TR (j + 1)) (WW (j + 1)) m_sorted
  have PI_ : ∀ j, Cal l.prog w K mg base (j + 2) "is_piece" ["thing"] spPi := fun j => ⟨f11, _, ok_pi (k := j + 1) F11 (WH j) m_isinstance m_tuple m_len, g11, k11, b11⟩
  have IPo : ∀ j, FnOk l.prog w K mg base CX0 (j + 3) f12 _ ["pieces", "start", "end", "horizon", "cells"] (spPl K) := fun j => ok_pln (k := j + 2) F12 (PI_ j) m_isinstance m_list
  have CO : ∀ j, Cal l.prog w K mg base (j + 1) "cost_of" ["pieces", "points"] (spCo K) := fun j => ⟨f13, _, ok_co F13 m_len, g13, k13, b13⟩
  have IH : ∀ j, Cal l.prog w K mg base (j + 2) "is_height" ["thing"] spIh := fun j => ⟨f14, _, ok_ih (k := j + 1) F14 (WH j) m_isinstance m_tuple m_len, g14, k14, b14⟩
  have HT_ : ∀ j, Cal l.prog w K mg base (j + 3) "height_table" ["thing", "start", "end", "steps"] spHt := fun j => ⟨f15, _, ok_ht (k := j + 2) F15 (IH j) m_isinstance m_list m_all m_len, g15, k15, b15⟩
  have GA : ∀ j, Cal l.prog w K mg base (j + 2) "is_gap" ["thing", "start", "end", "steps"] spGa := fun j => ⟨f16, _, ok_ga (k := j + 1) F16 (WH j) m_isinstance m_list m_all m_len, g16, k16, b16⟩
  have IPn : ∀ j, CalN l.prog w K mg base (j + 3) "is_plan" NP5 3 ["horizon", "cells"] gRow (spPl K) := fun j => ⟨f12, _, _, IPo j, g12, k12, ip_n F12⟩
  have SLo : ∀ j, FnOk l.prog w K mg base CX0 (j + 4) f17 _ ["thing", "start", "end", "horizon", "cells", "points"] (spSl K) := fun j => ok_sl (k := j + 3) F17 (SF (j + 1)) (GA (j + 1)) (IPn j) (HT_ j) (CO (j + 2)) m_isinstance m_tuple m_len
  have DR_ : ∀ j, Cal l.prog w K mg base (j + 1) "_law_draws" ["_law_cell"] spDraws := fun j => ⟨f23, _, ok_draws F23, g23, k23, b23⟩
  have NX : ∀ j, Cal l.prog w K mg base (j + 1) "_law_next" ["_law_draws_here"] spNext := fun j => ⟨f24, _, ok_next F24, g24, k24, b24⟩
  have SP_ : ∀ j, Cal l.prog w K mg base (j + 2) "_law_spot" ["_law_draws_here"] spSp := fun j => ⟨f25, _, ok_sp (k := j + 1) F25 (NX j), g25, k25, b25⟩
  have WO : ∀ j, Cal l.prog w K mg base (j + 3) "_law_world" ["_law_draws_here"] (spWo K) := fun j => ⟨f26, _, ok_wo (k := j + 2) F26 (SP_ j) (NX (j + 1)) m_range m_sorted, g26, k26, b26⟩
  have LL : ∀ j, Cal l.prog w K mg base (j + 5) "_law_least" ["_law_world_here"] (spLL K) := fun j => ⟨f27, _, ok_ll (k := j + 4) F27 ⟨f10, _, _, LPo (j + 1), g10, k10, lp_n F10⟩ ⟨f17, _, _, SLo j, g17, k17, sl_n F17⟩ (CO (j + 3)), g27, k27, b27⟩
  have NG : ∀ j, Cal l.prog w K mg base (j + 1) "_law_no_greater" ["_law_one", "_law_other"] spNG := fun j => ⟨f28, _, ok_ng F28, g28, k28, b28⟩
  have DW_ : ∀ j, Cal l.prog w K mg base (j + 2) "_law_drawn_way" ["_law_draws_here", "_law_world_here"] (spDW K) := fun j => ⟨f30, _, ok_dw (k := j + 1) F30 (NX j) m_len m_min, g30, k30, b30⟩
  have WR_ : ∀ j, Cal l.prog w K mg base (j + 4) "_law_ways_right" ["_law_draws_here", "_law_world_here", "_law_least_here"] (spAsk K) := fun j => ⟨f31, _, ok_wr (k := j + 3) F31 (DW_ (j + 1)) (CO (j + 2)) (IPn j) m_range, g31, k31, b31⟩
  have MR_ : ∀ j, Cal l.prog w K mg base (j + 6) "_law_more_right" ["_law_draws_here", "_law_world_here", "_law_least_here"] (spAsk K) := fun j => ⟨f32, _, ok_mr (k := j + 5) F32 (NX (j + 4)) (LL j) (NG (j + 4)), g32, k32, b32⟩
  have PA_ : ∀ j, Cal l.prog w K mg base (j + 6) "_law_parts_right" ["_law_draws_here", "_law_world_here", "_law_least_here"] (spAsk K) := fun j => ⟨f33, _, ok_parts (k := j + 5) F33 (NX (j + 4)) (LL j), g33, k33, b33⟩
  have FR_ : ∀ j, Cal l.prog w K mg base (j + 4) "_law_folds_right" ["_law_draws_here", "_law_world_here", "_law_pieces"] (spFR K) := fun j => ⟨f29, _, ok_fr (k := j + 3) (j := 1) F29 (OE 0) (by omega) (NX (j + 2)) (K0 (j + 1)) (FO j) (TG j) m_sorted m_set, g29, k29, b29⟩
  exact ok_law (k := 6) F34 (DR_ 5) (WO 3) (LL 1) (WR_ 2) (MR_ 0) (PA_ 0) (FR_ 2)
end Tg
open PySem PySem.W PyProof.Rows
set_option maxRecDepth 100000 in
set_option maxHeartbeats 0 in
theorem PySem.Challenge.cw_timegranary_k36_whole_no_plan_costs_less_holds : PySem.Challenge.rw_timegranary_k36_whole_no_plan_costs_less.Holds := by
  w_on; o_law; k_head; (case hw => w_witness2)
  k_fill
  refine L2.walk_of (l := PySem.Challenge.rw_timegranary_k36_whole_no_plan_costs_less) (n := 63) (k := 7) (x := "_law_script") (CX := fun _ => L2.CX0) (sp := fun w => Tg.spLaw _) rfl (by decide) rfl ⟨rfl, by decide, by decide⟩ (fun w h Y => PySem.W.kIn_of Y) ?F (fun _ _ a ns hl _ hS => ⟨a, ns, rfl, hS, hl, fun _ => rfl⟩) (fun _ _ _ _ _ h => h)
  case F =>
    intro w mg fa h KX G hmg
    refine' Tg.all_mk KX G hmg ?aC1 ?pgC1 ?hdC1 ?poC1 ?saC1 ?mkC1 ?kcC1 ?noC1_count ?noC1_total ?noC1_squares ?noC1_least ?noC1_greatest ?noC1_first ?noC1_last ?noC1_rise ?noC1_held ?a1 ?i1 ?l1 ?d_count ?d_total ?d_squares ?d_least ?d_greatest ?d_first ?d_last ?d_rise ?d_held ?c1 ?k1 ?a2 ?i2 ?l2 ?c2 ?k2 ?a3 ?l3 ?c3 ?k3 ?a4 ?l4 ?c4 ?k4 ?a5 ?l5 ?c5 ?k5 ?a6 ?l6 ?c6 ?k6 ?a7 ?l7 ?c7 ?k7 ?a8 ?l8 ?c8 ?k8 ?a9 ?l9 ?c9 ?k9 ?a10 ?l10 ?c10 ?k10 ?a11 ?l11 ?c11 ?k11 ?a12 ?l12 ?c12 ?k12 ?a13 ?l13 ?c13 ?k13 ?a14 ?l14 ?c14 ?k14 ?a15 ?l15 ?c15 ?k15 ?a16 ?l16 ?c16 ?k16 ?a17 ?l17 ?c17 ?k17 ?a18 ?l18 ?c18 ?k18 ?a19 ?l19 ?c19 ?k19 ?a20 ?l20 ?c20 ?k20 ?a21 ?l21 ?c21 ?k21 ?a22 ?l22 ?c22 ?k22 ?a23 ?l23 ?c23 ?k23 ?a24 ?l24 ?c24 ?k24 ?a25 ?l25 ?c25 ?k25 ?a26 ?l26 ?c26 ?k26 ?a27 ?l27 ?c27 ?k27 ?a28 ?l28 ?c28 ?k28 ?a29 ?l29 ?c29 ?k29 ?a30 ?l30 ?c30 ?k30 ?a31 ?l31 ?c31 ?k31 ?a32 ?l32 ?c32 ?k32 ?a33 ?l33 ?c33 ?k33 ?a34 ?l34 ?c34 ?k34 ?z_range ?z_len ?z_min ?z_max ?z_sum ?z_int ?z_list ?z_zip ?z_sorted ?z_set ?z_isinstance ?z_bool ?z_tuple ?z_all ?xF ?lNF ?okE ?eqF ?neF ?ocE ?ccF ?hnF ?htF ?hmF ?kitF
    (case aC1 => k_is); (case pgC1 => k_is); (case hdC1 => k_is); (case poC1 => k_is); (case saC1 => k_is); (case mkC1 => k_is)
    (case kcC1 => k_is); (case noC1_count => k_is); (case noC1_total => k_is); (case noC1_squares => k_is); (case noC1_least => k_is); (case noC1_greatest => k_is)
    (case noC1_first => k_is); (case noC1_last => k_is); (case noC1_rise => k_is); (case noC1_held => k_is); (case a1 => k_is); (case i1 => k_is)
    (case l1 => k_is); (case d_count => k_is); (case d_total => k_is); (case d_squares => k_is); (case d_least => k_is); (case d_greatest => k_is); (case d_first => k_is); (case d_last => k_is); (case d_rise => k_is); (case d_held => k_is); (case c1 => k_is); (case k1 => k_is); (case a2 => k_is); (case i2 => k_is); (case l2 => k_is)
    (case c2 => k_is); (case k2 => k_is); (case a3 => k_is); (case l3 => k_is); (case c3 => k_is); (case k3 => k_is)
    (case a4 => k_is); (case l4 => k_is); (case c4 => k_is); (case k4 => k_is); (case a5 => k_is); (case l5 => k_is)
    (case c5 => k_is); (case k5 => k_is); (case a6 => k_is); (case l6 => k_is); (case c6 => k_is); (case k6 => k_is)
    (case a7 => k_is); (case l7 => k_is); (case c7 => k_is); (case k7 => k_is); (case a8 => k_is); (case l8 => k_is)
    (case c8 => k_is); (case k8 => k_is); (case a9 => k_is); (case l9 => k_is); (case c9 => k_is); (case k9 => k_is)
    (case a10 => k_is); (case l10 => k_is); (case c10 => k_is); (case k10 => k_is); (case a11 => k_is); (case l11 => k_is)
    (case c11 => k_is); (case k11 => k_is); (case a12 => k_is); (case l12 => k_is); (case c12 => k_is); (case k12 => k_is)
    (case a13 => k_is); (case l13 => k_is); (case c13 => k_is); (case k13 => k_is); (case a14 => k_is); (case l14 => k_is)
    (case c14 => k_is); (case k14 => k_is); (case a15 => k_is); (case l15 => k_is); (case c15 => k_is); (case k15 => k_is)
    (case a16 => k_is); (case l16 => k_is); (case c16 => k_is); (case k16 => k_is); (case a17 => k_is); (case l17 => k_is)
    (case c17 => k_is); (case k17 => k_is); (case a18 => k_is); (case l18 => k_is); (case c18 => k_is); (case k18 => k_is)
    (case a19 => k_is); (case l19 => k_is); (case c19 => k_is); (case k19 => k_is); (case a20 => k_is); (case l20 => k_is)
    (case c20 => k_is); (case k20 => k_is); (case a21 => k_is); (case l21 => k_is); (case c21 => k_is); (case k21 => k_is)
    (case a22 => k_is); (case l22 => k_is); (case c22 => k_is); (case k22 => k_is); (case a23 => k_is); (case l23 => k_is)
    (case c23 => k_is); (case k23 => k_is); (case a24 => k_is); (case l24 => k_is); (case c24 => k_is); (case k24 => k_is)
    (case a25 => k_is); (case l25 => k_is); (case c25 => k_is); (case k25 => k_is); (case a26 => k_is); (case l26 => k_is)
    (case c26 => k_is); (case k26 => k_is); (case a27 => k_is); (case l27 => k_is); (case c27 => k_is); (case k27 => k_is)
    (case a28 => k_is); (case l28 => k_is); (case c28 => k_is); (case k28 => k_is); (case a29 => k_is); (case l29 => k_is)
    (case c29 => k_is); (case k29 => k_is); (case a30 => k_is); (case l30 => k_is); (case c30 => k_is); (case k30 => k_is)
    (case a31 => k_is); (case l31 => k_is); (case c31 => k_is); (case k31 => k_is); (case a32 => k_is); (case l32 => k_is)
    (case c32 => k_is); (case k32 => k_is); (case a33 => k_is); (case l33 => k_is); (case c33 => k_is); (case k33 => k_is)
    (case a34 => k_is); (case l34 => k_is); (case c34 => k_is); (case k34 => k_is); (case z_range => k_is); (case z_len => k_is)
    (case z_min => k_is); (case z_max => k_is); (case z_sum => k_is); (case z_int => k_is); (case z_list => k_is); (case z_zip => k_is)
    (case z_sorted => k_is); (case z_set => k_is); (case z_isinstance => k_is); (case z_bool => k_is); (case z_tuple => k_is); (case z_all => k_is)
    (case xF => k_is); (case lNF => k_is); (case okE => rfl); (case eqF => k_is); (case neF => k_is); (case ocE => rfl)
    (case ccF => k_is); (case hnF => k_is); (case htF => k_is); (case hmF => k_is); (case kitF => first | k_is | rfl)

