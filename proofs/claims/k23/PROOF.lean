import PyProof.Rows.All
import Wide.All
import OpenK.AllK
import Wide.FinOn
import HandS.ForMost
import HandS.Conv
import HandS.Wide
import HandS.IsInst
import HandS.Defaults
import HandS.Dict
import HandS.Iter
import HandS.Walk
import HandS.Exc
import HandS.ExcInit
import HandS.ExcIs
import HandS.ExcField
import HandS.ExcValue
import KE.KExcIs
import KE.KTryMore
import HandS.WordsExc
import HandS.ExcOwn
import KE.KExcInit
import PyProof.ExcBaseAll.IndexError
import PyProof.ExcBaseAll.LookupError
import PyProof.ExcBaseAll.RuntimeError
import HandS.FStr
import HandS.IntHex
import PyProof.FString3
import PyProof.Rows.StrIntSpec
import HandS.Codes
import HandS.StrMore
import PyProof.StrLawsFrom
import HandS.DictComp
import HandS.SetFor
import HandS.Strs
import HandS.SortInts
import HandS.WrittenGet
import HandS.OwnEq
import PyProof.EqKinds
import PyProof.InstNe
import OpenK.KOwn
import PyProof.ReprRoads
import PyProof.InstSpecial
import HandS.Lambda
import KE.KLam
import KE.SortKeyHeap
import HandS.New
import HandS.EndOwn
import KE.DataMinKey
import PyProof.SeqI3
import KE.KAssignIn
import HandS.Deep
import HandS.WideBits
import PySem.Challenge.RW_timegranary_k23_columns_looked_into
import HandS.More
import HandS.CallLocal
import HandS.MakeKwOnly
set_option Elab.async false
set_option linter.all false
set_option maxRecDepth 100000
namespace Tg
open PySem PySem.Spec PyProof.Rows L2

/-! ### rules of my own: a call by keywords alone; list(range(a, b, c)) -/
section
variable {X : Cx} {CX : CXT} {k : Nat} {f : Addr} {fd : FuncData} {ps ks : List Str} {sp : Sp} {E : XK} {x : Str} {p pos : Pos} {kws : List Keyword} {tk : TA}
  {g : List Value → List Value → List Value} {gV : List V → List V → List V}
def tKw0 (n : Nat) (sp : Sp) (gV : List V → List V → List V) (E : XK) (tk : TA) : TE :=
  fun σ H Q => tk σ H fun zs H2 => zs.length = n ∧ sp (gV [] zs) H2 Q E
theorem pe_kw0 (F : FnOk X.prog X.w X.K X.mg X.base CX k f fd ps sp) (room : Room k X.A) (gl : Gl X x) (at_x : X.mg x = some (.ref f)) (kept : PySem.W.keepIn X.K (.ref f) = true) (binds : KBn X.K fd ps 0 ks g gV) (lets : Passes CX X E) (vals : PK X kws tk)
    (named : (backToKw pos (keywordEach kws X.env)).all (·.1.isSome) = true := by rfl) (names : (backToKw pos (keywordEach kws X.env)).filterMap (·.1) = ks := by rfl) (nodebug : (x == ("__debug__" : Str)) = false := by decide)
    (nostar : ((backTo pos (starEach [] X.env)).any (·.1) || (backToKw pos (keywordEach kws X.env)).any (·.1.isNone)) = false := by rfl) : PE X (.Call (.Name x p) [] kws pos) (tKw0 ks.length sp gV E tk) := by
  constructor
  intro pins s σ H Q I read
  refine wpAny_Call_Name_kw (ld_glob I gl at_x (PySem.W.callWith_KW0 (h₀ := X.base) I.ok.mod.kin kept named (thn (vals.run pos pins s σ H _ I read) fun ws s2 y => ?_) nostar) nodebug)
  obtain ⟨zs, H2, J, rel, many, h⟩ := y
  rw [names]
  exact ⟨J.kIn, run_fnN (us := []) (vs := []) F room binds lets J .nil rel rfl many h⟩
end

/-- two keywords, the second parameter's first -/
def sw2 {α : Type} : List α → List α
  | [y, x] => [x, y]
  | _ => []
/-- three keywords, the parameters' from the last on -/
def sw3 {α : Type} : List α → List α
  | [z, y, x] => [x, y, z]
  | _ => []
theorem sw2_rel : ∀ {zs : List V} {ws : List Value}, Vals zs ws → Vals (sw2 zs) (sw2 ws)
  | _, _, .nil => .nil
  | _, _, .cons _ .nil => .nil
  | _, _, .cons a (.cons b .nil) => .cons b (.cons a .nil)
  | _, _, .cons _ (.cons _ (.cons _ _)) => .nil
theorem sw3_rel : ∀ {zs : List V} {ws : List Value}, Vals zs ws → Vals (sw3 zs) (sw3 ws)
  | _, _, .nil => .nil
  | _, _, .cons _ .nil => .nil
  | _, _, .cons _ (.cons _ .nil) => .nil
  | _, _, .cons a (.cons b (.cons c .nil)) => .cons c (.cons b (.cons a .nil))
  | _, _, .cons _ (.cons _ (.cons _ (.cons _ _))) => .nil

section
variable {X : Cx} {a b c : Expr} {ta : TA}
def rg3 (a c : Int) (n : Nat) : List V := (List.range n).map fun i => V.int (a + (i : Nat) * c)
theorem rg3_length (a c : Int) (n : Nat) : (rg3 a c n).length = n := by
  simp [rg3]
def R3 (a b c : Int) (n : Nat) : Prop :=
  c ≠ 0 ∧ c.natAbs.log2 < 9000 ∧ Builtin.Range.small a b c = true ∧ Builtin.Range.rangeSize a b c = n ∧ n ≤ 2 ^ 24
def tLst3 (ta : TA) : TE := fun σ H Q => ta σ H fun vs H1 => ∃ (a b c : Int) (n : Nat), vs = [.int a, .int b, .int c] ∧ R3 a b c n ∧
  ∀ q, H1 q = none → Q (.ref q) (upd H1 q (.lst (rg3 a c n)))
theorem pe_lst3 {p p2 pos pos2 : Pos} (calm : X.calm = true) (gl : Gl X "list") (nl : X.mg "list" = none) (gr : Gl X "range") (nr : X.mg "range" = none) (args : PA X [a, b, c] ta)
    (one : starEach [a, b, c] X.env = (false, eval a X.env) :: starEach [b, c] X.env := by rfl) (nostar : (backTo pos2 (starEach [b, c] X.env)).any (·.1) = false := by rfl)
    (whole : starEach [.Call (.Name "range" p2) [a, b, c] [] pos2] X.env = (false, eval (.Call (.Name "range" p2) [a, b, c] [] pos2) X.env) :: starEach [] X.env := by rfl) :
    PE X (.Call (.Name "list" p) [.Call (.Name "range" p2) [a, b, c] [] pos2] [] pos) (tLst3 ta) := by
  constructor
  intro pins s σ H Q I read
  refine Call_ (ld_blt I gl nl boot_list (PyProof.Rows.callWith_type1 (args_cons (Call_ (ld_blt I gr nr boot_range (PyProof.Rows.callWith_type1 (thn (args.run pos2 pins s σ H _ I read) fun us s1 y => ?_) one nostar))) whole) whole))
  obtain ⟨zs, H1, J, rel, i, j, k, n, e, ⟨c0, c1, c2, c3, c4⟩, h⟩ := y
  subst e
  match us, rel with
  | [_, _, _], .cons ⟨t, ei⟩ (.cons ⟨u, ej⟩ (.cons ⟨v, ek⟩ .nil)) =>
    subst ei
    subst ej
    subst ek
    refine call_range_3 c0 (args_nil ?_) (.inl (PyProof.noPylong_of_log2 c1))
    obtain ⟨hx, ehx⟩ : ∃ hx, hx = s1.heap.push { cls := .type "range", data := .fields #[.int i t, .int j u, .int k v] } := ⟨_, rfl⟩
    have J2 : Inv X pins σ H1 { s1 with heap := hx } := by
      rw [ehx]
      exact J.kept (t' := s1.toks) fun _ _ z => Heap.get?_push_of_some _ z
    rw [← ehx]
    refine call_list_range (s := { s1 with heap := hx }) (n := n) (J2.ok.hd calm) (by rw [ehx]; exact IsRange.new ..) c2 c3 c4 fun h' tk acc cc kp made items => ?_
    have len : acc.toList.length = n := Array.length_toList.trans items.1
    have vals : Vals (rg3 i k n) acc.toList := by
      have z := vals_of_get acc.toList (fun m : Nat => V.int (i + m * k)) fun m w hw => by
        obtain ⟨tw, ew⟩ := items.2 m w (by rw [← hw, Array.getElem?_toList])
        exact ⟨tw, ew⟩
      rw [len] at z
      exact z
    refine ⟨.ref hx.objs.size, upd H1 hx.objs.size (.lst (rg3 i k n)), J2.laid kp (Nat.le_refl _) (show ObjOk X.prog X.w _ _ _ (.lst (rg3 i k n)) from ⟨?_, acc.toList, cc, vals, ?_⟩), rfl, h _ (J2.hok.fresh (Nat.le_refl _))⟩
    · rw [rg3_length, sizeLine_eq]
      omega
    · rw [Array.toArray_toList]
      exact made
end

/-! ### lists of ints, compared -/
theorem dp_ints {K : PySem.W.Frag} {H : Hp} : ∀ ns : List Int, DpAll K H (ns.map V.int) (ns.map PyData.int)
  | [] => .nil
  | n :: r => .cons (.int n) (dp_ints r)
theorem lay_ints : ∀ ns : List Int, PyData.canLayAll0 (ns.map PyData.int) = true
  | [] => rfl
  | n :: r => by
    show (true && PyData.canLayAll0 (r.map PyData.int)) = true
    rw [lay_ints r]
    rfl
theorem depth_ints : ∀ ns : List Int, PyData.depthAll (ns.map PyData.int) = 0
  | [] => rfl
  | n :: r => by
    show max 0 (PyData.depthAll (r.map PyData.int)) = 0
    rw [depth_ints r]
    rfl
theorem shaped_ints (ns : List Int) : SeqAt.shaped (.list (ns.map PyData.int)) = true := by
  unfold SeqAt.shaped
  have h1 : PyData.canLay0 (.list (ns.map PyData.int)) = true := lay_ints ns
  have h2 : PyData.depth (.list (ns.map PyData.int)) = 1 := by
    show PyData.depthAll (ns.map PyData.int) + 1 = 1
    rw [depth_ints]
  rw [h1, h2]
  rfl
theorem eqv_ints : ∀ ns : List Int, PyData.eqvAll (ns.map PyData.int) (ns.map PyData.int) = true
  | [] => rfl
  | n :: r => by
    show ((n == n) && PyData.eqvAll (r.map PyData.int) (r.map PyData.int)) = true
    rw [eqv_ints r, beq_self_eq_true]
    rfl
theorem dp_lst {K : PySem.W.Frag} {H : Hp} {a : Addr} {ns : List Int} (h : SqL K H a (ns.map V.int)) : Dp K H (.ref a) (.list (ns.map PyData.int)) := .lst h (dp_ints ns)
end Tg

namespace Tg
open PySem PySem.Spec PyProof.Rows L2
/-! ### defs, methods and classes as a caller needs them -/
section
variable (P : Program) (w : World) (K : PySem.W.Frag) (mg : Str → Option Value) (base : Heap)
/-- the def x is there, and keeps sp by level k -/
def Cal (k : Nat) (x : Str) (ps : List Str) (sp : Sp) : Prop := ∃ f fd, FnOk P w K mg base CX0 k f fd ps sp ∧ mg x = some (.ref f) ∧ PySem.W.keepIn K (.ref f) = true ∧ Binds K fd ps []
/-- the places that is tells, out of a list -/
def prm {α : Type} (is : List Nat) (zs : List α) : List α := is.filterMap fun i => zs[i]?
/-- the same with keywords alone, ks in this order; is: the places of the parameters among them -/
def CalK (k : Nat) (x : Str) (ps ks : List Str) (is : List Nat) (sp : Sp) : Prop := ∃ f fd, FnOk P w K mg base CX0 k f fd ps sp ∧ mg x = some (.ref f) ∧ PySem.W.keepIn K (.ref f) = true ∧ KBn K fd ps 0 ks (fun _ ws => prm is ws) (fun _ zs => prm is zs)
/-- a method of the class C -/
def CalM (k : Nat) (C : Addr) (m : Str) (ps : List Str) (sp : Sp) : Prop := ∃ f fd, FnOk P w K mg base CX0 k f fd ps sp ∧ Meth K C m f ∧ Binds K fd ps []
def CalMK (k : Nat) (C : Addr) (m : Str) (ps ks : List Str) (is : List Nat) (sp : Sp) : Prop := ∃ f fd, FnOk P w K mg base CX0 k f fd ps sp ∧ Meth K C m f ∧ KBn K fd ps 1 ks (fun us ws => us ++ prm is ws) (fun vs zs => vs ++ prm is zs)
/-- a class, by its __init__ -/
def CalC (k : Nat) (x : Str) (C : Addr) (ps : List Str) (sp : Sp) : Prop := ∃ f fd, FnOk P w K mg base CX0 k f fd ps sp ∧ mg x = some (.ref C) ∧ Mk K C f ∧ Binds K fd ps []
end
theorem vals_at : ∀ {zs : List V} {ws : List Value}, Vals zs ws → ∀ i : Nat, (zs[i]? = none ∧ ws[i]? = none) ∨ ∃ z w, zs[i]? = some z ∧ ws[i]? = some w ∧ RelV z w
  | _, _, .nil, i => .inl ⟨by simp, by simp⟩
  | _, _, .cons a b, i => by
    cases i with
    | zero => exact .inr ⟨_, _, rfl, rfl, a⟩
    | succ i => exact vals_at b i
theorem prm_rel {zs : List V} {ws : List Value} (h : Vals zs ws) : ∀ is : List Nat, Vals (prm is zs) (prm is ws)
  | [] => .nil
  | i :: r => by
    have ih := prm_rel h r
    unfold prm at ih ⊢
    rcases vals_at h i with ⟨h1, h2⟩ | ⟨z, w, h1, h2, h3⟩
    · rw [List.filterMap_cons_none h1, List.filterMap_cons_none h2]
      exact ih
    · rw [List.filterMap_cons_some h1, List.filterMap_cons_some h2]
      exact .cons h3 ih
section
variable {X : Cx} {k : Nat} {ps ks : List Str} {is : List Nat} {sp : Sp} {x m : Str} {C : Addr} {o e : Expr} {es : List Expr} {p pos apos : Pos} {kws : List Keyword} {ta t tk : TA} {to : TE}
theorem pe_cal (c : Cal X.prog X.w X.K X.mg X.base k x ps sp) (hr : Room k X.A) (gl : Gl X x) (ha : PA X (e :: es) t) (hdb : (x == ("__debug__" : Str)) = false := by decide)
    (he : starEach (e :: es) X.env = (false, eval e X.env) :: starEach es X.env := by rfl) (hpl : (backTo pos (starEach es X.env)).any (·.1) = false := by rfl) : PE X (.Call (.Name x p) (e :: es) [] pos) (tCall sp [] E0 t) := by
  obtain ⟨f, fd, F, hm, hk, hb⟩ := c
  exact pe_call F hr gl hm hk hb .nil pass0 ha hdb he hpl
theorem pe_calK (c : CalK X.prog X.w X.K X.mg X.base k x ps ks is sp) (hr : Room k X.A) (gl : Gl X x) (vals : PK X kws tk)
    (named : (backToKw pos (keywordEach kws X.env)).all (·.1.isSome) = true := by rfl) (names : (backToKw pos (keywordEach kws X.env)).filterMap (·.1) = ks := by rfl) (nodebug : (x == ("__debug__" : Str)) = false := by decide)
    (nostar : ((backTo pos (starEach [] X.env)).any (·.1) || (backToKw pos (keywordEach kws X.env)).any (·.1.isNone)) = false := by rfl) :
    PE X (.Call (.Name x p) [] kws pos) (tKw0 ks.length sp (fun _ zs => prm is zs) E0 tk) := by
  obtain ⟨f, fd, F, hm, hk, hb⟩ := c
  exact pe_kw0 F hr gl hm hk hb pass0 vals named names nodebug nostar
theorem pe_calM {pl : Sem Bool} (he : PE X o to) (cl : Cls X.K C) (c : CalM X.prog X.w X.K X.mg X.base k C m ps sp) (hr : Room k X.A) (ha : PA X (e :: es) t)
    (hst : starEach (e :: es) X.env = (false, eval e X.env) :: starEach es X.env := by rfl) (hpl : (backTo pos (starEach es X.env)).any (·.1) = false := by rfl) (ht : eval (.Call (.Attribute o m apos) (e :: es) [] pos) X.env = (do let ov ← eval o X.env; standAt apos.atName; let (f, first) ← holding [ov] (getMethod ov m pl); callWith pos f first (backTo pos (starEach (e :: es) X.env)) (backToKw pos (keywordEach [] X.env))) := by rfl) :
    PE X (.Call (.Attribute o m apos) (e :: es) [] pos) (tMeth C m sp [] E0 to t) := by
  obtain ⟨f, fd, F, hm, hb⟩ := c
  exact pe_meth (pl := pl) he cl hm F hr hb .nil pass0 ha hst hpl ht
theorem pe_calM0 {pl : Sem Bool} (he : PE X o to) (cl : Cls X.K C) (c : CalM X.prog X.w X.K X.mg X.base k C m ps sp) (hr : Room k X.A)
    (ht : eval (.Call (.Attribute o m apos) [] [] pos) X.env = (do let ov ← eval o X.env; standAt apos.atName; let (f, first) ← holding [ov] (getMethod ov m pl); callWith pos f first (backTo pos (starEach [] X.env)) (backToKw pos (keywordEach [] X.env))) := by rfl) :
    PE X (.Call (.Attribute o m apos) [] [] pos) (tMeth C m sp [] E0 to tNil) := by
  obtain ⟨f, fd, F, hm, hb⟩ := c
  exact pe_meth0 (pl := pl) he cl hm F hr hb .nil pass0 ht
/-- o.m(k = v, ..) -/
def tMethK (C : Addr) (m : Str) (n : Nat) (sp : Sp) (is : List Nat) (E : XK) (to : TE) (tk : TA) : TE := fun σ H Q => to σ H fun x H1 => ∃ a dx fs, x = .ref a ∧ H1 a = some (.ins C dx fs) ∧ fs.lookup m = none ∧ tk σ H1 fun zs H2 => zs.length = n ∧ sp (x :: prm is zs) H2 Q E
theorem pe_calMK {pl : Sem Bool} (he : PE X o to) (cl : Cls X.K C) (c : CalMK X.prog X.w X.K X.mg X.base k C m ps ks is sp) (hr : Room k X.A) (vals : PK X kws tk)
    (named : (backToKw pos (keywordEach kws X.env)).all (·.1.isSome) = true := by rfl) (names : (backToKw pos (keywordEach kws X.env)).filterMap (·.1) = ks := by rfl)
    (nostar : ((backTo pos (starEach [] X.env)).any (·.1) || (backToKw pos (keywordEach kws X.env)).any (·.1.isNone)) = false := by rfl)
    (ht : eval (.Call (.Attribute o m apos) [] kws pos) X.env = (do let ov ← eval o X.env; standAt apos.atName; let (f, first) ← holding [ov] (getMethod ov m pl); callWith pos f first (backTo pos (starEach [] X.env)) (backToKw pos (keywordEach kws X.env))) := by rfl) :
    PE X (.Call (.Attribute o m apos) [] kws pos) (tMethK C m ks.length sp is E0 to tk) := by
  obtain ⟨f, fd, F, hm, hb⟩ := c
  constructor
  intro pins s σ H Q I read
  refine PySem.W.methodCall_KW (pl := pl) (thn (he.run pins s σ H _ I read) fun u s1 ⟨x, H1, I1, rx, a, dx, fs, ex, ea, l, q⟩ => ?_) ht
  subst ex
  obtain rfl : u = .ref a := rx
  refine getmeth_ok I1 ea cl hm l ?_
  refine PySem.W.callWith_KW0 (first := [.ref a]) (h₀ := X.base) I.ok.mod.kin hm.kp named (thn (vals.run pos pins s1 σ H1 _ I1 q) fun ws s2 y => ?_) nostar
  obtain ⟨zs, H2, J, rel, many, h⟩ := y
  rw [names]
  exact ⟨J.kIn, run_fnN (E := E0) (us := [.ref a]) (vs := [.ref a]) F hr hb pass0 J (.cons rfl .nil) rel rfl many h⟩
theorem pe_calC0 (c : CalC X.prog X.w X.K X.mg X.base k x C ps sp) (hr : Room (k + 1) X.A) (gl : Gl X x) (hdb : (x == ("__debug__" : Str)) = false := by decide) : PE X (.Call (.Name x p) [] [] pos) (tMake C sp [] E0 tNil) := by
  obtain ⟨f, fd, F, hm, M, hb⟩ := c
  exact pe_make0 M F hr gl hm hb .nil pass0 hdb
theorem pe_calC (c : CalC X.prog X.w X.K X.mg X.base k x C ps sp) (hr : Room (k + 1) X.A) (gl : Gl X x) (ha : PA X (e :: es) t) (hdb : (x == ("__debug__" : Str)) = false := by decide)
    (he : starEach (e :: es) X.env = (false, eval e X.env) :: starEach es X.env := by rfl) (hpl : (backTo pos (starEach es X.env)).any (·.1) = false := by rfl) : PE X (.Call (.Name x p) (e :: es) [] pos) (tMake C sp [] E0 t) := by
  obtain ⟨f, fd, F, hm, M, hb⟩ := c
  exact pe_make M F hr gl hm hb .nil pass0 ha hdb he hpl
end
end Tg

namespace Tg
open PySem PySem.Spec PyProof.Rows L2
/-! ### the heap: what stands -/
/-- all but p stands as it stood -/
def Kp (p : Addr) (H H' : Hp) : Prop := ∀ b o, b ≠ p → H b = some o → H' b = some o
theorem Kp.refl (p : Addr) (H : Hp) : Kp p H H := fun _ _ _ h => h
theorem Kp.trans {p : Addr} {H H1 H2 : Hp} (a : Kp p H H1) (b : Kp p H1 H2) : Kp p H H2 := fun c o hc h => b c o hc (a c o hc h)
theorem Kp.of {p : Addr} {H H' : Hp} (s : Same H H') : Kp p H H' := fun c o _ h => s c o h
theorem Kp.put {p : Addr} {H : Hp} {o : HO} : Kp p H (upd H p o) := fun c u hc h => by
  rw [upd_ne hc]
  exact h
/-- what is new stays apart -/
theorem Kp.same {p : Addr} {H H1 H2 : Hp} (s : Same H H1) (n : H p = none) (k : Kp p H1 H2) : Same H H2 := fun b o h => k b o (ne_of_none h n) (s b o h)
theorem same_new {H : Hp} {p : Addr} {o : HO} (h : H p = none) : Same H (upd H p o) := fun b x e => by
  rw [upd_ne (ne_of_none e h)]
  exact e
theorem same_put {H H' : Hp} {D : Addr} {o : HO} (n : H D = none) (s : Same H H') : Same H (upd H' D o) := fun b x e => by
  rw [upd_ne (ne_of_none e n)]
  exact s _ _ e
/-- what can't be changed: tuples, and what is locked -/
def Fix : HO → Prop
  | .tup _ => True
  | .frz _ _ => True
  | _ => False
/-- all that can't be changed stands -/
def KT (H H' : Hp) : Prop := ∀ a o, Fix o → H a = some o → H' a = some o
theorem KT.refl (H : Hp) : KT H H := fun _ _ _ h => h
theorem KT.trans {H H1 H2 : Hp} (a : KT H H1) (b : KT H1 H2) : KT H H2 := fun c o f h => b c o f (a c o f h)
theorem KT.of {H H' : Hp} (s : Same H H') : KT H H' := fun c o _ h => s c o h
theorem KT.kp {p : Addr} {H H' : Hp} {o : HO} (k : Kp p H H') (h : H p = some o) (n : ¬ Fix o) : KT H H' := fun a u f e => k a u (fun z => n (by
  rw [z, h] at e
  cases e
  exact f)) e
theorem KT.put {p : Addr} {H : Hp} {o u : HO} (h : H p = some o) (n : ¬ Fix o) : KT H (upd H p u) := KT.kp Kp.put h n
theorem KT.new {p : Addr} {H : Hp} {u : HO} (h : H p = none) : KT H (upd H p u) := KT.of (same_new h)
theorem nfix_lst {xs : List V} : ¬ Fix (.lst xs) := fun z => z
theorem nfix_dK {xs : List (Key × V)} : ¬ Fix (.dK xs) := fun z => z
theorem nfix_ins {C dx : Addr} {fs : List (Str × V)} : ¬ Fix (.ins C dx fs) := fun z => z
/-! ### data -/
theorem rd_same {H H' : Hp} {a : Addr} {o : HO} (s : Same H H') (h : Rd H a o) : Rd H' a o := by
  rcases h with h | ⟨ob, h⟩
  · exact .inl (s _ _ h)
  · exact .inr ⟨ob, s _ _ h⟩
theorem sqL_same {K : PySem.W.Frag} {H H' : Hp} {a : Addr} {xs : List V} (s : Same H H') (h : SqL K H a xs) : SqL K H' a xs := h.imp (rd_same s) id
theorem sqT_same {K : PySem.W.Frag} {H H' : Hp} {a : Addr} {xs : List V} (s : Same H H') (h : SqT K H a xs) : SqT K H' a xs := h.imp (rd_same s) id
theorem sqT_kt {K : PySem.W.Frag} {H H' : Hp} {a : Addr} {xs : List V} (s : KT H H') (h : SqT K H a xs) : SqT K H' a xs := by
  refine h.imp (fun h => ?_) id
  rcases h with h | ⟨ob, h⟩
  · exact .inl (s _ _ trivial h)
  · exact .inr ⟨ob, s _ _ trivial h⟩
mutual
theorem dp_same {K : PySem.W.Frag} {H H' : Hp} (s : Same H H') : ∀ {x : V} {d : PyData}, Dp K H x d → Dp K H' x d
  | _, _, .non => .non
  | _, _, .bl b => .bl b
  | _, _, .int i => .int i
  | _, _, .str z => .str z
  | _, _, .lst a b => .lst (sqL_same s a) (dpAll_same s b)
  | _, _, .tup a b => .tup (sqT_same s a) (dpAll_same s b)
theorem dpAll_same {K : PySem.W.Frag} {H H' : Hp} (s : Same H H') : ∀ {xs : List V} {ds : List PyData}, DpAll K H xs ds → DpAll K H' xs ds
  | _, _, .nil => .nil
  | _, _, .cons a b => .cons (dp_same s a) (dpAll_same s b)
end
/-- no list and no dict in it -/
inductive TD : PyData → Prop
  | non : TD .none
  | bl (b : Bool) : TD (.bool b)
  | int (i : Int) : TD (.int i)
  | str (z : Str) : TD (.str z)
  | tup {ds : List PyData} : (∀ d, d ∈ ds → TD d) → TD (.tuple ds)
mutual
theorem dp_kt {K : PySem.W.Frag} {H H' : Hp} (s : KT H H') : ∀ {x : V} {d : PyData}, Dp K H x d → TD d → Dp K H' x d
  | _, _, .non, _ => .non
  | _, _, .bl b, _ => .bl b
  | _, _, .int i, _ => .int i
  | _, _, .str z, _ => .str z
  | _, _, .lst _ _, t => nomatch t
  | _, _, .tup a b, .tup t => .tup (sqT_kt s a) (dpAll_kt s b t)
theorem dpAll_kt {K : PySem.W.Frag} {H H' : Hp} (s : KT H H') : ∀ {xs : List V} {ds : List PyData}, DpAll K H xs ds → (∀ d, d ∈ ds → TD d) → DpAll K H' xs ds
  | _, _, .nil, _ => .nil
  | _, _, .cons a b, t => .cons (dp_kt s a (t _ List.mem_cons_self)) (dpAll_kt s b fun d hd => t d (List.mem_cons_of_mem _ hd))
end
theorem dpAll_len {K : PySem.W.Frag} {H : Hp} : ∀ {xs : List V} {ds : List PyData}, DpAll K H xs ds → xs.length = ds.length
  | _, _, .nil => rfl
  | _, _, .cons _ b => congrArg Nat.succ (dpAll_len b)
theorem dpAll_at {K : PySem.W.Frag} {H : Hp} : ∀ {xs : List V} {ds : List PyData}, DpAll K H xs ds → ∀ (i : Nat) (x : V), xs[i]? = some x → ∃ d, ds[i]? = some d ∧ Dp K H x d
  | _, _, .nil => fun i x h => by simp at h
  | _, _, .cons a b => fun i x h => by
    cases i with
    | zero =>
      simp only [Option.some.injEq, List.getElem?_cons_zero] at h
      subst h
      exact ⟨_, rfl, a⟩
    | succ i =>
      rw [List.getElem?_cons_succ] at h ⊢
      exact dpAll_at b i x h
theorem dpAll_tk {K : PySem.W.Frag} {H : Hp} : ∀ {xs : List V} {ds : List PyData}, DpAll K H xs ds → ∀ (i : Nat) (d : PyData), ds[i]? = some d → ∃ x, xs[i]? = some x ∧ Dp K H x d
  | _, _, .nil => fun i x h => by simp at h
  | _, _, .cons a b => fun i x h => by
    cases i with
    | zero =>
      simp only [Option.some.injEq, List.getElem?_cons_zero] at h
      subst h
      exact ⟨_, rfl, a⟩
    | succ i =>
      rw [List.getElem?_cons_succ] at h ⊢
      exact dpAll_tk b i x h
theorem dpAll_app {K : PySem.W.Frag} {H : Hp} : ∀ {xs ys : List V} {ds es : List PyData}, DpAll K H xs ds → DpAll K H ys es → DpAll K H (xs ++ ys) (ds ++ es)
  | _, _, _, _, .nil, h => h
  | _, _, _, _, .cons a b, h => .cons a (dpAll_app b h)
theorem dpAll_snoc {K : PySem.W.Frag} {H : Hp} {xs : List V} {ds : List PyData} {y : V} {e : PyData} (h : DpAll K H xs ds) (a : Dp K H y e) : DpAll K H (xs ++ [y]) (ds ++ [e]) := dpAll_app h (.cons a .nil)
/-- a list of data that can't be changed itself -/
def LD (K : PySem.W.Frag) (H : Hp) (a : Addr) (ds : List PyData) : Prop := ∃ xs, H a = some (.lst xs) ∧ DpAll K H xs ds
theorem LD.dp {K : PySem.W.Frag} {H : Hp} {a : Addr} {ds : List PyData} (h : LD K H a ds) : Dp K H (.ref a) (.list ds) := by
  obtain ⟨xs, h1, h2⟩ := h
  exact .lst (SqL.of h1) h2
theorem LD.same {K : PySem.W.Frag} {H H' : Hp} {a : Addr} {ds : List PyData} (s : Same H H') (h : LD K H a ds) : LD K H' a ds := by
  obtain ⟨xs, h1, h2⟩ := h
  exact ⟨xs, s _ _ h1, dpAll_same s h2⟩
/-- where the list itself stands and all tuples do -/
theorem LD.kt {K : PySem.W.Frag} {H H' : Hp} {a : Addr} {ds : List PyData} (s : KT H H') (e : ∀ o, H a = some o → H' a = some o) (t : ∀ d, d ∈ ds → TD d) (h : LD K H a ds) : LD K H' a ds := by
  obtain ⟨xs, h1, h2⟩ := h
  exact ⟨xs, e _ h1, dpAll_kt s h2 t⟩
theorem LD.kp {K : PySem.W.Frag} {H H' : Hp} {a p : Addr} {o : HO} {ds : List PyData} (k : Kp p H H') (hp : H p = some o) (n : ¬ Fix o) (ne : a ≠ p) (t : ∀ d, d ∈ ds → TD d) (h : LD K H a ds) : LD K H' a ds :=
  h.kt (KT.kp k hp n) (fun u e => k _ _ ne e) t
/-- one more at the end -/
theorem LD.snoc {K : PySem.W.Frag} {H H1 : Hp} {a : Addr} {xs : List V} {ds : List PyData} {y : V} {e : PyData} (k : KT H H1) (h1 : H1 a = some (.lst xs)) (hd : DpAll K H xs ds) (t : ∀ d, d ∈ ds → TD d) (hy : Dp K H1 y e) (te : TD e) :
    LD K (upd H1 a (.lst (xs ++ [y]))) a (ds ++ [e]) :=
  ⟨_, upd_same, dpAll_snoc (dpAll_kt (k.trans (KT.put h1 nfix_lst)) hd t) (dp_kt (KT.put h1 nfix_lst) hy te)⟩
theorem shaped_of {d : PyData} (h1 : d.canLay0 = true) (h2 : d.depth ≤ 64) : SeqAt.shaped d = true := by
  unfold SeqAt.shaped
  rw [h1, decide_eq_true h2]
  rfl
theorem if_f {A B : Prop} (h : B) : if false = true then A else B := by
  rw [if_neg (by decide)]
  exact h
theorem if_t {A B : Prop} (h : A) : if true = true then A else B := by
  rw [if_pos rfl]
  exact h
theorem atI_mem {xs : List Int} {i : Int} (h0 : 0 ≤ i) (h1 : i < xs.length) : ∃ v, v ∈ xs ∧ atI (xs.map V.int) i = some (.int v) := by
  have hn : i.toNat < xs.length := by omega
  obtain ⟨j, rfl⟩ : ∃ j : Nat, i = (j : Int) := ⟨i.toNat, by omega⟩
  have hj : j < xs.length := by omega
  refine ⟨xs[j], List.getElem_mem hj, atI_nat ?_⟩
  rw [List.getElem?_map, List.getElem?_eq_getElem hj]
  rfl
end Tg

namespace Tg
open PySem L2
/-! ### rows: time, number, worth or none -/
abbrev Rw := Int × Int × Option Int
def Lt (x y : Rw) : Prop := x.1 < y.1 ∨ (x.1 = y.1 ∧ x.2.1 < y.2.1)
def Srt (rs : List Rw) : Prop := rs.Pairwise Lt
theorem Lt.irr (x : Rw) : ¬ Lt x x := fun h => by
  rcases h with h | h
  · omega
  · omega
theorem Srt.sub {rs : List Rw} (h : Srt rs) (p : Rw → Bool) : Srt (rs.filter p) := List.Pairwise.filter p h
/-- r is the last row of its time with a number up to n -/
def IsLast (rs : List Rw) (n : Int) (r : Rw) : Prop := r ∈ rs ∧ r.2.1 ≤ n ∧ ∀ q, q ∈ rs → q.1 = r.1 → q.2.1 ≤ n → q.2.1 ≤ r.2.1
theorem srt_tri {rs : List Rw} (h : Srt rs) {a b : Rw} (ha : a ∈ rs) (hb : b ∈ rs) : a = b ∨ Lt a b ∨ Lt b a := by
  induction rs with
  | nil => cases ha
  | cons x r ih =>
    have ⟨h1, h2⟩ := List.pairwise_cons.mp (show (x :: r).Pairwise Lt from h)
    rcases List.mem_cons.mp ha with e1 | a1
    · rcases List.mem_cons.mp hb with e2 | b1
      · exact .inl (e1.trans e2.symm)
      · rw [e1]
        exact .inr (.inl (h1 b b1))
    · rcases List.mem_cons.mp hb with e2 | b1
      · rw [e2]
        exact .inr (.inr (h1 a a1))
      · exact ih h2 a1 b1
theorem srt_same {rs : List Rw} (h : Srt rs) {a b : Rw} (ha : a ∈ rs) (hb : b ∈ rs) (e1 : a.1 = b.1) (e2 : a.2.1 = b.2.1) : a = b := by
  rcases srt_tri h ha hb with e | (e | e) | (e | e)
  · exact e
  · omega
  · omega
  · omega
  · omega
theorem last_uniq {rs : List Rw} (h : Srt rs) {n : Int} {a b : Rw} (ha : IsLast rs n a) (hb : IsLast rs n b) (e : a.1 = b.1) : a = b := by
  have h1 := ha.2.2 b hb.1 e.symm hb.2.1
  have h2 := hb.2.2 a ha.1 e ha.2.1
  exact srt_same h ha.1 hb.1 e (by omega)
theorem Srt.nodup {rs : List Rw} (h : Srt rs) : rs.Nodup := by
  unfold List.Nodup
  refine List.Pairwise.imp (fun {a b} (l : Lt a b) => ?_) h
  intro e
  rw [← e] at l
  exact Lt.irr a l
/-! ### tables by times -/
def putL {α : Type} (m : List (Int × α)) (t : Int) (a : α) : List (Int × α) := if (m.any fun p => decide (p.1 = t)) = true then m.map (fun p => if p.1 = t then (p.1, a) else p) else m ++ [(t, a)]
theorem mem_putL {α : Type} {m : List (Int × α)} {t : Int} {a : α} {p : Int × α} : p ∈ putL m t a ↔ p = (t, a) ∨ (p ∈ m ∧ ¬ p.1 = t) := by
  unfold putL
  by_cases c : (m.any fun p => decide (p.1 = t)) = true
  · rw [if_pos c]
    obtain ⟨q, hq, eq⟩ := List.any_eq_true.mp c
    have eq := of_decide_eq_true eq
    constructor
    · intro h
      obtain ⟨x, hx, e⟩ := List.mem_map.mp h
      by_cases d : x.1 = t
      · rw [if_pos d, d] at e
        exact .inl e.symm
      · rw [if_neg d] at e
        subst e
        exact .inr ⟨hx, d⟩
    · rintro (rfl | ⟨h1, h2⟩)
      · exact List.mem_map.mpr ⟨q, hq, by rw [if_pos eq, eq]⟩
      · exact List.mem_map.mpr ⟨p, h1, by rw [if_neg h2]⟩
  · rw [if_neg c]
    constructor
    · intro there
      rcases List.mem_append.mp there with old | new
      · exact .inr ⟨old, fun z => c (List.any_eq_true.mpr ⟨p, old, decide_eq_true z⟩)⟩
      · exact .inl (List.mem_singleton.mp new)
    · rintro (rfl | ⟨h1, h2⟩)
      · exact List.mem_append_right _ (List.mem_singleton.mpr rfl)
      · exact List.mem_append_left _ h1
theorem putL_keys {α : Type} {m : List (Int × α)} {t : Int} {a : α} (h : m.Pairwise fun x y => x.1 < y.1) (le : ∀ p, p ∈ m → p.1 ≤ t) : (putL m t a).Pairwise fun x y => x.1 < y.1 := by
  unfold putL
  by_cases c : (m.any fun p => decide (p.1 = t)) = true
  · rw [if_pos c, List.pairwise_map]
    refine h.imp fun {x y} l => ?_
    by_cases d : x.1 = t
    · by_cases e : y.1 = t
      · rw [if_pos d, if_pos e]
        exact l
      · rw [if_pos d, if_neg e]
        exact l
    · by_cases e : y.1 = t
      · rw [if_neg d, if_pos e]
        exact l
      · rw [if_neg d, if_neg e]
        exact l
  · rw [if_neg c, List.pairwise_append]
    refine ⟨h, List.pairwise_singleton _ _, fun x hx y hy => ?_⟩
    rw [List.mem_singleton.mp hy]
    have h1 := le x hx
    have h2 : ¬ x.1 = t := fun z => c (List.any_eq_true.mpr ⟨x, hx, decide_eq_true z⟩)
    show x.1 < t
    omega
theorem putL_len {α : Type} {m : List (Int × α)} {t : Int} {a : α} : (putL m t a).length ≤ m.length + 1 := by
  unfold putL
  split
  · rw [List.length_map]
    omega
  · rw [List.length_append]
    exact Nat.le_refl _
/-- of each time the last row up to a number -/
def lwR (rs : List Rw) (n : Int) : List (Int × Rw) := rs.foldl (fun m r => if r.2.1 ≤ n then putL m r.1 r else m) []
theorem lwR_snoc (rs : List Rw) (n : Int) (r : Rw) : lwR (rs ++ [r]) n = if r.2.1 ≤ n then putL (lwR rs n) r.1 r else lwR rs n := by
  unfold lwR
  rw [List.foldl_append]
  rfl
theorem lwR_len (rs : List Rw) (n : Int) : (lwR rs n).length ≤ rs.length := by
  obtain ⟨k, hk⟩ : ∃ k, rs.length = k := ⟨_, rfl⟩
  induction k generalizing rs with
  | zero =>
    rw [List.length_eq_zero_iff.mp hk]
    exact Nat.le_refl _
  | succ k ih =>
    rcases List.eq_nil_or_concat rs with rfl | ⟨q, x, e⟩
    · exact Nat.zero_le _
    · rw [List.concat_eq_append] at e
      subst e
      rw [List.length_append] at hk ⊢
      have i1 := ih q (by simp at hk; exact hk)
      rw [lwR_snoc]
      have := putL_len (m := lwR q n) (t := x.1) (a := x)
      show _ ≤ q.length + 1
      split <;> omega
theorem lwR_is {n : Int} (rs : List Rw) (h : Srt rs) : ((lwR rs n).Pairwise fun x y => x.1 < y.1) ∧ ∀ p : Int × Rw, p ∈ lwR rs n ↔ p.1 = p.2.1 ∧ IsLast rs n p.2 := by
  obtain ⟨k, hk⟩ : ∃ k, rs.length = k := ⟨_, rfl⟩
  induction k generalizing rs with
  | zero =>
    rw [List.length_eq_zero_iff.mp hk]
    exact ⟨.nil, fun p => ⟨(fun z => absurd z List.not_mem_nil), (fun z => absurd z.2.1 List.not_mem_nil)⟩⟩
  | succ k ih =>
    rcases List.eq_nil_or_concat rs with rfl | ⟨q, x, e⟩
    · exact ⟨.nil, fun p => ⟨(fun z => absurd z List.not_mem_nil), (fun z => absurd z.2.1 List.not_mem_nil)⟩⟩
    · rw [List.concat_eq_append] at e
      subst e
      rw [List.length_append] at hk
      obtain ⟨h1, _, h3⟩ := List.pairwise_append.mp h
      have hx : ∀ y, y ∈ q → Lt y x := fun y hy => h3 y hy x (List.mem_singleton.mpr rfl)
      obtain ⟨i1, i2⟩ := ih q h1 (by simp at hk; exact hk)
      rw [lwR_snoc]
      by_cases c : x.2.1 ≤ n
      · rw [if_pos c]
        constructor
        · refine putL_keys i1 fun p hp => ?_
          obtain ⟨e1, e2⟩ := (i2 p).mp hp
          rcases hx p.2 e2.1 with l | l <;> omega
        · intro p
          rw [mem_putL]
          constructor
          · rintro (rfl | ⟨h4, h5⟩)
            · refine ⟨rfl, List.mem_append_right _ (List.mem_singleton.mpr rfl), c, fun y hy e4 _ => ?_⟩
              rcases List.mem_append.mp hy with h | h
              · rcases hx y h with l | l
                · have e4' : y.1 = x.1 := e4
                  omega
                · show y.2.1 ≤ x.2.1
                  omega
              · rw [List.mem_singleton.mp h]
                exact Int.le_refl _
            · obtain ⟨e1, e2, e3, e4⟩ := (i2 p).mp h4
              refine ⟨e1, List.mem_append_left _ e2, e3, fun y hy e5 e6 => ?_⟩
              rcases List.mem_append.mp hy with h | h
              · exact e4 y h e5 e6
              · rw [List.mem_singleton.mp h] at e5
                omega
          · rintro ⟨e1, e2, e3, e4⟩
            rcases List.mem_append.mp e2 with h | h
            · by_cases d : p.1 = x.1
              · exfalso
                have := e4 x (List.mem_append_right _ (List.mem_singleton.mpr rfl)) (by omega) c
                rcases hx p.2 h with l | l <;> omega
              · exact .inr ⟨(i2 p).mpr ⟨e1, h, e3, fun y hy => e4 y (List.mem_append_left _ hy)⟩, d⟩
            · left
              have e := List.mem_singleton.mp h
              obtain ⟨p1, p2⟩ := p
              have e' : p2 = x := e
              rw [e'] at e1 ⊢
              exact congrArg (fun z => (z, x)) e1
      · rw [if_neg c]
        refine ⟨i1, fun p => ?_⟩
        rw [i2 p]
        constructor
        · rintro ⟨e1, e2, e3, e4⟩
          refine ⟨e1, List.mem_append_left _ e2, e3, fun y hy e5 e6 => ?_⟩
          rcases List.mem_append.mp hy with h | h
          · exact e4 y h e5 e6
          · rw [List.mem_singleton.mp h] at e6
            exact absurd e6 c
        · rintro ⟨e1, e2, e3, e4⟩
          rcases List.mem_append.mp e2 with h | h
          · exact ⟨e1, h, e3, fun y hy => e4 y (List.mem_append_left _ hy)⟩
          · rw [List.mem_singleton.mp h] at e3
            exact absurd e3 c
/-- there is a last one -/
theorem last_of {rs : List Rw} (h : Srt rs) {n t : Int} {l : Rw} (e : (rs.filter fun q => decide (q.1 = t ∧ q.2.1 ≤ n)).getLast? = some l) : IsLast rs n l ∧ l.1 = t := by
  have ml := List.mem_of_getLast? e
  obtain ⟨m1, m2⟩ := List.mem_filter.mp ml
  obtain ⟨m3, m4⟩ := of_decide_eq_true m2
  refine ⟨⟨m1, m4, fun q hq e1 e2 => ?_⟩, m3⟩
  have mq : q ∈ rs.filter fun q => decide (q.1 = t ∧ q.2.1 ≤ n) := List.mem_filter.mpr ⟨hq, decide_eq_true ⟨by omega, e2⟩⟩
  have hs := h.sub fun q => decide (q.1 = t ∧ q.2.1 ≤ n)
  revert e mq hs
  generalize rs.filter (fun q => decide (q.1 = t ∧ q.2.1 ≤ n)) = fs
  intro e mq hs
  rcases List.eq_nil_or_concat fs with rfl | ⟨g, x, eg⟩
  · cases mq
  · rw [List.concat_eq_append] at eg
    subst eg
    rw [List.getLast?_concat] at e
    cases e
    rcases List.mem_append.mp mq with hg | hg
    · rcases (List.pairwise_append.mp hs).2.2 q hg l (List.mem_singleton.mpr rfl) with z | z <;> omega
    · rw [List.mem_singleton.mp hg]
      exact Int.le_refl _
theorem last_there {rs : List Rw} (h : Srt rs) {n : Int} {r : Rw} (hr : r ∈ rs) (hn : r.2.1 ≤ n) : ∃ l, IsLast rs n l ∧ l.1 = r.1 := by
  cases e : (rs.filter fun q => decide (q.1 = r.1 ∧ q.2.1 ≤ n)).getLast? with
  | some l => exact ⟨l, last_of h e⟩
  | none =>
    rw [List.getLast?_eq_none_iff] at e
    have : r ∈ rs.filter fun q => decide (q.1 = r.1 ∧ q.2.1 ≤ n) := List.mem_filter.mpr ⟨hr, decide_eq_true ⟨rfl, hn⟩⟩
    rw [e] at this
    cases this
/-! ### rising lists are told by their members -/
theorem ext_sorted {α : Type} {lt : α → α → Prop} (irr : ∀ a, ¬ lt a a) (tr : ∀ a b c, lt a b → lt b c → lt a c) : ∀ {xs ys : List α}, xs.Pairwise lt → ys.Pairwise lt → (∀ a, a ∈ xs ↔ a ∈ ys) → xs = ys
  | [], [], _, _, _ => rfl
  | [], y :: ys, _, _, h => nomatch (h y).mpr List.mem_cons_self
  | x :: xs, [], _, _, h => nomatch (h x).mp List.mem_cons_self
  | x :: xs, y :: ys, h1, h2, h => by
    obtain ⟨a1, a2⟩ := List.pairwise_cons.mp h1
    obtain ⟨b1, b2⟩ := List.pairwise_cons.mp h2
    have e : x = y := by
      rcases List.mem_cons.mp ((h x).mp List.mem_cons_self) with z | z
      · exact z
      · rcases List.mem_cons.mp ((h y).mpr List.mem_cons_self) with u | u
        · exact u.symm
        · exact absurd (tr _ _ _ (a1 y u) (b1 x z)) (irr x)
    subst e
    refine congrArg (x :: ·) (ext_sorted irr tr a2 b2 fun a => ?_)
    constructor
    · intro ha
      rcases List.mem_cons.mp ((h a).mp (List.mem_cons_of_mem _ ha)) with z | z
      · rw [z] at ha
        exact absurd (a1 x ha) (irr x)
      · exact z
    · intro ha
      rcases List.mem_cons.mp ((h a).mpr (List.mem_cons_of_mem _ ha)) with z | z
      · rw [z] at ha
        exact absurd (b1 x ha) (irr x)
      · exact z
/-! ### what is known -/
def kn (rs : List Rw) (n : Int) : List (Int × Int) := (lwR rs n).filterMap fun p => p.2.2.2.map fun w => (p.1, w)
theorem mem_kn {rs : List Rw} (h : Srt rs) {n : Int} {x : Int × Int} : x ∈ kn rs n ↔ ∃ r, IsLast rs n r ∧ r.1 = x.1 ∧ r.2.2 = some x.2 := by
  unfold kn
  rw [List.mem_filterMap]
  constructor
  · rintro ⟨p, hp, e⟩
    obtain ⟨e1, e2⟩ := ((lwR_is rs h).2 p).mp hp
    obtain ⟨w, e3, rfl⟩ := Option.map_eq_some_iff.mp e
    exact ⟨p.2, e2, e1.symm, e3⟩
  · rintro ⟨r, h1, h2, h3⟩
    refine ⟨(r.1, r), ((lwR_is rs h).2 _).mpr ⟨rfl, h1⟩, ?_⟩
    rw [h3, h2]
    rfl
theorem kn_srt {rs : List Rw} (h : Srt rs) (n : Int) : (kn rs n).Pairwise fun x y => x.1 < y.1 := by
  unfold kn
  rw [List.pairwise_filterMap]
  refine (lwR_is rs h).1.imp fun {a b} l x hx y hy => ?_
  obtain ⟨w, _, rfl⟩ := Option.map_eq_some_iff.mp hx
  obtain ⟨u, _, rfl⟩ := Option.map_eq_some_iff.mp hy
  exact l
theorem kn_len (rs : List Rw) (n : Int) : (kn rs n).length ≤ rs.length := Nat.le_trans (List.length_filterMap_le _ _) (lwR_len rs n)
theorem kn_ext {rs qs : List Rw} (h1 : Srt rs) (h2 : Srt qs) {n m : Int} (h : ∀ r, r.2.2 ≠ none → (IsLast rs n r ↔ IsLast qs m r)) : kn rs n = kn qs m := by
  refine ext_sorted (lt := fun x y => x.1 < y.1) (fun a => Int.lt_irrefl _) (fun a b c => Int.lt_trans) (kn_srt h1 n) (kn_srt h2 m) fun x => ?_
  rw [mem_kn h1, mem_kn h2]
  constructor
  · rintro ⟨r, a, b, c⟩
    exact ⟨r, (h r (by rw [c]; simp)).mp a, b, c⟩
  · rintro ⟨r, a, b, c⟩
    exact ⟨r, (h r (by rw [c]; simp)).mpr a, b, c⟩
/-! ### what is needed -/
instance (rs : List Rw) (n : Int) (r : Rw) : Decidable (IsLast rs n r) := by
  unfold IsLast
  exact inferInstance
def Need (rs : List Rw) (n : Int) (r : Rw) : Prop := n < r.2.1 ∨ (IsLast rs n r ∧ ¬ r.2.2 = none)
instance (rs : List Rw) (n : Int) (r : Rw) : Decidable (Need rs n r) := by
  unfold Need
  exact inferInstance
def fl (rs : List Rw) (n : Int) (r : Rw) : Bool := decide (Need rs n r)
def thin (rs : List Rw) (n : Int) : List Rw := rs.filter (fl rs n)
def ndl (rs : List Rw) (n : Int) : List Rw := rs.filter fun r => !fl rs n r
theorem thin_known {rs : List Rw} (h : Srt rs) {n m : Int} (le : n ≤ m) : kn (thin rs n) m = kn rs m := by
  refine kn_ext (h.sub _) h fun r hr => ?_
  constructor
  · rintro ⟨a1, a2, a3⟩
    obtain ⟨b1, b2⟩ := List.mem_filter.mp a1
    have b3 : Need rs n r := of_decide_eq_true b2
    refine ⟨b1, a2, fun q hq e1 e2 => ?_⟩
    by_cases c : n < q.2.1
    · exact a3 q (List.mem_filter.mpr ⟨hq, decide_eq_true (.inl c)⟩) e1 e2
    · rcases b3 with z | z
      · omega
      · exact z.1.2.2 q hq e1 (by omega)
  · rintro ⟨a1, a2, a3⟩
    refine ⟨List.mem_filter.mpr ⟨a1, decide_eq_true ?_⟩, a2, fun q hq e1 e2 => a3 q (List.mem_filter.mp hq).1 e1 e2⟩
    by_cases c : n < r.2.1
    · exact .inl c
    · exact .inr ⟨⟨a1, by omega, fun q hq e1 e2 => a3 q hq e1 (by omega)⟩, hr⟩
/-- a row left out is missed -/
theorem missed {rs : List Rw} (h : Srt rs) {n : Int} {row : Rw} (hm : row ∈ thin rs n) (hw : ¬ row.2.2 = none) {b : Int} (eb : b = max n row.2.1)
    (he : (((thin rs n).filter fun q => !decide (q = row)).filter fun q => decide (q.1 = row.1 ∧ q.2.1 ≤ b)).getLast?.map (·.2.2) ≠ some row.2.2) :
    kn ((thin rs n).filter fun q => !decide (q = row)) b ≠ kn (thin rs n) b := fun z => by
  have hl : Srt (thin rs n) := h.sub _
  have hf : Srt ((thin rs n).filter fun q => !decide (q = row)) := hl.sub _
  obtain ⟨w, ew⟩ : ∃ w, row.2.2 = some w := by
    cases e : row.2.2 with
    | none => exact absurd e hw
    | some w => exact ⟨w, rfl⟩
  have last : IsLast (thin rs n) b row := by
    refine ⟨hm, by omega, fun q hq e1 e2 => ?_⟩
    obtain ⟨m1, m2⟩ := List.mem_filter.mp hm
    have nd : Need rs n row := of_decide_eq_true m2
    rcases nd with c | c
    · omega
    · have := c.1.2.1
      exact c.1.2.2 q (List.mem_filter.mp hq).1 e1 (by omega)
  have m1 : (row.1, w) ∈ kn (thin rs n) b := (mem_kn hl).mpr ⟨row, last, rfl, ew⟩
  rw [← z, mem_kn hf] at m1
  obtain ⟨r, r1, r2, r3⟩ := m1
  cases e : (((thin rs n).filter fun q => !decide (q = row)).filter fun q => decide (q.1 = row.1 ∧ q.2.1 ≤ b)).getLast? with
  | none =>
    rw [List.getLast?_eq_none_iff] at e
    have : r ∈ ((thin rs n).filter fun q => !decide (q = row)).filter fun q => decide (q.1 = row.1 ∧ q.2.1 ≤ b) := List.mem_filter.mpr ⟨r1.1, decide_eq_true ⟨r2, r1.2.1⟩⟩
    rw [e] at this
    cases this
  | some l =>
    obtain ⟨l1, l2⟩ := last_of hf e
    have el := last_uniq hf r1 l1 (by rw [l2]; exact r2)
    refine he ?_
    rw [e, ← el, ew]
    exact congrArg some r3
/-! ### the tables as dicts -/
def lwV (f : Rw → V) (rs : List Rw) (n : Int) : List (Key × V) := rs.foldl (fun m r => if r.2.1 ≤ n then putK m (Sum.inl r.1) (f r) else m) []
theorem lwV_snoc (f : Rw → V) (rs : List Rw) (n : Int) (r : Rw) : lwV f (rs ++ [r]) n = if r.2.1 ≤ n then putK (lwV f rs n) (Sum.inl r.1) (f r) else lwV f rs n := by
  unfold lwV
  rw [List.foldl_append]
  rfl
theorem putK_map (f : Rw → V) (m : List (Int × Rw)) (t : Int) (r : Rw) : putK (m.map fun p => ((Sum.inl p.1 : Key), f p.2)) (Sum.inl t) (f r) = (putL m t r).map fun p => ((Sum.inl p.1 : Key), f p.2) := by
  unfold putK putL
  have e : ((m.map fun p => ((Sum.inl p.1 : Key), f p.2)).any fun kv => decide (kv.1 = Sum.inl t)) = m.any fun p => decide (p.1 = t) := by
    rw [List.any_map]
    refine List.any_congr rfl fun p => ?_
    simp only [Function.comp_apply, Sum.inl.injEq]
  rw [e]
  by_cases c : (m.any fun p => decide (p.1 = t)) = true
  · rw [if_pos c, if_pos c, List.map_map, List.map_map]
    refine List.map_congr_left fun p _ => ?_
    simp only [Function.comp_apply]
    by_cases d : p.1 = t
    · rw [if_pos (congrArg Sum.inl d), if_pos d]
    · rw [if_neg (fun z => d (Sum.inl.inj z)), if_neg d]
  · rw [if_neg c, if_neg c, List.map_append]
    rfl
theorem lwV_eq (f : Rw → V) (rs : List Rw) (n : Int) : lwV f rs n = (lwR rs n).map fun p => ((Sum.inl p.1 : Key), f p.2) := by
  obtain ⟨k, hk⟩ : ∃ k, rs.length = k := ⟨_, rfl⟩
  induction k generalizing rs with
  | zero =>
    rw [List.length_eq_zero_iff.mp hk]
    rfl
  | succ k ih =>
    rcases List.eq_nil_or_concat rs with rfl | ⟨q, x, e⟩
    · rfl
    · rw [List.concat_eq_append] at e
      subst e
      rw [List.length_append] at hk
      have i1 := ih q (by simp at hk; exact hk)
      rw [lwV_snoc, lwR_snoc, i1]
      by_cases c : x.2.1 ≤ n
      · rw [if_pos c, if_pos c, putK_map]
      · rw [if_neg c, if_neg c]
theorem lwV_len (f : Rw → V) (rs : List Rw) (n : Int) : (lwV f rs n).length ≤ rs.length := by
  rw [lwV_eq, List.length_map]
  exact lwR_len rs n
theorem valV_of {f : Rw → V} : ∀ {m : List (Int × Rw)} {p : Int × Rw}, (m.Pairwise fun x y => x.1 < y.1) → p ∈ m → valV (m.map fun p => ((Sum.inl p.1 : Key), f p.2)) (Sum.inl p.1) = some (f p.2)
  | [], p, _, h => nomatch h
  | q :: m, p, .cons h1 h2, there => by
    rcases List.mem_cons.mp there with rfl | h
    · exact valV_pos rfl
    · rw [List.map_cons, valV_neg (fun z => by
        have := h1 p h
        have : q.1 = p.1 := Sum.inl.inj z
        omega)]
      exact valV_of h2 h
theorem lwV_last {f : Rw → V} {rs : List Rw} (h : Srt rs) {n : Int} {r : Rw} (hl : IsLast rs n r) : valV (lwV f rs n) (Sum.inl r.1 : Key) = some (f r) := by
  rw [lwV_eq]
  exact valV_of (p := (r.1, r)) (lwR_is rs h).1 (((lwR_is rs h).2 _).mpr ⟨rfl, hl⟩)
/-- the values of a list of unlike rows, as a function -/
theorem val_fun : ∀ (rs : List Rw) (xs : List V), rs.Nodup → ∃ f : Rw → V, ∀ (i : Nat) (r : Rw) (v : V), rs[i]? = some r → xs[i]? = some v → f r = v
  | [], xs, _ => ⟨fun _ => .non, fun i r v h => by simp at h⟩
  | r0 :: rs, [], _ => ⟨fun _ => .non, fun i r v _ h => by simp at h⟩
  | r0 :: rs, x :: xs, nd => by
    have n1 := (List.nodup_cons.mp nd).1
    obtain ⟨f, hf⟩ := val_fun rs xs (List.nodup_cons.mp nd).2
    refine ⟨fun r => if r = r0 then x else f r, fun i r v h1 h2 => ?_⟩
    cases i with
    | zero =>
      simp only [List.getElem?_cons_zero, Option.some.injEq] at h1 h2
      show (if r = r0 then x else f r) = v
      rw [if_pos h1.symm, h2]
    | succ i =>
      rw [List.getElem?_cons_succ] at h1 h2
      have ne : ¬ r = r0 := fun z => n1 (z ▸ List.mem_of_getElem? h1)
      show (if r = r0 then x else f r) = v
      rw [if_neg ne]
      exact hf i r v h1 h2
end Tg

namespace Tg
open PySem PySem.Spec PyProof.Rows L2
/-! ### rows and points as data -/
def dw : Option Int → PyData
  | none => .none
  | some i => .int i
def vw : Option Int → V
  | none => .non
  | some i => .int i
theorem dp_vw {K : PySem.W.Frag} {H : Hp} : ∀ o : Option Int, Dp K H (vw o) (dw o)
  | none => .non
  | some i => .int i
theorem dp_dw {K : PySem.W.Frag} {H : Hp} {v : V} : ∀ {o : Option Int}, Dp K H v (dw o) → v = vw o
  | none, h => by
    cases h
    rfl
  | some i, h => by
    cases h
    rfl
theorem vw_non (o : Option Int) : decide (vw o = .non) = o.isNone := by
  cases o with
  | none => rfl
  | some i => rfl
theorem td_dw : ∀ o : Option Int, TD (dw o)
  | none => .non
  | some i => .int i
theorem eq_dw (a b : Option Int) : PyData.eqv (dw a) (dw b) = decide (a = b) := by
  cases a with
  | none =>
    cases b with
    | none => rfl
    | some j => rfl
  | some i =>
    cases b with
    | none => rfl
    | some j =>
      show (i == j) = _
      by_cases c : i = j
      · rw [c, beq_self_eq_true, decide_eq_true rfl]
      · rw [beq_eq_false_iff_ne.mpr c, decide_eq_false fun z => c (Option.some.inj z)]
def rd (r : Rw) : PyData := .tuple [.int r.1, .int r.2.1, dw r.2.2]
def pd (x : Int × Int) : PyData := .tuple [.int x.1, .int x.2]
theorem td_rd (r : Rw) : TD (rd r) := .tup fun d hd => by
  simp only [List.mem_cons, List.not_mem_nil, or_false] at hd
  rcases hd with rfl | rfl | rfl
  · exact .int _
  · exact .int _
  · exact td_dw _
theorem td_rds (rs : List Rw) : ∀ d, d ∈ rs.map rd → TD d := fun d hd => by
  obtain ⟨x, _, rfl⟩ := List.mem_map.mp hd
  exact td_rd x
theorem td_pd (x : Int × Int) : TD (pd x) := .tup fun d hd => by
  simp only [List.mem_cons, List.not_mem_nil, or_false] at hd
  rcases hd with rfl | rfl
  · exact .int _
  · exact .int _
theorem td_pds (ps : List (Int × Int)) : ∀ d, d ∈ ps.map pd → TD d := fun d hd => by
  obtain ⟨x, _, rfl⟩ := List.mem_map.mp hd
  exact td_pd x
theorem dp_rd {K : PySem.W.Frag} {H : Hp} {v : V} {r : Rw} (h : Dp K H v (rd r)) : ∃ a, v = .ref a ∧ SqT K H a [.int r.1, .int r.2.1, vw r.2.2] := by
  cases h with
  | tup a b =>
    cases b with
    | cons h1 b =>
      cases b with
      | cons h2 b =>
        cases b with
        | cons h3 b =>
          cases b
          cases h1
          cases h2
          rw [dp_dw h3] at a
          exact ⟨_, rfl, a⟩
theorem rd_new {K : PySem.W.Frag} {H : Hp} {a : Addr} {r : Rw} (h : SqT K H a [.int r.1, .int r.2.1, vw r.2.2]) : Dp K H (.ref a) (rd r) := .tup h (.cons (.int _) (.cons (.int _) (.cons (dp_vw _) .nil)))
theorem pd_new {K : PySem.W.Frag} {H : Hp} {a : Addr} {x : Int × Int} (h : H a = some (.tup [.int x.1, .int x.2])) : Dp K H (.ref a) (pd x) := .tup (SqT.of h) (.cons (.int _) (.cons (.int _) .nil))
theorem lay_dw : ∀ o : Option Int, (dw o).canLay0 = true
  | none => rfl
  | some i => rfl
theorem dep_dw : ∀ o : Option Int, (dw o).depth = 0
  | none => rfl
  | some i => rfl
theorem lay_rd (r : Rw) : (rd r).canLay0 = true := by
  show (true && (true && ((dw r.2.2).canLay0 && true))) = true
  rw [lay_dw]
  rfl
theorem dep_rd (r : Rw) : (rd r).depth = 1 := by
  show max 0 (max 0 (max (dw r.2.2).depth 0)) + 1 = 1
  rw [dep_dw]
  rfl
theorem eq_rd (a b : Rw) : PyData.eqv (rd a) (rd b) = decide (a = b) := by
  show ((a.1 == b.1) && ((a.2.1 == b.2.1) && (PyData.eqv (dw a.2.2) (dw b.2.2) && true))) = _
  rw [eq_dw]
  by_cases c : a = b
  · subst c
    rw [beq_self_eq_true, beq_self_eq_true, decide_eq_true rfl, decide_eq_true rfl]
    rfl
  · rw [decide_eq_false c]
    by_cases c1 : a.1 = b.1
    · by_cases c2 : a.2.1 = b.2.1
      · by_cases c3 : a.2.2 = b.2.2
        · exact absurd (Prod.ext c1 (Prod.ext c2 c3)) c
        · rw [decide_eq_false c3]
          simp
      · rw [beq_eq_false_iff_ne.mpr c2]
        simp
    · rw [beq_eq_false_iff_ne.mpr c1]
      rfl
/-- lists of things of such a form -/
theorem form_all {α : Type} {f : α → PyData} (h1 : ∀ x, (f x).canLay0 = true) (h2 : ∀ x, (f x).depth ≤ 1) (h3 : ∀ x, PyData.eqv (f x) (f x) = true) (xs : List α) :
    PyData.canLayAll0 (xs.map f) = true ∧ PyData.depthAll (xs.map f) ≤ 1 ∧ PyData.eqvAll (xs.map f) (xs.map f) = true := by
  induction xs with
  | nil => exact ⟨rfl, Nat.zero_le _, rfl⟩
  | cons x r ih =>
    obtain ⟨i1, i2, i3⟩ := ih
    refine ⟨?_, ?_, ?_⟩
    · show ((f x).canLay0 && PyData.canLayAll0 (r.map f)) = true
      rw [h1, i1]
      rfl
    · show max (f x).depth (PyData.depthAll (r.map f)) ≤ 1
      have := h2 x
      omega
    · show (PyData.eqv (f x) (f x) && PyData.eqvAll (r.map f) (r.map f)) = true
      rw [h3, i3]
      rfl
theorem form_list {α : Type} {f : α → PyData} (h1 : ∀ x, (f x).canLay0 = true) (h2 : ∀ x, (f x).depth ≤ 1) (h3 : ∀ x, PyData.eqv (f x) (f x) = true) (xs : List α) : SeqAt.shaped (.list (xs.map f)) = true ∧ PyData.eqv (.list (xs.map f)) (.list (xs.map f)) = true := by
  obtain ⟨a, b, c⟩ := form_all h1 h2 h3 xs
  refine ⟨shaped_of a ?_, c⟩
  show PyData.depthAll (xs.map f) + 1 ≤ 64
  omega
theorem ref_rd (r : Rw) : PyData.eqv (rd r) (rd r) = true := by
  rw [eq_rd]
  exact decide_eq_true rfl
theorem rds_form (rs : List Rw) : SeqAt.shaped (.list (rs.map rd)) = true ∧ PyData.eqv (.list (rs.map rd)) (.list (rs.map rd)) = true := form_list lay_rd (fun r => Nat.le_of_eq (dep_rd r)) ref_rd rs
theorem ref_pd (x : Int × Int) : PyData.eqv (pd x) (pd x) = true := by
  show ((x.1 == x.1) && ((x.2 == x.2) && true)) = true
  rw [beq_self_eq_true, beq_self_eq_true]
  rfl
theorem pds_form (ps : List (Int × Int)) : SeqAt.shaped (.list (ps.map pd)) = true ∧ PyData.eqv (.list (ps.map pd)) (.list (ps.map pd)) = true := form_list (f := pd) (fun _ => rfl) (fun _ => Nat.le_refl 1) ref_pd ps
theorem sh_rd (r : Rw) : SeqAt.shaped (rd r) = true := shaped_of (lay_rd r) (by rw [dep_rd]; decide)
theorem dl_at {α : Type} {f : α → PyData} {K : PySem.W.Frag} {H : Hp} {xs : List V} {ps : List α} (h : DpAll K H xs (ps.map f)) {i : Nat} {v : V} (e : xs[i]? = some v) : ∃ x, ps[i]? = some x ∧ Dp K H v (f x) := by
  obtain ⟨d, h1, h2⟩ := dpAll_at h i v e
  rw [List.getElem?_map] at h1
  obtain ⟨x, h3, rfl⟩ := Option.map_eq_some_iff.mp h1
  exact ⟨x, h3, h2⟩
theorem dl_get {α : Type} {f : α → PyData} {K : PySem.W.Frag} {H : Hp} {xs : List V} {ps : List α} (h : DpAll K H xs (ps.map f)) {i : Nat} {x : α} (e : ps[i]? = some x) : ∃ v, xs[i]? = some v ∧ Dp K H v (f x) := dpAll_tk h i (f x) (by rw [List.getElem?_map, e]; rfl)
theorem dl_len {α : Type} {f : α → PyData} {K : PySem.W.Frag} {H : Hp} {xs : List V} {ps : List α} (h : DpAll K H xs (ps.map f)) : xs.length = ps.length := by
  have := dpAll_len h
  rw [List.length_map] at this
  exact this
theorem nodup_len {α : Type} [DecidableEq α] : ∀ {rs L : List α}, rs.Nodup → (∀ r, r ∈ rs → r ∈ L) → rs.length ≤ L.length
  | [], L, _, _ => Nat.zero_le _
  | r :: rs, L, nd, h => by
    have n1 := (List.nodup_cons.mp nd).1
    have n2 := (List.nodup_cons.mp nd).2
    have hr : r ∈ L := h r List.mem_cons_self
    have i := nodup_len (rs := rs) (L := L.erase r) n2 fun q hq => (List.mem_erase_of_ne (fun z : q = r => n1 (by rw [← z]; exact hq))).mpr (h q (List.mem_cons_of_mem _ hq))
    rw [List.length_erase_of_mem hr] at i
    have := List.length_pos_of_mem hr
    show rs.length + 1 ≤ L.length
    omega
theorem take_snoc {α : Type} {L : List α} {i : Nat} {x : α} (h : L[i]? = some x) : L.take (i + 1) = L.take i ++ [x] := by
  rw [List.take_add_one, h]
  rfl
end Tg

namespace Tg
open PySem PySem.Spec PyProof.Rows L2
/-! ### a new thing that is only read from now on -/
section
variable {X : Cx} {e : Expr} {t : TE}
def tFrz (t : TE) : TE := fun σ H Q => t σ H fun x H1 => ∃ d u, x = .ref d ∧ H1 d = some u ∧ Mut (some u) ∧ ∀ od, Q x (upd H1 d (.frz od u))
theorem pe_frz (h : PE X e t) : PE X e (tFrz t) := by
  constructor
  intro pins s σ H Q I read
  refine thn (h.run pins s σ H _ I read) fun v s1 y => ?_
  obtain ⟨x, H1, J, r, d, u, ex, hd, mu, q⟩ := y
  obtain ⟨od, J2⟩ := J.lock hd mu
  exact ⟨x, _, J2, r, q od⟩
/-- a statement that is never reached -/
theorem ps_dead {st : Stmt} : PS X st (fun _ _ _ => False) := ⟨fun _ _ _ _ _ _ h => h.elim⟩
end
end Tg

set_option maxHeartbeats 2000000
namespace Tg
open PySem PySem.Spec PyProof.Rows L2
/-! ### a caught exception that is kept in a name: try: .. except T as e: kept = e -/
/-- the exception of the class cls, its dict at d, at a -/
def ExV (cls : Value) (d : Option Addr) (a : Addr) : HO := .ext fun h => ∃ (oe : Obj) (vs : Array Value), h.get? a = some oe ∧ Zc cls d oe ∧ oe.data = .fields vs
theorem exV_ok {P : Program} {w : World} {H : Hp} {h : Heap} {a : Addr} {cls : Value} {d : Option Addr} {oe : Obj} {vs : Array Value} (e : h.get? a = some oe) (z : Zc cls d oe) (q : oe.data = .fields vs) : ObjOk P w H h a (ExV cls d a) := by
  refine ⟨⟨oe, vs, e, z, q⟩, ⟨oe, e⟩, fun h1 h2 y st => ?_⟩
  obtain ⟨o1, v1, e1, z1, q1⟩ := y
  exact ⟨o1, v1, st _ e1, z1, q1⟩
section
variable {X : Cx} {s : Shared} {H : Hp} {σ : L2.St} {pins : List (Addr × Obj)}
theorem track {a : Addr} {oe : Obj} {vs : Array Value} {o : HO} (I : Inv X pins σ H s) (h0 : X.s_0.heap.get? a = none) (he : s.heap.get? a = some oe) (hd : oe.data = .fields vs) (na : H a = none)
    (nL : a ≠ X.env.locals) (np : ∀ p, p ∈ X.pn ++ pins → p.1 ≠ a) (new : ObjOk X.prog X.w (upd H a o) s.heap a o) : Inv X pins σ (upd H a o) s where
  ok := I.ok
  os := I.os
  bare := I.bare
  base := {
    keep := I.base.keep
    slot := I.base.slot
    free := fun b u q n x => by
      rw [upd_ne (fun z => by rw [z, h0] at q; cases q)]
      exact I.base.free b u q n x
    there := I.base.there
    tups := fun b xs q => by
      have y := I.base.tups b xs q
      rw [upd_ne (ne_of_none y na)]
      exact y
    frzs := fun b u xs q => by
      have y := I.base.frzs b u xs q
      rw [upd_ne (ne_of_none y na)]
      exact y
    tbls := fun b ps q => by
      obtain ⟨m, y⟩ := I.base.tbls b ps q
      refine ⟨m, ?_⟩
      rw [upd_ne (ne_of_none y na)]
      exact y }
  loc := I.loc
  cell := I.cell
  free := by
    rw [upd_ne nL.symm]
    exact I.free
  freeC := fun x c e => by
    have nc : c ≠ a := fun z => by
      obtain ⟨v, y⟩ := I.cell x c e
      obtain ⟨oc, y1, y2⟩ := y
      rw [z, he] at y1
      cases y1
      rw [hd] at y2
      cases y2
    rw [upd_ne nc]
    exact I.freeC x c e
  pin := fun p hp => by
    obtain ⟨y1, y2, y3⟩ := I.pin p hp
    refine ⟨y1, ?_, y3⟩
    rw [upd_ne (np p hp)]
    exact y2
  hok := I.hok.laidN (fun _ _ z => z) na new
  len := I.len
/-- what is wanted of an exception of the body: its class is one that the clause takes; it is kept in slot j -/
def wKeep (Mt : Value → Prop) (i j : Nat) (D : Ends) : WX := fun cls d σ H => Mt cls ∧ ∀ a, H a = none → D.nx (((σ.set i (some (.ref a))).set j (some (.ref a))).set i none) (upd H a (ExV cls d a))
/-- the clause's test: its value takes each exception of such a class -/
def Tests (X : Cx) (test : Expr) (Mt : Value → Prop) : Prop := ∀ (a : Addr) (oe : Obj) (pn : List (Addr × Obj)) (s : Shared) (σ : L2.St) (H : Hp) (Q : Value → Shared → Prop) (E : Value → Shared → Prop),
  Inv (X.suite a ((a, oe) :: pn)) [] σ H s → s.heap.get? a = some oe → Mt oe.cls →
  (∀ (c : Value) (s' : Shared), (∀ b o, s.heap.get? b = some o → s'.heap.get? b = some o) → s'.os = s.os → s'.gens = s.gens → PySem.W.Looks (model X.prog X.w) s'.heap (excMatches (.ref a) c) true → Q c s') →
    wpAny (model X.prog X.w) (X.A.mark (some (.ref a))) (eval test X.env) Q E s
theorem flying_keeps {B : Heap} {l : List Env} {a : Addr} {Z : Obj → Prop} {h h' : Heap} (k : ∀ b o, h.get? b = some o → h'.get? b = some o) (f : HandSPX.FlyingZ B l a Z h) : HandSPX.FlyingZ B l a Z h' := by
  obtain ⟨f1, f2, f3, oe, vs, T, oT, ts, y1, y2, y3, y4, y5, y6, y7, y8, y9⟩ := f
  exact ⟨fun b o e => k _ _ (f1 b o e), f2, Heap.FunFrames.of_keeps (fun b o e _ => ⟨o, k _ _ e, rfl⟩) f3, oe, vs, T, oT, ts, k _ _ y1, y2, y3, y4, y5, y6, k _ _ y7, y8, y9⟩
variable {n y : Str} {i j : Nat} {body : List Stmt} {test : Expr} {py pn' ps' pos pos' : Pos} {tb : WX → TS} {Mt : Value → Prop}
/-- a try's body, whatever is wished of the exceptions that leave it -/
def Bodies (X : Cx) (body : List Stmt) (tb : WX → TS) : Prop := ∀ W pn xe, Takes (X.tr pn xe) W → PassesOwn (model X.prog X.w) X.A X.env xe → PSs (X.tr pn xe) body (tb W)
/-- the same state, one thing more (or less) pinned -/
theorem repin {Y Z : Cx} {p q : List (Addr × Obj)} (I : Inv Y p σ H s) (ok : Z.Ok) (e : Z = { Y with A := Z.A, calm := Z.calm, pn := Z.pn, xe := Z.xe }) (sub : ∀ r, r ∈ Z.pn ++ q → r ∈ Y.pn ++ p) : Inv Z q σ H s := by
  obtain ⟨_, f2, f3, f4, f5, f6, f7, f8, f9, f10, f11⟩ := I
  rw [e] at ok sub ⊢
  exact ⟨ok, f2, f3, f4, f5, f6, f7, f8, fun r hr => f9 r (sub r hr), f10, f11⟩
theorem ps_try_keep (top : X.stack = X.env :: X.outer) (own : X.env.frame = some X.env.locals) (noex : X.ex = []) (nd : X.N.Nodup) (at_i : X.N[i]? = some n) (at_j : X.N[j]? = some y) (loc_n : X.env.scope.names.lookup n = some .local)
    (loc_y : X.env.scope.names.lookup y = some .local) (takes : Tests X test Mt) (bodies : Bodies X body tb) (nodebug : (n == ("__debug__" : Str)) = false := by decide) (noclass : (n == ("__classdict__" : Str)) = false := by decide) :
    PS X (.Try body [.ExceptHandler (some test) (some n) [.Assign [.Name y py] (.Name n pn') ps'] pos'] [] [] pos) (fun D σ H => tb (wKeep Mt i j D) D σ H) := by
  constructor
  intro pins s σ H D I read
  have frames := I.ok.frames.trans (congrArg some top)
  refine wpAny_Try_except (wpAny_mono ((bodies (wKeep Mt i j D) (X.pn ++ pins) _ (fun u s' air => ?_) PassesOwn.looking).run [] s σ H D (I.toTry _) read) (fun f s1 z => ?_) (fun _ _ z => z))
  · obtain ⟨a, B, s0, _, σ0, H0, cls, d, rfl, J0, ground, up, sky, na, os, gens, takes_it, wish⟩ := air
    have J : Inv X pins σ0 H0 s0 := J0.ofTry I.ok
    rw [show (X.tr (X.pn ++ pins) _).stack = X.env :: X.outer from top] at sky ground
    refine Sky.land Zc.steady frames own sky fun h3 fly3 up3 => ?_
    have J3 := J.landed (s' := { s' with heap := h3 }) (B := B) (by rw [top]; exact ground) fly3.1 (up.trans up3) os gens
    obtain ⟨o3, v3, get3, kind3, data3⟩ := fly3.there
    -- it is none of the frames, and it wasn't there ahead of the try
    have noframe : a ∉ frs (X.env :: X.outer) := fun m => by
      obtain ⟨_, _, e, nofields⟩ := fly3.2.2.1.mem m
      cases get3.symm.trans e
      exact nofields _ data3
    have noloc : a ≠ X.env.locals := fun z => noframe (by
      rw [z]
      exact List.mem_filterMap.mpr ⟨X.env, List.mem_cons_self, own⟩)
    have noouter : a ∉ X.fs := fun m => noframe (by
      obtain ⟨env, h1, h2⟩ := List.mem_filterMap.mp m
      exact List.mem_filterMap.mpr ⟨env, .tail _ h1, h2⟩)
    have new0 : s0.heap.get? a = none := by
      rcases q : s0.heap.get? a with _ | o
      · rfl
      · exact nomatch (ground a o q noframe).symm.trans fly3.2.1
    have new : X.s_0.heap.get? a = none := by
      rcases q : X.s_0.heap.get? a with _ | o
      · rfl
      · exact (J.base.there a o q (by rw [noex]; exact List.not_mem_nil)).elim fun _ z => nomatch z.symm.trans new0
    have nopin : ∀ p, p ∈ X.pn ++ pins → p.1 ≠ a := fun p m z => by
      have there := (J.pin p m).1
      rw [z, new0] at there
      cases there
    refine wpAny_handleBy_cons (codeAny_handlers_test (takes a o3 _ _ σ0 H0 _ _ (J3.suite get3 data3 na noloc noouter) get3 (by rw [kind3.1]; exact takes_it) fun c s4 kp4 os4 gens4 match4 => match4.here ?_)) (fun z => nomatch z)
    refine codeAny_handlers_suite_as (HandSPX.lands_againZ (flying_keeps kp4 fly3) fun h5 fly5 up5 => ?_)
    have up4 : h3.UpToSlots s4.heap := fun b o z _ => ⟨o.slots, kp4 _ _ z⟩
    have J5 := J.landed (s' := { s4 with heap := h5 }) (B := B) (by rw [top]; exact ground) fly5.1 (((up.trans up3).trans up4).trans up5) (os4.trans os) (by rw [show ({ s4 with heap := h5 } : Shared).gens = s4.gens from rfl, gens4]; exact gens)
    obtain ⟨o5, v5, get5, kind5, data5⟩ := fly5.there
    refine store_ok (X := X.suite a ((a, o5) :: (X.pn ++ pins))) (v := .ref a) (J5.suite get5 data5 na noloc noouter) nd at_i (.inl loc_n) rfl (fun s6 J6 => ?_) (.inr loc_n)
    -- kept = e
    have keep : PSs (X.suite a ((a, o5) :: (X.pn ++ pins))) [.Assign [.Name y py] (.Name n pn') ps'] (tAsg (tVar i) (gName j)) := pss_one (ps_set nd at_j (.inl loc_y) (pe_var at_i (.inl loc_n) nodebug noclass) (by rfl) (.inr loc_y))
    have short : i < σ0.length := by
      rw [J.len]
      exact (List.getElem?_eq_some_iff.mp at_i).1
    refine wpAny_mono (keep.run [] s6 _ H0 { nx := fun σ7 H7 => σ7 = (σ0.set i (some (.ref a))).set j (some (.ref a)) ∧ H0 = H7, rt := fun _ _ => False, bk := fun _ _ => False, ct := fun _ _ => False } J6 ⟨.ref a, by rw [List.getElem?_set_self short], rfl, rfl⟩) (fun f s7 z => ?_) (fun _ _ z => z.elim)
    match f, z with
    | .next, ⟨_, _, J7, e7, eH⟩ =>
      subst e7
      subst eH
      refine gone_ok (repin (q := (a, o5) :: pins) J7 I.ok rfl fun r m => ?_) nd at_i loc_n fun s8 J8 => ?_
      · refine List.mem_append_left _ ?_
        rcases List.mem_append.mp m with m | m
        · exact .tail _ (List.mem_append_left _ m)
        · cases m with
          | head => exact .head _
          | tail _ m => exact .tail _ (List.mem_append_right _ m)
      · have get8 := (J8.pin (a, o5) (List.mem_append_right _ (.head _))).1
        have J9 : Inv X pins (((σ0.set i (some (.ref a))).set j (some (.ref a))).set i none) H0 s8 := repin J8 I.ok rfl fun r m => by
          rcases List.mem_append.mp m with m | m
          · exact List.mem_append_left _ m
          · exact List.mem_append_right _ (.tail _ m)
        exact ⟨_, _, track J9 new get8 data5 na noloc nopin (exV_ok get8 kind5 data5), wish a na⟩
    | .brk, ⟨_, _, _, z⟩ => exact z.elim
    | .cont, ⟨_, _, _, z⟩ => exact z.elim
    | .ret _, ⟨_, _, _, _, _, z⟩ => exact z.elim
  · match f, z with
    | .next, ⟨σ1, H1, J1, z⟩ => exact wpAny_execs_nil ⟨σ1, H1, J1.ofTry I.ok, z⟩
    | .brk, ⟨σ1, H1, J1, z⟩ => exact ⟨σ1, H1, J1.ofTry I.ok, z⟩
    | .cont, ⟨σ1, H1, J1, z⟩ => exact ⟨σ1, H1, J1.ofTry I.ok, z⟩
    | .ret _, ⟨v, σ1, H1, J1, rel, z⟩ => exact ⟨v, σ1, H1, J1.ofTry I.ok, rel, z⟩
end
end Tg

set_option maxHeartbeats 2000000
namespace Tg
open PySem PySem.Spec PyProof.Rows L2
section
variable {X : Cx} {x1 x2 x3 x4 : Str} {c1 c2 c3 c4 : Value} {p1 p2 p3 p4 pos : Pos}
theorem tests_one (hc : Names X x1 c1) : Tests X (.Name x1 p1) (fun cls => PySem.W.exmOne X.K cls c1 = some true) := by
  intro a oe pn s σ H Q E I he mt h
  have LT : PySem.W.Looks (model X.prog X.w) s.heap (typeOf (.ref a)) oe.cls := fun A Q E s k q => wpAny_typeOf_ref (k _ _ he) q
  have LM := PySem.W.exm_one (M := model X.prog X.w) I.kIn LT mt
  have told := h c1 s (fun _ _ z => z) rfl rfl LM
  rcases hc with ⟨gl, nodebug, own | ⟨none_, boot, noname⟩⟩
  · exact ld_glob (X := X.suite a ((a, oe) :: pn)) I gl own told nodebug
  · exact ld_blt (X := X.suite a ((a, oe) :: pn)) I gl none_ boot told noname nodebug
/-- own classes named one after the other -/
structure Glb (X : Cx) (x : Str) (c : Value) : Prop where
  gl : Gl X x
  mg : X.mg x = some c
  db : (x == ("__debug__" : Str)) = false := by decide
theorem glb_args {a : Addr} {oe : Obj} {pn : List (Addr × Obj)} {s : Shared} {σ : L2.St} {H : Hp} {E : Value → Shared → Prop} {pos : Pos} (I : Inv (X.suite a ((a, oe) :: pn)) [] σ H s) :
    ∀ {xs : List (Str × Pos)} {cs : List Value} {Q : List Value → Shared → Prop}, Paired (fun x c => Glb X x.1 c) xs cs → Q cs s →
      wpAny (model X.prog X.w) (X.A.mark (some (.ref a))) (spliced (backTo pos (starEach (xs.map fun x => .Name x.1 x.2) X.env))) Q E s
  | _, _, Q, .nil, q => args_nil q
  | (x, p) :: xs, c :: cs, Q, .cons g r, q => by
    refine args_cons (ld_glob (X := X.suite a ((a, oe) :: pn)) I g.gl g.mg (glb_args I r q) g.db) rfl
theorem tests_tup {xs : List (Str × Pos)} {cs : List Value} {kt : Nat} (hp : Paired (fun x c => Glb X x.1 c) xs cs) (hl : cs.length ≤ sizeLine)
    (hm : ∀ {h : Heap} {a tp : Addr} {cls : Value}, X.K.In h → PySem.W.Looks (model X.prog X.w) h (typeOf (.ref a)) cls → h.get? tp = some { cls := .type "tuple", data := .seq cs.toArray } → PySem.W.exmAny X.K cls cs = some true → PySem.W.Looks (model X.prog X.w) h (excMatches (.ref a) (.ref tp)) true) :
    Tests X (.Tuple (xs.map fun x => .Name x.1 x.2) kt pos) (fun cls => PySem.W.exmAny X.K cls cs = some true) := by
  intro a oe pn s σ H Q E I he mt h
  refine wpAny_Tuple_spliced (glb_args I hp ⟨hl, ?_⟩)
  have kk : ∀ b o, s.heap.get? b = some o → (s.heap.push { cls := .type "tuple", data := .seq cs.toArray }).get? b = some o := fun b o e => Heap.get?_push_of_some _ e
  have LT : PySem.W.Looks (model X.prog X.w) (s.heap.push { cls := .type "tuple", data := .seq cs.toArray }) (typeOf (.ref a)) oe.cls := fun A Q E s k q => wpAny_typeOf_ref (k _ _ (kk _ _ he)) q
  exact h _ _ kk rfl rfl (hm (I.kIn.keeps kk) LT (Heap.get?_push_size _ rfl) mt)
theorem tests_2 {kt : Nat} (h1 : Glb X x1 c1) (h2 : Glb X x2 c2) : Tests X (.Tuple [.Name x1 p1, .Name x2 p2] kt pos) (fun cls => PySem.W.exmAny X.K cls [c1, c2] = some true) :=
  tests_tup (xs := [(x1, p1), (x2, p2)]) (.cons h1 (.cons h2 .nil)) (by show 2 ≤ sizeLine; decide) fun X LT hp mt => PySem.W.exm_tup2 X LT hp mt
theorem tests_3 {kt : Nat} (h1 : Glb X x1 c1) (h2 : Glb X x2 c2) (h3 : Glb X x3 c3) : Tests X (.Tuple [.Name x1 p1, .Name x2 p2, .Name x3 p3] kt pos) (fun cls => PySem.W.exmAny X.K cls [c1, c2, c3] = some true) :=
  tests_tup (xs := [(x1, p1), (x2, p2), (x3, p3)]) (.cons h1 (.cons h2 (.cons h3 .nil))) (by show 3 ≤ sizeLine; decide) fun X LT hp mt => PySem.W.exm_tup3 X LT hp mt
theorem tests_4 {kt : Nat} (h1 : Glb X x1 c1) (h2 : Glb X x2 c2) (h3 : Glb X x3 c3) (h4 : Glb X x4 c4) : Tests X (.Tuple [.Name x1 p1, .Name x2 p2, .Name x3 p3, .Name x4 p4] kt pos) (fun cls => PySem.W.exmAny X.K cls [c1, c2, c3, c4] = some true) :=
  tests_tup (xs := [(x1, p1), (x2, p2), (x3, p3), (x4, p4)]) (.cons h1 (.cons h2 (.cons h3 (.cons h4 .nil)))) (by show 4 ≤ sizeLine; decide) fun X LT hp mt => PySem.W.exm_tup4 X LT hp mt
end
/-! ### what is asked of it later: a field, isinstance -/
section
variable {X : Cx} {e : Expr} {te : TE} {pos : Pos} {n : Str}
/-- kept.f -/
def tExf (K : PySem.W.Frag) (f : Str) (te : TE) : TE := fun σ H Q => te σ H fun x H1 => ∃ (a C dd : Addr) (fs : List (Str × V)) (v : V), x = .ref a ∧ H1 a = some (ExV (.ref C) (some dd) a) ∧ XfC K C ∧ PySem.W.findIn K (.ref C) f = some none ∧ H1 dd = some (.xd fs) ∧ fs.lookup f = some v ∧ Q v H1
theorem exV_inst {a C dd : Addr} {fs : List (Str × V)} {pins : List (Addr × Obj)} {σ : L2.St} {H : Hp} {s : Shared} (I : Inv X pins σ H s) (ea : H a = some (ExV (.ref C) (some dd) a)) (ed : H dd = some (.xd fs)) :
    ∃ (oe od : Obj) (m : Str → Option Value), PySem.W.InstAt s.heap a oe C (some od) ∧ (∀ f, RelO (fs.lookup f) (m f)) ∧ ∀ x, PySem.W.lookIn x od = some (m x) := by
  obtain ⟨⟨oe, vs, he, hz, hd⟩, _, _⟩ := (show ObjOk X.prog X.w H s.heap a (ExV (.ref C) (some dd) a) from I.hok a _ ea)
  obtain ⟨m, ns, rel⟩ := (show ObjOk X.prog X.w H s.heap dd (.xd fs) from I.hok dd _ ed)
  obtain ⟨od, get, look⟩ := lookIn_ns ns
  exact ⟨oe, od, m, ⟨he, hz.1, by unfold PySem.W.notCls; rw [hd] <;> rfl, by rw [hz.2]; exact get⟩, rel, look⟩
theorem pe_exf (he : PE X e te) (base : attributeBase e n X.env (eval e X.env) = eval e X.env := by rfl) : PE X (.Attribute e n pos) (tExf X.K n te) := by
  constructor
  intro pins s σ H Q I read
  refine attr_of base (thn (he.run pins s σ H _ I read) fun u s1 z => ?_)
  obtain ⟨_, H1, J, ru, a, C, dd, fs, v, rfl, ea, T, none_, ed, is_v, told⟩ := z
  obtain rfl : u = .ref a := ru
  obtain ⟨oe, od, m, inst, rel, look⟩ := exV_inst J ea ed
  have there := rel n
  rw [is_v] at there
  obtain ⟨w, mw, rw_⟩ := RelO.some_of there
  exact HandSPX.exc_get J.kIn inst T.ga T.gg T.exC (PySem.W.findObj_own T.hdC none_ rfl ((look n).trans (congrArg some mw))) (handed_of rw_) ⟨v, H1, J.tok _, rw_, told⟩
theorem cls_some {K : PySem.W.Frag} {D : Addr} (h : PySem.W.hasDictIn K D = true) : (PySem.W.clsIn K D).isSome = true := by
  obtain ⟨cd, hc, _⟩ := PySem.W.any_some h
  rw [hc]
  rfl
/-- isinstance(kept, c) -/
def rIsV (K : PySem.W.Frag) : List V → Hp → VK → Prop := fun xs H Q => ∃ (a D dd : Addr) (fs : List (Str × V)) (c : V) (cv : Value) (b : Bool), xs = [.ref a, c] ∧ H a = some (ExV (.ref D) (some dd) a) ∧ H dd = some (.xd fs) ∧ ExcC K D ∧ ClsV c cv ∧ PySem.W.kitOne K (.ref D) cv = some b ∧ Q (.bl b) H
theorem call_isV : CallR X (.builtin "isinstance") (rIsV X.K) := by
  rintro pins s σ H _ us Q I rel ⟨a, D, dd, fs, c, cv, b, rfl, ea, ed, C, cls, kit, told⟩
  match us, rel with
  | [_, _], .cons ra (.cons rc .nil) =>
    cases ra
    cases cls.eq rc
    obtain ⟨_, _, _, inst, _⟩ := exV_inst I ea ed
    exact PySem.W.kia_one (PySem.W.kitx_exc (cls_some C.hd) C.hg C.hk C.hs C.ha C.hn C.ht C.hm) I.kIn inst kit (fun z => nomatch z) fun tk => ⟨.bl b, H, I.tok tk, rfl, told⟩
/-- isinstance(kept, (c1, c2, ..)) -/
def rIsVT (K : PySem.W.Frag) : List V → Hp → VK → Prop := fun xs H Q => ∃ (a D dd tp : Addr) (fs : List (Str × V)) (cs : List V) (us : List Value) (b : Bool), xs = [.ref a, .ref tp] ∧ H a = some (ExV (.ref D) (some dd) a) ∧ H dd = some (.xd fs) ∧ ExcC K D ∧
  H tp = some (.tup cs) ∧ Paired ClsV cs us ∧ PySem.W.kitAny K (.ref D) us = some b ∧ Q (.bl b) H
theorem call_isVT : CallR X (.builtin "isinstance") (rIsVT X.K) := by
  rintro pins s σ H _ us Q I rel ⟨a, D, dd, tp, fs, cs, ws, b, rfl, ea, ed, C, tup, cls, kit, told⟩
  match us, rel with
  | [_, _], .cons ra (.cons rt .nil) =>
    cases ra
    cases rt
    obtain ⟨_, _, _, inst, _⟩ := exV_inst I ea ed
    obtain ⟨_, items, ri, ⟨oc, od, dt, sl⟩, get, is_tup, m, is_seq⟩ := (show ObjOk X.prog X.w H s.heap tp (.tup cs) from I.hok tp _ tup)
    cases ClsV.all cls ri
    cases is_tup
    cases is_seq
    exact PySem.W.kia_tup (PySem.W.kitx_exc (cls_some C.hd) C.hg C.hk C.hs C.ha C.hn C.ht C.hm) I.kIn inst get kit (fun z => nomatch z) fun tk => ⟨.bl b, H, I.tok tk, rfl, told⟩
end
end Tg

set_option maxHeartbeats 2000000
namespace Tg
open PySem PySem.Spec PyProof.Rows L2
/-! ### class X(ValueError): def __init__(self, at): ValueError.__init__(self, "..") ; self.at = at -/
def inCls (s : Stmt) (i : Nat) : Stmt := match s with
  | .ClassDef _ _ _ body _ _ _ _ _ _ _ => body.getD i (.Pass ⟨0, 0, 0, 0⟩)
  | _ => .Pass ⟨0, 0, 0, 0⟩
/-- what __init__ leaves: the field in a new dict -/
def spErr (C : Addr) (f : Str) : Sp := fun vs H Q _ => ∃ (a : Addr) (v : V), vs = [.ref a, v] ∧ H a = some (exo a C none) ∧ ∀ dx, H dx = none → dx ≠ a → Q .non (upd (upd H dx (exd dx [(f, v)])) a (exo a C (some dx)))
/-- what raise X(v) then leads to -/
theorem err_read {C : Addr} {f : Str} {ta : TE} {σ : L2.St} {H : Hp} {Q : XK} (h : ta σ H fun v H1 => ∀ (d : Addr) (H' : Hp), Same H1 H' → H1 d = none → H' d = some (.xd [(f, v)]) → Q (.ref C) (some d) H')
    (mono : ∀ {Q Q' : VK}, (∀ v H1, Q v H1 → Q' v H1) → ta σ H Q → ta σ H Q') : tMkO C (spErr C f) [] (tCons ta tNil) σ H Q := by
  refine mono (fun v H1 q => ⟨by show 1 ≤ 1000; decide, fun a na => ?_⟩) h
  refine ⟨a, v, rfl, upd_same, fun dx nd da => ⟨rfl, dx, [(f, v)], upd_same, ?_, ?_, ?_⟩⟩
  · rw [upd_ne da, upd_same]
  · rw [upd_ne da] at nd
    exact nd
  · have nd' : H1 dx = none := by
      rw [upd_ne da] at nd
      exact nd
    refine q dx _ (fun b o e => ?_) nd' upd_same
    have nb : b ≠ dx := ne_of_none e nd'
    have nba : b ≠ a := ne_of_none e na
    rw [upd_ne nb, del_ne nba, upd_ne nba, upd_ne nb, upd_ne nba]
    exact e
end Tg

set_option maxHeartbeats 2000000
namespace Tg
open PySem PySem.Spec PyProof.Rows L2
/-! ### a call by keywords that may raise, in a try -/
section
variable {X : Cx} {CX : CXT} {k : Nat} {f : Addr} {fd : FuncData} {ps ks : List Str} {sp : Sp} {E : L2.St → XK} {x : Str} {p pos : Pos} {kws : List Keyword} {tk : TA} {g : List Value → List Value → List Value} {gV : List V → List V → List V}
theorem pe_kwS (F : FnOk X.prog X.w X.K X.mg X.base CX k f fd ps sp) (room : Room k X.A) (gl : Gl X x) (at_x : X.mg x = some (.ref f)) (kept : PySem.W.keepIn X.K (.ref f) = true) (binds : KBn X.K fd ps 0 ks g gV) (lets : ∀ σ, PassesAt CX X σ (E σ)) (vals : PK X kws tk)
    (named : (backToKw pos (keywordEach kws X.env)).all (·.1.isSome) = true := by rfl) (names : (backToKw pos (keywordEach kws X.env)).filterMap (·.1) = ks := by rfl) (nodebug : (x == ("__debug__" : Str)) = false := by decide)
    (nostar : ((backTo pos (starEach [] X.env)).any (·.1) || (backToKw pos (keywordEach kws X.env)).any (·.1.isNone)) = false := by rfl) : PE X (.Call (.Name x p) [] kws pos) (fun σ H Q => tk σ H fun zs H2 => zs.length = ks.length ∧ sp (gV [] zs) H2 Q (E σ)) := by
  constructor
  intro pins s σ H Q I read
  refine wpAny_Call_Name_kw (ld_glob I gl at_x (PySem.W.callWith_KW0 (h₀ := X.base) I.ok.mod.kin kept named (thn (vals.run pos pins s σ H _ I read) fun ws s2 y => ?_) nostar) nodebug)
  obtain ⟨zs, H2, J, rel, many, told⟩ := y
  rw [names]
  refine ⟨J.kIn, wpAny_call (codeAny_mono (F.run X.A X.stack s2 H2 ⟨[], ks.zip ws⟩ (g [] ws) (gV [] zs) Q (E σ) room J.env0 (binds.to s2 [] ws J.kIn rfl (rel.length.symm.trans many)) (binds.rel (vs := []) (us := []) .nil rel) told) fun a s' z => ?_)⟩
  match a, z with
  | .error e, z => exact lets σ pins H2 s2 e s' J z
  | .ok (.ret u), z => exact J.after z
end
end Tg

set_option maxHeartbeats 2000000
namespace Tg
open PySem PySem.Spec PyProof.Rows L2
/-! ### own errors, and classes whose __init__ may raise, as a caller needs them -/
section
variable (P : Program) (w : World) (K : PySem.W.Frag) (mg : Str → Option Value) (base : Heap)
/-- the error x, of the class C over ValueError, made of one thing that is its field fld -/
def CalE (k : Nat) (x : Str) (C : Addr) (fld : Str) : Prop := ∃ fI fdI, OexC K C ∧ PySem.W.findIn K (.ref C) "__init__" = some (some (.ref fI)) ∧ PySem.W.typeIn K (.ref fI) = some (.type "function") ∧
  FnOk P w K mg base CX0 k fI fdI ["self", fld] (spErr C fld) ∧ Binds K fdI ["self", fld] [] ∧ mg x = some (.ref C)
/-- a def that may raise -/
def CalR (k : Nat) (x : Str) (ps : List Str) (sp : Sp) : Prop := ∃ f fd, FnOk P w K mg base (L2.CX P w) k f fd ps sp ∧ mg x = some (.ref f) ∧ PySem.W.keepIn K (.ref f) = true ∧ Binds K fd ps []
def CalRK (k : Nat) (x : Str) (ps ks : List Str) (is : List Nat) (sp : Sp) : Prop := ∃ f fd, FnOk P w K mg base (L2.CX P w) k f fd ps sp ∧ mg x = some (.ref f) ∧ PySem.W.keepIn K (.ref f) = true ∧ KBn K fd ps 0 ks (fun _ ws => prm is ws) (fun _ zs => prm is zs)
/-- a class whose __init__ may raise -/
def CalRC (k : Nat) (x : Str) (C : Addr) (ps : List Str) (sp : Sp) : Prop := ∃ f fd, FnOk P w K mg base (L2.CX P w) k f fd ps sp ∧ mg x = some (.ref C) ∧ Mk K C f ∧ Binds K fd ps []
def CalRCK (k : Nat) (x : Str) (C : Addr) (ps ks : List Str) (is : List Nat) (sp : Sp) : Prop := ∃ f fd, FnOk P w K mg base (L2.CX P w) k f fd ps sp ∧ mg x = some (.ref C) ∧ Mk K C f ∧ KBn K fd ps 1 ks (fun us ws => us ++ prm is ws) (fun vs zs => vs ++ prm is zs)
end
section
variable {X : Cx} {k : Nat} {ps ks : List Str} {is : List Nat} {sp : Sp} {x fld : Str} {C : Addr} {e : Expr} {es : List Expr} {p pos : Pos} {kws : List Keyword} {ta : TE} {t tk : TA} {W : WX}
theorem pm_err (c : CalE X.prog X.w X.K X.mg X.base k x C fld) (room : Room (k + 1) X.A) (gl : Gl X x) (he : PE X e ta) (nodebug : (x == ("__debug__" : Str)) = false := by decide)
    (star : starEach [e] X.env = (false, eval e X.env) :: starEach [] X.env := by rfl) : PMk X (.Call (.Name x p) [e] [] pos) (tMkO C (spErr C fld) [] (tCons ta tNil)) := by
  obtain ⟨fI, fdI, T, iC, tI, F, b, m⟩ := c
  exact pmk_oex T iC tI F room b .nil (fun _ _ _ _ _ _ _ z => z.elim) gl m (pa_cons he pa_nil star) nodebug star
/-- raise x(e), out of the def -/
def tErr (C : Addr) (fld : Str) (ta : TE) (E : XK) : TS := fun _ σ H => ta σ H fun v H1 => ∀ (d : Addr) (H' : Hp), Same H1 H' → H1 d = none → H' d = some (.xd [(fld, v)]) → E (.ref C) (some d) H'
/-- a call that may raise, in a def that lets it out -/
def tCalR (sp : Sp) (E : XK) (t : TA) : TE := fun σ H Q => t σ H fun vs H1 => sp vs H1 Q E
theorem pe_calR {E : XK} (c : CalR X.prog X.w X.K X.mg X.base k x ps sp) (hr : Room k X.A) (gl : Gl X x) (lets : Passes (L2.CX X.prog X.w) X E) (ha : PA X (e :: es) t) (nodebug : (x == ("__debug__" : Str)) = false := by decide)
    (star : starEach (e :: es) X.env = (false, eval e X.env) :: starEach es X.env := by rfl) (plain : (backTo pos (starEach es X.env)).any (·.1) = false := by rfl) : PE X (.Call (.Name x p) (e :: es) [] pos) (tCall sp [] E t) := by
  obtain ⟨f, fd, F, m, kp, b⟩ := c
  exact pe_call F hr gl m kp b .nil lets ha nodebug star plain
/-- the same in a try -/
theorem pe_calT (c : CalR X.prog X.w X.K X.mg X.base k x ps sp) (hr : Room k X.A) (gl : Gl X x) (tks : Takes X W) (ha : PA X (e :: es) t) (nodebug : (x == ("__debug__" : Str)) = false := by decide)
    (star : starEach (e :: es) X.env = (false, eval e X.env) :: starEach es X.env := by rfl) (plain : (backTo pos (starEach es X.env)).any (·.1) = false := by rfl) : PE X (.Call (.Name x p) (e :: es) [] pos) (tCallS sp (WE W) t) := by
  obtain ⟨f, fd, F, m, kp, b⟩ := c
  exact pe_callS F hr gl m kp b (fun σ => passAt tks σ) ha nodebug star plain
def tKwT (n : Nat) (sp : Sp) (is : List Nat) (W : WX) (tk : TA) : TE := fun σ H Q => tk σ H fun zs H2 => zs.length = n ∧ sp (prm is zs) H2 Q (WE W σ)
theorem pe_calKT (c : CalRK X.prog X.w X.K X.mg X.base k x ps ks is sp) (hr : Room k X.A) (gl : Gl X x) (tks : Takes X W) (vals : PK X kws tk)
    (named : (backToKw pos (keywordEach kws X.env)).all (·.1.isSome) = true := by rfl) (names : (backToKw pos (keywordEach kws X.env)).filterMap (·.1) = ks := by rfl) (nodebug : (x == ("__debug__" : Str)) = false := by decide)
    (nostar : ((backTo pos (starEach [] X.env)).any (·.1) || (backToKw pos (keywordEach kws X.env)).any (·.1.isNone)) = false := by rfl) : PE X (.Call (.Name x p) [] kws pos) (tKwT ks.length sp is W tk) := by
  obtain ⟨f, fd, F, m, kp, b⟩ := c
  exact pe_kwS (E := WE W) F hr gl m kp b (fun σ => passAt tks σ) vals named names nodebug nostar
/-! ### C(..), whose __init__ may raise, in a try -/
theorem made_or_raised {CX : CXT} {f : Addr} {fd : FuncData} {pins : List (Addr × Obj)} {σ : L2.St} {H : Hp} {s : Shared} {Q : VK} {E : L2.St → XK} {us zs : List Value} {kwv : List (Str × Value)} {vs : List V} (M : Mk X.K C f) (F : FnOk X.prog X.w X.K X.mg X.base CX k f fd ps sp)
    (room : Room (k + 1) X.A) (lets : PassesAt CX X σ (E σ)) (I : Inv X pins σ H s) (bound : ∀ s2 : Shared, X.K.In s2.heap → BindsTo s2 fd ⟨.ref (s.heap.objs.size + 1) :: us, kwv⟩ (ps.zip zs)) (rel : Vals (.ref (s.heap.objs.size + 1) :: vs) zs)
    (told : ∀ a d, H a = none → H d = none → d ≠ a → sp (.ref a :: vs) (upd (upd H d (.own a)) a (.ins C d [])) (fun v H2 => v = .non ∧ Q (.ref a) H2) (E σ)) : wpAny (model X.prog X.w) X.A (call (.ref C) us kwv) (EP X pins σ Q) X.xe s := by
  have new := I.made (C := C)
  have now := told _ _ (I.hok.fresh (Nat.le_succ s.heap.objs.size)) (I.hok.fresh (Nat.le_refl s.heap.objs.size)) (Nat.ne_of_lt (Nat.lt_succ_self _))
  have ran := F.run _ X.stack _ _ _ zs _ _ (E σ) (room.make C us kwv) (new.env0.make C us kwv) (bound _ new.kIn) rel now
  refine wpAny_call (make_map (f := f) I.kIn M.makes M.init (beq_iff_eq.mp M.fn) (codeAny_mono ran fun out s' z => ?_))
  match out, z with
  | .error err, z => exact lets pins _ _ err s' new z
  | .ok (.ret u), z =>
    obtain ⟨_, H3, J, r, rfl, q⟩ := new.after z
    exact ⟨r, .ref (s.heap.objs.size + 1), H3, J, rfl, q⟩
def tMkT (C : Addr) (sp : Sp) (W : WX) (t : TA) : TE := fun σ H Q => t σ H fun vs H1 => ∀ a d, H1 a = none → H1 d = none → d ≠ a → sp (.ref a :: vs) (upd (upd H1 d (.own a)) a (.ins C d [])) (fun v H2 => v = .non ∧ Q (.ref a) H2) (WE W σ)
theorem pe_mkT (c : CalRC X.prog X.w X.K X.mg X.base k x C ps sp) (room : Room (k + 1) X.A) (gl : Gl X x) (tks : Takes X W) (ha : PA X (e :: es) t) (nodebug : (x == ("__debug__" : Str)) = false := by decide)
    (star : starEach (e :: es) X.env = (false, eval e X.env) :: starEach es X.env := by rfl) (plain : (backTo pos (starEach es X.env)).any (·.1) = false := by rfl) : PE X (.Call (.Name x p) (e :: es) [] pos) (tMkT C sp W t) := by
  obtain ⟨f, fd, F, m, M, b⟩ := c
  constructor
  intro pins s σ H Q I read
  refine wpAny_Call_Name_kw (ld_glob I gl m (PySem.W.callWith_K (h₀ := X.base) I.ok.mod.kin M.kp (thn (ha.run pos pins s σ H _ I read) fun us s1 y => ?_) star plain) nodebug)
  obtain ⟨vs, H1, J, rel, told⟩ := y
  refine ⟨J.kIn, made_or_raised (E := WE W) (zs := .ref (s1.heap.objs.size + 1) :: us) M F room (passAt tks σ) J (fun s2 kin => ?_) (.cons rfl rel) told⟩
  have many : (V.ref (s1.heap.objs.size + 1) :: vs).length = ps.length := F.len _ _ _ _ (told _ _ (J.hok.fresh (Nat.le_succ s1.heap.objs.size)) (J.hok.fresh (Nat.le_refl s1.heap.objs.size)) (Nat.ne_of_lt (Nat.lt_succ_self _)))
  have z := b s2 (.ref (s1.heap.objs.size + 1) :: us) kin (by rw [List.append_nil, List.length_cons, ← rel.length]; exact many)
  rw [List.append_nil] at z
  exact z
def tMkKT (C : Addr) (n : Nat) (sp : Sp) (is : List Nat) (W : WX) (tk : TA) : TE := fun σ H Q => tk σ H fun zs H1 => zs.length = n ∧ ∀ a d, H1 a = none → H1 d = none → d ≠ a → sp (.ref a :: prm is zs) (upd (upd H1 d (.own a)) a (.ins C d [])) (fun v H2 => v = .non ∧ Q (.ref a) H2) (WE W σ)
theorem pe_mkKT (c : CalRCK X.prog X.w X.K X.mg X.base k x C ps ks is sp) (room : Room (k + 1) X.A) (gl : Gl X x) (tks : Takes X W) (vals : PK X kws tk)
    (named : (backToKw pos (keywordEach kws X.env)).all (·.1.isSome) = true := by rfl) (names : (backToKw pos (keywordEach kws X.env)).filterMap (·.1) = ks := by rfl) (nodebug : (x == ("__debug__" : Str)) = false := by decide)
    (nostar : ((backTo pos (starEach [] X.env)).any (·.1) || (backToKw pos (keywordEach kws X.env)).any (·.1.isNone)) = false := by rfl) : PE X (.Call (.Name x p) [] kws pos) (tMkKT C ks.length sp is W tk) := by
  obtain ⟨f, fd, F, m, M, b⟩ := c
  constructor
  intro pins s σ H Q I read
  refine wpAny_Call_Name_kw (ld_glob I gl m (PySem.W.callWith_KW0 (h₀ := X.base) I.ok.mod.kin M.kp named (thn (vals.run pos pins s σ H _ I read) fun ws s1 y => ?_) nostar) nodebug)
  obtain ⟨zs, H1, J, rel, many, told⟩ := y
  rw [names]
  exact ⟨J.kIn, made_or_raised (E := WE W) (us := []) (zs := .ref (s1.heap.objs.size + 1) :: prm is ws) M F room (passAt tks σ) J (fun s2 kin => b.to s2 [.ref (s1.heap.objs.size + 1)] ws kin rfl (rel.length.symm.trans many)) (.cons rfl (prm_rel rel is)) told⟩
end
end Tg

set_option maxHeartbeats 2000000
namespace Tg
open PySem PySem.Spec PyProof.Rows L2
/-! ### own exception classes over any built-in one, with an __init__ of their own -/
/-- what the written part says of the class at C, over the class with the mro bmB -/
structure ExcA (K : PySem.W.Frag) (C : Addr) (newId : String) (bmB : List Value) : Prop where
  cls : ∃ nm q N bs bm sn sub ab col dd k0 k1 k2 k3 k5, K.lookup C = some (excClassObj nm q C N bs bm true sn sub ab col dd k0 k1 k2 k3 k5 newId) ∧ PySem.W.excTail bmB bm = true
  sets : PySem.W.findIn K (.ref C) "__setattr__" = some (some (.builtin "object.__setattr__"))
  isExc : PySem.W.subIn K (.ref C) (.type "BaseException") = some true
  isCls : PySem.W.typeIn K (.ref C) = some (.type "type")
  kept : PySem.W.keepIn K (.ref C) = true
theorem ExcA.over {K : PySem.W.Frag} {C : Addr} {newId : String} {bmB : List Value} (T : ExcA K C newId bmB) : PySem.W.excOver K C bmB = true := by
  obtain ⟨nm, q, N, bs, bm, sn, sub, ab, col, dd, k0, k1, k2, k3, k5, at_C, tail⟩ := T.cls
  unfold PySem.W.excOver PySem.W.clsIn
  rw [at_C]
  show (C == C && PySem.W.excTail bmB bm) = true
  rw [tail, beq_self_eq_true]
  rfl
section
variable {X : Cx} {pins : List (Addr × Obj)} {σ : L2.St} {H : Hp} {s : Shared} {a C : Addr} {B newId initId : String} {bmB : List Value} {E : Value → Shared → Prop} {A : Around}
/-- B.__init__(self, ..) -/
theorem ini_call (FB : ExcBaseFacts B newId initId bmB) {us : List Value} {Q : Value → Shared → Prop} (T : ExcA X.K C newId bmB) (I : Inv X pins σ H s) (e : H a = some (exo a C none)) (few : us.length ≤ sizeLine) (told : ∀ s', Inv X pins σ H s' → Q .none s') :
    wpAny (model X.prog X.w) A (call (.builtin initId) (.ref a :: us)) Q E s := by
  have ⟨_, _, _, _, bm, _, _, _, _, _, _, _, _, _, _, at_C, tail⟩ := T.cls
  have ⟨t1, here⟩ := exo_at I.hok e
  obtain ⟨h, g, d, t, os⟩ := s
  refine wpAny_call (PySem.HandSPX.init_base FB (fun Y => PySem.W.excTail_contains Y bm tail) (I.kIn _ _ at_C) here few fun h' t2 rest now => told _ ?_)
  have J := I.write (t' := t) (x := a) (e := a) (o := exo a C none) (e ▸ True.intro) (.inl rfl) rest ⟨_, now⟩ (exo_ok now)
  have same : upd H a (exo a C none) = H := funext fun b => by
    by_cases q : b = a
    · subst q
      exact upd_same.trans e.symm
    · exact upd_ne q
  exact same ▸ J
/-- self.f = y, its first field -/
theorem set_first (SF : StoreFacts B bmB "object.__setattr__" "object") {f : Str} {y : V} {u : Value} {Q : Unit → Shared → Prop} (T : ExcA X.K C newId bmB) (I : Inv X pins σ H s) (e : H a = some (exo a C none)) (plain : PySem.W.findIn X.K (.ref C) f = some none) (ry : L2.RelV y u)
    (told : ∀ dx s', H dx = none → dx ≠ a → Inv X pins σ (upd (upd H dx (exd dx [(f, y)])) a (exo a C (some dx))) s' → Q () s') : wpAny (model X.prog X.w) A (setAttr (.ref a) f u) Q E s := by
  have ⟨nm, q, N, bs, bm, sn, sub, ab, col, dd, k0, k1, k2, k3, k5, at_C, tail⟩ := T.cls
  have ⟨t1, here⟩ := exo_at I.hok e
  obtain ⟨h, g, d, t, os⟩ := s
  have takes : PySem.W.takerIn X.K C f = some none := by
    unfold PySem.W.takerIn
    rw [plain]
    rfl
  have cls : ∃ cd, PySem.W.clsIn X.K C = some cd ∧ cd.hasDict = true := by
    unfold PySem.W.clsIn
    rw [at_C]
    exact ⟨_, rfl, rfl⟩
  obtain ⟨cd, is_cd, dict_cd⟩ := cls
  have as : a ≠ h.objs.size := Nat.ne_of_lt (Heap.lt_size here)
  refine PySem.W.set_plain I.kIn (od := none) ⟨here, rfl, rfl, trivial⟩ T.sets (PySem.W.osa_openX (od := none) SF (by exact I.kIn) ⟨here, rfl, rfl, trivial⟩ T.over takes fun b => ?_)
  refine wpAny_bind (wpAny_pure (wpAny_bind (PySem.W.instanceDict_exc here (PySem.W.looks_clsIn (by exact I.kIn) is_cd) dict_cd ?_)))
  show wpAny _ _ (Builtin.ObjectAttr.storeInDict h.objs.size (.str f _) f u) _ _ _
  refine PySem.HandSPX.store_in_new ⟨_, #[], _, (Heap.get?_update_ne _ _ _ _ as.symm).trans (Heap.get?_push_at rfl rfl), rfl, (fun e he => absurd he (by simp)), fun _ => rfl⟩ fun h' tk' ns sb => ?_
  have oldk : ∀ b o, b ≠ a → h.get? b = some o → h'.get? b = some o := fun b o ba q => (sb.2 b (Nat.ne_of_lt (Heap.lt_size q))).trans ((Heap.get?_update_ne _ _ _ _ ba).trans (Heap.get?_push_of_some _ q))
  have now := (sb.2 a as).trans (Heap.get?_update_self _ (Heap.get?_push_of_some _ here) rfl)
  have fresh : H h.objs.size = none := I.hok.fresh (Nat.le_refl _)
  have off_a : ∀ {b : Addr}, H b = none → b ≠ a := fun n z => by
    subst z
    exact nomatch n.symm.trans e
  have off_d : ∀ {b : Addr} {o : Obj}, h.get? b = some o → b ≠ h.objs.size := fun q => Nat.ne_of_lt (Heap.lt_size q)
  have stays : ∀ {b : Addr} {o : HO}, H b = some o → o ≠ exo a C none → upd (upd H h.objs.size (exd h.objs.size [(f, y)])) a (exo a C (some h.objs.size)) b = some o := fun q n => by
    rw [upd_ne (fun z => n (Option.some.inj ((z ▸ q.symm).trans e))), upd_ne (ne_of_none q fresh)]
    exact q
  refine told h.objs.size _ fresh as.symm (I.un (t' := tk') ⟨fun b o q n _ _ => oldk b o (off_a n) q, fun b o q n _ _ => ⟨o.slots, oldk b o (off_a n) q⟩, fun b o q n _ => ?_, fun b o q _ => ?_, fun b xs q => stays q exo_tup.symm, fun b o v q => stays q exo_frz.symm, fun b ps q => ⟨#[], ?_⟩⟩ fun b o q => ?_)
  · rw [upd_ne (off_a n), upd_ne (off_d q)]
    exact n
  · by_cases ba : b = a
    · subst ba
      exact ⟨_, now⟩
    · exact ⟨o, oldk b o ba q⟩
  · rw [Array.append_empty]
    exact stays q exo_tbl.symm
  · by_cases ba : b = a
    · subst ba
      cases upd_same.symm.trans q
      exact exo_ok now
    · rw [upd_ne ba] at q
      by_cases bd : b = h.objs.size
      · subst bd
        cases upd_same.symm.trans q
        exact exd_ok ns (relO_put (fs := []) ry fun _ => True.intro)
      · rw [upd_ne bd] at q
        refine (I.hok b o q).stay (fun c v who z => oldk c v (fun ca => ?_) z) (fun c z => stays z exo_own.symm) fun c xs z => stays z exo_tup.symm
        subst ca
        rcases who with rfl | own
        · exact ba rfl
        · exact exo_own (Option.some.inj (e.symm.trans own))
end
/-! ### the rows of such an __init__, and X(v) that is raised -/
/-- B.__init__(self, ..) -/
def tIniA (K : PySem.W.Frag) (newId : String) (bmB : List Value) (ta : TA) : TE := fun σ H Q => ta σ H fun vs H1 => ∃ (a C : Addr) (ws : List V), vs = .ref a :: ws ∧ ws.length ≤ 1000 ∧ ExcA K C newId bmB ∧ H1 a = some (exo a C none) ∧ Q .non H1
/-- self.f = e, the first field -/
def tFst (K : PySem.W.Frag) (newId : String) (bmB : List Value) (f : Str) (to te : TE) : TS := fun D σ H => te σ H fun y H1 => to σ H1 fun x H2 => ∃ a C : Addr, x = .ref a ∧ ExcA K C newId bmB ∧ PySem.W.findIn K (.ref C) f = some none ∧ H2 a = some (exo a C none) ∧
  ∀ dx, H2 dx = none → dx ≠ a → D.nx σ (upd (upd H2 dx (exd dx [(f, y)])) a (exo a C (some dx)))
section
variable {X : Cx} {o e : Expr} {es : List Expr} {to te : TE} {ta : TA} {f : Str} {p p' p1 p2 pos : Pos} {B newId initId : String} {bmB : List Value}
theorem ini_read (FB : ExcBaseFacts B newId initId bmB) {pins : List (Addr × Obj)} {σ : L2.St} {H : Hp} {s : Shared} {Q : VK} (I : Inv X pins σ H s) (args : PA X (e :: es) ta) (told : tIniA X.K newId bmB ta σ H Q)
    (one : starEach (e :: es) X.env = (false, eval e X.env) :: starEach es X.env) (nostar : (backTo pos (starEach es X.env)).any (·.1) = false) :
    wpAny (model X.prog X.w) X.A (callWith pos (Value.builtin initId) [] (backTo pos (starEach (e :: es) X.env)) []) (EP X pins σ Q) X.xe s := by
  refine PyProof.Rows.callWith_method1 (thn (args.run pos pins s σ H _ I told) fun us s1 come => ?_) one nostar
  obtain ⟨_, H1, J, rel, a, C, ws, rfl, few, T, at_a, q⟩ := come
  cases rel with
  | cons r0 rs =>
    cases r0
    exact ini_call FB T J at_a (by rw [← Paired.length rs, sizeLine_eq]; omega) fun s2 J2 => ⟨.non, H1, J2, rfl, q⟩
theorem pe_iniIE {pl : Sem Bool} (gl : Gl X "IndexError") (unset : X.mg "IndexError" = none) (own_ : PySem.W.findCls X.K (.type "IndexError") (.type "type") "__init__" = some (.val (.builtin "IndexError.__init__"))) (args : PA X (e :: es) ta)
    (met : eval (.Call (.Attribute (.Name "IndexError" p1) "__init__" p2) (e :: es) [] pos) X.env = (do
      let b ← eval (.Name "IndexError" p1) X.env
      standAt p2.atName
      let (g, ahead) ← holding [b] (getMethod b "__init__" pl)
      callWith pos g ahead (backTo pos (starEach (e :: es) X.env)) (backToKw pos (keywordEach [] X.env))) := by rfl)
    (one : starEach (e :: es) X.env = (false, eval e X.env) :: starEach es X.env := by rfl) (nostar : (backTo pos (starEach es X.env)).any (·.1) = false := by rfl) :
    PE X (.Call (.Attribute (.Name "IndexError" p1) "__init__" p2) (e :: es) [] pos) (tIniA X.K "IndexError.__new__" [.type "IndexError", .type "LookupError", .type "Exception", .type "BaseException", .type "object"] ta) := by
  constructor
  intro pins s σ H Q I told
  refine PySem.W.methodCall_KW (ld_blt I gl unset PyProof.Rows.Boot.«IndexError» ?_ (by decide) (by decide)) met
  obtain ⟨m, fr⟩ := I.fr
  exact PySem.W.method_type fr I.ok.mod.kin (by kernel_rfl) (by decide +kernel) own_ (by decide +kernel) (ini_read PySem.F.excBase_IndexError (I.tok _) args told one nostar)
theorem ps_fst (SF : StoreFacts B bmB "object.__setattr__" "object") (ho : PE X o to) (he : PE X e te) (plain : swapsWith e (some (.Attribute o f p')) pos.line X.env = pure false := by rfl) : PS X (.Assign [.Attribute o f p'] e pos) (tFst X.K newId bmB f to te) := by
  constructor
  intro pins s σ H D I told
  refine plainObj_wpAny_Assign_Attribute (thn (he.run pins s σ H _ I told) fun v s1 come => ?_) plain
  obtain ⟨y, H1, I1, ry, more⟩ := come
  refine thn (ho.run pins s1 σ H1 _ I1 more) fun u s2 come => ?_
  obtain ⟨_, H2, I2, rx, a, C, rfl, T, bare, at_a, q⟩ := come
  cases rx
  exact set_first SF T I2 at_a bare ry fun dx s3 n ne J => ⟨σ, _, J, q dx n ne⟩
/-- X(e), X's own __init__ keeping sp -/
theorem pmk_any (FB : ExcBaseFacts B newId initId bmB) {CX : CXT} {x : Str} {C fI : Addr} {k : Nat} {fd : FuncData} {ps : List Str} {sp : Sp} (T : ExcA X.K C newId bmB) (own_ : PySem.W.findIn X.K (.ref C) "__init__" = some (some (.ref fI))) (isDef : PySem.W.typeIn X.K (.ref fI) = some (.type "function"))
    (F1 : FnOk X.prog X.w X.K X.mg X.base CX k fI fd ps sp) (room : Room (k + 1) X.A) (binds : Binds X.K fd ps []) (lets : Passes CX X (fun _ _ _ => False)) (gl : Gl X x) (set_ : X.mg x = some (.ref C)) (args : PA X (e :: es) ta)
    (nodebug : (x == ("__debug__" : Str)) = false := by decide) (one : starEach (e :: es) X.env = (false, eval e X.env) :: starEach es X.env := by rfl) (nostar : (backTo pos (starEach es X.env)).any (·.1) = false := by rfl) :
    PMk X (.Call (.Name x p) (e :: es) [] pos) (tMkO C sp [] ta) := by
  intro pins s σ H Q I told
  have ⟨_, _, _, _, bm, _, _, _, _, _, _, _, _, _, _, at_C, tail⟩ := T.cls
  refine wpAny_Call_Name_kw (ld_glob I gl set_ (PySem.W.callWith_K (h₀ := X.base) I.ok.mod.kin T.kept (thn (args.run pos pins s σ H _ I told) fun us s1 come => ?_) one nostar) nodebug)
  obtain ⟨vs, H1, I1, rel, few, q1⟩ := come
  refine ⟨I1.kIn, ?_⟩
  change wpAny _ _ (call (Value.ref C) us) _ _ _
  obtain ⟨h, g, d, t, os⟩ := s1
  have up : h.objs.size ≤ h.objs.size + 1 := Nat.le_succ _
  have q := q1 _ (I1.hok.fresh up)
  let h2 := (h.push (PySem.W.kdv_tup us)).push (PySem.HandSPX.excO C h.objs.size)
  have old : ∀ b o, h.get? b = some o → h2.get? b = some o := fun b o e => Heap.get?_push_of_some _ (Heap.get?_push_of_some _ e)
  have made : h2.get? (h.objs.size + 1) = some (PySem.HandSPX.excO C h.objs.size) := by
    have e : (h.push (PySem.W.kdv_tup us)).objs.size = h.objs.size + 1 := size_push' _ _
    rw [← e]
    exact Heap.get?_push_size (h.push (PySem.W.kdv_tup us)) rfl
  have I2 : L2.Inv X pins σ (upd H1 (h.objs.size + 1) (exo (h.objs.size + 1) C none)) ⟨h2, g, d, t, os⟩ := I1.laid (t' := t) old up (exo_ok made)
  rw [List.append_nil] at q
  have rel2 : Vals (V.ref (h.objs.size + 1) :: vs) (Value.ref (h.objs.size + 1) :: us) := .cons rfl rel
  have many : (Value.ref (h.objs.size + 1) :: us).length = ps.length := rel2.length.symm.trans (F1.len _ _ _ _ q)
  have small : us.length ≤ sizeLine := by
    rw [← Paired.length rel, sizeLine_eq]
    omega
  have ran := F1.run _ X.stack _ _ ⟨Value.ref (h.objs.size + 1) :: us, []⟩ (Value.ref (h.objs.size + 1) :: us) _ _ (fun _ _ _ => False) (room.make C us []) (I2.env0.make C us []) (by
    have z := binds _ (Value.ref (h.objs.size + 1) :: us) I2.kIn (by rw [List.append_nil]; exact many)
    rw [List.append_nil] at z
    exact z) rel2 q
  refine wpAny_call (PySem.HandSPX.call_own FB (fun Y => PySem.W.excTail_contains Y bm tail) (I1.kIn _ _ at_C) (PySem.W.looks_findIn I1.kIn own_) (fun self => PySem.W.bind_fn I1.kIn self isDef) small (codeAny_mono ran fun out s' z => ?_))
  match out, z with
  | .error er, z => exact lets pins σ _ _ er s' I2 z
  | .ok (.ret u), z =>
    obtain ⟨_, H2, os2, bare2, un2, hok2, rv, rfl, dd, fs, ea, ed, n1, q2⟩ := z
    obtain ⟨h3, g3, d3, t3, os3⟩ := s'
    exact ⟨rv, mk_end (raises_own T.isExc T.isCls) I1 up old un2 hok2 os2 bare2 ea ed n1 q2⟩
end
end Tg

/-! a derivation with a told precondition in the place of the one that is read off -/
namespace Tg
open PySem PySem.Spec PyProof.Rows L2
theorem pss_by {X : Cx} {rest : List Stmt} {u R : TS} (h : PSs X rest u) (hr : ∀ D σ H, R D σ H → u D σ H) : PSs X rest R := ⟨fun pins s σ H D I hw => h.run pins s σ H D I (hr D σ H hw)⟩
theorem pe_by {X : Cx} {e : Expr} {u R : TE} (h : PE X e u) (hr : ∀ σ H Q, R σ H Q → u σ H Q) : PE X e R := ⟨fun pins s σ H Q I hw => h.run pins s σ H Q I (hr σ H Q hw)⟩
theorem pt_by {X : Cx} {e : Expr} {u R : TT} (h : PT X e u) (hr : ∀ σ H Q, R σ H Q → u σ H Q) : PT X e R := ⟨fun pins s σ H Q I hw => h.run pins s σ H Q I (hr σ H Q hw)⟩
end Tg

/-! f'{n:b}' and int(text, 2) -/
namespace Tg
open PySem PySem.Spec PyProof.Rows L2
/-- the signs of a number by twos -/
def binC (n : Nat) : List Nat := (Nat.toDigits 2 n).map Char.toNat
def fB : Builtin.Float.FormatSpec := { fill := 32, align := 62, type := some 98 }
theorem parse_b : Builtin.Float.parseFormatSpec (Str.ofString "b").cps.toList "int" 62 = .ok fB := by with_unfolding_all rfl
theorem ret_to {M : Model} {A : Around} {txt T : Str} {Q : PySem.Fin → Shared → Prop} {E : Value → Shared → Prop} {s : Shared} (e : txt = T) (h : wpAny M A (retStr T) Q E s) : wpAny M A (retStr txt) Q E s := by
  rw [e]
  exact h
section
variable {prog : Program} {w : World} {A : Around} {E : Value → Shared → Prop} {s : Shared}
theorem field_b {a : Int} {t : Tok} {Q : Value → Shared → Prop} (a0 : 0 ≤ a) (fits : (binC a.natAbs).length ≤ sizeLine) (h : ∀ (u k : Nat), Q (.str ⟨(binC a.natAbs).toArray⟩ u) { s with toks := k }) : wpAny (model prog w) A (formatField (.int a t) "b") Q E s := by
  show wpAny _ _ (holding [.int a t] (pyFormat (.int a t) "b")) Q E s
  refine wpAny_holding ?_
  unfold pyFormat
  refine wpAny_bind (wpAny_mkStr ?_ (by decide +kernel))
  refine wpAny_bind (m := callSpecial? (.int a t) (Str.ofString "__format__") [.str "b" s.toks]) (wpAny_callSpecial?_slot (name := Str.ofString "__format__") (typeIs_int _ a t) PySem.F.slot_int_format ?_)
  refine wpAny_call (codeAny_call_builtin PySem.F.slot_int_format.plain PySem.F.entry_int_format (PySem.F.slot_int_format.check _ _ _ _ _ _ _ _ (typeIs_int _ a t) (PySem.F.args_int_format_2 _ _) ?_))
  have e1 : ((Str.ofString "b").length == 0) = false := by decide +kernel
  have e2 : (((Str.ofString "b").cps.toList.drop 1).any (· ≥ 128) || ((Str.ofString "b").cps.getD 0 0 ≥ 128 && !([60, 62, 61, 94] : List Nat).contains ((Str.ofString "b").cps.getD 1 0))) = false := by decide +kernel
  simp only [Builtin.«int.__format__», selfAndOne, noKeywords, Builtin.Int.intOfSelf, asInt?, asStr?, List.isEmpty_nil, if_true, pure_bind, bind_pure, bind_assoc, e1, e2, Bool.false_eq_true, if_false, show (Value.str (Str.ofString "b") s.toks == Value.none) = false from rfl]
  refine wpAny_bind (wpAny_typeNameOf (T := "str") (typeIs_str _ _ _) (by decide) fun _ => wpAny_bind (wpAny_typeNameOfCut_int ?_))
  simp only [parse_b]
  have t98 : fB.type.getD (if ((Str.ofString "b").cps.back? == some 0) = true then 0 else 100) = 98 := rfl
  simp only [t98]
  rw [if_pos (by decide)]
  have neg : decide (a < 0) = false := decide_eq_false (by omega)
  refine ret_to (T := ⟨(binC a.natAbs).toArray⟩) ?_ ?_
  · rw [neg]
    obtain ⟨ds, eds⟩ : ∃ ds, (Nat.toDigits 2 a.natAbs).map (fun c => (if ((98 : Nat) == 88) = true then c.toUpper else c).toNat) = ds := ⟨_, rfl⟩
    have eb : binC a.natAbs = ds := eds
    rw [eb]
    show PyProof.Rows.intField' fB false [] _ [] 4 = _
    rw [eds]
    unfold PyProof.Rows.intField' fB
    cases ds with
    | nil => rfl
    | cons d r =>
      have p0 : ((-1 : Int) - 0 - ((d :: r).length : Nat)).toNat = 0 := by omega
      simp [p0]
      omega
  · unfold retStr
    refine wpAny_bind (wpAny_mkStr (wpAny_pure ?_) ?_)
    · exact wpAny_bind (wpAny_isInstance (T := "str") (typeIs_str _ _ _) isSubtype_str_str (wpAny_pure (h _ _)))
    · exact fits
end
section
variable {X : Cx}
/-- {n:b} -/
def tFmtB (te : TE) : TE := fun σ H Q => te σ H fun x H1 => ∃ n : Nat, x = .int (n : Nat) ∧ (binC n).length ≤ sizeLine ∧ Q (.str (SX.S (binC n))) H1
theorem pe_fmtB {e spec : Expr} {te : TE} {pos : Pos} (he : PE X e te) (hs : PE X spec (tC (.str "b"))) : PE X (.FormattedValue e (-1) (some spec) pos) (tFmtB te) := by
  refine ⟨fun pins s σ H Q I h => ?_⟩
  refine wpAny_FormattedValue_spec (thn (he.run pins s σ H _ I h) fun v s1 ⟨x, H1, I1, r1, n, ex, fits, q⟩ => ?_)
  subst ex
  obtain ⟨t, rfl⟩ := r1
  refine thn (hs.run pins s1 σ H1 (fun y H2 => y = .str "b" ∧ H2 = H1) I1 ⟨rfl, rfl⟩) fun r s2 ⟨y, H2, I2, r2, ey, eH⟩ => ?_
  subst ey eH
  obtain ⟨u, rfl⟩ := r2
  refine ⟨_, u, rfl, field_b (by omega) (by rw [Int.natAbs_natCast]; exact fits) fun u k => ⟨.str (SX.S (binC n)), H2, I2.tok k, ⟨u, by rw [Int.natAbs_natCast]⟩, q⟩⟩
end
/-! ### int(text, 2) -/
def IsBin (c : Nat) : Prop := c = 48 ∨ c = 49
theorem IsBin.hex {c : Nat} (h : IsBin c) : Hx.IsHex c := .inl (by unfold IsBin at h; omega)
def binNum (l : List Nat) : Nat := l.foldl (fun a c => a * 2 + (c - 48)) 0
theorem bin_step {ds : Array Nat} {b : Bool} {c : Nat} (h : IsBin c) : PySem.NumText.step 2 (ds, b) c = some (ds.push (c - 48), true) := by
  have e : PySem.NumText.digit? c = some (c - 48) := by
    rw [Hx.digit_hex h.hex]
    unfold Hx.hv
    rw [if_pos (by unfold IsBin at h; omega)]
  have n95 : ¬ (c == 95) = true := by
    rw [beq_iff_eq]
    unfold IsBin at h
    omega
  unfold PySem.NumText.step
  rw [if_neg n95, e]
  exact if_pos (by unfold IsBin at h; omega)
theorem bin_fold : ∀ (cs : List Nat) (ds : Array Nat), (∀ c ∈ cs, IsBin c) → cs.foldlM (PySem.NumText.step 2) (ds, true) = some (cs.foldl (fun acc c => acc.push (c - 48)) ds, true)
  | [], _, _ => rfl
  | c :: cs, ds, h => by
    rw [List.foldlM_cons, bin_step (h c List.mem_cons_self)]
    exact bin_fold cs (ds.push (c - 48)) fun d hd => h d (List.mem_cons_of_mem _ hd)
theorem bin_digits {c : Nat} {cs : List Nat} (h : ∀ d ∈ c :: cs, IsBin d) : PySem.NumText.digits? 2 (c :: cs) = some ((c :: cs).foldl (fun acc c => acc.push (c - 48)) #[]) := by
  have z := bin_fold cs ((#[] : Array Nat).push (c - 48)) fun d hd => h d (List.mem_cons_of_mem _ hd)
  unfold PySem.NumText.digits?
  rw [List.foldlM_cons, bin_step (h c List.mem_cons_self)]
  show (cs.foldlM (PySem.NumText.step 2) ((#[] : Array Nat).push (c - 48), true)).bind _ = _
  rw [z]
  rfl
theorem bin_value : ∀ (cs : List Nat) (ds : Array Nat), (cs.foldl (fun acc c => acc.push (c - 48)) ds).foldl (fun acc d => acc * 2 + d) 0 = cs.foldl (fun a c => a * 2 + (c - 48)) (ds.foldl (fun acc d => acc * 2 + d) 0)
  | [], _ => rfl
  | c :: cs, ds => by
    rw [List.foldl_cons, bin_value cs (ds.push (c - 48)), List.foldl_cons, Array.foldl_push]
theorem bin_pref {cs : List Nat} (h : ∀ c ∈ cs, IsBin c) : PySem.NumText.prefix? cs = none := by
  match cs, h with
  | [], _ => rfl
  | [a], _ =>
    unfold PySem.NumText.prefix?
    split
    · rename_i e
      cases e
    · rfl
  | a :: c :: r, h =>
    have hc := h c (List.mem_cons_of_mem _ List.mem_cons_self)
    unfold IsBin at hc
    by_cases ha : a = 48
    · subst ha
      have n : ∀ k : Nat, 60 ≤ k → ¬ (c == k) = true := fun k hk z => by
        have := beq_iff_eq.mp z
        omega
      show (if (c == 120 || c == 88) = true then some 16 else if (c == 111 || c == 79) = true then some 8 else if (c == 98 || c == 66) = true then some 2 else none) = none
      have o : ∀ k l : Nat, 60 ≤ k → 60 ≤ l → ¬ (c == k || c == l) = true := fun k l hk hl z => (Bool.or_eq_true _ _ ▸ z).elim (n k hk) (n l hl)
      rw [if_neg (o _ _ (by decide) (by decide)), if_neg (o _ _ (by decide) (by decide)), if_neg (o _ _ (by decide) (by decide))]
    · unfold PySem.NumText.prefix?
      split
      · rename_i e
        exact (ha (List.cons.inj e).1).elim
      · rfl
theorem bin_based {cs : List Nat} (h : ∀ c ∈ cs, IsBin c) : PySem.NumText.based 2 cs = (2, false, cs) := by
  unfold PySem.NumText.based
  rw [bin_pref h]
  rfl
open PySem.NumText PySem.Calls in
theorem bin_read {cs : List Nat} (h : ∀ c ∈ cs, IsBin c) (ne : cs ≠ []) : (int_private% "readNumeral") 0 2 cs = (int_private% "Numeral.value") ((binNum cs : Nat) : Int) := by
  have hx : ∀ c ∈ cs, Hx.IsHex c := fun c hc => (h c hc).hex
  have hr : ∀ c ∈ cs.reverse, Hx.IsHex c := fun c hc => hx c (List.mem_reverse.mp hc)
  obtain ⟨c, r, rfl⟩ := List.exists_cons_of_ne_nil ne
  have dg := bin_digits h
  have vl := bin_value (c :: r) #[]
  refine (readNumeral_eq 0 2 (c :: r)).trans ?_
  rw [Hx.dropB hx, Hx.signH hx]
  show judge 0 false (based 2 (c :: r)).1 (based 2 (c :: r)).2.1 (digits? (based 2 (c :: r)).1 (((based 2 (c :: r)).2.2.reverse.dropWhile blank).reverse)) = _
  rw [bin_based h]
  show judge 0 false 2 false (digits? 2 (((c :: r).reverse.dropWhile blank).reverse)) = _
  rw [Hx.dropB hr, List.reverse_reverse, dg]
  show (int_private% "Numeral.value") ((((c :: r).foldl (fun acc c => acc.push (c - 48)) (#[] : Array Nat)).foldl (fun acc d => acc * 2 + d) 0 : Nat) : Int) = _
  rw [vl]
  rfl
set_option maxHeartbeats 4000000 in
open PySem.NumText PySem.Calls in
theorem gives_bin {x : Str} {u t : Tok} (hl : x.length ≤ 640) (h : ∀ c ∈ x.cps.toList, IsBin c) (ne : x.cps.toList ≠ []) : Gives (Builtin.«int.__new__» ⟨[.type "int", .str x u, .int 2 t], []⟩) (.int ((binNum x.cps.toList : Nat) : Int)) :=
  .of_wp fun M A E s Q hQ => by
    obtain ⟨heap, gens, drawn, toks, out⟩ := s
    have f1 := PySem.F.conv_sub_int
    have f2 := PySem.F.madeHere_int
    have strT : typeOf (.str x u) = pure (.type "str") := rfl
    obtain ⟨same1, same2⟩ := Hx.seen_hex fun c hc => (h c hc).hex
    have few : (numSeenOf x).length ≤ 640 := by
      rw [same2, Array.length_toList]
      exact hl
    have told : (int_private% "readNumeral") 0 2 (numSeenOf x) = (int_private% "Numeral.value") ((binNum x.cps.toList : Nat) : Int) := by
      rw [same2]
      exact bin_read h ne
    have whole : ((numSeenOf x).length == (numTextOf x).length) = true := by
      rw [same1, same2]
      exact beq_self_eq_true _
    have hk := Hx.Hid.mk (And.intro few (And.intro told whole))
    clear few told whole same1 same2 hl ne h
    repeat (any_goals (first
      | assumption
      | ((with_reducible show wpAny _ _ ((int_private% "intFromText") _ _ _) _ _ _); refine Hx.wp_textB hk.out.1 hk.out.2.1 hk.out.2.2 ?_)
      | wp_step))
    all_goals (try exact ⟨_, rfl, hQ⟩)
def rIntBin : List V → Hp → VK → Prop := fun xs H Q => ∃ l : List Nat, xs = [.str (SX.S l), .int 2] ∧ l ≠ [] ∧ l.length ≤ 640 ∧ (∀ c ∈ l, IsBin c) ∧ Q (.int ((binNum l : Nat) : Int)) H
theorem call_int_bin {X : Cx} : CallR X (.type "int") rIntBin := by
  rintro pins s σ H _ us Q I r ⟨l, rfl, ne, few, bin, q⟩
  obtain ⟨u, v, rfl, r1, r2⟩ := vals2 r
  obtain ⟨t1, rfl⟩ := r1
  obtain ⟨t2, rfl⟩ := r2
  have g := gives_bin (x := SX.S l) (u := t1) (t := t2) (by rw [SX.S_len]; exact few) bin ne
  exact callType_new PySem.F.called_int PySem.F.newNe_int (Hx.typeCall_int_2 _ _) (Hx.newCall_int_2 _ _) (fun obj => PySem.F.initArgs_range_2 obj _ _) PySem.F.entry_int_new g.meets (show (Made.int ((binNum l : Nat) : Int)).post _ s from ⟨rfl, .int ((binNum l : Nat) : Int), H, I.tok _, ⟨_, rfl⟩, q⟩)
end Tg

namespace Tg
open PySem PySem.Spec PyProof.Rows L2
/-! ### a sign many times -/
def rTimes (c : Nat) : R2 := fun x y H Q => ∃ n : Nat, x = .str (SX.S [c]) ∧ y = .int (n : Nat) ∧ n ≤ 1000 ∧ Q (.str (SX.S (List.replicate n c))) H
theorem op_times {X : Cx} {c : Nat} : OpR X (binaryOp .Mult) (rTimes c) := by
  rintro pins s σ H _ _ v u Q I rx ry ⟨n, rfl, rfl, few, q⟩
  obtain ⟨t, rfl⟩ := rx
  obtain ⟨t2, rfl⟩ := ry
  have l1 : (SX.S [c]).length = 1 := rfl
  have rep : ∀ (m : Nat) (acc : Array Nat), (List.replicate m (SX.S [c]).cps).foldl (· ++ ·) acc = acc ++ (List.replicate m c).toArray := fun m => by
    induction m with
    | zero =>
      intro acc
      show acc = acc ++ #[]
      simp
    | succ m ih =>
      intro acc
      rw [List.replicate_succ, List.foldl_cons, ih]
      apply Array.ext'
      simp [List.replicate_succ]
  refine PySem.P.mul_str ?_ (fun _ _ => ?_) (fun _ _ => ?_) ?_
  · rw [decide_eq_false (by omega), decide_eq_false (by omega)]
    rfl
  · rw [l1]
    intro z
    have : (1 : Int) ≤ (2 ^ 63 - 1) / (n : Int) := by
      by_cases n0 : n = 0
      · subst n0
        omega
      · exact (Int.le_ediv_iff_mul_le (by omega)).mpr (by omega)
    omega
  · rw [l1]
    unfold Builtin.Str.tooLong
    exact decide_eq_false (by rw [sizeLine_eq]; omega)
  · by_cases c0 : (n : Int) < 1
    · obtain rfl : n = 0 := by omega
      rw [if_pos c0]
      exact ⟨by decide, .str (SX.S []), H, I.tok _, ⟨_, rfl⟩, q⟩
    · rw [if_neg c0]
      by_cases c1 : ((n : Int) == 1 || (SX.S [c]).length == 0) = true
      · rw [if_pos c1]
        have n1 : n = 1 := by
          rw [l1] at c1
          have : ((n : Int) == 1) = true := by
            cases e : (n : Int) == 1 with
            | true => rfl
            | false =>
              rw [e] at c1
              cases c1
          have := beq_iff_eq.mp this
          omega
        subst n1
        exact ⟨.str (SX.S [c]), H, I, ⟨t, rfl⟩, q⟩
      · rw [if_neg c1]
        have e : (List.replicate (n : Int).toNat (SX.S [c]).cps).foldl (· ++ ·) #[] = (List.replicate n c).toArray := by
          rw [show (n : Int).toNat = n from rfl, rep]
          simp
        rw [e]
        refine ⟨?_, .str (SX.S (List.replicate n c)), H, I.tok _, ⟨_, rfl⟩, q⟩
        rw [SX.S_len, List.length_replicate, sizeLine_eq]
        omega
end Tg

namespace Tg
open PySem PySem.Spec PyProof.Rows L2
/-! ### numbers by twos -/
/-- the last w signs of n by twos -/
def bt : Nat → Nat → List Nat
  | 0, _ => []
  | w + 1, n => bt w (n / 2) ++ [48 + n % 2]
theorem bt_len : ∀ w n, (bt w n).length = w
  | 0, _ => rfl
  | w + 1, n => by
    show (bt w (n / 2) ++ [48 + n % 2]).length = w + 1
    rw [List.length_append, bt_len w]
    rfl
theorem bt_bin : ∀ w n c, c ∈ bt w n → IsBin c
  | 0, _, _, h => nomatch h
  | w + 1, n, c, h => by
    rcases List.mem_append.mp (show c ∈ bt w (n / 2) ++ [48 + n % 2] from h) with h | h
    · exact bt_bin w _ c h
    · rw [List.mem_singleton.mp h]
      unfold IsBin
      omega
theorem num_snoc (l : List Nat) (c : Nat) : binNum (l ++ [c]) = binNum l * 2 + (c - 48) := by
  unfold binNum
  rw [List.foldl_append]
  rfl
theorem num_bt : ∀ w n, binNum (bt w n) = n % 2 ^ w
  | 0, n => by
    show 0 = n % 1
    omega
  | w + 1, n => by
    show binNum (bt w (n / 2) ++ [48 + n % 2]) = _
    rw [num_snoc, num_bt w, Nat.pow_succ, Nat.mul_comm (2 ^ w) 2, Nat.mod_mul]
    omega
theorem bt_split (d : Nat) : ∀ w n, bt (d + w) n = bt d (n / 2 ^ w) ++ bt w n
  | 0, n => by
    rw [Nat.pow_zero]
    rw [Nat.div_one]
    exact (List.append_nil _).symm
  | w + 1, n => by
    show bt (d + w) (n / 2) ++ [48 + n % 2] = _ ++ (bt w (n / 2) ++ [48 + n % 2])
    rw [bt_split d w (n / 2), Nat.div_div_eq_div_mul, Nat.mul_comm 2, ← Nat.pow_succ, List.append_assoc]
theorem bt_zero : ∀ d, bt d 0 = List.replicate d 48
  | 0 => rfl
  | d + 1 => by
    show bt d (0 / 2) ++ [48 + 0 % 2] = _
    rw [Nat.zero_div, bt_zero d, List.replicate_succ']
/-- how many signs n has by twos -/
def blen (n : Nat) : Nat := if n = 0 then 0 else n.log2 + 1
theorem blen_pos {n : Nat} (h : 0 < n) : blen n = n.log2 + 1 := if_neg (by omega)
theorem blen_half {n : Nat} (h : 0 < n) : blen n = blen (n / 2) + 1 := by
  rw [blen_pos h, Nat.log2_def]
  by_cases c : 2 ≤ n
  · rw [if_pos c, blen_pos (show 0 < n / 2 by omega)]
  · rw [if_neg c, show n / 2 = 0 by omega]
    rfl
theorem lt_blen (n : Nat) : n < 2 ^ blen n := by
  by_cases h : n = 0
  · subst h
    decide
  · rw [blen_pos (by omega)]
    exact Nat.lt_log2_self
theorem bin_zero : binC 0 = [48] := by
  unfold binC
  rw [Nat.toDigits_zero]
  rfl
theorem bin_digit {n : Nat} : (n % 2).digitChar.toNat = 48 + n % 2 := by
  rcases Nat.mod_two_eq_zero_or_one n with e | e <;> rw [e] <;> rfl
theorem bin_is {n : Nat} : 0 < n → binC n = bt (blen n) n := by
  refine Nat.strongRecOn n fun n ih h => ?_
  · skip
    rw [blen_half h]
    show binC n = bt (blen (n / 2)) (n / 2) ++ [48 + n % 2]
    unfold binC
    by_cases c : 2 ≤ n
    · rw [Nat.toDigits_of_base_le (by decide) c, List.map_append, ← ih (n / 2) (by omega) (by omega)]
      show _ ++ [(n % 2).digitChar.toNat] = _
      rw [bin_digit]
      rfl
    · have : n = 1 := by omega
      subst this
      rfl
theorem bt_pad {w n : Nat} (h : blen n ≤ w) : bt w n = List.replicate (w - blen n) 48 ++ bt (blen n) n := by
  have e := bt_split (w - blen n) (blen n) n
  rw [show w - blen n + blen n = w by omega, Nat.div_eq_of_lt (lt_blen n), bt_zero] at e
  exact e
/-- a number's own code -/
def ownL (n : Nat) : List Nat := List.replicate (n + 1).log2 48 ++ 49 :: bt (n + 1).log2 (n + 1)
theorem own_is (n : Nat) : List.replicate (blen (n + 1) - 1) 48 ++ bt (blen (n + 1)) (n + 1) = ownL n := by
  have b := blen_pos (Nat.succ_pos n)
  have one : (n + 1) / 2 ^ (n + 1).log2 = 1 := by
    have h1 := Nat.log2_self_le (n := n + 1) (by omega)
    have h2 := Nat.lt_log2_self (n := n + 1)
    refine Nat.div_eq_of_lt_le (by rw [Nat.one_mul]; exact h1) ?_
    rw [Nat.pow_succ] at h2
    omega
  have e := bt_split 1 (n + 1).log2 (n + 1)
  rw [one] at e
  unfold ownL
  rw [b, Nat.add_sub_cancel, Nat.add_comm _ 1, e]
  rfl
theorem own_len (n : Nat) : (ownL n).length = 2 * (n + 1).log2 + 1 := by
  unfold ownL
  rw [List.length_append, List.length_replicate, List.length_cons, bt_len]
  omega
theorem own_lo {n v : Nat} (h : v < (n + 1).log2) : (ownL n)[v]? = some 48 := by
  unfold ownL
  rw [List.getElem?_append_left (by rw [List.length_replicate]; exact h), List.getElem?_replicate, if_pos h]
theorem own_one (n : Nat) : (ownL n)[(n + 1).log2]? = some 49 := by
  unfold ownL
  rw [List.getElem?_append_right (by rw [List.length_replicate]; exact Nat.le_refl _), List.length_replicate, Nat.sub_self]
  rfl
theorem own_tail (n : Nat) : (ownL n).drop (n + 1).log2 = bt (blen (n + 1)) (n + 1) := by
  rw [← own_is, List.drop_append_of_le_length (by rw [List.length_replicate, blen_pos (show 0 < n + 1 by omega)]; omega), List.drop_of_length_le (by rw [List.length_replicate, blen_pos (show 0 < n + 1 by omega)]; omega)]
  rfl
theorem own_num (n : Nat) : binNum (bt (blen (n + 1)) (n + 1)) = n + 1 := by
  rw [num_bt, Nat.mod_eq_of_lt (lt_blen _)]
/-! ### find -/
theorem from_nat (m a : Nat) : fromIndex m (a : Int) = a := by
  unfold fromIndex
  rw [if_neg (by omega)]
  omega
theorem getD_S (l : List Nat) (v : Nat) : (SX.S l).cps.getD v 0 = l.getD v 0 := by
  show l.toArray.getD v 0 = l.getD v 0
  rw [Array.getD_eq_getD_getElem?, List.getElem?_toArray, List.getD_eq_getElem?_getD]
theorem find_at {l : List Nat} {a j : Nat} (hj : l[j]? = some 49) (aj : a ≤ j) (no : ∀ v, a ≤ v → v < j → l[v]? ≠ some 49) : Txt.find3 (SX.S l) ⟨#[49]⟩ (a : Int) = (j : Nat) := by
  have lj := (List.getElem?_eq_some_iff.mp hj).1
  have gj : l.getD j 0 = 49 := by rw [List.getD_eq_getElem?_getD, hj]; rfl
  rcases StrLaws.find3_spec (SX.S l) 49 (a : Int) with ⟨_, h⟩ | ⟨k, e, h1, h2, h3, h4⟩
  · rw [from_nat, SX.S_len] at h
    exact absurd (by rw [getD_S]; exact gj) (h j aj lj)
  · rw [from_nat] at h1 h4
    rw [SX.S_len] at h2
    rw [getD_S] at h3
    rw [e]
    rcases Nat.lt_trichotomy k j with lt | rfl | gt
    · refine absurd ?_ (no k h1 lt)
      rw [List.getElem?_eq_getElem h2]
      rw [List.getD_eq_getElem?_getD, List.getElem?_eq_getElem h2] at h3
      exact congrArg some h3
    · rfl
    · exact absurd (by rw [getD_S]; exact gj) (h4 j aj gt)
theorem find_no {l : List Nat} {a : Nat} (no : ∀ v, a ≤ v → l[v]? ≠ some 49) : Txt.find3 (SX.S l) ⟨#[49]⟩ (a : Int) = -1 := by
  rcases StrLaws.find3_spec (SX.S l) 49 (a : Int) with ⟨e, _⟩ | ⟨k, e, h1, h2, h3, _⟩
  · exact e
  · rw [from_nat] at h1
    rw [SX.S_len] at h2
    rw [getD_S, List.getD_eq_getElem?_getD, List.getElem?_eq_getElem h2] at h3
    exact absurd (by rw [List.getElem?_eq_getElem h2]; exact congrArg some h3) (no k h1)
/-! ### zfill -/
theorem zfill_is {l : List Nat} {w : Nat} (bin : ∀ c ∈ l, IsBin c) : Txt.zfill (SX.S l) (w : Int) = SX.S (List.replicate (w - l.length) 48 ++ l) := by
  unfold Txt.zfill
  by_cases c : (w : Int) ≤ (SX.S l).length
  · rw [if_pos c]
    rw [SX.S_len] at c
    rw [show w - l.length = 0 by omega]
    rfl
  · rw [if_neg c, SX.S_len]
    have e : zfilled (SX.S l) ((w : Int).toNat - l.length) = Builtin.Str.padded (SX.S l) ((w : Int).toNat - l.length) 0 48 := by
      unfold zfilled
      cases l with
      | nil => rfl
      | cons d r =>
        have := bin d List.mem_cons_self
        unfold IsBin at this
        rcases this with rfl | rfl <;> rfl
    rw [e]
    unfold Builtin.Str.padded
    rw [show (w : Int).toNat = w from rfl]
    show (⟨Array.replicate (w - l.length) 48 ++ l.toArray ++ Array.replicate 0 48⟩ : Str) = ⟨(List.replicate (w - l.length) 48 ++ l).toArray⟩
    congr 1
    apply Array.ext'
    simp
end Tg

namespace Tg
/-! ### columns: numbers turned, codes, gaps, runs -/
def tn (n : Int) : Int := if 0 ≤ n then 2 * n else -2 * n - 1
def bk (m : Int) : Int := if m % 2 = 0 then m / 2 else -(m / 2) - 1
theorem bk_tn (n : Int) : bk (tn n) = n := by
  unfold tn bk
  split
  · rw [if_pos (by omega)]
    omega
  · rw [if_neg (by omega)]
    omega
def tN (n : Int) : Nat := (tn n).toNat
theorem tn_nat (n : Int) : tn n = (tN n : Nat) := by
  unfold tN
  unfold tn
  split <;> omega
theorem tN_lt {n : Int} {b : Nat} (h : n.natAbs < 2 ^ b) : tN n < 2 ^ (b + 1) := by
  unfold tN tn
  rw [Nat.pow_succ]
  split <;> omega
theorem tN_inj {a b : Int} (h : tN a = tN b) : a = b := by
  have e : tn a = tn b := by rw [tn_nat, tn_nat, h]
  rw [← bk_tn a, ← bk_tn b, e]
def cd (n : Int) : List Nat := ownL (tN n)
def cds (xs : List Int) : List Nat := (xs.map cd).flatten
theorem cds_app (a b : List Int) : cds (a ++ b) = cds a ++ cds b := by
  unfold cds
  rw [List.map_append, List.flatten_append]
theorem cds_cons (a : Int) (b : List Int) : cds (a :: b) = cd a ++ cds b := rfl
/-- the code at the i-th place -/
theorem cds_at {cs : List Int} {i : Nat} {c : Int} (h : cs[i]? = some c) : cds cs = cds (cs.take i) ++ (cd c ++ cds (cs.drop (i + 1))) := by
  obtain ⟨lt, e⟩ := List.getElem?_eq_some_iff.mp h
  have z : cs = cs.take i ++ c :: cs.drop (i + 1) := by
    rw [← e, List.getElem_cons_drop, List.take_append_drop]
  calc cds cs = cds (cs.take i ++ c :: cs.drop (i + 1)) := by rw [← z]
    _ = _ := by rw [cds_app, cds_cons]
theorem cds_next {cs : List Int} {i : Nat} {c : Int} (h : cs[i]? = some c) : (cds (cs.take (i + 1))).length = (cds (cs.take i)).length + (cd c).length := by
  rw [List.take_add_one, h, Option.toList_some, cds_app, List.length_append]
  congr 1
  unfold cds
  simp
def difs : List Int → List Int
  | a :: b :: r => (b - a) :: difs (b :: r)
  | _ => []
theorem difs_len : ∀ xs : List Int, (difs xs).length = xs.length - 1
  | [] => rfl
  | [_] => rfl
  | a :: b :: r => by
    have := difs_len (b :: r)
    show (difs (b :: r)).length + 1 = _
    rw [this]
    rfl
theorem difs_at : ∀ (xs : List Int) (i : Nat) (a b : Int), xs[i]? = some a → xs[i + 1]? = some b → (difs xs)[i]? = some (b - a)
  | [], _, _, _, h, _ => by simp at h
  | [_], 0, _, _, _, h => by simp at h
  | [_], _ + 1, _, _, h, _ => by simp at h
  | x :: y :: r, 0, a, b, h1, h2 => by
    cases h1
    cases h2
    rfl
  | x :: y :: r, i + 1, a, b, h1, h2 => difs_at (y :: r) i a b h1 h2
def stp (xs : List Int) : List Int := xs.take 1 ++ difs xs
theorem stp_len (xs : List Int) : (stp xs).length = xs.length := by
  unfold stp
  rw [List.length_append, List.length_take, difs_len]
  omega
theorem stp_0 {xs : List Int} {a : Int} (h : xs[0]? = some a) : (stp xs)[0]? = some a := by
  cases xs with
  | nil => simp at h
  | cons x r =>
    cases h
    rfl
theorem stp_at {xs : List Int} {i : Nat} {a b : Int} (h1 : xs[i]? = some a) (h2 : xs[i + 1]? = some b) : (stp xs)[i + 1]? = some (b - a) := by
  unfold stp
  have := (List.getElem?_eq_some_iff.mp h1).1
  rw [List.getElem?_append_right (by rw [List.length_take]; omega), List.length_take, show i + 1 - min 1 xs.length = i by omega]
  exact difs_at xs i a b h1 h2
/-- the codes of turns -/
def trn (xs : List Int) : List Int := xs.take 1 ++ stp (difs xs)
theorem trn_len (xs : List Int) : (trn xs).length = xs.length := by
  unfold trn
  rw [List.length_append, List.length_take, stp_len, difs_len]
  omega
theorem trn_0 {xs : List Int} {a : Int} (h : xs[0]? = some a) : (trn xs)[0]? = some a := by
  cases xs with
  | nil => simp at h
  | cons x r =>
    cases h
    rfl
theorem trn_1 {xs : List Int} {a b : Int} (h1 : xs[0]? = some a) (h2 : xs[1]? = some b) : (trn xs)[1]? = some (b - a) := by
  unfold trn
  have := (List.getElem?_eq_some_iff.mp h1).1
  rw [List.getElem?_append_right (by rw [List.length_take]; omega), List.length_take, show 1 - min 1 xs.length = 0 by omega]
  exact stp_0 (difs_at xs 0 a b h1 h2)
theorem trn_at {xs : List Int} {i : Nat} {a b c : Int} (h1 : xs[i]? = some a) (h2 : xs[i + 1]? = some b) (h3 : xs[i + 2]? = some c) : (trn xs)[i + 2]? = some ((c - b) - (b - a)) := by
  unfold trn
  have := (List.getElem?_eq_some_iff.mp h1).1
  rw [List.getElem?_append_right (by rw [List.length_take]; omega), List.length_take, show i + 2 - min 1 xs.length = i + 1 by omega]
  exact stp_at (difs_at xs i a b h1 h2) (difs_at xs (i + 1) b c h2 h3)
/-! runs -/
abbrev Run := Int × Nat
def rnA (rs : List Run) (x : Int) : List Run := match rs.getLast? with
  | some (y, n) => if y = x then rs.dropLast ++ [(y, n + 1)] else rs ++ [(x, 1)]
  | none => [(x, 1)]
def rn (xs : List Int) : List Run := xs.foldl rnA []
theorem rn_snoc (xs : List Int) (x : Int) : rn (xs ++ [x]) = rnA (rn xs) x := by
  unfold rn
  rw [List.foldl_append]
  rfl
def unr (rs : List Run) : List Int := (rs.map fun r => List.replicate r.2 r.1).flatten
theorem unr_app (a b : List Run) : unr (a ++ b) = unr a ++ unr b := by
  unfold unr
  rw [List.map_append, List.flatten_append]
theorem unr_one (r : Run) : unr [r] = List.replicate r.2 r.1 := by
  unfold unr
  simp
theorem last_split {α : Type} {l : List α} {a : α} (h : l.getLast? = some a) : l = l.dropLast ++ [a] := by
  have ne : l ≠ [] := fun z => by
    rw [z] at h
    cases h
  rw [List.getLast?_eq_some_getLast ne] at h
  cases h
  exact (List.dropLast_concat_getLast ne).symm
theorem rnA_un (rs : List Run) (x : Int) : unr (rnA rs x) = unr rs ++ [x] := by
  unfold rnA
  split
  · rename_i y n h
    split
    · rename_i e
      have z := last_split h
      rw [unr_app, unr_one]
      conv => rhs; rw [z, unr_app, unr_one]
      show _ ++ List.replicate (n + 1) y = _ ++ List.replicate n y ++ [x]
      rw [List.replicate_succ', e, List.append_assoc]
    · rw [unr_app, unr_one]
      rfl
  · rename_i h
    rw [List.getLast?_eq_none_iff.mp h, unr_one]
    rfl
theorem rnA_pos {rs : List Run} (h : ∀ r, r ∈ rs → 1 ≤ r.2) (x : Int) : ∀ r, r ∈ rnA rs x → 1 ≤ r.2 := by
  unfold rnA
  split
  · split
    · intro r hr
      rcases List.mem_append.mp hr with old | new
      · exact h r ((List.dropLast_sublist _).subset old)
      · rw [List.mem_singleton.mp new]
        exact Nat.le_add_left _ _
    · intro r hr
      rcases List.mem_append.mp hr with old | new
      · exact h r old
      · rw [List.mem_singleton.mp new]
        exact Nat.le_refl 1
  · intro r hr
    rw [List.mem_singleton.mp hr]
    exact Nat.le_refl 1
theorem rn_all : ∀ xs : List Int, unr (rn xs) = xs ∧ ∀ r, r ∈ rn xs → 1 ≤ r.2 := by
  have go : ∀ (ys : List Int) (rs : List Run) (done : List Int), unr rs = done → (∀ r, r ∈ rs → 1 ≤ r.2) → unr (ys.foldl rnA rs) = done ++ ys ∧ ∀ r, r ∈ ys.foldl rnA rs → 1 ≤ r.2 := by
    intro ys
    induction ys with
    | nil => exact fun rs done h1 h2 => ⟨by rw [List.append_nil]; exact h1, h2⟩
    | cons y ys ih =>
      intro rs done h1 h2
      have z := ih (rnA rs y) (done ++ [y]) (by rw [rnA_un, h1]) (rnA_pos h2 y)
      rw [List.append_assoc] at z
      exact z
  exact fun xs => go xs [] [] rfl (fun r hr => nomatch hr)
def rcd (r : Run) : List Nat := cd r.1 ++ ownL (r.2 - 1)
def rcds (rs : List Run) : List Nat := (rs.map rcd).flatten
theorem rcds_app (a b : List Run) : rcds (a ++ b) = rcds a ++ rcds b := by
  unfold rcds
  rw [List.map_append, List.flatten_append]
theorem rcds_one (r : Run) : rcds [r] = rcd r := by
  unfold rcds
  simp
/-! ### ways that are read from code to code -/
inductive Way where
  | steps
  | turns
  | runs
/-- a mark: the place of the next code, the number ahead, what is kept beside -/
abbrev Mrk := Nat × Int × Option Int
def enc : Way → List Int → List Nat
  | .steps, xs => cds (stp xs)
  | .turns, xs => cds (trn xs)
  | .runs, xs => rcds (rn xs)
def ahd (xs : List Int) (i : Nat) : Int := if i = 0 then 0 else xs.getD (i - 1) 0
theorem ahd_next {xs : List Int} {i : Nat} {a : Int} (h : xs[i]? = some a) : ahd xs (i + 1) = a := by
  unfold ahd
  rw [if_neg (by omega), Nat.add_sub_cancel, List.getD_eq_getElem?_getD, h]
  rfl
def bsd (xs : List Int) (i : Nat) : Option Int := if i = 0 then none else if i = 1 then some 0 else some (ahd xs i - ahd xs (i - 1))
/-- the mark behind i numbers -/
def MkA : Way → List Int → Nat → Mrk → Prop
  | .steps, xs, i, m => m = ((cds ((stp xs).take i)).length, ahd xs i, none)
  | .turns, xs, i, m => m = ((cds ((trn xs).take i)).length, ahd xs i, bsd xs i)
  | .runs, xs, i, m => (i = 0 ∧ m = (0, 0, none)) ∨ ∃ (pre suf : List Run) (r : Run) (o : Nat), rn xs = pre ++ r :: suf ∧ 1 ≤ o ∧ o ≤ r.2 ∧ i = (unr pre).length + o ∧ m = ((rcds (pre ++ [r])).length, r.1, some ((r.2 - o : Nat) : Int))
theorem mk_begin (W : Way) (xs : List Int) : MkA W xs 0 (0, 0, none) := by
  cases W with
  | steps => rfl
  | turns => rfl
  | runs => exact .inl ⟨rfl, rfl⟩
theorem mk_end {W : Way} {xs : List Int} {m : Mrk} (h : MkA W xs xs.length m) : m.1 = (enc W xs).length := by
  cases W with
  | steps =>
    rw [show m = _ from h, ← stp_len, List.take_length]
    rfl
  | turns =>
    rw [show m = _ from h, ← trn_len, List.take_length]
    rfl
  | runs =>
    obtain ⟨u, pos⟩ := rn_all xs
    rcases h with ⟨e, rfl⟩ | ⟨pre, suf, r, o, er, o1, o2, ei, rfl⟩
    · rw [List.length_eq_zero_iff.mp e]
      rfl
    · have l : (unr (rn xs)).length = xs.length := by rw [u]
      rw [er, show pre ++ r :: suf = pre ++ [r] ++ suf by simp, unr_app, unr_app, unr_one, List.length_append, List.length_append, List.length_replicate] at l
      have z : suf = [] := by
        cases suf with
        | nil => rfl
        | cons q s =>
          have p := pos q (by rw [er]; simp)
          rw [show q :: s = [q] ++ s from rfl, unr_app, unr_one, List.length_append, List.length_replicate] at l
          omega
      subst z
      show (rcds (pre ++ [r])).length = (rcds (rn xs)).length
      rw [er]
end Tg

namespace Tg
open PySem PySem.Spec PyProof.Rows L2
/-! ### rules whose reading names K, said for a comprehension -/
theorem call_lenK {X : Cx} {K : PySem.W.Frag} (hK : X.K = K := by rfl) : CallR X (.builtin "len") (fun xs H Q => ∃ p ys, xs = [V.ref p] ∧ (SqL K H p ys ∨ SqT K H p ys) ∧ Q (V.int (ys.length : Nat)) H) := by
  subst hK
  exact call_len_seq
theorem mt_indexK {X : Cx} {K : PySem.W.Frag} (hK : X.K = K := by rfl) : MtR X "list.index" (rIndex K) := by
  subst hK
  exact mt_index
/-- a rule over X.K is one over K -/
theorem pe_overK {X : Cx} {K : PySem.W.Frag} {e : Expr} (t : PySem.W.Frag → TE) (h : PE X e (t X.K)) (hK : X.K = K := by rfl) : PE X e (t K) := hK ▸ h
theorem yes_i {σ : L2.St} {H : Hp} {Q : Bool → Hp → Prop} (h : Q true H) : tYes σ H Q := h
end Tg

namespace Tg
open PySem PySem.Spec PyProof.Rows L2
/-- the walk of enumerate(xs), xs a list -/
theorem for_enumL {K : PySem.W.Frag} {a : Addr} {xs : List V} {g : TG} {tb : TS} {D : Ends} {σ : L2.St} {H : Hp} (Pv : Nat → L2.St → Hp → Prop) (h0 : Pv 0 σ H) (hl : ∀ i σ H, i ≤ xs.length → Pv i σ H → SqL K H a xs)
    (hs : ∀ (i : Nat) (x : V) (T : Addr) σ H, xs[i]? = some x → Pv i σ H → H T = none → g (.ref T) σ (upd H T (.tup [.int (i : Nat), x])) fun σ2 H2 => tb { D with nx := Pv (i + 1), ct := Pv (i + 1), bk := D.nx } σ2 H2) (hd : ∀ σ H, Pv xs.length σ H → D.nx σ H) :
    ∃ Wk : Nat → Nat → L2.St → Hp → Prop, (∃ m, Wk 0 m σ H) ∧ ∀ i m σ H, Wk i m σ H →
      ((Ite K a).stop i H ∧ D.nx σ H) ∨ ((Ite K a).go i H ∧ ∃ N : L2.St → Hp → Prop, (∀ σ' H', N σ' H' → ∃ m', m' < m ∧ Wk (i + 1) m' σ' H') ∧ ∀ x H', (Ite K a).yld i H x H' → g x σ H' fun σ2 H2 => tb { D with nx := N, ct := N, bk := D.nx } σ2 H2) := by
  refine ⟨fun i m σ H => m = xs.length - i ∧ i ≤ xs.length ∧ Pv i σ H, ⟨xs.length - 0, rfl, Nat.zero_le _, h0⟩, ?_⟩
  rintro i m σ H ⟨rfl, hi, p⟩
  have q := hl i σ H hi p
  by_cases lt : i < xs.length
  · refine .inr ⟨⟨xs, xs[i], q, by simp [lt]⟩, Pv (i + 1), fun σ' H' p' => ⟨xs.length - (i + 1), by omega, rfl, lt, p'⟩, fun x H' y => ?_⟩
    obtain ⟨T, v, rfl, nT, rfl, fT⟩ := y
    exact hs i v T σ H (fT xs q) p nT
  · obtain rfl : i = xs.length := by omega
    exact Or.inl ⟨⟨xs, q, Nat.le_refl xs.length⟩, hd σ H p⟩
end Tg

namespace Tg
open PySem PySem.Spec PyProof.Rows L2
/-! ### a comprehension without a test whose items are known beforehand -/
/-- the new list at D takes y -/
abbrev Grows (D : Addr) (Nx : Hp → Prop) (y : V) (H : Hp) : Prop := ∃ acc, H D = some (.lst acc) ∧ acc.length < sizeLine ∧ Nx (upd H D (.lst (acc ++ [y])))
/-- the new dict at D takes y: z -/
abbrev Holds2 (D : Addr) (Nx : Hp → Prop) (y z : V) (H : Hp) : Prop := ∃ kvs k, y = kV k ∧ H D = some (.dK kvs) ∧ kvs.length < sizeLine ∧ Nx (upd H D (.dK (putK kvs k z)))
/-- a turn that takes x in, and goes on by fin -/
abbrev Turn1 (g : TG) (vs : List Nat) (σ : L2.St) (fin : L2.St → Hp → Prop) (Nx : Hp → Prop) (x : V) (H' : Hp) : Prop :=
  g x (wipe σ vs) H' fun σ2 H2 => wipe σ2 vs = wipe σ vs ∧ tYes σ2 H2 fun b H3 => if b = true then fin σ2 H3 else Nx H3
abbrev TurnL (g : TG) (te : TE) (vs : List Nat) (σ : L2.St) (D : Addr) (Nx : Hp → Prop) : V → Hp → Prop := Turn1 g vs σ (fun σ2 H3 => te σ2 H3 fun y H4 => Grows D Nx y H4) Nx
abbrev TurnD (g : TG) (tk tv : TE) (vs : List Nat) (σ : L2.St) (D : Addr) (Nx : Hp → Prop) : V → Hp → Prop := Turn1 g vs σ (fun σ2 H3 => tk σ2 H3 fun y H4 => tv σ2 H4 fun z H5 => Holds2 D Nx y z H5) Nx
/-- a walk of J from Z on, each turn by turn, what is wanted behind it Qd -/
abbrev Walked (J : It) (Z : Hp) (turn : (Hp → Prop) → V → Hp → Prop) (Qd : Hp → Prop) : Prop :=
  ∃ Wk : Nat → Nat → Hp → Prop, (∃ m, Wk 0 m Z) ∧ ∀ (i m : Nat) (Hc : Hp), Wk i m Hc →
    (J.stop i Hc ∧ Qd Hc) ∨ (J.go i Hc ∧ ∃ Nx : Hp → Prop, (∀ Hn, Nx Hn → ∃ m', m' < m ∧ Wk (i + 1) m' Hn) ∧ ∀ x Hn, J.yld i Hc x Hn → turn Nx x Hn)
section
variable {K : PySem.W.Frag} {g : TG} {te : TE} {vs : List Nat} {σ : L2.St} {H1 : Hp} {D : Addr} {Qd : Hp → Prop} {J : It}
/-- the walk J, of n turns; x: what it hands out at i (behind it the heap is told by R) -/
theorem lc_walk (n : Nat) (ys : List V) (ly : ys.length = n) (nD : H1 D = none) (small : n < sizeLine)
    (stop : ∀ Hc, Same H1 Hc → J.stop n Hc) (go : ∀ i Hc, i < n → Same H1 Hc → J.go i Hc)
    (hs : ∀ i x y Hc H' (Q : VK), i < n → ys[i]? = some y → Same H1 Hc → J.yld i Hc x H' → (∀ H4, Same H' H4 → Q y H4) → g x (wipe σ vs) H' fun σ2 H2 => wipe σ2 vs = wipe σ vs ∧ te σ2 H2 Q)
    (grow : ∀ i x Hc H', i < n → Same H1 Hc → J.yld i Hc x H' → Same Hc H')
    (hd : ∀ H', Same H1 H' → H' D = some (.lst ys) → Qd H') :
    Walked J (upd H1 D (.lst [])) (TurnL g te vs σ D) Qd := by
  refine ⟨fun i m H => m = n - i ∧ i ≤ n ∧ Same H1 H ∧ H D = some (.lst (ys.take i)), ⟨n, by omega, Nat.zero_le _, fun b o e => ?_, upd_same⟩, ?_⟩
  · rw [upd_ne (ne_of_none e nD)]
    exact e
  rintro i m H ⟨rfl, hi, sm, hD⟩
  by_cases lt : i < n
  · refine .inr ⟨go i H lt sm, fun H' => Same H1 H' ∧ H' D = some (.lst (ys.take (i + 1))), fun H' h => ⟨n - (i + 1), by omega, rfl, lt, h.1, h.2⟩, fun x H' yl => ?_⟩
    obtain ⟨y, ey⟩ : ∃ y, ys[i]? = some y := ⟨_, List.getElem?_eq_getElem (by omega)⟩
    have s2 := grow i x H H' lt sm yl
    have z := hs i x y H H' (fun y H4 => Grows D (fun H' => Same H1 H' ∧ H' D = some (.lst (ys.take (i + 1)))) y H4) lt ey sm yl fun H4 s4 => by
      refine ⟨ys.take i, s4 _ _ (s2 _ _ hD), ?_, fun b o e => ?_, ?_⟩
      · rw [List.length_take]
        omega
      · rw [upd_ne (ne_of_none e nD)]
        exact s4 _ _ (s2 _ _ (sm _ _ e))
      · rw [upd_same, List.take_add_one, ey]
        rfl
    refine cast (congrArg (g x (wipe σ vs) H') (funext fun σ2 => funext fun H2 => ?_)) z
    unfold tYes
    exact congrArg _ (if_pos rfl).symm
  · obtain rfl : i = n := by omega
    refine .inl ⟨stop H sm, hd H sm ?_⟩
    rw [hD, List.take_of_length_le (by omega)]
/-- [.. for x in xs] -/
theorem lc_mapL {a : Addr} {xs : List V} (ys : List V) (ly : ys.length = xs.length) (nD : H1 D = none) (hx : SqL K H1 a xs) (small : xs.length < sizeLine)
    (hs : ∀ (i : Nat) (x y : V) (Hc : Hp) (Q : VK), xs[i]? = some x → ys[i]? = some y → Same H1 Hc → (∀ H4, Same Hc H4 → Q y H4) → g x (wipe σ vs) Hc fun σ2 H2 => wipe σ2 vs = wipe σ vs ∧ te σ2 H2 Q)
    (hd : ∀ H', Same H1 H' → H' D = some (.lst ys) → Qd H') :
    Walked (Itl K a) (upd H1 D (.lst [])) (TurnL g te vs σ D) Qd :=
  lc_walk (J := Itl K a) xs.length ys ly nD small (fun Hc sm => ⟨xs, sm.seq hx, Nat.le_refl _⟩) (fun i Hc lt sm => ⟨xs, xs[i], sm.seq hx, List.getElem?_eq_getElem lt⟩)
    (fun i x y Hc H' Q lt ey sm yl q => by
      obtain ⟨rfl, h⟩ := yl
      exact hs i x y _ Q (h xs (sm.seq hx)) ey sm q) (fun i x Hc H' _ _ yl => by rw [yl.1]; exact Same.refl _) hd
/-- [.. for x, y in zip(xs, ys)] -/
theorem lc_mapZ {a b : Addr} {xs zs : List V} (ys : List V) (n : Nat) (en : n = min xs.length zs.length) (ly : ys.length = n) (nD : H1 D = none) (hx : SqL K H1 a xs) (hz : SqL K H1 b zs) (small : n < sizeLine)
    (hs : ∀ (i : Nat) (x z y : V) (T : Addr) (Hc : Hp) (Q : VK), xs[i]? = some x → zs[i]? = some z → ys[i]? = some y → Same H1 Hc → Hc T = some (.tup [x, z]) → (∀ H4, Same Hc H4 → Q y H4) → g (.ref T) (wipe σ vs) Hc fun σ2 H2 => wipe σ2 vs = wipe σ vs ∧ te σ2 H2 Q)
    (hd : ∀ H', Same H1 H' → H' D = some (.lst ys) → Qd H') :
    Walked (Itz K a b) (upd H1 D (.lst [])) (TurnL g te vs σ D) Qd :=
  lc_walk (J := Itz K a b) n ys ly nD small (fun Hc sm => ⟨xs, zs, sm.seq hx, sm.seq hz, by omega⟩) (fun i Hc lt sm => ⟨xs, zs, xs[i]'(by omega), zs[i]'(by omega), sm.seq hx, sm.seq hz, List.getElem?_eq_getElem (by omega), List.getElem?_eq_getElem (by omega)⟩)
    (fun i x y Hc H' Q lt ey sm yl q => by
      obtain ⟨T, u, v, rfl, nT, rfl, h1, h2⟩ := yl
      exact hs i u v y T _ Q (h1 xs (sm.seq hx)) (h2 zs (sm.seq hz)) ey (sm.trans (fun b o e => by rw [upd_ne (ne_of_none e nT)]; exact e)) upd_same q)
    (fun i x Hc H' _ _ yl => by
      obtain ⟨T, u, v, rfl, nT, rfl, _, _⟩ := yl
      exact fun b o e => by rw [upd_ne (ne_of_none e nT)]; exact e) hd
/-- [.. for i in range(lo, ..)] -/
theorem lc_mapR {lo : Int} {n : Nat} (ys : List V) (ly : ys.length = n) (nD : H1 D = none) (small : n < sizeLine)
    (hs : ∀ (i : Nat) (y : V) (Hc : Hp) (Q : VK), i < n → ys[i]? = some y → Same H1 Hc → (∀ H4, Same Hc H4 → Q y H4) → g (.int (lo + i)) (wipe σ vs) Hc fun σ2 H2 => wipe σ2 vs = wipe σ vs ∧ te σ2 H2 Q)
    (hd : ∀ H', Same H1 H' → H' D = some (.lst ys) → Qd H') :
    Walked (Itr lo n) (upd H1 D (.lst [])) (TurnL g te vs σ D) Qd :=
  lc_walk (J := Itr lo n) n ys ly nD small (fun Hc sm => Nat.le_refl _) (fun i Hc lt sm => lt)
    (fun i x y Hc H' Q lt ey sm yl q => by
      obtain ⟨rfl, rfl⟩ := yl
      exact hs i y _ Q lt ey sm q) (fun i x Hc H' _ _ yl => by rw [yl.1]; exact Same.refl _) hd
/-- [.. for i in range(lo, .., c)] -/
theorem lc_mapC {lo c : Int} {n : Nat} (ys : List V) (ly : ys.length = n) (nD : H1 D = none) (small : n < sizeLine)
    (hs : ∀ (i : Nat) (y : V) (Hc : Hp) (Q : VK), i < n → ys[i]? = some y → Same H1 Hc → (∀ H4, Same Hc H4 → Q y H4) → g (.int (lo + (i : Nat) * c)) (wipe σ vs) Hc fun σ2 H2 => wipe σ2 vs = wipe σ vs ∧ te σ2 H2 Q)
    (hd : ∀ H', Same H1 H' → H' D = some (.lst ys) → Qd H') :
    Walked (Itc lo c n) (upd H1 D (.lst [])) (TurnL g te vs σ D) Qd :=
  lc_walk (J := Itc lo c n) n ys ly nD small (fun Hc sm => Nat.le_refl _) (fun i Hc lt sm => lt)
    (fun i x y Hc H' Q lt ey sm yl q => by
      obtain ⟨rfl, rfl⟩ := yl
      exact hs i y _ Q lt ey sm q) (fun i x Hc H' _ _ yl => by rw [yl.1]; exact Same.refl _) hd
/-! ### a dict comprehension whose entries are known, each key once -/
theorem putK_new {kvs : List (Key × V)} {k : Key} {z : V} (h : k ∉ kvs.map (·.1)) : putK kvs k z = kvs ++ [(k, z)] := by
  have new : (kvs.any fun y => decide (y.1 = k)) = false := by
    rw [List.any_eq_false]
    intro y hy e
    exact h (List.mem_map.mpr ⟨y, hy, of_decide_eq_true e⟩)
  unfold putK
  rw [new, if_neg (by decide)]
theorem dc_walk {tk tv : TE} (n : Nat) (es : List (Key × V)) (le : es.length = n) (nd : (es.map (·.1)).Nodup) (nD : H1 D = none) (small : n < sizeLine)
    (stop : ∀ Hc, Same H1 Hc → J.stop n Hc) (go : ∀ i Hc, i < n → Same H1 Hc → J.go i Hc)
    (hs : ∀ i x k y Hc H' (Q : VK), i < n → es[i]? = some (k, y) → Same H1 Hc → J.yld i Hc x H' → (∀ H4, Same H' H4 → Q y H4) → g x (wipe σ vs) H' fun σ2 H2 => wipe σ2 vs = wipe σ vs ∧ tk σ2 H2 fun u H3 => tv σ2 H3 fun v H4 => u = kV k ∧ v = y ∧ Same H' H4)
    (mono : ∀ σ2 H2 (A B : V → V → Hp → Prop), (∀ u v H', A u v H' → B u v H') → (tk σ2 H2 fun u H3 => tv σ2 H3 fun v H4 => A u v H4) → tk σ2 H2 fun u H3 => tv σ2 H3 fun v H4 => B u v H4)
    (gm : ∀ x σ2 H2 (A B : L2.St → Hp → Prop), (∀ σ3 H3, A σ3 H3 → B σ3 H3) → g x σ2 H2 A → g x σ2 H2 B)
    (grow : ∀ i x Hc H', i < n → Same H1 Hc → J.yld i Hc x H' → Same Hc H')
    (hd : ∀ H', Same H1 H' → H' D = some (.dK es) → Qd H') :
    Walked J (upd H1 D (.dK [])) (TurnD g tk tv vs σ D) Qd := by
  refine ⟨fun i m H => m = n - i ∧ i ≤ n ∧ Same H1 H ∧ H D = some (.dK (es.take i)), ⟨n, by omega, Nat.zero_le _, fun b o e => ?_, upd_same⟩, ?_⟩
  · rw [upd_ne (ne_of_none e nD)]
    exact e
  rintro i m H ⟨rfl, hi, sm, hD⟩
  by_cases lt : i < n
  · refine .inr ⟨go i H lt sm, fun H' => Same H1 H' ∧ H' D = some (.dK (es.take (i + 1))), fun H' h => ⟨n - (i + 1), by omega, rfl, lt, h.1, h.2⟩, fun x H' yl => ?_⟩
    obtain ⟨⟨k, y⟩, ey⟩ : ∃ y, es[i]? = some y := ⟨_, List.getElem?_eq_getElem (by omega)⟩
    have s2 := grow i x H H' lt sm yl
    have z := hs i x k y H H' (fun _ _ => True) lt ey sm yl fun _ _ => trivial
    refine gm _ _ _ _ _ (fun σ2 H2 h => ⟨h.1, ?_⟩) z
    unfold tYes
    dsimp only
    rw [if_pos rfl]
    refine mono _ _ _ _ (fun u v H4 h => ?_) h.2
    obtain ⟨rfl, rfl, s4⟩ := h
    refine ⟨es.take i, k, rfl, s4 _ _ (s2 _ _ hD), ?_, fun b o e => ?_, ?_⟩
    · rw [List.length_take]
      omega
    · rw [upd_ne (ne_of_none e nD)]
      exact s4 _ _ (s2 _ _ (sm _ _ e))
    · rw [upd_same, putK_new, List.take_add_one, ey]
      · rfl
      · intro hk
        rw [List.map_take] at hk
        obtain ⟨j, hj, ej⟩ := List.mem_iff_getElem.mp hk
        rw [List.length_take] at hj
        rw [List.getElem_take] at ej
        have e1 : (es.map (·.1))[j]? = some k := by rw [List.getElem?_eq_getElem (by omega), ej]
        have e2 : (es.map (·.1))[i]? = some k := by rw [List.getElem?_map, ey]; rfl
        have := (List.getElem?_inj (by omega) nd).mp (e1.trans e2.symm)
        omega
  · obtain rfl : i = n := by omega
    refine .inl ⟨stop H sm, hd H sm ?_⟩
    rw [hD, List.take_of_length_le (by omega)]
end
end Tg

namespace Tg
open PySem PySem.Spec PyProof.Rows L2
open SX (S)
/-! ### long texts as lists of signs -/
section
variable {X : Cx}
theorem fit60 {n : Nat} (h : n ≤ 60000) : n ≤ sizeLine := Nat.le_trans h (by decide)
theorem op_addB : OpR X (binaryOp .Add) (fun x y H Q => ∃ a b : List Nat, x = .str (S a) ∧ y = .str (S b) ∧ a.length + b.length ≤ 60000 ∧ Q (.str (S (a ++ b))) H) := by
  rintro pins s σ H x y v u Q I rx ry ⟨a, b, rfl, rfl, few, q⟩
  refine op_add_str pins s σ H _ _ v u Q I rx ry ⟨S a, S b, rfl, rfl, ?_, ?_⟩
  · rw [SX.S_len, SX.S_len]
    exact fit60 few
  · rw [SX.S_cat]
    exact q
theorem call_lenB : CallR X (.builtin "len") (fun xs H Q => ∃ a : List Nat, xs = [.str (S a)] ∧ a.length ≤ 60000 ∧ Q (.int (a.length : Nat)) H) := by
  rintro pins s σ H xs us Q I r ⟨a, rfl, few, q⟩
  refine call_len_str pins s σ H _ us Q I r ⟨S a, rfl, ?_, ?_⟩
  · rw [SX.S_len]
    exact fit60 few
  · rw [SX.S_len]
    exact q
theorem flat_len : ∀ ys : List (List Nat), (ys.map List.length).sum = ys.flatten.length
  | [] => rfl
  | y :: r => by
    rw [List.map_cons, List.sum_cons, flat_len r, List.flatten_cons, List.length_append]
theorem joinL_none : ∀ ys : List (List Nat), TL.joinL [] ys = ys.flatten
  | [] => rfl
  | [y] => by simp [TL.joinL]
  | y :: u :: r => by
    show y ++ ([] ++ TL.joinL [] (u :: r)) = y ++ (u :: r).flatten
    rw [List.nil_append, joinL_none (u :: r)]
theorem join_none (ys : List (List Nat)) : Txt.join (S []) (ys.map S) = S ys.flatten := by
  rw [show Txt.join (S []) (ys.map S) = _ from SX.join_S [] ys, joinL_none]
/-- "".join(a list of texts) -/
theorem mt_joinB : MtR X "str.join" (fun x xs H Q => ∃ (p : Addr) (ys : List (List Nat)), x = .str (S []) ∧ xs = [.ref p] ∧ SqL X.K H p (ys.map fun y => V.str (S y)) ∧ ys.flatten.length ≤ 60000 ∧ Q (.str (S ys.flatten)) H) := by
  rintro pins s σ H x xs v us Q I rx rs ⟨p, ys, rfl, rfl, hp, few, q⟩
  refine mt_join pins s σ H _ _ v us Q I rx rs ⟨S [], p, ys.map S, rfl, rfl, .inl ?_, ?_, ?_⟩
  · rw [List.map_map]
    exact hp
  · rw [List.map_map, show (fun x : Str => x.length) ∘ S = List.length from funext fun l => SX.S_len l, flat_len]
    show _ + _ * 0 ≤ 16777216
    omega
  · rw [join_none]
    exact q
end
end Tg

namespace Tg
open PySem PySem.Spec PyProof.Rows L2
/-! ### set(xs), xs a list of ints; sorted of it -/
section
variable {w : World} {P : Program} {s : Shared} {A : Around} {E : Value → Shared → Prop}
/-- a set without members, as it is laid -/
def emp (w : World) : Obj := { cls := .type "set", dict := none, data := .set #[] 0 (.fresh 0 0 (!w.params.followText "set-order")) }
/-- what has to come of it -/
def Came (w : World) (s : Shared) (ns : List Int) (h' : Heap) (c : Nat) : Prop := SetR w h' s.heap.objs.size (fun j => decide (j ∈ ns)) c ∧ c ≤ ns.length ∧ ∀ b o, s.heap.get? b = some o → h'.get? b = some o
theorem isl_plain {l : Addr} {items : Array Value} {hp : Heap} (h : hp.IsList l items) : ∃ o, hp.get? l = some o ∧ o.cls = .type "list" ∧ ∃ n, o.data = .seq items n := by
  exact h
set_option maxHeartbeats 3200000 in
theorem call_setL {l : Addr} {items : Array Value} (ns : List Int) {Q : Value → Shared → Prop} (calm : A.handled = none) (hl : s.heap.IsList l items) (are : IntsAre items.toList ns) (few : ns.length + 1 < scanBound)
    (out : ∀ (h' : Heap) (tk c : Nat), Came w s ns h' c → Q (.ref s.heap.objs.size) { s with heap := h', toks := tk }) : wpAny (model P w) A (call (.type "set") [.ref l]) Q E s := by
  have many : items.size = ns.length := by
    have z := IntsAre.length are
    rwa [Array.length_toList] at z
  obtain ⟨cc, rest, line⟩ := F.called_set.mro
  have f1 := F.called_set.made
  have f2 := F.called_set.sub
  refine wpAny_call (codeAny_of_tree (show wpAny _ _ (callAny (.type "set") _) _ _ _ from wpAny_pure ⟨Code.quiet_builtin _ (by decide +kernel), codeAny_builtin F.entry_type_call ?_⟩))
  rw [Around.under_plain (weight_type_call_type "set" [.ref l] []) rfl]; have f3 := F.called_set.notType
  have f4 := F.called_set.canCreate
  have f5 := F.typeCall_set_1 (.ref l); repeat (any_goals (first | assumption | wp_step))
  refine codeAny_mono (code_set_led1 (.ref l) (E := E) (Q₁ := fun obj s₁ => obj = .ref s.heap.objs.size ∧ s₁ = { s with heap := s.heap.push (emp w) }) ⟨rfl, rfl⟩) fun r s₁ hr => ?_
  match r, hr with
  | .error e, hr => exact hr
  | .ok .next, hr => exact hr.elim
  | .ok .brk, hr => exact hr.elim
  | .ok .cont, hr => exact hr.elim
  | .ok (.ret obj), ⟨eo, es⟩ =>
    subst eo
    subst es
    have at0 : (s.heap.push (emp w)).get? s.heap.objs.size = some (emp w) := Heap.get?_push_size _ rfl
    have ty0 : Shared.TypeIs { s with heap := s.heap.push (emp w) } (.ref s.heap.objs.size) "set" := ⟨_, at0, rfl⟩
    have f6 := F.called_set.init.lookup
    have f7 := F.called_set.init.bind (.ref s.heap.objs.size); repeat (any_goals (first | assumption | wp_step))
    refine codeAny_mono (codeAny_call_builtin (R := wants (fun r s₂ => r = .none ∧ ∃ h' tk c, s₂ = { s with heap := h', toks := tk } ∧ Came w s ns h' c) E) F.called_set.init.plain F.entry_set_init (check_set_init_1 ty0 ?_)) fun r₂ s₂ hr₂ => ?_
    · obtain ⟨⟨ocls, odict, odata, oslots⟩, hol, hcl, nl, hdl⟩ := isl_plain hl
      simp only at hcl hdl
      subst hcl
      subst hdl
      have below : l < s.heap.objs.size := Heap.lt_size hol
      have at1 : (s.heap.push (emp w)).get? l = some { cls := .type "list", dict := odict, data := .seq items nl, slots := oslots } := Heap.get?_push_of_some _ hol
      have g1 := F.sub_list_set
      have g2 := F.sub_list_frozenset
      have g3 : (Value.type "list" == Value.type "dict") = false := by decide
      have hl1 : (s.heap.push (emp w)).IsList l items := hl.push _
      unfold Builtin.«set.__init__» noKeywords Builtin.Frozenset.updateFrom; generalize hPI : pyIter = PI
      wp_walk
      subst hPI
      refine wpAny_pyIter_list hl1 (wpAny_bind (wpAny_runValue ?_))
      have hh3 : A.in1.in1.in1.handled = none := by simp [calm]
      have apart : l ≠ (s.heap.push (emp w)).objs.size := by
        rw [Heap.size_push]
        exact Nat.ne_of_lt (Nat.lt_succ_of_lt below)
      have off : s.heap.objs.size ∉ [(s.heap.push (emp w)).objs.size, l] := by
        rw [Heap.size_push]
        simp only [List.mem_cons, List.mem_singleton, List.not_mem_nil, or_false, not_or]
        exact ⟨Nat.ne_of_lt (Nat.lt_succ_self _), Nat.ne_of_gt below⟩
      have vals : ∀ (i : Nat) (v : Value), items[i]? = some v → ∃ k t, ns[i]? = some k ∧ v = .int k t := fun i v hv => by
        have hi : i < ns.length := many ▸ (Array.getElem?_eq_some_iff.mp hv).1
        obtain ⟨t, e⟩ := PyProof.Rows.IntsAre.int_at are i v (by rw [Array.getElem?_toList]; exact hv)
        rw [List.getD_eq_getElem?_getD, List.getElem?_eq_getElem hi] at e
        exact ⟨ns[i], t, List.getElem?_eq_getElem hi, e⟩
      refine set_update_ints ((Walks.list hh3 _ l apart items).toS) s.heap.objs.size off ns many few vals (items.size - 0) 0 _ (by omega) (Nat.zero_le _) ⟨⟨_, Heap.get?_push_size _ rfl, rfl, rfl⟩, hl1.push _⟩ ?_ ?_
      · exact ⟨0, Nat.le_refl 0, setR_new_at (Heap.get?_push_of_some _ at0)⟩
      · intro s' c' hm hc' hS'
        obtain ⟨h', g2', d', tk', os'⟩ := s'
        obtain rfl : g2' = s.gens := hm.gens
        obtain rfl : d' = s.drawn := hm.drawn
        obtain rfl : os' = s.os := hm.os
        show wpAny _ _ _ _ _ _
        refine wpAny_pure (show wpAny _ _ (ret Value.none) _ _ _ from wpAny_pure ⟨rfl, h', tk', c', rfl, hS', many ▸ hc', fun b o e => ?_⟩)
        have lt := Heap.lt_size e
        refine hm.heap b o ?_ (Heap.get?_push_of_some _ (Heap.get?_push_of_some _ e))
        simp only [List.mem_cons, List.mem_singleton, List.not_mem_nil, or_false, not_or]
        rw [Heap.size_push]
        exact ⟨Nat.ne_of_lt lt, Nat.ne_of_lt (Nat.lt_succ_of_lt lt)⟩
    · match r₂, hr₂ with
      | .error e, hr₂ => exact hr₂
      | .ok .next, hr₂ => exact hr₂.elim
      | .ok .brk, hr₂ => exact hr₂.elim
      | .ok .cont, hr₂ => exact hr₂.elim
      | .ok (.ret r), ⟨e1, h', tk, c', e2, come⟩ =>
        subst e1
        subst e2; repeat (any_goals (first | assumption | wp_step))
        exact out _ _ _ come
end
section
variable {X : Cx}
theorem few_of : ∀ {rs L : List Int}, rs.Nodup → (∀ r, r ∈ rs → r ∈ L) → rs.length ≤ L.length
  | [], L, _, _ => Nat.zero_le _
  | r :: rs, L, nd, h => by
    have n1 := (List.nodup_cons.mp nd).1
    have hr : r ∈ L := h r List.mem_cons_self
    have i := few_of (rs := rs) (L := L.erase r) (List.nodup_cons.mp nd).2 fun q hq => (List.mem_erase_of_ne (fun z : q = r => n1 (by rw [← z]; exact hq))).mpr (h q (List.mem_cons_of_mem _ hq))
    rw [List.length_erase_of_mem hr] at i
    have := List.length_pos_of_mem hr
    show rs.length + 1 ≤ L.length
    omega
/-- a set has no more members than any list that has them -/
theorem setR_few {w : World} {h : Heap} {a : Addr} {S : Int → Bool} {n : Nat} (R : SetR w h a S n) {L : List Int} (all : ∀ k, S k = true → k ∈ L) : n ≤ L.length := by
  obtain ⟨o, es, ep, t, _, _, _, _, nd, mem, _, _, size, _⟩ := R
  have z := few_of nd fun r hr => all r ((mem r).mpr hr)
  rw [List.length_map, Array.length_toList, size] at z
  exact z
/-- set(xs) -/
def rSetL (K : PySem.W.Frag) (w : World) : List V → Hp → VK → Prop := fun vs H Q => ∃ (l : Addr) (ns : List Int), vs = [V.ref l] ∧ SqL K H l (ns.map V.int) ∧ ns.length ≤ 1000 ∧ ∀ (a : Addr) (c : Nat), H a = none → (∀ L : List Int, (∀ k, k ∈ ns → k ∈ L) → c ≤ L.length) → Q (.ref a) (upd H a (SetO w a (fun j => decide (j ∈ ns)) c))
theorem cr_setL (hc : X.calm = true) : CallR X (.type "set") (rSetL X.K X.w) := by
  intro pins s σ H vs us Q I r want
  obtain ⟨l, ns, rfl, hl, few, q⟩ := want
  rw [Vals.ref1 r]
  obtain ⟨its, rv, isl, _⟩ := I.list hl
  refine call_setL ns (I.ok.hd hc) isl.isList ?_ (by unfold scanBound; omega) fun h' tk c come => ?_
  · exact intsAre_of rv
  · obtain ⟨R, le, kp⟩ := come
    exact ⟨.ref s.heap.objs.size, _, I.laid (t' := tk) kp (Nat.le_refl _) (setO_new R), rfl, q _ c (I.hok.fresh (Nat.le_refl _)) fun L hL => setR_few R fun k hk => hL k (of_decide_eq_true hk)⟩
end
end Tg

namespace Tg
open PySem PySem.Spec PyProof.Rows L2
/-! ### sorted of a set of numbers, however many (the library's own rule ends at 63) -/
/-- a set's members, handed out in some order: whole numbers, the set's keys -/
theorem keys_out {es : Array (Int × Value)} {vs : List Value} (good : ∀ e ∈ es.toList, GoodE e) (pm : vs.Perm (es.toList.map (·.2))) :
    IntsAre vs (vs.map Builtin.Re.reRawOf) ∧ (vs.map Builtin.Re.reRawOf).Perm (es.toList.map keyOf) := by
  refine ⟨ints_of vs fun v hv => ?_, ?_⟩
  · have there := pm.mem_iff.mp hv
    rw [List.mem_map] at there
    obtain ⟨e, he, rfl⟩ := there
    have ⟨k, tk, h1, _⟩ := good e he
    exact ⟨k, tk, h1⟩
  · exact List.map_map (f := (·.2)) (g := Builtin.Re.reRawOf) (l := es.toList) ▸ pm.map Builtin.Re.reRawOf
/-- the rising list of just the n numbers of S -/
def Rising (S : Int → Bool) (n : Nat) (ns : List Int) : Prop := ns.Pairwise (· < ·) ∧ (∀ k : Int, k ∈ ns ↔ S k = true) ∧ ns.length = n
/-- what stood before a list was made and sorted stands behind it -/
theorem sorted_keeps {h : Heap} {o u : Obj} {vs : List Value} {out : Array Value} {b : Addr} (q : h.get? b = some u) : (sortedHeap (h.push o) h.objs.size vs out).get? b = some u := by
  have lt := Heap.lt_size q
  exact (sortedHeap_old (Nat.ne_of_lt lt) (size_push' h o ▸ Nat.lt_succ_of_lt lt)).trans (Heap.get?_push_of_some o q)
section
variable {P : Program} {w : World} {A : Around} {s : Shared} {E : Value → Shared → Prop} {a : Addr}
theorem sorted_setA {S : Int → Bool} {n : Nat} {Q : Value → Shared → Prop} (R : SetR w s.heap a S n) (free : A.handled = none) (few : n ≤ sizeLine)
    (told : ∀ s' p (out : List Value) (c : Nat) (ns : List Int), (∀ b o, s.heap.get? b = some o → s'.heap.get? b = some o) → s'.gens = s.gens → s'.os = s.os → s.heap.objs.size ≤ p →
      s'.heap.get? p = some (seqObj "list" out.toArray c) → IntsAre out ns → Rising S n ns → Q (.ref p) s') : wpAny (model P w) A (call (.builtin "sorted") [.ref a]) Q E s := by
  have ⟨o, es, ep, tbl, at_a, exact_set, dat, good, once, mem, bound, fits, count, ris, led⟩ := R
  apply Calls.call_function_entry kind_sorted plain_sorted entry_sorted (args_sorted1 _)
  unfold Builtin.«sorted»
  apply wpAny_bind
  apply wpAny_pure
  apply wpAny_bind
  apply collect_set (A := A.in1) free ⟨o, at_a, exact_set.1, dat⟩ fits bound ris led
  intro s1 vs kept more gens1 os1 pm
  obtain ⟨are, perm⟩ := keys_out good pm
  have many : vs.length = n := by
    have := pm.length_eq
    rw [List.length_map] at this
    exact this.trans (Array.length_toList.trans count)
  have room : vs.length ≤ sizeLine := many ▸ few
  have at_l := Heap.get?_push_size s1.heap (o := seqObj "list" vs.toArray 0) rfl
  apply wpAny_bind
  refine wpAny_newList (hsz := room) (wpAny_bind (wpAny_holding (wpAny_call_entry slot_list_sort ⟨_, at_l, rfl⟩ entry_list_sort ?_ (args_list_sort _))))
  refine SrtO.list_sort_ord SrtO.swo_int at_l room (SrtO.ints_sortable are) fun out up stable => ⟨_, rfl, ?_⟩
  have ⟨a1, a2, a3⟩ := SrtO.ints_out are up stable
  have pn := a2.trans perm
  have ⟨c, hc⟩ := sortedHeap_at (out := out.toArray) at_l
  refine wpAny_pure ⟨_, rfl, told _ s1.heap.objs.size out c _ (fun b u e => ?_) gens1 os1 more hc a1 ⟨lt_of_le_nodup _ a3 (pn.nodup_iff.mpr once), fun k => pn.mem_iff.trans (mem k).symm, ?_⟩⟩
  · exact sorted_keeps (kept b u e)
  · rw [pn.length_eq, List.length_map]
    exact Array.length_toList.trans count
end
def rSortedSetA (w : World) : List V → Hp → VK → Prop := fun vs H Q => ∃ (a : Addr) (S : Int → Bool) (n : Nat), vs = [V.ref a] ∧ H a = some (SetO w a S n) ∧ n ≤ sizeLine ∧
  ∀ ns p, Rising S n ns → H p = none → Q (.ref p) (upd H p (.lst (ns.map V.int)))
theorem cr_sortedSetA {X : Cx} (calm : X.calm = true) : CallR X (.builtin "sorted") (rSortedSetA X.w) := by
  rintro pins s σ H vs us Q I rel ⟨a, S, n, rfl, ha, few, q⟩
  rw [Vals.ref1 rel]
  refine sorted_setA (setO_get I ha) (I.ok.hd calm) few fun s' p out c ns k g o hp hg hi up => ?_
  have len : (ns.map V.int).length ≤ sizeLine := by
    rw [List.length_map, up.2.2]
    exact few
  have new := I.hok.fresh hp
  have J := I.call' (s' := s') (ch := []) (H' := upd H p (.lst (ns.map V.int))) o (Un.laid k hp new) (I.hok.laid k hp ⟨len, out, c, vals_of_ints hi, hg⟩) (g.symm ▸ I.bare) (fun _ z => nomatch z)
  exact ⟨.ref p, _, J, rfl, q ns p up new⟩
end Tg

namespace Tg
/-! ### the least, the greatest, the numbers in order -/
def mnI : List Int → Int
  | [] => 0
  | [x] => x
  | x :: y :: r => min x (mnI (y :: r))
def mxI : List Int → Int
  | [] => 0
  | [x] => x
  | x :: y :: r => max x (mxI (y :: r))
theorem mnI_is : ∀ {xs : List Int}, xs ≠ [] → mnI xs ∈ xs ∧ ∀ x, x ∈ xs → mnI xs ≤ x
  | [], h => absurd rfl h
  | [x], _ => ⟨.head _, fun y hy => by rw [List.mem_singleton.mp hy]; exact Int.le_refl _⟩
  | x :: y :: r, _ => by
    obtain ⟨h1, h2⟩ := mnI_is (xs := y :: r) (fun z => nomatch z)
    show min x (mnI (y :: r)) ∈ _ ∧ _
    refine ⟨?_, fun z hz => ?_⟩
    · by_cases c : x ≤ mnI (y :: r)
      · rw [Int.min_eq_left c]
        exact .head _
      · rw [Int.min_eq_right (by omega)]
        exact .tail _ h1
    · show min x (mnI (y :: r)) ≤ z
      obtain rfl | hz := List.mem_cons.mp hz
      · omega
      · have := h2 z hz
        omega
theorem mxI_is : ∀ {xs : List Int}, xs ≠ [] → mxI xs ∈ xs ∧ ∀ x, x ∈ xs → x ≤ mxI xs
  | [], h => absurd rfl h
  | [x], _ => ⟨.head _, fun y hy => by rw [List.mem_singleton.mp hy]; exact Int.le_refl _⟩
  | x :: y :: r, _ => by
    obtain ⟨h1, h2⟩ := mxI_is (xs := y :: r) (fun z => nomatch z)
    show max x (mxI (y :: r)) ∈ _ ∧ _
    refine ⟨?_, fun z hz => ?_⟩
    · by_cases c : mxI (y :: r) ≤ x
      · rw [Int.max_eq_left c]
        exact .head _
      · rw [Int.max_eq_right (by omega)]
        exact .tail _ h1
    · show z ≤ max x (mxI (y :: r))
      obtain rfl | hz := List.mem_cons.mp hz
      · omega
      · have := h2 z hz
        omega
theorem mn_of {xs : List Int} {m : Int} (h1 : m ∈ xs) (h2 : ∀ x, x ∈ xs → m ≤ x) : m = mnI xs := by
  obtain ⟨h3, h4⟩ := mnI_is (List.ne_nil_of_mem h1)
  exact Int.le_antisymm (h2 _ h3) (h4 _ h1)
theorem mx_of {xs : List Int} {m : Int} (h1 : m ∈ xs) (h2 : ∀ x, x ∈ xs → x ≤ m) : m = mxI xs := by
  obtain ⟨h3, h4⟩ := mxI_is (List.ne_nil_of_mem h1)
  exact Int.le_antisymm (h4 _ h1) (h2 _ h3)
def insU (x : Int) : List Int → List Int
  | [] => [x]
  | y :: r => if x < y then x :: y :: r else if x = y then y :: r else y :: insU x r
def bookOf (xs : List Int) : List Int := xs.foldr insU []
theorem insU_mem (x z : Int) : ∀ l : List Int, z ∈ insU x l ↔ z = x ∨ z ∈ l
  | [] => by simp [insU]
  | y :: r => by
    unfold insU
    split
    · simp
    · split
      · rename_i e
        subst e
        simp
      · rw [List.mem_cons, insU_mem x z r, List.mem_cons]
        constructor
        · rintro (h | h | h)
          · exact .inr (.inl h)
          · exact .inl h
          · exact .inr (.inr h)
        · rintro (h | h | h)
          · exact .inr (.inl h)
          · exact .inl h
          · exact .inr (.inr h)
theorem insU_up (x : Int) : ∀ l : List Int, l.Pairwise (· < ·) → (insU x l).Pairwise (· < ·)
  | [], _ => List.pairwise_singleton _ _
  | y :: r, h => by
    have hp := List.pairwise_cons.mp h
    unfold insU
    split
    · rename_i lt
      refine List.pairwise_cons.mpr ⟨fun z hz => ?_, h⟩
      obtain rfl | hz := List.mem_cons.mp hz
      · exact lt
      · exact Int.lt_trans lt (hp.1 z hz)
    · split
      · exact h
      · refine List.pairwise_cons.mpr ⟨fun z hz => ?_, insU_up x r hp.2⟩
        rcases (insU_mem x z r).mp hz with rfl | hz
        · omega
        · exact hp.1 z hz
theorem book_is : ∀ xs : List Int, (bookOf xs).Pairwise (· < ·) ∧ ∀ z, z ∈ bookOf xs ↔ z ∈ xs
  | [] => ⟨List.Pairwise.nil, fun z => Iff.rfl⟩
  | x :: r => by
    obtain ⟨h1, h2⟩ := book_is r
    refine ⟨insU_up x _ h1, fun z => ?_⟩
    show z ∈ insU x (bookOf r) ↔ _
    rw [insU_mem, h2, List.mem_cons]
theorem up_unique : ∀ {a b : List Int}, a.Pairwise (· < ·) → b.Pairwise (· < ·) → (∀ k, k ∈ a ↔ k ∈ b) → a = b
  | [], [], _, _, _ => rfl
  | [], y :: b, _, _, h => nomatch (h y).mpr (.head _)
  | x :: a, [], _, _, h => nomatch (h x).mp (.head _)
  | x :: a, y :: b, h1, h2, h => by
    have p1 := List.pairwise_cons.mp h1
    have p2 := List.pairwise_cons.mp h2
    have e : x = y := by
      have k1 := (h x).mp (.head _)
      have k2 := (h y).mpr (.head _)
      rcases List.mem_cons.mp k1 with e | k1
      · exact e
      · rcases List.mem_cons.mp k2 with e | k2
        · exact e.symm
        · have a1 := p2.1 x k1
          have a2 := p1.1 y k2
          omega
    subst e
    congr 1
    refine up_unique p1.2 p2.2 fun k => ⟨fun hk => ?_, fun hk => ?_⟩
    · rcases List.mem_cons.mp ((h k).mp (.tail _ hk)) with e | z
      · have := p1.1 k hk
        omega
      · exact z
    · rcases List.mem_cons.mp ((h k).mpr (.tail _ hk)) with e | z
      · have := p2.1 k hk
        omega
      · exact z
theorem book_of {xs b : List Int} (h1 : b.Pairwise (· < ·)) (h2 : ∀ k, k ∈ b ↔ k ∈ xs) : b = bookOf xs :=
  up_unique h1 (book_is xs).1 fun k => (h2 k).trans ((book_is xs).2 k).symm
theorem up_nodup {b : List Int} (h : b.Pairwise (· < ·)) : b.Nodup := h.imp fun lt e => by omega
theorem book_len (xs : List Int) : (bookOf xs).length ≤ xs.length := by
  have one : ∀ x l, (insU x l).length ≤ l.length + 1 := fun x l => by
    induction l with
    | nil => exact Nat.le_refl _
    | cons y r ih =>
      unfold insU
      split
      · exact Nat.le_refl _
      · split
        · exact Nat.le_succ _
        · exact Nat.succ_le_succ ih
  induction xs with
  | nil => exact Nat.le_refl _
  | cons x r ih =>
    have := one x (bookOf r)
    show (insU x (bookOf r)).length ≤ r.length + 1
    omega
theorem book_ne {xs : List Int} (h : 0 < xs.length) : 0 < (bookOf xs).length := by
  cases xs with
  | nil => cases h
  | cons x r => exact List.length_pos_of_mem ((book_is (x :: r)).2 x |>.mpr (.head _))
/-! ### how many signs by twos -/
theorem blen_le {n w : Nat} (h : n < 2 ^ w) : blen n ≤ w := by
  unfold blen
  split
  · exact Nat.zero_le _
  · rename_i c
    exact (Nat.log2_lt c).mpr h
theorem blen_mono {n m : Nat} (h : n ≤ m) : blen n ≤ blen m := blen_le (Nat.lt_of_le_of_lt h (lt_blen m))
/-! ### the two ways that stand by places -/
def wdP (xs : List Int) : Nat := blen (mxI xs - mnI xs).toNat
def plC (xs : List Int) : List (List Nat) := xs.map fun x => bt (wdP xs) (x - mnI xs).toNat
def encP (xs : List Int) : List Nat := cd (mnI xs) ++ ownL (wdP xs) ++ (plC xs).flatten
def wdB (xs : List Int) : Nat := blen ((bookOf xs).length - 1)
def gpC (xs : List Int) : List (List Nat) := (difs (bookOf xs)).map fun d => ownL (d - 1).toNat
def bkC (xs : List Int) : List (List Nat) := xs.map fun x => bt (wdB xs) ((bookOf xs).idxOf x)
def encB (xs : List Int) : List Nat := ownL ((bookOf xs).length - 1) ++ cd ((bookOf xs).headD 0) ++ (gpC xs).flatten ++ (bkC xs).flatten
theorem flat_same {ls : List (List Nat)} {w : Nat} (h : ∀ l, l ∈ ls → l.length = w) : ls.flatten.length = ls.length * w := by
  induction ls with
  | nil => exact (Nat.zero_mul w).symm
  | cons l r ih =>
    rw [List.flatten_cons, List.length_append, h l (.head _), ih fun y hy => h y (.tail _ hy), List.length_cons, Nat.succ_mul, Nat.add_comm]
end Tg

namespace Tg
open PySem PySem.Spec PyProof.Rows L2
/-! ### whether a text is a key of a written dict; len(range(n)) -/
def KHas (K : PySem.W.Frag) (w : World) (a : Addr) (x : Str) (b : Bool) : Prop := ∃ es n, K.lookup a = some ⟨.type "dict", none, .dict es n, #[]⟩ ∧ PySem.W.KeysLit w.params es.toList ∧ (a == sysModules) = false ∧ ∃ o, PySem.W.nsIn K a x = some o ∧ o.isSome = b
def rKHas (K : PySem.W.Frag) (w : World) : R2 := fun x y H Q => ∃ (z : Str) (p : Addr) (b : Bool), x = .str z ∧ y = .ref p ∧ KHas K w p z b ∧ Q (.bl b) H
section
variable {X : Cx}
theorem op_khas : OpR X (compareOp .In) (rKHas X.K X.w) := by
  rintro pins s σ H _ _ v u Q I rx ry ⟨z, p, b, rfl, rfl, ⟨es, n, hl, hk, low, o, e, eb⟩, q⟩
  obtain rfl : u = Value.ref p := ry
  obtain ⟨t, rfl⟩ := rx
  refine wpAny_in_of (strKind_is X.prog X.w z t) low (PySem.W.mapOf_K (prog := X.prog) (w := X.w) I.kIn hl hk) ?_
  rw [PySem.W.find_K hl e, eb]
  exact ⟨.bl b, H, I.tok _, rfl, q⟩
def tLenR (ta : TA) : TE := fun σ H Q => ta σ H fun vs H1 => ∃ n : Nat, vs = [.int (n : Nat)] ∧ n ≤ 2 ^ 20 ∧ Q (.int (n : Nat)) H1
theorem pe_lenR {a : Expr} {ta : TA} {p p2 pos pos2 : Pos} (gl : Gl X "len") (nl : X.mg "len" = none) (gr : Gl X "range") (nr : X.mg "range" = none) (args : PA X [a] ta)
    (one : starEach [a] X.env = (false, eval a X.env) :: starEach [] X.env := by rfl) (nostar : (backTo pos2 (starEach [] X.env)).any (·.1) = false := by rfl)
    (whole : starEach [.Call (.Name "range" p2) [a] [] pos2] X.env = (false, eval (.Call (.Name "range" p2) [a] [] pos2) X.env) :: starEach [] X.env := by rfl) :
    PE X (.Call (.Name "len" p) [.Call (.Name "range" p2) [a] [] pos2] [] pos) (tLenR ta) := by
  constructor
  intro pins s σ H Q I read
  refine wpAny_Call_Name_kw (ld_blt I gl nl (u := .builtin "len") (by decide +kernel) (PyProof.Rows.callWith_builtin1 (args_cons (Call_ (ld_blt I gr nr boot_range (PyProof.Rows.callWith_type1 (thn (args.run pos2 pins s σ H _ I read) fun us s1 y => ?_) one nostar))) whole) whole))
  obtain ⟨zs, H1, J, rel, n, e, few, h⟩ := y
  subst e
  match us, rel with
  | [_], .cons ⟨t, ei⟩ .nil =>
    subst ei
    refine call_range_1 (args_nil ?_)
    obtain ⟨hx, ehx⟩ : ∃ hx, hx = s1.heap.push { cls := .type "range", data := .fields #[.int 0 s1.toks, .int (n : Int) t, .int 1 (s1.toks + 1)] } := ⟨_, rfl⟩
    have J2 : Inv X pins σ H1 { s1 with heap := hx, toks := s1.toks + 1 + 1 } := by
      rw [ehx]
      exact J.kept (t' := s1.toks + 1 + 1) fun _ _ z => Heap.get?_push_of_some _ z
    rw [← ehx]
    refine call_len_range (n := n) (by rw [ehx]; exact IsRange.new ..) ?_ (by omega) ⟨.int (n : Nat), H1, J2.tok _, ⟨_, rfl⟩, h⟩
    simp only [Builtin.Range.rangeSize, gt_iff_lt]
    rw [if_pos (by decide)]
    split <;> omega
end
end Tg

/-! an own == that may say True or False, of an instance and anything; an instance looked for in a list of None and texts -/
namespace Tg
open PySem PySem.Spec PyProof.Rows L2
/-- what such an own == promises: R tells what it says -/
def spEqB (R : Addr → V → Bool → Hp → Prop) : Sp := fun vs H Q _ => ∃ (a : Addr) (y : V) (b : Bool), vs = [.ref a, y] ∧ R a y b H ∧ ∀ H', Ext H H' → Q (.bl b) H'
section
variable {X : Cx} {n : Nat} {CX : CXT} {C f : Addr} {fd : FuncData} {ps : List Str} {R : Addr → V → Bool → Hp → Prop} {E : XK}
/-- the own == called with an instance and a thing, somewhere below the running body -/
theorem own_said (F : FnOk X.prog X.w X.K X.mg X.base CX n f fd ps (spEqB R)) (hb : Binds X.K fd ps []) (hx : Passes CX X E) {A : Around} {pins : List (Addr × Obj)} {s : Shared} {σ : L2.St} {H : Hp} {a : Addr} {y : V} {u : Value} {b : Bool}
    (sb : Sub X n A) (I : Inv X pins σ H s) (ry : RelV y u) (r : R a y b H) :
    wpAny (model X.prog X.w) A (call (.ref f) [.ref a, u]) (fun v s' => v = .bool b ∧ ∃ H', Inv X pins σ H' s' ∧ Ext H H') X.xe s := by
  have hsp : spEqB R [.ref a, y] H (fun v H' => v = .bl b ∧ Ext H H') E := ⟨a, y, b, rfl, r, fun H' e => ⟨rfl, e⟩⟩
  have env := I.env0
  have e0 : Env0 X.prog X.w X.K X.mg X.base A X.stack s H := ⟨sb.fr.symm ▸ env.frames, env.mod, env.bs, env.bsz, env.funs, env.frf, env.hok, env.bare⟩
  have two := F.len _ _ _ _ hsp
  have bound := hb s [.ref a, u] I.kIn (by simpa using two)
  rw [List.append_nil] at bound
  refine wpAny_call (codeAny_mono (F.run A X.stack s H ⟨[.ref a, u], []⟩ [.ref a, u] [.ref a, y] _ E sb.room e0 bound (.cons rfl (.cons ry .nil)) hsp) fun o s' told => ?_)
  match o, told with
  | .error er, told => exact hx pins σ H s er s' I told
  | .ok (.ret v), told =>
    obtain ⟨z, H', J, rz, ez, ex⟩ := I.after told
    subst ez
    exact ⟨rz, H', J, ex⟩
/-- a == y -/
def rEqB (K : PySem.W.Frag) (C : Addr) (R : Addr → V → Bool → Hp → Prop) : R2 := fun x y H Q => ∃ (a dx : Addr) (fs : List (Str × V)) (t : Value) (b : Bool), x = .ref a ∧ H a = some (.ins C dx fs) ∧ TyX K H y t ∧ PySem.W.notFirst K C t = true ∧ R a y b H ∧ ∀ H', Ext H H' → Q (.bl b) H'
theorem op_eqB (F : FnOk X.prog X.w X.K X.mg X.base CX n f fd ps (spEqB R)) (hs : PySem.W.findIn X.K (.ref C) "__eq__" = some (some (.ref f))) (hf : PySem.W.isFn X.K (.ref f) = true) (hb : Binds X.K fd ps []) (hx : Passes CX X E) (hr : Room n X.A) : OpR X (compareOp .Eq) (rEqB X.K C R) := by
  rintro pins s σ H x y v u Q I rx ry ⟨a, dx, fs, t, b, rfl, ha, ty, nf, r, q⟩
  cases rx
  obtain ⟨mI, J0, _⟩ := ins_get I.hok ha
  obtain ⟨od, J, _⟩ := J0.look
  obtain ⟨m, hF⟩ := I.fr
  obtain ⟨P, Z, p, _⟩ := kit_of I ry ty
  show wpAny (model X.prog X.w) X.A (richCompare .Eq (.ref a) u) (EP X pins σ Q) X.xe s
  refine PySem.W.cmp_K (op := .Eq) hr.units0 hF I.ok.mod.kin J (Z.ty _ _ I.kIn p) nf hs hf (wpAny_mono (own_said F hb hx ⟨hr, rfl⟩ I ry r) (fun w s' told => ?_) fun _ _ z => z)
  obtain ⟨rfl, H', I', ex⟩ := told
  exact ⟨.bl b, H', I', rfl, q H' ex⟩
/-- None and texts: what stands ahead of == -/
theorem eq_back {T id : String} {A : Around} {pins : List (Addr × Obj)} {s : Shared} {σ : L2.St} {H : Hp} {a dx : Addr} {fs : List (Str × V)} {y : V} {u : Value} {b : Bool} (F : FnOk X.prog X.w X.K X.mg X.base CX n f fd ps (spEqB R))
    (hs : PySem.W.findIn X.K (.ref C) "__eq__" = some (some (.ref f))) (hf : PySem.W.isFn X.K (.ref f) = true) (hb : Binds X.K fd ps []) (hx : Passes CX X E) (sb : Sub X n A) (I : Inv X pins σ H s) (ry : RelV y u)
    (ha : H a = some (.ins C dx fs)) (r : R a y b H) (ty : s.TypeIs u T) (nos : PySem.W.subIn X.K (.ref C) (.type T) = some false) (slot : Slot T (cmpInfo .Eq).2.1 id)
    (dec : ∀ Q' : Value → Shared → Prop, Q' .notImplemented s → wpAny (model X.prog X.w) A (call (.builtin id) [u, .ref a]) Q' X.xe s) :
    wpAny (model X.prog X.w) A (richCompare .Eq u (.ref a)) (fun v s' => v = .bool b ∧ ∃ H', Inv X pins σ H' s' ∧ Ext H H') X.xe s := by
  obtain ⟨mI, J0, _⟩ := ins_get I.hok ha
  obtain ⟨od, J, _⟩ := J0.look
  have two : wpAny (model X.prog X.w) A (tryCompare (.ref a) "__eq__" u) (fun w s' => ∃ v, w = some v ∧ v = .bool b ∧ ∃ H', Inv X pins σ H' s' ∧ Ext H H') X.xe s := by
    unfold tryCompare
    refine wpAny_bind (PySem.W.ifBound_K I.kIn J hs hf (wpAny_mono (own_said F hb hx sb I ry r) (fun v s' told => ?_) fun _ _ z => z))
    obtain ⟨rfl, more⟩ := told
    exact wpAny_pure ⟨_, rfl, rfl, more⟩
  rcases hi : cmpInfo CmpOp.Eq with ⟨sym, nm, rn⟩
  obtain ⟨_, rfl, rfl⟩ : sym = "==" ∧ nm = "__eq__" ∧ rn = "__eq__" := by
    cases hi
    exact ⟨rfl, rfl, rfl⟩
  rw [hi] at slot
  simp only [richCompare, hi, ty.oneThing_none]
  refine wpAny_holding (wpAny_bind (wpAny_cRoomFor sb.room.units0 ?_))
  refine wpAny_bind (wpAny_typeOf ty (wpAny_bind (J.type.here ?_)))
  rw [show (Value.type T != Value.ref C) = true from by simp]
  simp only [if_true]
  refine wpAny_bind ((PySem.W.looks_subIn I.kIn nos).here ?_)
  simp only [if_true, if_false, Bool.not_false, Bool.false_eq_true]
  refine wpAny_bind (m := tryCompare u _ (.ref a)) (wpAny_tryCompare_declines ty slot (dec _ ⟨rfl, ?_⟩))
  refine wpAny_bind (m := tryCompare (.ref a) _ u) (wpAny_mono two (fun w s' told => ?_) fun _ _ z => z)
  obtain ⟨v, rfl, more⟩ := told
  exact wpAny_pure more
end
section
open MeetsSeq MeetsSeq2 MeetsSeq3 SeqRoads2 SeqAt
open AutoSeq1 (wpAny_loadPart')
theorem str_no_own (z : Str) (u : Tok) (l C dx : Addr) : Meets (Builtin.«str.__eq__» ⟨[.str z u, .ref l], []⟩) (fun _ R s => s.heap.get? l = some (PySem.W.instObj C dx) ∧ R (.ok (.ret .notImplemented)) s) :=
  .of_wp fun pr wd A0 R0 s0 told => by
    obtain ⟨hp, gn, dr, tk, os⟩ := s0
    obtain ⟨hl, h⟩ := told
    unfold PySem.W.instObj at hl
    wp_walk using wpAny_loadPart' hl, wpAny_load hl
    exact ⟨_, rfl, h⟩
variable {A : Around} {prog : Program} {w : World} {R : Result → Shared → Prop}
/-- looked for in a list, item by item, and not found -/
theorem seek_loop {l : Addr} {x : Value} (N : Nat) (I : Nat → Shared → Prop)
    (turn : ∀ i s, I i s → ∃ (items : Array Value) (n : Nat), s.heap.get? l = some { cls := .type "list", data := .seq items n } ∧ items.size = N ∧ ∀ h : i < items.size, wpAny (model prog w) A.in1 (eqBool items[i] x) (fun r s' => r = false ∧ I (i + 1) s') (fun e s' => R (.error e) s') s)
    (fin : ∀ s, I N s → R (.ok (.ret (.bool false))) s) (k : Nat) : ∀ i : Nat, N - i = k → i ≤ N → ∀ s, I i s →
      wpAny (model prog w) A.in1 (Builtin.«list.__contains__.loop» ⟨[.ref l, x, rawInt i], []⟩) (GQ.FinOf prog w A R) (fun e s' => R (.error e) s') s := by
  induction k with
  | zero =>
    intro i hk hi s h
    obtain ⟨items, n, at_l, size, _⟩ := turn _ _ h
    obtain rfl : i = N := by omega
    have done := fin s h
    obtain ⟨hp, gn, dr, tk, os⟩ := s
    wp_walk using wpAny_loadPart' at_l
    have none_there : items[((i : Nat) : Int).toNat]? = none := by simp; omega
    rw [none_there]
    wp_walk
    exact done
  | succ k ih =>
    intro i hk hi s h
    obtain ⟨items, n, at_l, size, step⟩ := turn _ _ h
    have lt : i < items.size := by omega
    have said := step lt
    obtain ⟨hp, gn, dr, tk, os⟩ := s
    wp_walk using wpAny_loadPart' at_l
    have there : items[((i : Nat) : Int).toNat]? = some items[i] := by simp [lt]
    have next : ((i : Int) + 1) = ((i + 1 : Nat) : Int) := by omega
    rw [there]
    refine wpAny_bind (wpAny_mono said (fun r s2 h2 => ?_) fun _ _ z => z)
    obtain ⟨rfl, h2⟩ := h2
    have more := ih (i + 1) (by omega) (by omega) s2 h2
    obtain ⟨hp2, gn2, dr2, tk2, os2⟩ := s2
    wp_walk
    rw [next]
    refine ⟨plainId_quiet plain_contains_loop _, codeAny_builtin entry_contains_loop ?_⟩
    rw [A.under_plainId plain_contains_loop _]
    exact more
theorem seek_none {E : Value → Shared → Prop} {s : Shared} {Q : Value → Shared → Prop} {l : Addr} {x : Value} (N : Nat) (I : Nat → Shared → Prop)
    (turn : ∀ i s, I i s → ∃ (items : Array Value) (n : Nat), s.heap.get? l = some { cls := .type "list", data := .seq items n } ∧ items.size = N ∧ ∀ h : i < items.size, wpAny (model prog w) A.in1 (eqBool items[i] x) (fun r s' => r = false ∧ I (i + 1) s') E s)
    (fin : ∀ s, I N s → Q (.bool false) s) (h : I 0 s) : wpAny (model prog w) A (compareOp .In x (.ref l)) Q E s := by
  obtain ⟨items, n, at_l, _, _⟩ := turn _ _ h
  show wpAny _ A (do return .bool (← contains (.ref l) x)) Q E s
  refine wpAny_bind (wpAny_contains_slot (T := "list") ⟨_, at_l, rfl⟩ PySem.F.slot_list_contains (GQ.call_here PySem.F.slot_list_contains ⟨_, at_l, rfl⟩ PySem.F.entry_list_contains (PySem.F.args_list_contains_2 _ _) ?_))
  have loop := seek_loop (R := wants (fun v s' => wpAny (model prog w) A (truthy v) (fun r s'' => wpAny (model prog w) A (pure (Value.bool r)) Q E s'') E s') E) N I turn (fun s' q => wpAny_truthy_bool (wpAny_pure (fin s' q))) _ 0 rfl (Nat.zero_le _) s h
  obtain ⟨hp, gn, dr, tk, os⟩ := s
  wp_walk using wpAny_loadPart' at_l
  refine ⟨plainId_quiet plain_contains_loop _, codeAny_builtin entry_contains_loop ?_⟩
  rw [A.under_plainId plain_contains_loop _]
  exact loop
end
section
variable {X : Cx} {n : Nat} {CX : CXT} {C f : Addr} {fd : FuncData} {ps : List Str} {R : Addr → V → Bool → Hp → Prop} {E : XK}
/-- a in [None, 'text'], of which it is neither -/
def rSeek (C : Addr) (R : Addr → V → Bool → Hp → Prop) : R2 := fun x y H Q => ∃ (a dx l : Addr) (fs : List (Str × V)) (z : Str), x = .ref a ∧ y = .ref l ∧ H a = some (.ins C dx fs) ∧ H l = some (.lst [.non, .str z]) ∧
  (∀ H', Ext H H' → R a .non false H' ∧ R a (.str z) false H') ∧ ∀ H', Ext H H' → Q (.bl false) H'
theorem op_seek (F : FnOk X.prog X.w X.K X.mg X.base CX n f fd ps (spEqB R)) (hs : PySem.W.findIn X.K (.ref C) "__eq__" = some (some (.ref f))) (hf : PySem.W.isFn X.K (.ref f) = true) (hb : Binds X.K fd ps []) (hx : Passes CX X E) (hr : Room (n + 1) X.A)
    (no1 : PySem.W.subIn X.K (.ref C) (.type "NoneType") = some false) (no2 : PySem.W.subIn X.K (.ref C) (.type "str") = some false) : OpR X (compareOp .In) (rSeek C R) := by
  rintro pins s σ H x y v u Q I rx ry ⟨a, dx, l, fs, z, rfl, rfl, ha, hl, r, q⟩
  cases rx
  cases ry
  have sb : Sub X n X.A.in1 := Sub.in1 ⟨hr, rfl⟩
  refine seek_none 2 (fun _ s' => ∃ H', Inv X pins σ H' s' ∧ Ext H H') (fun i s' told => ?_) (fun s' ⟨H', I', ex⟩ => ⟨.bl false, H', I', rfl, q H' ex⟩) ⟨H, I, Ext.rfl'⟩
  obtain ⟨H', I', ex⟩ := told
  obtain ⟨_, its, k, rel, at_l⟩ := (show ObjOk X.prog X.w H' s'.heap l (.lst [.non, .str z]) from I'.hok l _ (ex _ _ hl))
  obtain ⟨u1, u2, rfl, r1, r2⟩ := vals2 rel
  cases (show u1 = Value.none from r1)
  obtain ⟨tz, rfl⟩ := (show ∃ t, u2 = Value.str z t from r2)
  obtain ⟨mA, J, _⟩ := ins_get I'.hok (ex _ _ ha)
  obtain ⟨od, J, _⟩ := J.look
  refine ⟨_, k, at_l, rfl, fun lt => ?_⟩
  have truth : ∀ (u : Value), (u == Value.ref a) = false → (∀ q w, u ≠ .float q w) → wpAny (model X.prog X.w) X.A.in1 (richCompare .Eq u (.ref a)) (fun v s2 => v = .bool false ∧ ∃ H2, Inv X pins σ H2 s2 ∧ Ext H' H2) X.xe s' →
      wpAny (model X.prog X.w) X.A.in1 (eqBool u (.ref a)) (fun r s2 => r = false ∧ ∃ H2, Inv X pins σ H2 s2 ∧ Ext H H2) X.xe s' := fun u ne nf h => by
    unfold eqBool
    refine wpAny_holding (wpAny_ite_split (fun z => absurd (ne.symm.trans z) (by decide)) fun _ => ?_)
    cases u <;> first | exact absurd rfl (nf _ _) | (refine wpAny_bind (wpAny_mono h (fun v s2 told => ?_) fun _ _ z => z); obtain ⟨rfl, H2, I2, e2⟩ := told; exact wpAny_truthy_bool ⟨rfl, H2, I2, ex.trans e2⟩)
  match i, lt with
  | 0, _ =>
    refine truth .none rfl (fun _ _ z => nomatch z) (eq_back F hs hf hb hx sb I' (y := .non) rfl (ex _ _ ha) (r H' ex).1 (T := "NoneType") rfl no1 PySem.F.slot_NoneType_eq fun Q' hq => ?_)
    exact call_gives PySem.F.slot_NoneType_eq rfl PySem.F.entry_NoneType_eq (PySem.F.args_NoneType_eq_2 _ _) (SeqAt.NoneType___eq___none_ref_0 a) hq
  | 1, _ =>
    refine truth (.str z tz) rfl (fun _ _ z => nomatch z) (eq_back F hs hf hb hx sb I' (y := .str z) ⟨tz, rfl⟩ (ex _ _ ha) (r H' ex).2 (T := "str") (typeIs_str _ _ _) no2 PySem.F.slot_str_eq fun Q' hq => ?_)
    exact call_meets PySem.F.slot_str_eq (typeIs_str _ _ _) PySem.F.entry_str_eq (PySem.F.args_str_eq_2 _ _) (str_no_own z tz a C dx) ⟨J.at_, hq⟩
end
end Tg

/-! an instance looked for in a list of a list and None -/
namespace Tg
open PySem PySem.Spec PyProof.Rows L2
section
variable {prog : Program} {w : World} {A : Around} {E : Value → Shared → Prop} {s : Shared} {l a : Addr}
theorem list_declines {Q : Value → Shared → Prop} (ty : s.TypeIs (.ref l) "list") (no : PySem.W.Looks (model prog w) s.heap (isInstance (.ref a) (.type "list")) false) (q : Q .notImplemented s) :
    wpAny (model prog w) A (call (.builtin "list.__eq__") [.ref l, .ref a]) Q E s := by
  refine wpAny_call_entry F.slot_list_eq ty F.entry_list_eq ?_ (F.args_list_eq_2 _ _)
  obtain ⟨hp, gn, dr, tk, os⟩ := s
  wp_walk using no.here
  exact ⟨_, rfl, q⟩
end
section
variable {X : Cx} {n : Nat} {CX : CXT} {C f : Addr} {fd : FuncData} {ps : List Str} {R : Addr → V → Bool → Hp → Prop} {E : XK}
/-- a in [a list, None], of which it is neither -/
def rSeekL (C : Addr) (R : Addr → V → Bool → Hp → Prop) : R2 := fun x y H Q => ∃ (a dx l q : Addr) (fs : List (Str × V)) (ys : List V), x = .ref a ∧ y = .ref l ∧ H a = some (.ins C dx fs) ∧ H l = some (.lst [.ref q, .non]) ∧ H q = some (.lst ys) ∧
  (∀ H', Ext H H' → R a (.ref q) false H' ∧ R a .non false H') ∧ ∀ H', Ext H H' → Q (.bl false) H'
theorem op_seekL (F : FnOk X.prog X.w X.K X.mg X.base CX n f fd ps (spEqB R)) (hs : PySem.W.findIn X.K (.ref C) "__eq__" = some (some (.ref f))) (hf : PySem.W.isFn X.K (.ref f) = true) (hb : Binds X.K fd ps []) (hx : Passes CX X E) (hr : Room (n + 1) X.A)
    (no1 : PySem.W.subIn X.K (.ref C) (.type "NoneType") = some false) (no2 : PySem.W.subIn X.K (.ref C) (.type "list") = some false) : OpR X (compareOp .In) (rSeekL C R) := by
  rintro pins s σ H x y v u Q I rx ry ⟨a, dx, l, q0, fs, ys, rfl, rfl, ha, hl, hq0, r, q⟩
  cases rx
  cases ry
  have sb : Sub X n X.A.in1 := Sub.in1 ⟨hr, rfl⟩
  refine seek_none 2 (fun _ s' => ∃ H', Inv X pins σ H' s' ∧ Ext H H') (fun i s' told => ?_) (fun s' ⟨H', I', ex⟩ => ⟨.bl false, H', I', rfl, q H' ex⟩) ⟨H, I, Ext.rfl'⟩
  obtain ⟨H', I', ex⟩ := told
  obtain ⟨_, its, k, rel, at_l⟩ := (show ObjOk X.prog X.w H' s'.heap l (.lst [.ref q0, .non]) from I'.hok l _ (ex _ _ hl))
  obtain ⟨u1, u2, rfl, r1, r2⟩ := vals2 rel
  cases (show u1 = Value.ref q0 from r1)
  cases (show u2 = Value.none from r2)
  obtain ⟨mA, J, _⟩ := ins_get I'.hok (ex _ _ ha)
  obtain ⟨od, J, _⟩ := J.look
  refine ⟨_, k, at_l, rfl, fun lt => ?_⟩
  have qa : q0 ≠ a := fun z => by
    subst z
    rw [hq0] at ha
    cases ha
  have truth : ∀ (u : Value), (u == Value.ref a) = false → (∀ q w, u ≠ .float q w) → wpAny (model X.prog X.w) X.A.in1 (richCompare .Eq u (.ref a)) (fun v s2 => v = .bool false ∧ ∃ H2, Inv X pins σ H2 s2 ∧ Ext H' H2) X.xe s' →
      wpAny (model X.prog X.w) X.A.in1 (eqBool u (.ref a)) (fun r s2 => r = false ∧ ∃ H2, Inv X pins σ H2 s2 ∧ Ext H H2) X.xe s' := fun u ne nf h => by
    unfold eqBool
    refine wpAny_holding (wpAny_ite_split (fun z => absurd (ne.symm.trans z) (by decide)) fun _ => ?_)
    cases u <;> first | exact absurd rfl (nf _ _) | (refine wpAny_bind (wpAny_mono h (fun v s2 told => ?_) fun _ _ z => z); obtain ⟨rfl, H2, I2, e2⟩ := told; exact wpAny_truthy_bool ⟨rfl, H2, I2, ex.trans e2⟩)
  match i, lt with
  | 0, _ =>
    obtain ⟨its2, rv2, pl2, _⟩ := I'.list (SqL.of (ex _ _ hq0))
    have ty := pl2.isList.typeIs
    refine truth (.ref q0) (beq_eq_false_iff_ne.mpr fun z => qa (Value.ref.inj z)) (fun _ _ z => nomatch z) (eq_back F hs hf hb hx sb I' (y := .ref q0) rfl (ex _ _ ha) (r H' ex).1 (T := "list") ty no2 PySem.F.slot_list_eq fun Q' hq => ?_)
    exact list_declines ty (J.type.andThen (PySem.W.looks_subIn I'.kIn no2)) hq
  | 1, _ =>
    refine truth .none rfl (fun _ _ z => nomatch z) (eq_back F hs hf hb hx sb I' (y := .non) rfl (ex _ _ ha) (r H' ex).2 (T := "NoneType") rfl no1 PySem.F.slot_NoneType_eq fun Q' hq => ?_)
    exact call_gives PySem.F.slot_NoneType_eq rfl PySem.F.entry_NoneType_eq (PySem.F.args_NoneType_eq_2 _ _) (SeqAt.NoneType___eq___none_ref_0 a) hq
end
end Tg

/-! a != b of an own class with an own __eq__ and no __ne__, where the own == says True -/
namespace Tg
open PySem PySem.Spec PyProof.Rows L2
/-- what stands of such a class -/
structure NeC (K : PySem.W.Frag) (C f : Addr) : Prop where
  cls : ∃ (nm q : Str) (N : Addr) (bs : List Value) (hd : Bool) (sn : List Str) (sub : List Value) (ab : Bool) (col : Option Bool) (dd : Option Addr) (k0 k1 k2 k3 k5 : Option Value) (id : String),
    K.lookup C = some (excClassObj nm q C N bs [.type "object"] hd sn sub ab col dd k0 k1 k2 k3 k5 id) ∧ PySem.W.nsOkIn K N = true ∧ PySem.W.nsIn K N "__eq__" = some (some (.ref f)) ∧ PySem.W.nsIn K N "__ne__" = some none
  fn : ∃ o, K.lookup f = some o ∧ o.cls = .type "function"
/-- a name that stands in a written namespace -/
theorem ns_has {K : PySem.W.Frag} {h : Heap} {N : Addr} {x : Str} {v : Value} (inK : K.In h) (okN : PySem.W.nsOkIn K N = true) (e : PySem.W.nsIn K N x = some (some v)) : h.nsMap N x = some v := by
  obtain ⟨ob, es, ep, stands, isD, _, tells⟩ : h.Ns N (h.nsMap N) := .of_isNs (PySem.W.isNs_of_in inK okN)
  rw [← tells]
  unfold PySem.W.nsIn at e
  cases lk : K.lookup N with
  | none =>
    rw [lk] at e
    cases e
  | some ob2 =>
    have same := (inK N ob2 lk).symm.trans stands
    cases same
    obtain ⟨c, d, dt, sl⟩ := ob
    obtain rfl : dt = .dict es ep := isD
    rw [lk] at e
    dsimp only at e
    unfold nsFind findBy
    rw [← Array.find?_toList]
    cases fnd : es.toList.find? (·.key.isStr x) with
    | none =>
      rw [fnd] at e
      dsimp only at e
      split at e <;> cases e
    | some en =>
      rw [fnd] at e
      cases e
      rfl
section
variable {X : Cx} {n : Nat}
def rNeG (C : Addr) (R : Addr → Addr → Hp → Prop) : R2 := fun x y H Q => DIns C R x y H ∧ ∀ H', Ext H H' → Q (.bl false) H'
theorem op_neG {CX : CXT} {C f : Addr} {fd : FuncData} {ps : List Str} {R : Addr → Addr → Hp → Prop} {E : XK} (F : FnOk X.prog X.w X.K X.mg X.base CX n f fd ps (spEq R)) (N : NeC X.K C f) (hb : Binds X.K fd ps []) (hx : Passes CX X E) (hr : Room (n + 1) X.A) :
    OpR X (compareOp .NotEq) (rNeG C R) := by
  rintro pins s σ H x y v u Q I rx ry ⟨⟨a, b, dx, dy, fs, gs, rfl, rfl, ha, hb', holds⟩, q⟩
  cases rx
  cases ry
  obtain ⟨atA, J, _⟩ := ins_get I.hok ha
  obtain ⟨atB, J', _⟩ := ins_get I.hok hb'
  obtain ⟨od, J, _⟩ := J.look
  obtain ⟨odB, J', _⟩ := J'.look
  have there : ∀ p o, X.K.lookup p = some o → s.heap.get? p = some o := fun p o h => I.kIn p o h
  obtain ⟨nm, qn, Ns, bs, hd, sn, sub, ab, col, dd, k0, k1, k2, k3, k5, id_, eC, okN, eE, eN⟩ := N.cls
  obtain ⟨of, eF, cF⟩ := N.fn
  have own : s.heap.OwnEqNoNe a C f "object" [.type "object"] := by
    refine ⟨_, of, nm, qn, Ns, bs, hd, sn, sub, ab, col, dd, k0, k1, k2, k3, k5, id_, s.heap.nsMap Ns, _, J.at_, J.cls, there _ _ eC, .of_isNs (PySem.W.isNs_of_in I.kIn okN), ?_, there _ _ eF, cF, PySem.F.cmp_object.mro, PySem.F.cmp_object.eq.lookup, PySem.W.nsMap_none_of_in I.kIn okN eN⟩
    exact ns_has I.kIn okN eE
  have sb : Sub X n X.A.in1 := Sub.in1 ⟨hr, rfl⟩
  refine compareOp_ne_ownEq PySem.F.cmp_object own J'.at_ J'.cls (by have := hr.units; omega) ?_
  have hsp : spEq R [.ref a, .ref b] H (fun v H' => v = .bl true ∧ Ext H H') E := ⟨a, b, rfl, holds, fun H' e => ⟨rfl, e⟩⟩
  have e0 : Env0 X.prog X.w X.K X.mg X.base X.A.in1 X.stack s H := by
    have env := I.env0
    exact ⟨sb.fr.symm ▸ env.frames, env.mod, env.bs, env.bsz, env.funs, env.frf, env.hok, env.bare⟩
  have len2 := F.len _ _ _ _ hsp
  refine wpAny_call (codeAny_mono (F.run X.A.in1 X.stack s H ⟨[.ref a, .ref b], []⟩ [.ref a, .ref b] [.ref a, .ref b] _ E sb.room e0 (by
    have z := hb s [.ref a, .ref b] I.kIn (by simpa using len2)
    simpa using z) (.cons rfl (.cons rfl .nil)) hsp) fun r s' told => ?_)
  cases r with
  | error e => exact hx pins σ H s e s' I told
  | ok fl =>
    cases fl with
    | ret w =>
      obtain ⟨z, H', I', rz, ez, ex⟩ := I.after told
      subst ez
      cases rz
      exact ⟨true, rfl, .bl false, H', I', rfl, q H' ex⟩
    | next => exact False.elim told
    | brk => exact False.elim told
    | cont => exact False.elim told
end
end Tg

/-! a != b of an own class with an own __eq__ and no __ne__, b anything, where the own == may say True or False -/
namespace Tg
open PySem PySem.Spec PyProof.Rows L2
section
variable {prog : Program} {w : World} {A : Around} {E : Value → Shared → Prop} {s : Shared} {C a f : Addr} {B : String} {bm : List Value} {u : Value}
theorem ne_entry (O : s.heap.OwnEqNoNe a C f B bm) (room : A.units < cLine) {Q : Fin → Shared → Prop} (run : wpAny (model prog w) A (call (.ref f) [.ref a, u]) (fun v s' => ∃ b, v = .bool b ∧ Q (.done (.ret (.bool (!b)))) s') E s) :
    wpAny (model prog w) A (Builtin.«object.__ne__» ⟨[.ref a, u], []⟩) Q E s := by
  have said : wpAny (model prog w) A (callSpecialIfBound? (.ref a) (Str.ofString "__eq__") [u]) (fun r s' => ∃ b, r = some (.bool b) ∧ Q (.done (.ret (.bool (!b)))) s') E s := by
    refine wpAny_callSpecialIfBound?_own O.ownEq (wpAny_mono run (fun v s' told => ?_) fun _ _ e => e)
    obtain ⟨b, rfl, q⟩ := told
    exact ⟨b, rfl, q⟩
  delta Builtin.«object.__ne__»
  repeat (first
    | with_reducible refine wpAny_cRoomFor room ?_
    | (refine wpAny_bind (m := callSpecialIfBound? (.ref a) (Str.ofString "__eq__") [u]) (wpAny_mono said (fun r s' told => by
          obtain ⟨b, rfl, q⟩ := told
          repeat (first | exact q | exact wpAny_pure q | exact wpAny_truthy_bool q | (refine wpAny_bind (m := truthy (.bool _)) (wpAny_truthy_bool ?_)) | wp_step)) fun _ _ e => e))
    | wp_step)
theorem ne_tried (FB : CmpFacts B bm) (O : s.heap.OwnEqNoNe a C f B bm) (room : A.units + 1 < cLine) {Q : Option Value → Shared → Prop} (run : wpAny (model prog w) A.in1 (call (.ref f) [.ref a, u]) (fun v s' => ∃ b, v = .bool b ∧ Q (some (.bool (!b))) s') E s) :
    wpAny (model prog w) A (tryCompare (.ref a) "__ne__" u) Q E s := by
  obtain ⟨o, of, nm, q, N, bs, hd, sn, sub, ab, col, dd, k0, k1, k2, k3, k5, id_, mN, yv, ha, hc, hC, hn, _, _, _, _, _, none_⟩ := id O
  unfold tryCompare
  refine wpAny_bind (wpAny_callSpecialIfBound?_inst ha hc hC hn none_ FB.mro FB.ne (wpAny_call (codeAny_call_builtin FB.ne.plain F.cmpEntry_ne (wpAny_check_slot_inst F.cmpKind_ne F.cmpSplit_ne (F.cmpArgs_ne _ _) FB.hasObject ha hc hC (ne_entry (A := A.in1) O room (wpAny_mono run (fun v s' told => ?_) fun _ _ e => e))))))
  obtain ⟨b, rfl, z⟩ := told
  exact ⟨b, rfl, wpAny_pure z⟩
end
section
variable {X : Cx} {n : Nat} {CX : CXT} {C f : Addr} {fd : FuncData} {ps : List Str} {R : Addr → V → Bool → Hp → Prop} {E : XK}
/-- a != y -/
def rNeB (K : PySem.W.Frag) (C : Addr) (R : Addr → V → Bool → Hp → Prop) : R2 := fun x y H Q => ∃ (a dx : Addr) (fs : List (Str × V)) (t : Value) (b : Bool), x = .ref a ∧ H a = some (.ins C dx fs) ∧ TyX K H y t ∧ PySem.W.notFirst K C t = true ∧ R a y b H ∧ ∀ H', Ext H H' → Q (.bl (!b)) H'
theorem op_neB (F : FnOk X.prog X.w X.K X.mg X.base CX n f fd ps (spEqB R)) (N : NeC X.K C f) (hb : Binds X.K fd ps []) (hx : Passes CX X E) (hr : Room (n + 1) X.A) : OpR X (compareOp .NotEq) (rNeB X.K C R) := by
  rintro pins s σ H x y v u Q I rx ry ⟨a, dx, fs, t, b, rfl, ha, ty, nf, r, q⟩
  cases rx
  obtain ⟨mI, J0, _⟩ := ins_get I.hok ha
  obtain ⟨od, J, _⟩ := J0.look
  obtain ⟨P, Z, p, _⟩ := kit_of I ry ty
  have look : PySem.W.Looks (model X.prog X.w) s.heap (typeOf u) t := Z.ty _ _ I.kIn p
  have there : ∀ c o, X.K.lookup c = some o → s.heap.get? c = some o := fun c o h => I.kIn c o h
  obtain ⟨nm, qn, Ns, bs, hd, sn, sub, ab, col, dd, k0, k1, k2, k3, k5, id_, eC, okN, eE, eN⟩ := N.cls
  obtain ⟨of, eF, cF⟩ := N.fn
  have own : s.heap.OwnEqNoNe a C f "object" [.type "object"] :=
    ⟨_, of, nm, qn, Ns, bs, hd, sn, sub, ab, col, dd, k0, k1, k2, k3, k5, id_, s.heap.nsMap Ns, _, J.at_, J.cls, there _ _ eC, .of_isNs (PySem.W.isNs_of_in I.kIn okN), ns_has I.kIn okN eE, there _ _ eF, cF, PySem.F.cmp_object.mro, PySem.F.cmp_object.eq.lookup, PySem.W.nsMap_none_of_in I.kIn okN eN⟩
  have units := hr.units
  have two : wpAny (model X.prog X.w) X.A (tryCompare (.ref a) "__ne__" u) (fun w s' => ∃ v, w = some v ∧ v = .bool (!b) ∧ ∃ H', Inv X pins σ H' s' ∧ Ext H H') X.xe s := by
    refine ne_tried PySem.F.cmp_object own (by omega) (wpAny_mono (own_said F hb hx (Sub.in1 ⟨hr, rfl⟩) I ry r) (fun w s' told => ?_) fun _ _ z => z)
    obtain ⟨rfl, more⟩ := told
    exact ⟨b, rfl, _, rfl, rfl, more⟩
  show wpAny (model X.prog X.w) X.A (richCompare .NotEq (.ref a) u) (EP X pins σ Q) X.xe s
  unfold richCompare
  simp only [oneThing_ref]
  refine wpAny_holding (wpAny_bind (wpAny_cRoomFor (by omega) ?_))
  rw [cmpInfo_NotEq]
  dsimp only
  refine wpAny_bind (J.type.here (wpAny_bind (look.here ?_)))
  have last : ∀ rest : Option Value → Sem Value, (∀ v, rest (some v) = pure v) → wpAny (model X.prog X.w) X.A (tryCompare (.ref a) "__ne__" u >>= rest) (EP X pins σ Q) X.xe s := fun rest hrest => by
    refine wpAny_bind (wpAny_mono two (fun w s' told => ?_) fun _ _ z => z)
    obtain ⟨v, rfl, rfl, H', I', ex⟩ := told
    rw [hrest]
    exact wpAny_pure ⟨.bl (!b), H', I', rfl, q H' ex⟩
  unfold PySem.W.notFirst at nf
  by_cases same : t = .ref C
  · rw [same, show (Value.ref C != Value.ref C) = false from by simp]
    simp only [if_false, Bool.false_eq_true]
    refine wpAny_bind ?_
    refine wpAny_pure ?_
    simp only [if_false, Bool.false_eq_true]
    exact last _ fun v => rfl
  · have ne : (Value.ref C != t) = true := by
      rw [bne_iff_ne]
      exact fun z => same z.symm
    have nos : PySem.W.subIn X.K t (.ref C) = some false := by
      have k : (t == Value.ref C) = false := by
        rw [beq_eq_false_iff_ne]
        exact same
      rw [k, Bool.false_or] at nf
      exact eq_of_beq nf
    rw [ne]
    simp only [if_true]
    refine wpAny_bind ((PySem.W.looks_subIn I.kIn nos).here ?_)
    simp only [if_false, Bool.false_eq_true]
    exact last _ fun v => rfl
end
end Tg

namespace Tg
open PySem PySem.Spec PyProof.Rows L2
/-! ### promises of defs that are called where no repr is under way (str and repr of lists ask for it) -/
section
variable {P : Program} {w : World} {K : PySem.W.Frag} {mg : Str → Option Value} {base : Heap} {CX : CXT} {k : Nat} {f : Addr} {fd : FuncData} {ps : List Str} {sp : Sp}
/-- FnOk's promise, asked only where no repr is under way -/
structure FnG (P : Program) (w : World) (K : PySem.W.Frag) (mg : Str → Option Value) (base : Heap) (CX : CXT) (k : Nat) (f : Addr) (fd : FuncData) (ps : List Str) (sp : Sp) : Prop where
  arity : ∀ {zs : List V} {H : Hp} {Q : VK} {E : XK}, sp zs H Q E → zs.length = ps.length
  runs : ∀ {A : Around} {outer : List Env} {s : Shared} {H : Hp} {given : Args} {us : List Value} {zs : List V} {Q : VK} {E : XK}, A.guards = some [] → Room k A →
    Env0 P w K mg base A outer s H → BindsTo s fd given (ps.zip us) → Vals zs us → sp zs H Q E → codeAny (model P w) A (.call (.ref f) given) (CR CX outer P w H s Q E) s
theorem FnG.of (F : FnOk P w K mg base CX k f fd ps sp) : FnG P w K mg base CX k f fd ps sp := ⟨fun h => F.len _ _ _ _ h, fun _ r e b v h => F.run _ _ _ _ _ _ _ _ _ r e b v h⟩
end
section
variable {P : Program} {w : World} {K : PySem.W.Frag} {mg : Str → Option Value} {base : Heap}
/-- where a body ends: what its call hands back -/
theorem body_end {CX : CXT} {N : List Str} {qual : Str} {scope : Scope} {f : Addr} {cdv : Value} {A : Around} {outer : List Env} {s s' : Shared} {H : Hp} {Q : VK} {E : XK} {fl : Flow}
    (h : SP (cxOf CX P w K mg base N qual scope f cdv A outer s H E) [] { nx := fun _ H' => Q .non H', rt := Q } fl s') :
    CR CX outer P w H s Q E (match fl with | .ret u => .ok (.ret u) | .next => .ok (.ret .none) | x => .ok x) s' := by
  cases fl with
  | ret u =>
    obtain ⟨v, _, Hx, J, rv, z⟩ := h
    exact ⟨v, Hx, J.os, J.bare, J.base, J.hok, rv, z⟩
  | next =>
    obtain ⟨_, Hx, J, z⟩ := h
    exact ⟨V.non, Hx, J.os, J.bare, J.base, J.hok, rfl, z⟩
  | brk => exact h.elim fun _ z => z.elim fun _ y => y.2.elim
  | cont => exact h.elim fun _ z => z.elim fun _ y => y.2.elim
/-- a def by its body, where no repr is under way -/
theorem okG {x qual : Str} {st : Stmt} {f : Addr} {fd : FuncData} {N ps : List Str} {k : Nat} {sp : Sp} (F : Fun K x qual st f fd) (S : FnScope N ps (defScope st))
    (many : ∀ zs H Q E, sp zs H Q E → zs.length = ps.length)
    (bodies : ∀ (cdv : Value) (A : Around) (outer : List Env) (s : Shared) (H : Hp) (zs : List V) (Q : VK) (E : XK), A.guards = some [] → Room k (A.deeper (envOfC qual (defScope st) s.heap.objs.size f cdv)) → sp zs H Q E →
      ∃ t, PSs (cxOf CX0 P w K mg base N qual (defScope st) f cdv A outer s H E).nox (defBody st) t ∧ t { nx := fun _ H' => Q .non H', rt := Q } (start N zs) H) : FnG P w K mg base CX0 (k + 1) f fd ps sp := by
  obtain ⟨_, _, _, _, _, _, cdv, _, _, rfl, at_f, code⟩ := F.ex
  refine ⟨fun h => many _ _ _ _ h, fun {A outer s H given us zs Q E} hg room e0 binds rel h => ?_⟩
  have stays : ∀ b o, base.get? b = some o → s.heap.get? b = some o := fun b o z => (e0.bs b o z).1
  have written := e0.mod.kin.keeps stays
  have endless := e0.mod.nolimit.keeps stays
  have slots : ∀ y ∈ ps.zip us, (defScope st).names.lookup y.1 = some .local ∨ ((defScope st).names.lookup y.1 = some .cell ∧ ((cellsFrom (s.heap.objs.size + 1) (defScope st).names []).lookup y.1).isSome = true) := fun y hy =>
    (S.par y.1 (List.of_mem_zip hy).1).imp id fun z => ⟨z, PySem.W.cellsFrom_some _ _ _ (.inl z)⟩
  refine codeAny_call_function room.depth (written _ _ at_f) rfl S.co S.gen rfl (PySem.W.codeRec_of written code) (binds _ _ _ _ (wpAny_newFunctionEnv_cells S.kind slots fun env he s1 fresh => ?_))
  subst he
  obtain ⟨t, ht, read⟩ := bodies cdv A outer s H zs Q E hg (room.deeper _) h
  have I := inv_start (CX := CX0) (P := P) (w := w) (E := E) S room.hd e0 (many _ _ _ _ h) rel fresh
  refine ⟨endless.keeps fresh.toInCall.keep, codeAny_func (wpAny_mono (ht.nox.run [] s1 (start N zs) H _ I read) (fun fl s' z => ?_) fun _ _ z => z)⟩
  have told := body_end z
  cases fl with
  | ret u => exact told
  | next => exact told
  | brk => exact False.elim told
  | cont => exact False.elim told
end
section
variable {X : Cx} {CX : CXT} {k : Nat} {f : Addr} {fd : FuncData} {ps : List Str} {sp : Sp} {E : XK} {x : Str} {p pos : Pos} {e : Expr} {es : List Expr} {t : TA}
/-- the reading of f(e, ..) for such a def -/
abbrev tCallG (sp : Sp) (E : XK) (t : TA) : TE := fun σ H Q => t σ H fun zs H1 => sp zs H1 Q E
theorem pe_callG (F : FnG X.prog X.w X.K X.mg X.base CX k f fd ps sp) (quiet : X.A.guards = some []) (room : Room k X.A) (gl : Gl X x) (at_x : X.mg x = some (.ref f)) (kept : PySem.W.keepIn X.K (.ref f) = true)
    (binds : Binds X.K fd ps []) (lets : Passes CX X E) (args : PA X (e :: es) t) (nodebug : (x == ("__debug__" : Str)) = false := by decide)
    (one : starEach (e :: es) X.env = (false, eval e X.env) :: starEach es X.env := by rfl) (nostar : (backTo pos (starEach es X.env)).any (·.1) = false := by rfl) : PE X (.Call (.Name x p) (e :: es) [] pos) (tCallG sp E t) := by
  constructor
  intro pins s σ H Q I read
  refine wpAny_Call_Name_kw (ld_glob I gl at_x (PySem.W.callWith_K (h₀ := X.base) I.ok.mod.kin kept (thn (args.run pos pins s σ H _ I read) fun us s1 y => ?_) one nostar) nodebug)
  obtain ⟨zs, H1, J, rel, h⟩ := y
  have len : (us ++ []).length = ps.length := by
    rw [List.append_nil, ← rel.length]
    exact F.arity h
  have bound := binds s1 us J.kIn len
  rw [List.append_nil] at bound
  refine ⟨J.kIn, wpAny_call (codeAny_mono (F.runs (given := ⟨us, []⟩) quiet room J.env0 bound rel h) fun a s' z => ?_)⟩
  match a, z with
  | .error er, z => exact lets pins σ H1 s1 er s' J z
  | .ok (.ret u), z => exact J.after z
/-! ### str(x) of data -/
def rShow (K : PySem.W.Frag) : List V → Hp → VK → Prop := fun xs H Q => ∃ (a : Addr) (d : PyData), xs = [.ref a] ∧ Dp K H (.ref a) d ∧ d.showable = true ∧ d.hasDict = false ∧ d.depth ≤ 60 ∧ d.shown.length ≤ sizeLine ∧ Q (.str d.shown) H
theorem call_strD (deep : X.A.units + 64 < cLine) (quiet : X.A.guards = some []) : CallR X (.type "str") (rShow X.K) := by
  rintro pins s σ H _ _ Q I (_ | ⟨ra, rb⟩) ⟨a, d, e, dp, h1, h2, h3, h4, h⟩
  · exact nomatch e
  · obtain ⟨rfl, rfl⟩ := List.cons.inj e
    cases rb
    obtain ⟨as, rd⟩ := Dp.reads I d _ _ dp ra
    cases (show _ = Value.ref a from ra)
    exact str_of_reads rd h1 (fun z => absurd (h2.symm.trans z) (by decide)) quiet (by omega) (fun _ _ z => z) (fun hx u tk kp => ⟨.str d.shown, H, I.kept kp, ⟨u, rfl⟩, h⟩) h4
end
/-! ### the law's own head, for such a def -/
/-- a law's promise: of a list of at most 63 ints it gives True -/
def spScript (K : PySem.W.Frag) : Sp := fun zs H Q _ => ∃ (a : Addr) (ns : List Int), zs = [.ref a] ∧ SqL K H a (ns.map V.int) ∧ ns.length ≤ 63 ∧ ∀ Hx, Q (.bl true) Hx
section
variable {P : Program} {w : World} {K : PySem.W.Frag} {mg mb : Str → Option Value} {k : Nat} {fa a : Addr} {fd : FuncData} {x : Str} {s1 : Shared} {vs : List Value} {ns : List Int}
theorem law_from (KX : K.In s1.heap) (globals : s1.heap.Ns mainGlobals mg) (builtins : s1.heap.Ns builtinsNs mb) (boot : ∀ y : Str, y ≠ "__name__" → mb y = bootBuiltins y) (lim : s1.heap.NoLimit) (nogens : s1.gens = #[])
    (script : s1.heap.get? a = some { cls := .type "list", data := .seq vs.toArray }) (room : Room k callerA) (F : ∀ B : Heap, K.In B → B.Ns mainGlobals mg → FnG P w K mg B CX0 k fa fd [x] (spScript K))
    (bind : ∀ (s : Shared) (u : Value), BindsTo s fd ⟨[u], []⟩ [(x, u)]) (H : Hp) (only : Only H) (here : SqL K H a (ns.map V.int)) (few : ns.length ≤ 63) (fine : HOk P w H s1.heap) (alone : ∀ b, H b ≠ none → b = a ∧ K.lookup a = none) :
    codeAny (model P w) callerA (.call (.ref fa) ⟨[.ref a], []⟩) (fun r s' => r = .ok (.ret (.bool true)) ∧ OldK s1.heap s'.heap ∧ s'.os = s1.os ∧ AllBare s'.gens) s1 := by
  have free : ∀ {b : Addr}, (b = a → K.lookup a = none → False) → H b = none := fun {b} z => by
    cases hb : H b with
    | none => rfl
    | some u => exact ((fun y => z y.1 y.2) (alone b (by rw [hb]; exact fun e => nomatch e))).elim
  have dicts : ∀ {b : Addr} {m : Str → Option Value}, s1.heap.Ns b m → (hidT s1.heap H).Ns b m := fun {b m} y => by
    obtain ⟨o, es, ep, e, dd, r⟩ := y
    refine ⟨o, es, ep, hidT_get e (free fun z _ => ?_), dd, r⟩
    rw [z, script] at e
    cases e
    exact nomatch dd
  have kin : K.In (hidT s1.heap H) := fun b o e => hidT_get (KX b o e) (free fun z y => by
    rw [z, y] at e
    exact nomatch e)
  obtain ⟨mc, c1, c2⟩ := lim
  have e0 : Env0 P w K mg (hidT s1.heap H) callerA [] s1 H := {
    frames := rfl
    mod := ⟨kin, dicts globals, ⟨mb, dicts builtins, boot⟩, ⟨mc, dicts c1, c2⟩⟩
    bs := fun _ _ z => of_hidT z
    bsz := Nat.le_of_eq (hidT_size _ _)
    funs := trivial
    frf := fun b z => nomatch (show b ∈ ([] : List Addr) from z)
    hok := fine
    bare := .of_eq nogens }
  have run := (F _ kin (dicts globals)).runs (given := ⟨[.ref a], []⟩) (us := [.ref a]) (zs := [.ref a]) (Q := fun v _ => v = .bl true) (E := fun _ _ _ => False) rfl room e0 (bind s1 (.ref a)) (.cons rfl .nil) ⟨a, ns, rfl, here, few, fun _ => rfl⟩
  refine codeAny_mono run fun r s' told => ?_
  match r, told with
  | .error er, told => exact told.elim
  | .ok (.ret u), told =>
    obtain ⟨v, Hx, os, bare, un, fine2, rel, is_true⟩ := told
    cases (show v = .bl true from is_true)
    cases (show u = Value.bool true from rel)
    refine ⟨rfl, .of_keep fun b o e => ?_, os, bare⟩
    rcases only b with z | ⟨og, _, z⟩
    · exact un.keep b o e z (fun y => nomatch (show b ∈ ([] : List Addr) from y)) (by simp)
    · have still := (fine2 b _ (un.frzs b og _ z)).1
      cases e.symm.trans (fine b _ z).1
      exact still
end
theorem walk_g {l : PySem.W.OpenLaw} {k : Nat} {q : Program} {loose : List Str} {XP : (Str → Option Value) → Heap → Prop} {YP : World → Heap → Prop} {d : DefRec} {K : Params → PySem.W.Frag} {x : Str} (most : l.most = some 63) (plain : d.params.defaults = [])
    (room : Room k callerA) (inK : ∀ w h, YP w h → (K w.params).In h)
    (law : ∀ w mg fa h, (K w.params).In h → h.Ns mainGlobals mg → mg d.name = some (.ref fa) → ∃ fd : FuncData, (∀ (s : Shared) (v : Value), BindsTo s fd ⟨[v], []⟩ [(x, v)]) ∧ ∀ B : Heap, (K w.params).In B → B.Ns mainGlobals mg → FnG l.prog w (K w.params) mg B CX0 k fa fd [x] (spScript (K w.params))) :
    PySem.W.WalkO q loose XP YP l.row.toRowW d [] (fun f zs => PySem.call f zs) := by
  refine Att.attach_call most plain fun w _ s1 mg mb fa _ _ _ _ a vs ns G Y _ _ _ at_law script these few nogens => ?_
  have KX := inK w _ Y
  obtain ⟨fd, bind, F⟩ := law w mg fa _ KX G.T.g at_law
  have rel := vals_ints these
  have line : ns.length ≤ sizeLine := Nat.le_trans few (by decide)
  have go := law_from (ns := ns) KX G.T.g G.T.b G.T.builtins G.T.nolimit nogens script room F bind
  cases look : (K w.params).lookup a with
  | some o =>
    cases script.symm.trans (KX a o look)
    refine go (fun _ => none) (fun _ => .inl rfl) (.inr ⟨_, vs.toArray, _, look, rfl, rfl, rfl, ?_, ?_⟩) few (fun b u z => ((nomatch z : (none : Option HO) = some u → False) z).elim) (fun b z => absurd rfl z)
    · rw [List.size_toArray, these.length]
      exact line
    · rw [List.toList_toArray]
      exact rel
  | none =>
    obtain ⟨o, eo⟩ : ∃ o : HO, o = .frz { cls := .type "list", data := .seq vs.toArray } (.lst (ns.map V.int)) := ⟨_, rfl⟩
    have at_a : ∀ b, (if b = a then some o else none) = none ∨ (b = a ∧ (if b = a then some o else none) = some o) := fun b => by
      by_cases z : b = a
      · exact .inr ⟨z, if_pos z⟩
      · exact .inl (if_neg z)
    refine go (fun b => if b = a then some o else none) (fun b => ?_) (.inl (.inr ⟨_, (if_pos rfl).trans (congrArg some eo)⟩)) few (fun b u z => ?_) (fun b z => ?_)
    · rcases at_a b with z | ⟨_, z⟩
      · exact .inl z
      · exact .inr ⟨_, _, z.trans (congrArg some eo)⟩
    · rcases at_a b with y | ⟨e, y⟩
      · exact nomatch y.symm.trans z
      · cases y.symm.trans z
        subst e
        rw [eo]
        exact ⟨script, by rw [List.length_map]; exact line, vs, _, rel, script⟩
    · rcases at_a b with y | ⟨e, _⟩
      · exact absurd y z
      · exact ⟨e, look⟩
end Tg

/-! repr of own objects by their own __repr__, and {x!r} of data, where no repr is under way -/
namespace Tg
open PySem PySem.Spec PyProof.Rows L2
section
variable {prog : Program} {w : World} {A : Around} {E : Value → Shared → Prop} {s : Shared} {K : PySem.W.Frag} {x C f : Addr} {ox : Obj} {dx : Option Obj}
theorem repr_in {Q : Value → Shared → Prop} (room : A.in1.units < cLine) (inK : K.In s.heap) (I : PySem.W.InstAt s.heap x ox C dx) (at_ : PySem.W.findIn K (.ref C) "__repr__" = some (some (.ref f))) (fn : PySem.W.isFn K (.ref f) = true)
    (h : wpAny (model prog w) A.in1 (call (.ref f) [.ref x]) (fun r s' => ∃ y t, r = .str y t ∧ Q r s') E s) : wpAny (model prog w) A (call (.builtin "repr") [.ref x]) Q E s := by
  refine Calls.call_function_entry (id := "repr") PySem.F.kind_repr PySem.F.plain_repr PySem.F.entry_repr (PySem.F.args_repr1 (.ref x)) ?_
  unfold Builtin.«repr»
  refine wpAny_bind (m := oneArg "repr" _) (wpAny_pure (wpAny_bind (wpAny_cRoomFor room (wpAny_bind (wpAny_bind (I.type.here ((PySem.W.looks_findIn inK at_).here ?_)))))))
  show wpAny _ A.in1 (if (some (Value.ref f)).isNone = true then _ else _) _ E s
  rw [if_neg (fun z => nomatch z)]
  refine wpAny_bind (m := callSpecialIfBound? (.ref x) (Str.ofString "__repr__") _) (PySem.W.ifBound_K inK I at_ fn (wpAny_mono h (fun r s' told => ?_) fun _ _ y => y))
  obtain ⟨y, t, rfl, q⟩ := told
  refine wpAny_bind (m := isInstance (.str y t) (.type "str")) (wpAny_isInstance (T := "str") (typeIs_str _ y t) isSubtype_str_str ?_)
  first
    | exact wpAny_pure ⟨_, rfl, q⟩
    | (rw [if_pos rfl]; exact wpAny_pure ⟨_, rfl, q⟩)
    | (simp only [if_true]; exact wpAny_pure ⟨_, rfl, q⟩)
end
section
variable {X : Cx} {n : Nat}
def rReprO (C : Addr) (sp : Sp) (E : XK) : List V → Hp → VK → Prop := fun vs H Q => ∃ a dx fs, vs = [.ref a] ∧ H a = some (.ins C dx fs) ∧ sp [.ref a] H (fun v H' => ∃ y : Str, v = .str y ∧ Q v H') E
theorem cr_reprO {CX : CXT} {C f : Addr} {fd : FuncData} {sp : Sp} {E : XK} (F : FnG X.prog X.w X.K X.mg X.base CX n f fd ["self"] sp) (at_ : PySem.W.findIn X.K (.ref C) "__repr__" = some (some (.ref f))) (fn : PySem.W.isFn X.K (.ref f) = true) (hb : Binds X.K fd ["self"] []) (hx : Passes CX X E) (hr : Room (n + 1) X.A) (quiet : X.A.guards = some []) :
    CallR X (.builtin "repr") (rReprO C sp E) := by
  rintro pins s σ H vs us Q I r ⟨a, dx, fs, rfl, ha, told⟩
  obtain rfl : us = [.ref a] := by
    cases r with
    | cons p t => cases t; cases p; rfl
  obtain ⟨atA, J, _⟩ := ins_get I.hok ha
  obtain ⟨od, J, _⟩ := J.look
  have sb : Sub X n X.A.in1 := Sub.in1 ⟨hr, rfl⟩
  refine repr_in (by have := hr.units; show X.A.units + 1 < cLine; omega) I.kIn J at_ fn ?_
  have e0 : Env0 X.prog X.w X.K X.mg X.base X.A.in1 X.stack s H := by
    have env := I.env0
    exact ⟨sb.fr.symm ▸ env.frames, env.mod, env.bs, env.bsz, env.funs, env.frf, env.hok, env.bare⟩
  refine wpAny_call (codeAny_mono (F.runs (A := X.A.in1) (outer := X.stack) (s := s) (given := ⟨[.ref a], []⟩) (us := [.ref a]) (zs := [.ref a]) quiet sb.room e0 (by
    have z := hb s [.ref a] I.kIn rfl
    simpa using z) (.cons rfl .nil) told) fun r s' done => ?_)
  cases r with
  | error e => exact hx pins σ H s e s' I done
  | ok fl =>
    cases fl with
    | ret w =>
      obtain ⟨z, H', I', rz, y, ez, q⟩ := I.after done
      subst ez
      obtain ⟨t, rfl⟩ := rz
      exact ⟨y, t, rfl, .str y, H', I', ⟨t, rfl⟩, q⟩
    | next => exact False.elim done
    | brk => exact False.elim done
    | cont => exact False.elim done
/-- f'..' of two parts or more, by a name -/
def tJn (ts : List TE) : TE := fun σ H Q => tJs ts Str.empty σ H fun out H1 => Q (.str out) H1
theorem pe_jn {v1 v2 : Expr} {rest : List Expr} {ts : List TE} {pos : Pos} (h : PJ X (v1 :: v2 :: rest) ts) : PE X (.JoinedStr (v1 :: v2 :: rest) pos) (tJn ts) := pe_joined h
/-! ### {x!r} of data -/
def tFmtRD (K : PySem.W.Frag) (te : TE) : TE := fun σ H Q => te σ H fun x H1 => ∃ d : PyData, Dp K H1 x d ∧ d.showable = true ∧ d.hasDict = false ∧ d.depth ≤ 60 ∧ d.shown.length ≤ sizeLine ∧ Q (.str d.shown) H1
theorem pe_fmtRD {e : Expr} {te : TE} {pos : Pos} (deep : X.A.units + 64 < cLine) (quiet : X.A.guards = some []) (he : PE X e te) : PE X (.FormattedValue e 114 none pos) (tFmtRD X.K te) := by
  refine ⟨fun pins s σ H Q I h => ?_⟩
  refine wpAny_FormattedValue_repr (thn (he.run pins s σ H _ I h) fun v s1 ⟨x, H1, I1, r1, d, dp, h1, h2, h3, h4, q⟩ => ?_)
  obtain ⟨as, rd⟩ := Dp.reads I1 d x v dp r1
  cases dp with
  | non =>
    cases r1
    exact pyReprObj_none (wpAny_formatField_str ⟨.str "None", H1, I1.tok _, ⟨_, rfl⟩, q⟩ ⟨.str "None", H1, I1.tok _, ⟨_, rfl⟩, q⟩ h4)
  | bl b =>
    cases r1
    exact pyReprObj_bool (wpAny_formatField_str ⟨.str _, H1, I1.tok _, ⟨_, rfl⟩, q⟩ ⟨.str _, H1, I1.tok _, ⟨_, rfl⟩, q⟩ h4)
  | int i =>
    obtain ⟨t, rfl⟩ := r1
    exact pyReprObj_int (of_decide_eq_true h1) (wpAny_formatField_str ⟨.str _, H1, I1.tok _, ⟨_, rfl⟩, q⟩ ⟨.str _, H1, I1.tok _, ⟨_, rfl⟩, q⟩ h4)
  | str y =>
    obtain ⟨t, rfl⟩ := r1
    exact pyReprObj_str (wpAny_formatField_str ⟨.str _, H1, I1.tok _, ⟨_, rfl⟩, q⟩ ⟨.str _, H1, I1.tok _, ⟨_, rfl⟩, q⟩ h4) h4
  | lst _ _ =>
    cases r1
    exact pyReprObj_of_reads rd h1 (fun z => absurd (h2.symm.trans z) (by decide)) quiet (by omega) (fun _ _ z => z) (fun hx u tk kp => wpAny_formatField_str ⟨.str _, H1, I1.kept kp, ⟨_, rfl⟩, q⟩ ⟨.str _, H1, (I1.kept (t' := tk) kp).tok _, ⟨_, rfl⟩, q⟩ h4) h4
  | tup _ _ =>
    cases r1
    exact pyReprObj_of_reads rd h1 (fun z => absurd (h2.symm.trans z) (by decide)) quiet (by omega) (fun _ _ z => z) (fun hx u tk kp => wpAny_formatField_str ⟨.str _, H1, I1.kept kp, ⟨_, rfl⟩, q⟩ ⟨.str _, H1, (I1.kept (t' := tk) kp).tok _, ⟨_, rfl⟩, q⟩ h4) h4
end
theorem pe_fmtRDK {X : Cx} {e : Expr} {te : TE} {pos : Pos} (K : PySem.W.Frag) (deep : X.A.units + 64 < cLine) (quiet : X.A.guards = some []) (he : PE X e te) (hK : X.K = K := by rfl) : PE X (.FormattedValue e 114 none pos) (tFmtRD K te) := by
  subst hK
  exact pe_fmtRD deep quiet he
section
variable {P : Program} {w : World} {K : PySem.W.Frag} {mg : Str → Option Value} {base : Heap}
/-- a def that is called where no repr is under way -/
def CalG (P : Program) (w : World) (K : PySem.W.Frag) (mg : Str → Option Value) (base : Heap) (k : Nat) (x : Str) (ps : List Str) (sp : Sp) : Prop := ∃ f fd, FnG P w K mg base CX0 k f fd ps sp ∧ mg x = some (.ref f) ∧ PySem.W.keepIn K (.ref f) = true ∧ Binds K fd ps []
theorem pe_calG {X : Cx} {k : Nat} {x : Str} {ps : List Str} {sp : Sp} {e : Expr} {es : List Expr} {t : TA} {p pos : Pos} (c : CalG X.prog X.w X.K X.mg X.base k x ps sp) (quiet : X.A.guards = some []) (hr : Room k X.A) (gl : Gl X x) (ha : PA X (e :: es) t) (nodebug : (x == ("__debug__" : Str)) = false := by decide)
    (one : starEach (e :: es) X.env = (false, eval e X.env) :: starEach es X.env := by rfl) (nostar : (backTo pos (starEach es X.env)).any (·.1) = false := by rfl) : PE X (.Call (.Name x p) (e :: es) [] pos) (tCallG sp E0 t) := by
  obtain ⟨f, fd, F, hm, hk, hb⟩ := c
  exact pe_callG F quiet hr gl hm hk hb pass0 ha nodebug one nostar
end
end Tg

/-! len(x) of an own object by its own __len__ -/
namespace Tg
open PySem PySem.Spec PyProof.Rows L2
section
variable {prog : Program} {w : World} {A : Around} {E : Value → Shared → Prop} {s : Shared} {K : PySem.W.Frag} {x C f : Addr} {ox : Obj} {dx : Option Obj}
theorem len_in {Q : Value → Shared → Prop} (inK : K.In s.heap) (I : PySem.W.InstAt s.heap x ox C dx) (at_ : PySem.W.findIn K (.ref C) "__len__" = some (some (.ref f))) (fn : PySem.W.isFn K (.ref f) = true)
    (h : wpAny (model prog w) A.in1 (call (.ref f) [.ref x]) (fun r s' => ∃ n u, r = .int n u ∧ 0 ≤ n ∧ n < 2 ^ 63 ∧ Q (.int n s'.toks) { s' with toks := s'.toks + 1 }) E s) : wpAny (model prog w) A (call (.builtin "len") [.ref x]) Q E s := by
  refine Calls.call_function_entry (id := "len") kind_len plain_len entry_len (args_len1 (.ref x)) ?_
  unfold Builtin.«len»
  refine wpAny_bind (m := oneArg "len" _) (wpAny_pure (wpAny_bind (m := callSpecial? (.ref x) (Str.ofString "__len__")) ?_))
  unfold callSpecial?
  refine wpAny_bind (wpAny_bind (I.type.here ((PySem.W.looks_findIn inK at_).here ?_)))
  refine wpAny_holding (wpAny_bind ((PySem.W.bind_fn inK _ (beq_iff_eq.mp fn)).here ?_))
  refine wpAny_bind (wpAny_mono h (fun r s' told => ?_) fun _ _ y => y)
  obtain ⟨n, u, rfl, n0, n1, q⟩ := told
  refine wpAny_pure ?_
  refine wpAny_bind (wpAny_holding (wpAny_pure (wpAny_bind (wpAny_letGo ?_))))
  have lo : ¬ n < 0 := by omega
  have hi : ¬ n ≥ 2 ^ 63 := by omega
  change wpAny (model prog w) A.in1 (ite (n < 0) _ (ite (n ≥ 2 ^ 63) _ _)) _ E _
  rw [if_neg lo, if_neg hi]
  exact wpAny_bind (wpAny_mkInt (wpAny_pure ⟨_, rfl, q⟩))
end
section
variable {X : Cx} {n : Nat}
def rLenO (C : Addr) (sp : Sp) (E : XK) : List V → Hp → VK → Prop := fun vs H Q => ∃ a dx fs, vs = [.ref a] ∧ H a = some (.ins C dx fs) ∧ sp [.ref a] H (fun v H' => ∃ m : Nat, v = .int (m : Int) ∧ m < 2 ^ 60 ∧ Q v H') E
theorem cr_lenO {CX : CXT} {C f : Addr} {fd : FuncData} {sp : Sp} {E : XK} (F : FnOk X.prog X.w X.K X.mg X.base CX n f fd ["self"] sp) (at_ : PySem.W.findIn X.K (.ref C) "__len__" = some (some (.ref f))) (fn : PySem.W.isFn X.K (.ref f) = true) (hb : Binds X.K fd ["self"] []) (hx : Passes CX X E) (hr : Room (n + 1) X.A) :
    CallR X (.builtin "len") (rLenO C sp E) := by
  rintro pins s σ H vs us Q I r ⟨a, dx, fs, rfl, ha, told⟩
  obtain rfl : us = [.ref a] := by
    cases r with
    | cons p t => cases t; cases p; rfl
  obtain ⟨atA, J, _⟩ := ins_get I.hok ha
  obtain ⟨od, J, _⟩ := J.look
  have sb : Sub X n X.A.in1 := Sub.in1 ⟨hr, rfl⟩
  refine len_in I.kIn J at_ fn ?_
  have e0 : Env0 X.prog X.w X.K X.mg X.base X.A.in1 X.stack s H := by
    have env := I.env0
    exact ⟨sb.fr.symm ▸ env.frames, env.mod, env.bs, env.bsz, env.funs, env.frf, env.hok, env.bare⟩
  refine wpAny_call (codeAny_mono (F.run X.A.in1 X.stack s H ⟨[.ref a], []⟩ [.ref a] [.ref a] _ E sb.room e0 (by
    have z := hb s [.ref a] I.kIn rfl
    simpa using z) (.cons rfl .nil) told) fun r s' done => ?_)
  cases r with
  | error e => exact hx pins σ H s e s' I done
  | ok fl =>
    cases fl with
    | ret w =>
      obtain ⟨z, H', I', rz, m, ez, m60, q⟩ := I.after done
      subst ez
      obtain ⟨t, rfl⟩ := rz
      exact ⟨(m : Int), t, rfl, by omega, by omega, .int (m : Int), H', I'.tok _, ⟨_, rfl⟩, q⟩
    | next => exact False.elim done
    | brk => exact False.elim done
    | cont => exact False.elim done
end
end Tg

namespace Tg
open PySem PySem.Spec PyProof.Rows L2
/-! ### a comprehension without a test, of each item of which something is known that stands -/
section
variable {K : PySem.W.Frag} {g : TG} {te : TE} {vs : List Nat} {σ : L2.St} {H1 : Hp} {D : Addr} {Qd : Hp → Prop} {J : It}
theorem lc_rel (n : Nat) (Rl : Nat → V → Hp → Prop) (mono : ∀ i y H H', Rl i y H → Same H H' → Rl i y H') (put : ∀ i y H zs, Rl i y H → Rl i y (upd H D (.lst zs))) (nD : H1 D = none) (small : n < sizeLine)
    (stop : ∀ Hc, Same H1 Hc → J.stop n Hc) (go : ∀ i Hc, i < n → Same H1 Hc → J.go i Hc)
    (hs : ∀ i x Hc H' (Q : VK), i < n → Same H1 Hc → (∃ zs, Hc D = some (.lst zs)) → J.yld i Hc x H' → (∀ y H4, Same H' H4 → Rl i y H4 → Q y H4) → g x (wipe σ vs) H' fun σ2 H2 => wipe σ2 vs = wipe σ vs ∧ te σ2 H2 Q)
    (grow : ∀ i x Hc H', i < n → Same H1 Hc → J.yld i Hc x H' → Same Hc H')
    (hd : ∀ ys H', Same H1 H' → H' D = some (.lst ys) → ys.length = n → (∀ (i : Nat) (y : V), ys[i]? = some y → Rl i y H') → Qd H') :
    Walked J (upd H1 D (.lst [])) (TurnL g te vs σ D) Qd := by
  refine ⟨fun i m H => m = n - i ∧ i ≤ n ∧ Same H1 H ∧ ∃ ys, H D = some (.lst ys) ∧ ys.length = i ∧ ∀ (j : Nat) (y : V), ys[j]? = some y → Rl j y H, ⟨n, by omega, Nat.zero_le _, fun b o e => ?_, [], upd_same, rfl, fun j y e => by simp at e⟩, ?_⟩
  · rw [upd_ne (ne_of_none e nD)]
    exact e
  rintro i m H ⟨rfl, hi, sm, ys, hD, ly, hy⟩
  by_cases lt : i < n
  · refine .inr ⟨go i H lt sm, fun H' => Same H1 H' ∧ ∃ ys, H' D = some (.lst ys) ∧ ys.length = i + 1 ∧ ∀ (j : Nat) (y : V), ys[j]? = some y → Rl j y H', fun H' h => ⟨n - (i + 1), by omega, rfl, lt, h.1, h.2⟩, fun x H' yl => ?_⟩
    have s2 := grow i x H H' lt sm yl
    have z := hs i x H H' (fun y H4 => Grows D (fun H' => Same H1 H' ∧ ∃ ys, H' D = some (.lst ys) ∧ ys.length = i + 1 ∧ ∀ (j : Nat) (u : V), ys[j]? = some u → Rl j u H') y H4) lt sm ⟨ys, hD⟩ yl fun y H4 s4 hr => by
      refine ⟨ys, s4 _ _ (s2 _ _ hD), by omega, fun b o e => ?_, ys ++ [y], upd_same, by rw [List.length_append, ly]; rfl, fun j u e => put j u H4 _ ?_⟩
      · rw [upd_ne (ne_of_none e nD)]
        exact s4 _ _ (s2 _ _ (sm _ _ e))
      · rcases Nat.lt_or_ge j ys.length with c | c
        · rw [List.getElem?_append_left c] at e
          exact mono j u H H4 (hy j u e) (s2.trans s4)
        · have ej : j = ys.length := by
            have := (List.getElem?_eq_some_iff.mp e).1
            rw [List.length_append] at this
            have z1 : [y].length = 1 := rfl
            omega
          subst ej
          rw [List.getElem?_append_right (Nat.le_refl _), Nat.sub_self] at e
          cases e
          rw [ly]
          exact hr
    refine cast (congrArg (g x (wipe σ vs) H') (funext fun σ2 => funext fun H2 => ?_)) z
    unfold tYes
    exact congrArg _ (if_pos rfl).symm
  · obtain rfl : i = n := by omega
    exact .inl ⟨stop H sm, hd ys H sm hD ly hy⟩
/-- the same over a tuple -/
theorem lc_relT {a : Addr} {xs : List V} (Rl : Nat → V → Hp → Prop) (mono : ∀ i y H H', Rl i y H → Same H H' → Rl i y H') (put : ∀ i y H zs, Rl i y H → Rl i y (upd H D (.lst zs))) (nD : H1 D = none) (hx : ∀ H, SqT K H a xs) (small : xs.length < sizeLine)
    (hs : ∀ (i : Nat) (x : V) (Hc : Hp) (Q : VK), xs[i]? = some x → Same H1 Hc → (∃ zs, Hc D = some (.lst zs)) → (∀ y H4, Same Hc H4 → Rl i y H4 → Q y H4) → g x (wipe σ vs) Hc fun σ2 H2 => wipe σ2 vs = wipe σ vs ∧ te σ2 H2 Q)
    (hd : ∀ ys H', Same H1 H' → H' D = some (.lst ys) → ys.length = xs.length → (∀ (i : Nat) (y : V), ys[i]? = some y → Rl i y H') → Qd H') :
    Walked (Itt K a) (upd H1 D (.lst [])) (TurnL g te vs σ D) Qd :=
  lc_rel (J := Itt K a) xs.length Rl mono put nD small (fun Hc _ => ⟨xs, hx Hc, Nat.le_refl _⟩) (fun i Hc lt _ => ⟨xs, xs[i], hx Hc, List.getElem?_eq_getElem lt⟩)
    (fun i x Hc H' Q lt sm zs yl q => by
      obtain ⟨rfl, h⟩ := yl
      exact hs i x _ Q (h xs (hx _)) sm zs q) (fun i x Hc H' _ _ yl => by rw [yl.1]; exact Same.refl _) hd
end
end Tg

namespace Tg
open PySem PySem.Spec PyProof.Rows L2
/-- [.. for x in xs], xs a tuple that stands in every heap -/
theorem lc_mapT {K : PySem.W.Frag} {g : TG} {te : TE} {vs : List Nat} {σ : L2.St} {H1 : Hp} {D : Addr} {Qd : Hp → Prop} {a : Addr} {xs : List V} (ys : List V) (ly : ys.length = xs.length) (nD : H1 D = none) (hx : ∀ H, SqT K H a xs) (small : xs.length < sizeLine)
    (hs : ∀ (i : Nat) (x y : V) (Hc : Hp) (Q : VK), xs[i]? = some x → ys[i]? = some y → Same H1 Hc → (∀ H4, Same Hc H4 → Q y H4) → g x (wipe σ vs) Hc fun σ2 H2 => wipe σ2 vs = wipe σ vs ∧ te σ2 H2 Q)
    (hd : ∀ H', Same H1 H' → H' D = some (.lst ys) → Qd H') : Walked (Itt K a) (upd H1 D (.lst [])) (TurnL g te vs σ D) Qd :=
  lc_walk (J := Itt K a) xs.length ys ly nD small (fun Hc _ => ⟨xs, hx Hc, Nat.le_refl _⟩) (fun i Hc lt _ => ⟨xs, xs[i], hx Hc, List.getElem?_eq_getElem lt⟩)
    (fun i x y Hc H' Q lt ey sm yl q => by
      obtain ⟨rfl, h⟩ := yl
      exact hs i x y _ Q (h xs (hx _)) ey sm q) (fun i x Hc H' _ _ yl => by rw [yl.1]; exact Same.refl _) hd
end Tg

set_option maxHeartbeats 2000000
namespace Tg
open PySem PySem.Spec PyProof.Rows L2
section
variable {prog : Program} {s : Shared} {E : Value → Shared → Prop} {w : World} {A : Around}
/-- (lambda v: v[0])(t), t a tuple -/
theorem lam_first {f c t : Addr} {pm ctv u : Value} {qual nm : Str} {params : Arguments} {scope : Scope} {p1 p2 p3 : Pos} {kk : Nat} {its : List Value} {Q : Value → Shared → Prop} (room : A.depth < recursionLimit) (lim : s.heap.NoLimit)
    (at_f : s.heap.get? f = some (PySem.W.kla_obj "<lambda>" qual params (.Subscript (.Name nm p1) (.Constant (.int 0) kk p2) p3) scope [] pm c ctv)) (code : s.heap.CodeRec (.ref c) qual)
    (binds : ∀ v, bindArgs (PySem.W.kla_fn "<lambda>" qual params (.Subscript (.Name nm p1) (.Constant (.int 0) kk p2) p3) scope [] pm (.ref c) ctv) ⟨[v], []⟩ = pure [(nm, v)])
    (loc : scope.names.lookup nm = some .local) (nocell : ∀ x ∈ scope.names, x.2 ≠ .cell) (kind : scope.kind = .function) (co : scope.isCoroutine = false) (gen : scope.isGenerator = false) (nodebug : (nm == ("__debug__" : Str)) = false) (tup : PyProof.Rows.IsTup s.heap t its.toArray) (first : its[0]? = some u)
    (told : ∀ h tk, (∀ b o, s.heap.get? b = some o → h.get? b = some o) → Q u { s with heap := h, toks := tk }) :
    wpAny (model prog w) A (call (.ref f) [.ref t]) Q E s := by
  refine wpAny_call (PySem.W.kla_callFunE room at_f rfl co gen rfl code ?_)
  rw [binds]
  refine wpAny_pure (wpAny_newFunctionEnv nocell (fun x hx => by
    cases List.mem_singleton.mp hx
    exact loc) (fun h1 ns sb => ⟨lim.fresh _ sb, PySem.W.kla_codeExpr (Subscript_ ?_)⟩) kind)
  have keeps : ∀ b o, s.heap.get? b = some o → h1.get? b = some o := fun b o e => sb.extBut b o (Nat.ne_of_lt (Heap.lt_size e)) (Heap.get?_push_of_some _ e)
  have tup1 : PyProof.Rows.IsTup h1 t its.toArray := by
    obtain ⟨o, e, r⟩ := tup
    exact ⟨o, keeps _ _ e, r⟩
  obtain ⟨m, ix, get, _, _, _⟩ := atI_get (atI_nat (j := 0) first)
  refine wpAny_Name (wpAny_loadName_local kind loc ns (v := .ref t) (by simp [List.lookup]) ?_) nodebug
  refine wpAny_Constant_int ?_
  refine subscriptTail_builtinR (x := u) tup1.typeIs slot_tuple_getitem.lookup (PyProof.Rows.getItem_tuple (j := m) tup1 (by decide) (by decide) ?_ ?_ ⟨rfl, told _ _ keeps⟩)
  · rw [List.size_toArray]
    exact ix
  · simpa using get
end
end Tg

set_option maxHeartbeats 400000
namespace Tg
open PySem PySem.Spec PyProof.Rows L2 LamX
/-- a tuple of two, its place, its first (a text), its second -/
abbrev KP := Addr × Str × V
def KTp (H : Hp) (q : KP) : Prop := H q.1 = some (.tup [.str q.2.1, q.2.2])
def kRefs (L : List KP) : List V := L.map fun q => V.ref q.1
def sortK (L : List KP) : List KP := L.mergeSort fun a b => decide (a.2.1.cps.toList ≤ b.2.1.cps.toList)
/-- sorted(e, key=lambda v: v[0]) of a list of such tuples -/
def tSortK (T : List (Addr × Str)) (te : TE) : TE := fun σ H Q => te σ H fun v H1 => ∃ (l : Addr) (L : List KP), [v] = [V.ref l] ∧ H1 l = some (.lst (kRefs L)) ∧ (∀ q, q ∈ L → KTp H1 q) ∧ Tabs T H1 ∧
  ∀ (H2 : Hp) (p : Addr), ExtN H1 H2 → Tabs T H2 → H2 p = none → Q (.ref p) (upd H2 p (.lst (kRefs (sortK L))))
theorem kRefs_vals : ∀ {L : List KP} {us : List Value}, Vals (kRefs L) us → us = L.map fun q => Value.ref q.1
  | [], us, r => by cases r; rfl
  | q :: L, us, r => by
    cases r with
    | cons a b =>
      cases a
      rw [kRefs_vals b]
      rfl
theorem each_refs : ∀ (L : List KP), PySem.W.EachIs (fun (v : Value) (q : KP) => v = .ref q.1) (L.map fun q => Value.ref q.1) L
  | [] => .nil
  | q :: L => .cons rfl (each_refs L)
theorem vals_each : ∀ {out : List Value} {L : List KP}, PySem.W.EachIs (fun (v : Value) (q : KP) => v = .ref q.1) out L → Vals (kRefs L) out
  | _, _, .nil => .nil
  | _, _, .cons a b => by
    subst a
    exact .cons rfl (vals_each b)
section
variable {X : Cx} {T : List (Addr × Str)} {c P : Addr} {k kk : Nat} {e : Expr} {te : TE} {params : Arguments} {scope : Scope} {nm : Str} {p p1 p2 p3 lpos kpos pos : Pos}
theorem sortK_call {pins : List (Addr × Obj)} {σ : L2.St} {H : Hp} {s : Shared} {E : Value → Shared → Prop} {f c l : Addr} {pm ctv : Value} {qual : Str} {L : List KP} {Q : VK} (I : Inv X pins σ H s) (room : Room k X.A) (at_l : H l = some (.lst (kRefs L))) (tups : ∀ q, q ∈ L → KTp H q)
    (at_f : s.heap.get? f = some (PySem.W.kla_obj "<lambda>" qual params (.Subscript (.Name nm p1) (.Constant (.int 0) kk p2) p3) scope [] pm c ctv)) (code : s.heap.CodeRec (.ref c) qual)
    (binds : ∀ v, bindArgs (PySem.W.kla_fn "<lambda>" qual params (.Subscript (.Name nm p1) (.Constant (.int 0) kk p2) p3) scope [] pm (.ref c) ctv) ⟨[v], []⟩ = pure [(nm, v)])
    (loc : scope.names.lookup nm = some .local) (nocell : ∀ x ∈ scope.names, x.2 ≠ .cell) (kind : scope.kind = .function) (co : scope.isCoroutine = false) (gen : scope.isGenerator = false) (nodebug : (nm == ("__debug__" : Str)) = false)
    (told : ∀ p, H p = none → Q (.ref p) (upd H p (.lst (kRefs (sortK L))))) :
    wpAny (model X.prog X.w) X.A (call (.builtin "sorted") [.ref l] [(Str.ofString "key", .ref f)]) (EP X pins σ Q) E s := by
  obtain ⟨small, its, n, rel, obj⟩ := I.hok l _ at_l
  have eits := kRefs_vals rel
  have lenL : L.length ≤ sizeLine := by
    have z : (kRefs L).length ≤ sizeLine := small
    rw [kRefs, List.length_map] at z
    exact z
  have each0 : PySem.W.EachIs (fun (v : Value) (q : KP) => v = .ref q.1) its L := by
    rw [eits]
    exact each_refs L
  have depth0 : ∀ q : KP, q ∈ L → X.A.units + 2 + (PyData.str q.2.1).depth < cLine := fun q _ => by
    have := room.units
    have d : (PyData.str q.2.1).depth = 0 := by simp [PyData.depth]
    omega
  have turn : ∀ (v : Value) (q : KP), v = .ref q.1 → q ∈ L → ∀ (h : Heap) (tk : Nat), (∀ b o, s.heap.get? b = some o → h.get? b = some o) →
      wpAny (model X.prog X.w) X.A.in1.in1 (call (.ref f) [v]) (PySem.W.KeyPure (.str q.2.1) { s with heap := h, toks := tk }) (fun _ _ => False) { s with heap := h, toks := tk } := by
    intro v q ev hq h tk keeps
    subst ev
    obtain ⟨_, its2, rel2, tup⟩ := I.hok q.1 _ (tups q hq)
    obtain ⟨u1, u2, rfl, ⟨t1, rfl⟩, _⟩ := rel2.two
    exact lam_first (s := { s with heap := h, toks := tk }) (A := X.A.in1.in1) (u := .str q.2.1 t1) room.depth (I.nolimit.keeps keeps) (keeps _ _ at_f) (code.keeps keeps) binds loc nocell kind co gen nodebug (tup.keeps keeps) rfl fun h3 tk3 k3 => ⟨h3, tk3, rfl, k3, .str _ _⟩
  refine PySem.W.sorted_key_data (f := .ref f) (b := false) (R := fun (v : Value) (q : KP) => v = .ref q.1) (bs := L) (vs := its) (fun q : KP => .str q.2.1) (PySem.IsL.isList obj) each0 (PySem.W.AllAlike.of fun _ _ => by simp [PySem.W.alike]) (PySem.W.Sortable.others fun _ => ⟨by simp, by simp⟩) lenL
      depth0 (ksk_s1 _ _) (fun _ => ksk_l1 _ _) (fun _ => ksk_t1 _ _) turn fun out cc h' tk keeps _ at_p len each => ?_
  rw [PySem.W.dataLe_str] at each
  have rel3 : Vals (kRefs (sortK L)) out := vals_each each
  have len3 : (kRefs (sortK L)).length ≤ sizeLine := by
    rw [rel3.length, len]
    exact lenL
  exact ⟨.ref _, upd H (s.heap.objs.size + 1) (.lst (kRefs (sortK L))), I.laid (t' := tk) keeps (Nat.le_succ _) ⟨len3, out, cc, rel3, at_p⟩, rfl, told _ (I.hok.fresh (Nat.le_succ _))⟩
theorem pe_sortK (list : PE X e te) (room : Room k X.A) (table : TabB X.base X.mg c P) (coded : X.env.code = .ref c) (among : (P, X.env.qual ++ "<lambda>") ∈ T) (alone : ∀ p ∈ T, p.1 = P → p.2 = X.env.qual ++ "<lambda>") (nodefaults : defaultsOf params X.env = ([], []))
    (glob : Gl X "sorted") (unset : X.mg "sorted" = none) (nostar : starEach [e] X.env = (false, eval e X.env) :: starEach [] X.env) (closed : cloFrom X.env.cells scope.names [] = [])
    (binds : ∀ qual pm c ctv v, bindArgs (PySem.W.kla_fn "<lambda>" qual params (.Subscript (.Name nm p1) (.Constant (.int 0) kk p2) p3) scope [] pm (.ref c) ctv) ⟨[v], []⟩ = pure [(nm, v)])
    (loc : scope.names.lookup nm = some .local) (nocell : ∀ x ∈ scope.names, x.2 ≠ .cell) (nofree : ∀ x ∈ scope.names, x.2 ≠ .free) (kind : scope.kind = .function) (co : scope.isCoroutine = false) (gen : scope.isGenerator = false) (nodebug : (nm == ("__debug__" : Str)) = false) :
    PE X (.Call (.Name "sorted" p) [e] [⟨some "key", .Lambda params (.Subscript (.Name nm p1) (.Constant (.int 0) kk p2) p3) scope lpos, kpos⟩] pos) (tSortK T te) := by
  constructor
  intro pins s σ H Q I read
  have args := (pa_cons list pa_nil nostar).run pos pins s σ H (fun vs H1 => ∃ (l : Addr) (L : List KP), vs = [.ref l] ∧ H1 l = some (.lst (kRefs L)) ∧ (∀ q, q ∈ L → KTp H1 q) ∧ Tabs T H1 ∧ ∀ (H2 : Hp) (p : Addr), ExtN H1 H2 → Tabs T H2 → H2 p = none → Q (.ref p) (upd H2 p (.lst (kRefs (sortK L))))) I ?_
  · refine wpAny_Call_Name_kw (ld_blt I glob unset PyProof.Rows.boot_sorted (PyProof.Rows.callWith_kw (thn args fun us s1 ⟨vs, H1, I1, r1, q1⟩ => ?_) ?_ ?_ ?_ ?_))
    · obtain ⟨l, L, ev, at_l, tups, tabs, told⟩ := q1
      subst ev
      obtain ⟨u, rfl, ru⟩ := r1.one
      cases ru
      refine PyProof.Rows.evalAll_cons (wpAny_bind (lam_make2 I1 table coded among alone tabs nodefaults (fun y hy z => absurd z (nofree y hy)) fun f c' pm ctv H2 s2 I2 ext tabs2 at_f nf _ at_c => wpAny_bind (wpAny_standAt (wpAny_pure (PyProof.Rows.evalAll_nil ?_)))))
      rw [closed] at at_f
      have codeR : s2.heap.CodeRec (.ref c') (X.env.qual ++ "<lambda>") := by
        obtain ⟨⟨oc, vs, t, z1, z2, z3⟩, _⟩ := I2.hok c' _ at_c
        exact ⟨c', oc, vs, t, rfl, z1, z2, z3⟩
      exact sortK_call I2 room (ext _ _ at_l fun ps z => by cases z) (fun q hq => ext _ _ (tups q hq) fun ps z => by cases z) at_f codeR (binds _ _ _ _) loc nocell kind co gen nodebug fun p np => told H2 p ext tabs2 np
    · rw [nostar]
      rfl
    · rw [nostar]
      rfl
    · rfl
    · rfl
  · exact read
end
end Tg

set_option maxHeartbeats 400000
namespace Tg
open PySem PySem.Spec PyProof.Rows L2 LamX
/-! ### a def that makes lambdas: its code object is known -/
structure FunC (K : PySem.W.Frag) (x qual : Str) (st : Stmt) (c : Addr) (f : Addr) (fd : FuncData) : Prop where
  ex : ∃ (oc : Value) (od : Option Addr) (kV doc pm : Value) (an : Option Addr) (ct : Value) (osl : Array (Option Value)),
    fd = PySem.W.fnOf x qual (defArgs st) (defBody st) (defScope st) .none kV doc pm an (.ref c) ct ∧ K.lookup f = some ⟨oc, od, .func fd, osl⟩ ∧ PySem.W.codeIn K (.ref c) qual = true
  kept : PySem.W.keepIn K (.ref f) = true
section
variable {P : Program} {w : World} {K : PySem.W.Frag} {mg : Str → Option Value} {base : Heap}
theorem FunC.ok {x qual : Str} {st : Stmt} {c f : Addr} {fd : FuncData} {N ps : List Str} {k : Nat} {sp : Sp} (F : FunC K x qual st c f fd) (S : FnScope N ps (defScope st)) (len : ∀ vs H Q E, sp vs H Q E → vs.length = ps.length)
    (hbody : ∀ (A : Around) (outer : List Env) (s : Shared) (H : Hp) (vs : List V) (Q : VK) (E : XK), Room k (A.deeper (envOfC qual (defScope st) s.heap.objs.size f (.ref c))) → sp vs H Q E →
      ∃ t, PSs (cxOf CX0 P w K mg base N qual (defScope st) f (.ref c) A outer s H E).nox (defBody st) t ∧ t { nx := fun _ H' => Q .non H', rt := Q } (start N vs) H) : FnOk P w K mg base CX0 (k + 1) f fd ps sp := by
  obtain ⟨oc, od, kV, doc, pm, an, ct, osl, rfl, lk, hcd⟩ := F.ex
  refine fn_of lk hcd S len fun A outer s H vs Q E hr told => ?_
  obtain ⟨t, h, q⟩ := hbody A outer s H vs Q E hr told
  exact ⟨t, h.nox, q⟩
theorem FunC.fn {x qual : Str} {st : Stmt} {c f : Addr} {fd : FuncData} (F : FunC K x qual st c f fd) : Fun K x qual st f fd := by
  obtain ⟨oc, od, kV, doc, pm, an, ct, osl, h1, h2, h3⟩ := F.ex
  exact ⟨⟨oc, od, kV, doc, pm, an, .ref c, ct, osl, h1, h2, h3⟩, F.kept⟩
theorem func_mk {x qual : Str} {st : Stmt} {c f : Addr} {oc : Value} {od an : Option Addr} {osl : Array (Option Value)} {kV doc pm ct : Value} (l : K.lookup f = some ⟨oc, od, .func (PySem.W.fnOf x qual (defArgs st) (defBody st) (defScope st) .none kV doc pm an (.ref c) ct), osl⟩)
    (h : PySem.W.codeIn K (.ref c) qual = true) (k : PySem.W.keepIn K (.ref f) = true) : FunC K x qual st c f (PySem.W.fnOf x qual (defArgs st) (defBody st) (defScope st) .none kV doc pm an (.ref c) ct) := ⟨⟨oc, od, kV, doc, pm, an, ct, osl, rfl, l, h⟩, k⟩
end
/-! ### what stands where a table may have grown -/
/-- T's tables are well, all but tables stands -/
structure Grow (T : List (Addr × Str)) (H H' : Hp) : Prop where
  ext : ExtN H H'
  tabs : Tabs T H'
theorem Grow.trans {T : List (Addr × Str)} {H H1 H2 : Hp} (a : Grow T H H1) (b : Grow T H1 H2) : Grow T H H2 := ⟨a.ext.trans b.ext, b.tabs⟩
theorem Grow.same {T : List (Addr × Str)} {H H1 H2 : Hp} (a : Grow T H H1) (b : Same H1 H2) : Grow T H H2 := ⟨a.ext.trans (.of b), a.tabs.ext b⟩
theorem Grow.of {T : List (Addr × Str)} {H H' : Hp} (t : Tabs T H) (s : Same H H') : Grow T H H' := ⟨.of s, t.ext s⟩
theorem fix_tbl {o : HO} (f : Fix o) : ∀ ps, o ≠ .tbl ps := fun ps z => by
  rw [z] at f
  exact f
theorem ExtN.kt {H H' : Hp} (e : ExtN H H') : KT H H' := fun a o f h => e a o h (fix_tbl f)
theorem rd_ext {H H' : Hp} {a : Addr} {o : HO} (s : ExtN H H') (n : ∀ ps, o ≠ .tbl ps) (h : Rd H a o) : Rd H' a o := by
  rcases h with h | ⟨ob, h⟩
  · exact .inl (s _ _ h n)
  · exact .inr ⟨ob, s _ _ h (fun ps z => nomatch z)⟩
theorem sqL_ext {K : PySem.W.Frag} {H H' : Hp} {a : Addr} {xs : List V} (s : ExtN H H') (h : SqL K H a xs) : SqL K H' a xs := h.imp (rd_ext s fun _ z => nomatch z) id
theorem sqT_ext {K : PySem.W.Frag} {H H' : Hp} {a : Addr} {xs : List V} (s : ExtN H H') (h : SqT K H a xs) : SqT K H' a xs := h.imp (rd_ext s fun _ z => nomatch z) id
mutual
theorem dp_ext {K : PySem.W.Frag} {H H' : Hp} (s : ExtN H H') : ∀ {x : V} {d : PyData}, Dp K H x d → Dp K H' x d
  | _, _, .non => .non
  | _, _, .bl b => .bl b
  | _, _, .int i => .int i
  | _, _, .str z => .str z
  | _, _, .lst a b => .lst (sqL_ext s a) (dpAll_ext s b)
  | _, _, .tup a b => .tup (sqT_ext s a) (dpAll_ext s b)
theorem dpAll_ext {K : PySem.W.Frag} {H H' : Hp} (s : ExtN H H') : ∀ {xs : List V} {ds : List PyData}, DpAll K H xs ds → DpAll K H' xs ds
  | _, _, .nil => .nil
  | _, _, .cons a b => .cons (dp_ext s a) (dpAll_ext s b)
end
theorem ext_new {H H1 : Hp} {p : Addr} {o : HO} (e : ExtN H H1) (h : H p = none) : ExtN H (upd H1 p o) := fun b x y n => by
  rw [upd_ne (ne_of_none y h)]
  exact e _ _ y n
theorem tabs_kp {T : List (Addr × Str)} {p : Addr} {o : HO} {H H' : Hp} (k : Kp p H H') (h : H p = some o) (n1 : ∀ ps, o ≠ .tbl ps) (n2 : ∀ φ, o ≠ .ext φ) (t : Tabs T H) : Tabs T H' := fun r hr => by
  obtain ⟨ps, h1, h2, h3⟩ := t r hr
  refine ⟨ps, k _ _ (fun z => n1 ps (Option.some.inj (h.symm.trans (by rw [← z]; exact h1)))) h1, h2, fun pos cv hc => ?_⟩
  obtain ⟨code, e1, e2⟩ := h3 pos cv hc
  exact ⟨code, e1, k _ _ (fun z => n2 _ (Option.some.inj (h.symm.trans (by rw [← z]; exact e2)))) e2⟩
end Tg

set_option maxHeartbeats 1000000
namespace Tg
open PySem PySem.Spec PyProof.Rows L2
/-! ### a lambda of one parameter that reads names of the def that made it -/
/-- a: its parameter, its one own name; all other names are the maker's or global -/
structure Lam1 (N : List Str) (sc scope : Scope) (a : Str) : Prop where
  kind : scope.kind = .function
  notCo : scope.isCoroutine = false
  notGen : scope.isGenerator = false
  par : scope.names.lookup a = some .local
  own : ∀ y, y ∈ scope.names → (y.2 = .local → y.1 = a) ∧ y.2 ≠ .cell
  free : ∀ y, y ∈ scope.names → y.2 = .free → sc.names.lookup y.1 = some .cell ∨ sc.names.lookup y.1 = some .free
  new : a ∉ N
def lam1B (N : List Str) (sc scope : Scope) (a : Str) : Bool :=
  decide (scope.kind = .function) && !scope.isCoroutine && !scope.isGenerator && decide (scope.names.lookup a = some .local) && decide (a ∉ N) &&
    scope.names.all fun y => (!decide (y.2 = .local) || decide (y.1 = a)) && !decide (y.2 = .cell) && (!decide (y.2 = .free) || decide (sc.names.lookup y.1 = some .cell) || decide (sc.names.lookup y.1 = some .free))
theorem lam1_by {N : List Str} {sc scope : Scope} {a : Str} (h : lam1B N sc scope a = true) : Lam1 N sc scope a := by
  unfold lam1B at h
  simp only [List.all_eq_true, Bool.and_eq_true, Bool.or_eq_true, decide_eq_true_eq, Bool.not_eq_true', decide_eq_false_iff_not] at h
  obtain ⟨⟨⟨⟨⟨k, c⟩, g⟩, p⟩, n⟩, all⟩ := h
  refine ⟨k, c, g, p, fun y hy => ⟨fun e => ?_, (all y hy).1.2⟩, fun y hy e => ?_, n⟩
  · rcases (all y hy).1.1 with z | z
    · exact absurd e z
    · exact z
  · rcases (all y hy).2 with (z | z) | z
    · exact absurd e z
    · exact .inl z
    · exact .inr z
/-- the context of its body, entered at s with the heap H -/
def lamC (X : Cx) (A : Around) (s : Shared) (H : Hp) (scope : Scope) (f c : Addr) (a : Str) : Cx where
  prog := X.prog
  w := X.w
  K := X.K
  mg := X.mg
  base := X.base
  A := A.deeper (LamX.lamEnv X scope s.heap.objs.size f c)
  N := X.N ++ [a]
  s_0 := s
  H_0 := H
  env := LamX.lamEnv X scope s.heap.objs.size f c
  outer := X.stack
  stack := LamX.lamEnv X scope s.heap.objs.size f c :: X.stack
  ex := []
  fn := fun _ => false
  calm := true
  pn := []
  xe := fun _ _ => False
section
variable {X : Cx} {H : Hp} {s : Shared} {σ : L2.St} {pins : List (Addr × Obj)}
theorem Lam1.has {scope : Scope} {a : Str} (L : Lam1 X.N X.env.scope scope a) (ok : X.Ok) {y : Str} (h : (y, NameKind.free) ∈ scope.names) : ∃ c, X.env.cells.lookup y = some c :=
  (L.free _ h rfl).elim (fun k => ok.has _ (.inl k)) fun k => ok.has _ (.inr k)
theorem Lam1.nocell {N : List Str} {sc scope : Scope} {a y : Str} {G : Prop} (L : Lam1 N sc scope a) (h : scope.names.lookup y = some .cell) : G := ((L.own _ (PySem.mem_of_lookup h)).2 rfl).elim
/-- the lambda's cells are the maker's -/
theorem clo_is {scope : Scope} {a : Str} (L : Lam1 X.N X.env.scope scope a) (ok : X.Ok) {y : Str} {c : Addr} (e : (cloFrom X.env.cells scope.names []).lookup y = some c) : X.env.cells.lookup y = some c := by
  rcases cloFrom_mem (PySem.mem_of_lookup e) with inside | ⟨fr, ec⟩
  · cases inside
  · obtain ⟨c1, hc⟩ := L.has ok fr
    rw [ec, hc]
    rfl
theorem clo_has {scope : Scope} {a : Str} (L : Lam1 X.N X.env.scope scope a) (ok : X.Ok) {y : Str} (h : scope.names.lookup y = some .free) : ∃ c, (cloFrom X.env.cells scope.names []).lookup y = some c :=
  mem_lookup (cloFrom_has (cells := X.env.cells) (acc := []) (PySem.mem_of_lookup h))
theorem lam1_start {A : Around} {scope : Scope} {f c : Addr} {a : Str} {v : V} {u : Value} {h1 : Heap} {tk : Nat} (I : Inv X pins σ H s) (L : Lam1 X.N X.env.scope scope a) (fr : A.frames = some X.stack) (calm : A.handled = none) (rv : L2.RelV v u)
    (ns : h1.Ns s.heap.objs.size fun y => ([(a, u)] : List (Str × Value)).reverse.lookup y) (kp : ∀ b o, s.heap.get? b = some o → h1.get? b = some o) :
    Inv (lamC X A s H scope f c a) [] (σ ++ [some v]) H { s with heap := h1, toks := tk } := by
  have e0 := I.env0
  have none_in : ∀ b : Addr, b ∉ (lamC X A s H scope f c a).ex := fun b z => nomatch (show b ∈ ([] : List Addr) from z)
  have ok : (lamC X A s H scope f c a).Ok := by
    refine ⟨e0.mod, L.kind, rfl, rfl, Nat.le_refl _, fun y z b q1 q2 => I.ok.inj y z b (clo_is L I.ok q1) (clo_is L I.ok q2), fun y hy => ?_, fun y b q _ => ?_, fun _ => calm, Around.frames_deeper fr, .inr ⟨rfl, rfl⟩, fun b z => absurd z (none_in b), e0.bs, e0.bsz, fun b _ _ => none_in b, fun b z => absurd z (none_in b), e0.funs, e0.frf⟩
    · rcases (show scope.names.lookup y = some .cell ∨ scope.names.lookup y = some .free from hy) with isCell | isFree
      · exact L.nocell isCell
      · exact clo_has L I.ok isFree
    · exact nomatch (show false = true from q)
  refine ⟨ok, rfl, e0.bare, Un.kept kp, ⟨_, ns, fun i y v' q1 q2 vis => ?_⟩, fun y b q => ?_, e0.hok.fresh (Nat.le_refl _), fun y b q => I.freeC y b (clo_is L I.ok q), (fun p hp => nomatch (show p ∈ ([] : List (Addr × Obj)) ++ [] from hp)), e0.hok.kept kp, ?_⟩
  · have q1 : (X.N ++ [a])[i]? = some y := q1
    rcases Nat.lt_or_ge i X.N.length with lt | ge
    · rw [List.getElem?_append_left lt] at q1
      rw [List.getElem?_append_left (I.len.symm ▸ lt)] at q2
      have notA : y ≠ a := fun z => L.new (z ▸ List.mem_of_getElem? q1)
      have vis : Vis scope y := vis
      rcases vis with k | k | k
      · exact absurd ((L.own _ (PySem.mem_of_lookup k)).1 rfl) notA
      · exact L.nocell k
      · obtain ⟨m, _, held⟩ := I.loc
        have fk := L.free _ (PySem.mem_of_lookup k) rfl
        obtain ⟨u', r, look⟩ := held i y v' q1 q2 (fk.elim (fun z => .inr (.inl z)) fun z => .inr (.inr z))
        obtain ⟨b, hb⟩ := clo_has L I.ok k
        refine ⟨u', r, .inr ⟨.inr k, b, hb, ?_⟩⟩
        have hb' := clo_is L I.ok hb
        rcases look with ⟨kl, _⟩ | ⟨_, b2, e2, o, ho, hd⟩
        · have kl : X.env.scope.names.lookup y = some .local := kl
          rcases fk with z | z
          · exact absurd (z.symm.trans kl) (fun z => by cases z)
          · exact absurd (z.symm.trans kl) (fun z => by cases z)
        · cases hb'.symm.trans e2
          exact ⟨o, kp _ _ ho, hd⟩
    · have last : i = X.N.length := by
        have := (List.getElem?_eq_some_iff.mp q1).1
        rw [List.length_append] at this
        have one : [a].length = 1 := rfl
        omega
      subst last
      rw [List.getElem?_append_right (Nat.le_refl _), Nat.sub_self] at q1
      rw [List.getElem?_append_right (Nat.le_of_eq I.len), I.len, Nat.sub_self] at q2
      cases q1
      cases q2
      exact ⟨u, rv, .inl ⟨L.par, by simp [List.lookup]⟩⟩
  · obtain ⟨x, o, ho, hd⟩ := I.cell y b (clo_is L I.ok q)
    exact ⟨x, o, kp _ _ ho, hd⟩
  · show (σ ++ [some v]).length = (X.N ++ [a]).length
    rw [List.length_append, List.length_append, I.len]
    rfl
/-- the lambda called -/
theorem lam1_call {A : Around} {scope : Scope} {f c : Addr} {a : Str} {v : V} {u : Value} {pm ctv : Value} {params : Arguments} {body : Expr} {tb : TE} {Q : VK} {E : Value → Shared → Prop} (I : Inv X pins σ H s) (L : Lam1 X.N X.env.scope scope a) (fr : A.frames = some X.stack) (calm : A.handled = none) (room : A.depth < recursionLimit)
    (at_f : s.heap.get? f = some (PySem.W.kla_obj "<lambda>" (X.env.qual ++ "<lambda>") params body scope (cloFrom X.env.cells scope.names []) pm c ctv)) (code : H c = some (LamX.CodeO c (X.env.qual ++ "<lambda>"))) (rv : L2.RelV v u)
    (binds : bindArgs (PySem.W.kla_fn "<lambda>" (X.env.qual ++ "<lambda>") params body scope (cloFrom X.env.cells scope.names []) pm (.ref c) ctv) ⟨[u], []⟩ = pure [(a, u)])
    (read : PE (lamC X A s H scope f c a) body tb) (told : tb (σ ++ [some v]) H Q) :
    wpAny (model X.prog X.w) A (call (.ref f) [u]) (CE X.stack X.prog X.w H s Q) E s := by
  obtain ⟨⟨oc, vs, t, z1, z2, z3⟩, _⟩ := I.hok c _ code
  refine wpAny_call (PySem.W.kla_callFunE room at_f rfl L.notCo L.notGen rfl ⟨c, oc, vs, t, rfl, z1, z2, z3⟩ ?_)
  rw [binds]
  refine wpAny_pure (wpAny_newFunctionEnv (fun y hy => (L.own y hy).2) (fun y hy => ?_) (fun h1 ns sb => ⟨I.nolimit.fresh _ sb, PySem.W.kla_codeExpr ?_⟩) L.kind)
  · cases List.mem_singleton.mp hy
    exact L.par
  · have kp : ∀ b o, s.heap.get? b = some o → h1.get? b = some o := fun b o e => sb.extBut b o (Nat.ne_of_lt (Heap.lt_size e)) (Heap.get?_push_of_some _ e)
    have J := lam1_start (A := A) (scope := scope) (f := f) (c := c) (tk := s.toks + 1) I L fr calm rv ns kp
    refine wpAny_mono (read.run [] _ _ H Q J told) (fun r s' got => ?_) fun _ _ z => z.elim
    obtain ⟨x, H', J', rr, q⟩ := got
    exact ⟨x, H', J'.os, J'.bare, J'.base, J'.hok, rr, q⟩
end
end Tg

set_option maxHeartbeats 1000000
namespace Tg
open PySem PySem.Spec PyProof.Rows L2 LamX
/-! ### min(xs, key=lambda a: ..), xs a tuple that the top has written, the keys whole numbers -/
/-- the place of the first least of kf's first n + 1 -/
abbrev leastAt (kf : Nat → Int) (n : Nat) : Nat := argBest (fun i j => decide (kf i < kf j)) n
theorem leastAt_first (kf : Nat → Int) : ∀ n, leastAt kf n ≤ n ∧ ∀ j, j ≤ n → kf (leastAt kf n) ≤ kf j ∧ (j < leastAt kf n → kf (leastAt kf n) < kf j)
  | 0 => ⟨Nat.le_refl _, fun j hj => by
    obtain rfl : j = 0 := by omega
    exact ⟨Int.le_refl _, fun z => absurd z (Nat.lt_irrefl _)⟩⟩
  | n + 1 => by
    obtain ⟨h1, h2⟩ := leastAt_first kf n
    have e : leastAt kf (n + 1) = if decide (kf (n + 1) < kf (leastAt kf n)) = true then n + 1 else leastAt kf n := rfl
    by_cases c : kf (n + 1) < kf (leastAt kf n)
    · rw [e, if_pos (decide_eq_true c)]
      refine ⟨Nat.le_refl _, fun j upTo => ?_⟩
      by_cases last : j = n + 1
      · subst last
        exact ⟨Int.le_refl _, fun z => absurd z (Nat.lt_irrefl _)⟩
      · have a1 := (h2 j (by omega)).1
        constructor
        · omega
        · omega
    · rw [e, if_neg (fun z => c (of_decide_eq_true z))]
      refine ⟨by omega, fun j upTo => ?_⟩
      by_cases last : j = n + 1
      · subst last
        exact ⟨by omega, fun z => by omega⟩
      · exact h2 j (by omega)
/-- a tuple that the top has written -/
def KTup (K : PySem.W.Frag) (a : Addr) (xs : List V) : Prop := ∃ (o : Obj) (its : Array Value) (n : Nat), K.lookup a = some o ∧ o.cls = .type "tuple" ∧ o.data = .seq its n ∧ its.size ≤ sizeLine ∧ Vals xs its.toList
section
variable {X : Cx} {H : Hp} {s : Shared} {σ : L2.St} {pins : List (Addr × Obj)}
/-- what min turns of its own: out of reach of all that is told -/
structure Away (X : Cx) (pins : List (Addr × Obj)) (b : Addr) : Prop where
  new : X.s_0.heap.objs.size ≤ b
  loc : b ≠ X.env.locals
  cells : ∀ x c, X.env.cells.lookup x = some c → c ≠ b
  pins : ∀ p, p ∈ X.pn ++ pins → p.1 ≠ b
  frames : b ∉ frs X.stack
theorem away_of (I : Inv X pins σ H s) {b : Addr} (h : s.heap.objs.size ≤ b) : Away X pins b := by
  have lt : ∀ {q : Addr} {o : Obj}, s.heap.get? q = some o → q ≠ b := fun e => Nat.ne_of_lt (Nat.lt_of_lt_of_le (Heap.lt_size e) h)
  refine ⟨Nat.le_trans I.sz h, fun z => absurd (z ▸ I.lt) (Nat.not_lt_of_le h), fun x c e => ?_, fun p hp => lt (I.pin p hp).1, fun z => ?_⟩
  · obtain ⟨v, o, ho, _⟩ := I.cell x c e
    exact lt ho
  · rcases List.mem_cons.mp (I.stkSub _ z) with e | e
    · exact absurd (e ▸ I.lt) (Nat.not_lt_of_le h)
    · exact I.nofs h e
/-- what stands, stands where only such things have turned -/
theorem inv_moved {s' : Shared} {S J : Addr} (I : Inv X pins σ H s) (aS : Away X pins S) (aJ : Away X pins J) (nS : H S = none) (nJ : H J = none) (m : Moved [S, J] (fun a b => b = a) s s') : Inv X pins σ H s' := by
  have off : ∀ {b : Addr}, b ≠ S → b ≠ J → b ∉ [S, J] := fun h1 h2 z => (List.mem_cons.mp z).elim h1 fun z => h2 (List.mem_singleton.mp z)
  have known : ∀ {b : Addr} {o : HO}, H b = some o → b ∉ [S, J] := fun e => off (fun z => by rw [z, nS] at e; cases e) fun z => by rw [z, nJ] at e; cases e
  have J0 := I.step (h' := s'.heap) (g' := s'.gens) (t' := s'.toks) (d' := s'.drawn) (H' := H) (ch := [S, J]) (fun b hb => ?_) (fun b o _ _ hc e _ => m.heap b o hc e) (fun b o _ _ hc e _ => ⟨o.slots, m.heap b o hc e⟩) (fun _ _ _ _ n => n) (fun b o hc e => ⟨o, m.heap b o hc e⟩)
    (fun _ _ e => e) (fun _ _ _ e => e) (fun b ps e => ⟨#[], by rw [e, Array.append_empty]⟩) (fun mm hm => ?_) (fun b o e => ?_) (by rw [m.gens]; exact I.bare)
  · obtain ⟨hh, g, d, t, os⟩ := s'
    obtain rfl : os = s.os := m.os
    exact J0
  · match b, hb with
    | _, .head _ => exact ⟨.inr aS.new, aS.loc, aS.cells, aS.pins⟩
    | _, .tail _ (.head _) => exact ⟨.inr aJ.new, aJ.loc, aJ.cells, aJ.pins⟩
  · exact let ⟨o, es, ep, here, r⟩ := hm; ⟨o, es, ep, m.heap _ o (off (Ne.symm aS.loc) (Ne.symm aJ.loc)) here, r⟩
  · exact (I.hok b o e).stay (fun c u hc q => m.heap c u (hc.elim (fun z => z ▸ known e) fun z => known z) q) (fun _ q => q) fun _ _ q => q
/-- over a state where f is made -/
theorem minKey_call {f c : Addr} {a : Str} {l : Addr} {xs : List V} {kf : Nat → Int} {pm ctv : Value} {params : Arguments} {body : Expr} {scope : Scope} {tb : TE} {k : Nat} {Q : VK} {E : Value → Shared → Prop} (I : Inv X pins σ H s) (room : Room (k + 1) X.A) (L : Lam1 X.N X.env.scope scope a)
    (tup : KTup X.K l xs) (some_ : 0 < xs.length)
    (at_f : s.heap.get? f = some (PySem.W.kla_obj "<lambda>" (X.env.qual ++ "<lambda>") params body scope (cloFrom X.env.cells scope.names []) pm c ctv)) (new_f : H f = none) (fr_f : f ∉ frs X.stack) (code : H c = some (LamX.CodeO c (X.env.qual ++ "<lambda>")))
    (binds : ∀ u, bindArgs (PySem.W.kla_fn "<lambda>" (X.env.qual ++ "<lambda>") params body scope (cloFrom X.env.cells scope.names []) pm (.ref c) ctv) ⟨[u], []⟩ = pure [(a, u)])
    (read : ∀ (A : Around) (s' : Shared) (H' : Hp), Room k A → PE (lamC X A s' H' scope f c a) body tb)
    (told : ∀ (i : Nat) (x : V) (H3 : Hp) (Q3 : VK), xs[i]? = some x → Same H H3 → (∀ H4, Same H3 H4 → Q3 (.int (kf i)) H4) → tb (σ ++ [some x]) H3 Q3)
    (fin : ∀ (H3 : Hp) (x : V), Same H H3 → xs[leastAt kf (xs.length - 1)]? = some x → Q x H3) :
    wpAny (model X.prog X.w) X.A (call (.builtin "min") [.ref l] [(Str.ofString "key", .ref f)]) (EP X pins σ Q) E s := by
  obtain ⟨o, its, n0, lk, oc, od, small, vals⟩ := tup
  have at_l := I.kIn l o lk
  have size : its.size = xs.length := by
    rw [← Array.length_toList]
    exact vals.length.symm
  have r1 := room.in1
  refine call_min_walkK (PySem.W.iter_tupleW (vs := its) r1.hd ⟨o, at_l, oc, n0, od⟩ fun s2 es2 walks st0 bound _ kept2 => ?_)
  have I2 : L2.Inv X pins σ H s2 := by
    subst es2
    exact I.kept kept2
  have big : s.heap.objs.size < s2.heap.objs.size := bound _ (.head _)
  have aI : Away X pins s.heap.objs.size := away_of I (Nat.le_refl _)
  have aS : Away X pins s2.heap.objs.size := away_of I2 (Nat.le_refl _)
  have lI : l ≠ s.heap.objs.size := Nat.ne_of_lt (Heap.lt_size at_l)
  have lS : l ≠ s2.heap.objs.size := Nat.ne_of_lt (Nat.lt_trans (Heap.lt_size at_l) big)
  have fI : f ≠ s.heap.objs.size := Nat.ne_of_lt (Heap.lt_size at_f)
  have fS : f ≠ s2.heap.objs.size := Nat.ne_of_lt (Nat.lt_trans (Heap.lt_size at_f) big)
  have at_f2 := kept2 _ _ at_f
  let obj := PySem.W.kla_obj "<lambda>" (X.env.qual ++ "<lambda>") params body scope (cloFrom X.env.cells scope.names []) pm c ctv
  refine ⟨s.heap.objs.size, _, _, _, its.size, _, _, fun s' => ∃ H', Inv X pins σ H' s' ∧ Same H H' ∧ H' f = none ∧ H' s.heap.objs.size = none ∧ H' s2.heap.objs.size = none ∧ s'.heap.get? f = some obj, fun i u _ => ∃ t, u = .int (kf i) t, fun i j => decide (kf i < kf j), rfl, walks, st0, bound, by omega, ?_, ⟨H, I2, Same.refl _, new_f, I.hok.fresh (Nat.le_refl _), I2.hok.fresh (Nat.le_refl _), at_f2⟩, fun v s' pv inv => ?_⟩
  · refine ⟨fun s3 s4 ⟨H', J, sm, n1, n2, n3, hf⟩ mv => ⟨H', inv_moved J aS aI n3 n2 mv, sm, n1, n2, n3, mv.heap _ _ (fun z => (List.mem_cons.mp z).elim fS fun z => fI (List.mem_singleton.mp z)) hf⟩, fun i u s3 s4 h _ => h, fun i v s3 oS Q' E' hi pv ⟨H', J, sm, n1, n2, n3, hf⟩ st atS next => ?_, fun i j ki kj s3 Q' E' _ h1 h2 q => CmpOf.ints_lt (P := fun i v => ∃ t, v = .int (kf i) t) kf (fun _ _ h => h) i j _ _ _ _ _ h1 h2 q⟩
    obtain ⟨x, ex, rx⟩ : ∃ x, xs[i]? = some x ∧ L2.RelV x v := by
      have q : its.toList[i]? = some v := by
        rw [Array.getElem?_toList]
        exact pv
      have lt : i < xs.length := by rw [← size]; exact hi
      obtain ⟨u, hu, r⟩ := vals.get (List.getElem?_eq_getElem lt)
      cases hu.symm.trans q
      exact ⟨_, List.getElem?_eq_getElem lt, r⟩
    refine wpAny_mono (lam1_call (Q := fun r H'' => r = .int (kf i) ∧ Same H' H'') J L (by exact J.ok.frames) r1.hd r1.depth hf (sm _ _ code) rx (binds v) (read X.A.in1 s3 H' r1) (told i x H' _ ex sm fun H4 s4 => ⟨rfl, s4⟩)) (fun r s4 got => ?_) fun _ _ z => z
    obtain ⟨y, H4, os4, bare4, un4, hok4, ry, ey, sm4⟩ := got
    subst ey
    have J4 : Inv X pins σ H4 s4 := by
      obtain ⟨hh, g, d, t, os'⟩ := s4
      obtain rfl : os' = s3.os := os4
      exact J.call (ch := []) un4 hok4 bare4 fun _ z => nomatch z
    have stay : ∀ {b : Addr} {ob : Obj}, s3.heap.get? b = some ob → H' b = none → b ∉ frs X.stack → s4.heap.get? b = some ob := fun e n nf => un4.keep _ _ e n nf (fun z => nomatch z)
    have gone : ∀ {b : Addr} {ob : Obj}, s3.heap.get? b = some ob → H' b = none → H4 b = none := fun e n => un4.free _ _ e n (fun z => nomatch z)
    obtain ⟨⟨oI, atI, cI, dI⟩, _⟩ := st
    refine next r s4 ⟨H4, J4, sm.trans sm4, gone hf n1, gone atI n2, gone atS n3, stay hf n1 fr_f⟩ ⟨⟨oI, stay atI n2 aI.frames, cI, dI⟩, ⟨o, J4.kIn l o lk, oc, n0, od⟩⟩ (stay atS n3 aS.frames) ry fun _ _ h => h
  · obtain ⟨H', J, sm, _⟩ := inv
    have pv : its[leastAt kf (its.size - 1)]? = some v := pv
    rw [← Array.getElem?_toList, size] at pv
    have le := (leastAt_first kf (xs.length - 1)).1
    have lt : leastAt kf (xs.length - 1) < xs.length := by omega
    obtain ⟨u, hu, r⟩ := vals.get (List.getElem?_eq_getElem lt)
    cases hu.symm.trans pv
    exact ⟨_, H', J, r, fin H' _ sm (List.getElem?_eq_getElem lt)⟩
end
def tMinKey (K : PySem.W.Frag) (T : List (Addr × Str)) (te tb : TE) : TE := fun σ H Q => te σ H fun v H1 => ∃ (l : Addr) (xs : List V) (kf : Nat → Int), [v] = [V.ref l] ∧ KTup K l xs ∧ 0 < xs.length ∧ Tabs T H1 ∧ ∀ H2, ExtN H1 H2 → Tabs T H2 →
  (∀ (i : Nat) (x : V) (H3 : Hp) (Q3 : VK), xs[i]? = some x → Same H2 H3 → (∀ H4, Same H3 H4 → Q3 (.int (kf i)) H4) → tb (σ ++ [some x]) H3 Q3) ∧ ∀ (H3 : Hp) (x : V), Same H2 H3 → xs[leastAt kf (xs.length - 1)]? = some x → Q x H3
section
variable {X : Cx} {T : List (Addr × Str)} {c P : Addr} {k : Nat} {e body : Expr} {te tb : TE} {params : Arguments} {scope : Scope} {a : Str} {p lpos kpos pos : Pos}
theorem pe_minKey (he : PE X e te) (room : Room (k + 1) X.A) (table : TabB X.base X.mg c P) (coded : X.env.code = .ref c) (among : (P, X.env.qual ++ "<lambda>") ∈ T) (alone : ∀ p ∈ T, p.1 = P → p.2 = X.env.qual ++ "<lambda>") (nodefaults : defaultsOf params X.env = ([], []))
    (glob : Gl X "min") (unset : X.mg "min" = none) (L : Lam1 X.N X.env.scope scope a) (read : ∀ (A : Around) (s' : Shared) (H' : Hp) (f c : Addr), Room k A → PE (lamC X A s' H' scope f c a) body tb)
    (binds : ∀ qual cl pm c ctv u, bindArgs (PySem.W.kla_fn "<lambda>" qual params body scope cl pm (.ref c) ctv) ⟨[u], []⟩ = pure [(a, u)]) (nostar : starEach [e] X.env = (false, eval e X.env) :: starEach [] X.env := by rfl) :
    PE X (.Call (.Name "min" p) [e] [⟨some "key", .Lambda params body scope lpos, kpos⟩] pos) (tMinKey X.K T te tb) := by
  constructor
  intro pins s σ H Q I told
  have args := (pa_cons he pa_nil nostar).run pos pins s σ H (fun vs H1 => ∃ (l : Addr) (xs : List V) (kf : Nat → Int), vs = [V.ref l] ∧ KTup X.K l xs ∧ 0 < xs.length ∧ Tabs T H1 ∧ ∀ H2, ExtN H1 H2 → Tabs T H2 →
    (∀ (i : Nat) (x : V) (H3 : Hp) (Q3 : VK), xs[i]? = some x → Same H2 H3 → (∀ H4, Same H3 H4 → Q3 (.int (kf i)) H4) → tb (σ ++ [some x]) H3 Q3) ∧ ∀ (H3 : Hp) (x : V), Same H2 H3 → xs[leastAt kf (xs.length - 1)]? = some x → Q x H3) I told
  refine wpAny_Call_Name_kw (ld_blt I glob unset boot_min (PyProof.Rows.callWith_kw (thn args fun us s1 got => ?_) (by rw [nostar]; rfl) (by rw [nostar]; rfl) rfl rfl))
  obtain ⟨vs, H1, I1, rel, l, xs, kf, rfl, tup, some_, tabs, rest⟩ := got
  obtain ⟨u, rfl, ru⟩ := rel.one
  cases ru
  refine PyProof.Rows.evalAll_cons (wpAny_bind (lam_make2 I1 table coded among alone tabs nodefaults (fun y hy z => L.has I1.ok (z ▸ hy)) fun f c' pm ctv H2 s2 I2 ext tabs2 at_f nf fr at_c => wpAny_bind (wpAny_standAt (wpAny_pure (PyProof.Rows.evalAll_nil ?_)))))
  obtain ⟨body_told, fin⟩ := rest H2 ext tabs2
  exact minKey_call I2 room L tup some_ at_f nf fr at_c (fun u => binds _ _ _ _ _ u) (fun A s' H' r => read A s' H' f c' r) body_told fin
end
end Tg

namespace Tg
/-! ### two lists of numbers with the same signs by a way are the same -/
theorem zeros_inj : ∀ {i j : Nat} {r t : List Nat}, List.replicate i 48 ++ 49 :: r = List.replicate j 48 ++ 49 :: t → i = j ∧ r = t
  | 0, 0, _, _, h => ⟨rfl, (List.cons.inj h).2⟩
  | 0, j + 1, _, _, h => by
    rw [List.replicate_succ] at h
    exact nomatch (List.cons.inj h).1
  | i + 1, 0, _, _, h => by
    rw [List.replicate_succ] at h
    exact nomatch (List.cons.inj h).1
  | i + 1, j + 1, _, _, h => by
    rw [List.replicate_succ, List.replicate_succ] at h
    obtain ⟨h1, h2⟩ := zeros_inj (List.cons.inj h).2
    exact ⟨by rw [h1], h2⟩
theorem bt_same {w a b : Nat} (h : bt w a = bt w b) (ha : a < 2 ^ w) (hb : b < 2 ^ w) : a = b := by
  have z := congrArg binNum h
  rw [num_bt, num_bt, Nat.mod_eq_of_lt ha, Nat.mod_eq_of_lt hb] at z
  exact z
theorem own_inj {a b : Nat} {r t : List Nat} (h : ownL a ++ r = ownL b ++ t) : a = b ∧ r = t := by
  unfold ownL at h
  rw [List.append_assoc, List.append_assoc, List.cons_append, List.cons_append] at h
  obtain ⟨e, h2⟩ := zeros_inj h
  rw [e] at h2
  obtain ⟨h3, h4⟩ := List.append_inj h2 (by rw [bt_len, bt_len])
  refine ⟨?_, h4⟩
  have la : blen (a + 1) = (b + 1).log2 + 1 := by rw [blen_pos (Nat.succ_pos a), e]
  have lb : blen (b + 1) = (b + 1).log2 + 1 := blen_pos (Nat.succ_pos b)
  have z := congrArg binNum h3
  rw [num_bt, num_bt] at z
  have a1 := Nat.log2_self_le (n := a + 1) (by omega)
  have b1 := Nat.log2_self_le (n := b + 1) (by omega)
  have a2 := lt_blen (a + 1)
  have b2 := lt_blen (b + 1)
  rw [la, Nat.pow_succ] at a2
  rw [lb, Nat.pow_succ] at b2
  rw [e] at a1
  generalize 2 ^ (b + 1).log2 = p at *
  have ea : (a + 1) % p = a + 1 - p := by rw [Nat.mod_eq_sub_mod a1, Nat.mod_eq_of_lt (by omega)]
  have eb : (b + 1) % p = b + 1 - p := by rw [Nat.mod_eq_sub_mod b1, Nat.mod_eq_of_lt (by omega)]
  omega
theorem cd_inj {a b : Int} {r t : List Nat} (h : cd a ++ r = cd b ++ t) : a = b ∧ r = t := by
  obtain ⟨h1, h2⟩ := own_inj h
  exact ⟨tN_inj h1, h2⟩
theorem owns_inj : ∀ {as bs : List Nat} {r t : List Nat}, as.length = bs.length → (as.map ownL).flatten ++ r = (bs.map ownL).flatten ++ t → as = bs ∧ r = t
  | [], [], _, _, _, h => ⟨rfl, h⟩
  | [], _ :: _, _, _, l, _ => nomatch l
  | _ :: _, [], _, _, l, _ => nomatch l
  | a :: as, b :: bs, r, t, l, h => by
    simp only [List.map_cons, List.flatten_cons, List.append_assoc] at h
    obtain ⟨h1, h2⟩ := own_inj h
    obtain ⟨h3, h4⟩ := owns_inj (Nat.succ.inj l) h2
    exact ⟨by rw [h1, h3], h4⟩
theorem cds_inj {as bs : List Int} (l : as.length = bs.length) (h : cds as = cds bs) : as = bs := by
  have e : ∀ cs : List Int, cds cs = ((cs.map tN).map ownL).flatten ++ [] := fun cs => by
    rw [List.append_nil, List.map_map]
    rfl
  rw [e, e] at h
  have z := (owns_inj (by rw [List.length_map, List.length_map, l]) h).1
  exact List.map_inj_right (fun x y q => tN_inj q) |>.mp z
theorem difs_inj : ∀ {a : Int} {r s : List Int}, difs (a :: r) = difs (a :: s) → r = s
  | _, [], [], _ => rfl
  | _, [], _ :: _, h => nomatch h
  | _, _ :: _, [], h => nomatch h
  | a, b :: r, c :: s, h => by
    obtain ⟨h1, h2⟩ := List.cons.inj (show (b - a) :: difs (b :: r) = (c - a) :: difs (c :: s) from h)
    obtain rfl : b = c := by omega
    rw [difs_inj h2]
theorem stp_inj : ∀ {xs ys : List Int}, stp xs = stp ys → xs = ys
  | [], [], _ => rfl
  | [], _ :: _, h => nomatch h
  | _ :: _, [], h => nomatch h
  | a :: r, b :: s, h => by
    obtain ⟨h1, h2⟩ := List.cons.inj (show a :: difs (a :: r) = b :: difs (b :: s) from h)
    subst h1
    rw [difs_inj h2]
theorem trn_inj : ∀ {xs ys : List Int}, trn xs = trn ys → xs = ys
  | [], [], _ => rfl
  | [], _ :: _, h => nomatch h
  | _ :: _, [], h => nomatch h
  | a :: r, b :: s, h => by
    obtain ⟨h1, h2⟩ := List.cons.inj (show a :: stp (difs (a :: r)) = b :: stp (difs (b :: s)) from h)
    subst h1
    rw [difs_inj (stp_inj h2)]
theorem unr_cons (r : Run) (rs : List Run) : unr (r :: rs) = List.replicate r.2 r.1 ++ unr rs := rfl
theorem rcds_cons (r : Run) (rs : List Run) : rcds (r :: rs) = cd r.1 ++ (ownL (r.2 - 1) ++ rcds rs) := by
  show rcd r ++ rcds rs = _
  unfold rcd
  rw [List.append_assoc]
theorem rcds_inj : ∀ {rs ss : List Run}, (∀ r, r ∈ rs → 1 ≤ r.2) → (∀ r, r ∈ ss → 1 ≤ r.2) → (unr rs).length = (unr ss).length → rcds rs = rcds ss → rs = ss
  | [], [], _, _, _, _ => rfl
  | [], s :: ss, _, p2, l, _ => by
    have := p2 s (.head _)
    rw [unr_cons, List.length_append, List.length_replicate] at l
    have z : (unr []).length = 0 := rfl
    omega
  | r :: rs, [], p1, _, l, _ => by
    have := p1 r (.head _)
    rw [unr_cons, List.length_append, List.length_replicate] at l
    have z : (unr []).length = 0 := rfl
    omega
  | (x, m) :: rs, (y, n) :: ss, p1, p2, l, h => by
    rw [rcds_cons, rcds_cons] at h
    obtain ⟨h1, h2⟩ := cd_inj h
    obtain ⟨h3, h4⟩ := own_inj h2
    have a1 : 1 ≤ m := p1 _ (.head _)
    have a2 : 1 ≤ n := p2 _ (.head _)
    have h3 : m - 1 = n - 1 := h3
    have h1 : x = y := h1
    obtain rfl : m = n := by omega
    subst h1
    have l : m + (unr rs).length = m + (unr ss).length := by
      rw [unr_cons, unr_cons, List.length_append, List.length_append, List.length_replicate] at l
      exact l
    rw [rcds_inj (fun r hr => p1 r (.tail _ hr)) (fun r hr => p2 r (.tail _ hr)) (by omega) h4]
theorem rn_inj {xs ys : List Int} (l : xs.length = ys.length) (h : rcds (rn xs) = rcds (rn ys)) : xs = ys := by
  obtain ⟨u1, p1⟩ := rn_all xs
  obtain ⟨u2, p2⟩ := rn_all ys
  have e := rcds_inj p1 p2 (by rw [u1, u2, l]) h
  rw [← u1, ← u2, e]
theorem enc_inj {W : Way} {xs ys : List Int} (l : xs.length = ys.length) (h : enc W xs = enc W ys) : xs = ys := by
  cases W with
  | steps => exact stp_inj (cds_inj (by rw [stp_len, stp_len, l]) h)
  | turns => exact trn_inj (cds_inj (by rw [trn_len, trn_len, l]) h)
  | runs => exact rn_inj l h
/-- codes of one width -/
theorem flat_inj {w : Nat} : ∀ {as bs : List (List Nat)}, (∀ l, l ∈ as → l.length = w) → (∀ l, l ∈ bs → l.length = w) → as.length = bs.length → as.flatten = bs.flatten → as = bs
  | [], [], _, _, _, _ => rfl
  | [], _ :: _, _, _, l, _ => nomatch l
  | _ :: _, [], _, _, l, _ => nomatch l
  | a :: as, b :: bs, h1, h2, l, h => by
    obtain ⟨e1, e2⟩ := List.append_inj (show a ++ as.flatten = b ++ bs.flatten from h) (by rw [h1 a (.head _), h2 b (.head _)])
    rw [e1, flat_inj (fun l hl => h1 l (.tail _ hl)) (fun l hl => h2 l (.tail _ hl)) (Nat.succ.inj l) e2]
theorem map_same {α β : Type} {f g : α → β} : ∀ {xs ys : List α}, xs.length = ys.length → xs.map f = ys.map g → (∀ x y, x ∈ xs → y ∈ ys → f x = g y → x = y) → xs = ys
  | [], [], _, _, _ => rfl
  | [], _ :: _, l, _, _ => nomatch l
  | _ :: _, [], l, _, _ => nomatch l
  | x :: xs, y :: ys, l, h, inj => by
    obtain ⟨h1, h2⟩ := List.cons.inj h
    rw [inj x y (.head _) (.head _) h1, map_same (Nat.succ.inj l) h2 fun a b ha hb => inj a b (.tail _ ha) (.tail _ hb)]
theorem encP_inj {xs ys : List Int} (ne : xs ≠ []) (l : xs.length = ys.length) (h : encP xs = encP ys) : xs = ys := by
  have ne2 : ys ≠ [] := fun z => ne (List.length_eq_zero_iff.mp (by rw [l, z]; rfl))
  unfold encP at h
  rw [List.append_assoc, List.append_assoc] at h
  obtain ⟨e1, h2⟩ := cd_inj h
  obtain ⟨e2, h3⟩ := own_inj h2
  have c1 : ∀ c, c ∈ plC xs → c.length = wdP xs := fun c hc => by
    obtain ⟨x, _, rfl⟩ := List.mem_map.mp hc
    exact bt_len _ _
  have c2 : ∀ c, c ∈ plC ys → c.length = wdP xs := fun c hc => by
    obtain ⟨x, _, rfl⟩ := List.mem_map.mp hc
    rw [e2]
    exact bt_len _ _
  have lp : (plC xs).length = (plC ys).length := by
    unfold plC
    rw [List.length_map, List.length_map, l]
  have same := flat_inj c1 c2 lp h3
  have small : ∀ {zs : List Int} {x : Int}, zs ≠ [] → x ∈ zs → (x - mnI zs).toNat < 2 ^ wdP zs := fun {zs x} nz hx => by
    have m1 := (mxI_is nz).2 x hx
    exact Nat.lt_of_le_of_lt (by omega) (lt_blen (mxI zs - mnI zs).toNat)
  refine map_same l same fun x y hx hy q => ?_
  rw [e2, e1] at q
  have m1 := (mnI_is ne).2 x hx
  have m2 := (mnI_is ne2).2 y hy
  have s1 := small ne hx
  rw [e2, e1] at s1
  have := bt_same q s1 (small ne2 hy)
  omega
theorem gaps_pos : ∀ {b : List Int}, b.Pairwise (· < ·) → ∀ d, d ∈ difs b → 1 ≤ d
  | [], _, d, h => nomatch h
  | [_], _, d, h => nomatch h
  | x :: y :: r, p, d, h => by
    have p0 := List.pairwise_cons.mp p
    have h : d ∈ (y - x) :: difs (y :: r) := h
    obtain e | h := List.mem_cons.mp h
    · have := p0.1 y (.head _)
      omega
    · exact gaps_pos p0.2 d h
theorem encB_inj {xs ys : List Int} (ne : xs ≠ []) (l : xs.length = ys.length) (h : encB xs = encB ys) : xs = ys := by
  have ne2 : ys ≠ [] := fun z => ne (List.length_eq_zero_iff.mp (by rw [l, z]; rfl))
  have b1 := book_ne (List.length_pos_iff.mpr ne)
  have b2 := book_ne (List.length_pos_iff.mpr ne2)
  unfold encB at h
  simp only [List.append_assoc] at h
  obtain ⟨e1, h2⟩ := own_inj h
  obtain ⟨e2, h3⟩ := cd_inj h2
  have lb : (bookOf xs).length = (bookOf ys).length := by omega
  have eg : ∀ zs : List Int, gpC zs = ((difs (bookOf zs)).map fun d => (d - 1).toNat).map ownL := fun zs => by
    rw [List.map_map]
    rfl
  rw [eg, eg] at h3
  obtain ⟨e3, h4⟩ := owns_inj (by rw [List.length_map, List.length_map, difs_len, difs_len, lb]) h3
  have ed : difs (bookOf xs) = difs (bookOf ys) := map_same (by rw [difs_len, difs_len, lb]) e3 fun x y hx hy q => by
    have p1 := gaps_pos (book_is xs).1 x hx
    have p2 := gaps_pos (book_is ys).1 y hy
    have q : (x - 1).toNat = (y - 1).toNat := q
    omega
  have eb : bookOf xs = bookOf ys := by
    cases ex : bookOf xs with
    | nil =>
      rw [ex] at b1
      exact absurd b1 (Nat.lt_irrefl _)
    | cons a r =>
      cases ey : bookOf ys with
      | nil =>
        rw [ey] at b2
        exact absurd b2 (Nat.lt_irrefl _)
      | cons b s =>
        rw [ex, ey] at ed e2
        have e2 : a = b := e2
        subst e2
        rw [difs_inj ed]
  have ew : wdB xs = wdB ys := by
    unfold wdB
    rw [eb]
  have c1 : ∀ c, c ∈ bkC xs → c.length = wdB xs := fun c hc => by
    obtain ⟨x, _, rfl⟩ := List.mem_map.mp hc
    exact bt_len _ _
  have c2 : ∀ c, c ∈ bkC ys → c.length = wdB xs := fun c hc => by
    obtain ⟨x, _, rfl⟩ := List.mem_map.mp hc
    rw [ew]
    exact bt_len _ _
  have lp : (bkC xs).length = (bkC ys).length := by
    unfold bkC
    rw [List.length_map, List.length_map, l]
  have same := flat_inj c1 c2 lp h4
  have small : ∀ {zs : List Int} {x : Int}, x ∈ zs → (bookOf zs).idxOf x < (bookOf zs).length ∧ (bookOf zs).idxOf x < 2 ^ wdB zs := fun {zs x} hx => by
    have i1 : (bookOf zs).idxOf x < (bookOf zs).length := List.idxOf_lt_length_of_mem (((book_is zs).2 x).mpr hx)
    exact ⟨i1, Nat.lt_of_le_of_lt (by omega) (lt_blen ((bookOf zs).length - 1))⟩
  refine map_same l same fun x y hx hy q => ?_
  obtain ⟨i1, s1⟩ := small hx
  obtain ⟨i2, s2⟩ := small hy
  rw [ew, eb] at q
  rw [ew, eb] at s1
  rw [eb] at i1
  have ei := bt_same q s1 s2
  have g1 := List.getElem_idxOf i1
  have g2 := List.getElem_idxOf i2
  rw [← g1, ← g2]
  simp only [ei]
/-! ### runs take no more signs than the numbers' own codes, each with one more -/
theorem ownL_len (n : Nat) : (ownL n).length = 2 * (n + 1).log2 + 1 := by
  unfold ownL
  rw [List.length_append, List.length_cons, List.length_replicate, bt_len]
  omega
def looseL (xs : List Int) : Nat := (xs.map fun x => (cd x).length + 1).sum
theorem loose_rep (x : Int) (m : Nat) : looseL (List.replicate m x) = m * ((cd x).length + 1) := by
  unfold looseL
  rw [List.map_replicate, List.sum_replicate_nat]
theorem loose_app (a b : List Int) : looseL (a ++ b) = looseL a + looseL b := by
  unfold looseL
  rw [List.map_append, List.sum_append_nat]
theorem run_short (x : Int) {m : Nat} (h : 1 ≤ m) : (cd x).length + (ownL (m - 1)).length ≤ m * ((cd x).length + 1) := by
  have c1 : 1 ≤ (cd x).length := by
    unfold cd
    rw [ownL_len]
    omega
  rw [ownL_len, show m - 1 + 1 = m by omega]
  have lg : m.log2 < m := (Nat.log2_lt (by omega)).mpr Nat.lt_two_pow_self
  generalize (cd x).length = c at *
  generalize m.log2 = g at *
  obtain ⟨m', rfl⟩ : ∃ m', m = m' + 1 := ⟨m - 1, by omega⟩
  have : m' * 2 ≤ m' * (c + 1) := Nat.mul_le_mul_left _ (by omega)
  have e : (m' + 1) * (c + 1) = m' * (c + 1) + (c + 1) := by rw [Nat.add_mul, Nat.one_mul]
  rw [e]
  omega
theorem runs_loose : ∀ rs : List Run, (∀ r, r ∈ rs → 1 ≤ r.2) → (rcds rs).length ≤ looseL (unr rs)
  | [], _ => Nat.zero_le _
  | r :: rs, p => by
    have ih := runs_loose rs fun q hq => p q (.tail _ hq)
    have one := run_short r.1 (p r (.head _))
    rw [rcds_cons, unr_cons, loose_app, loose_rep, List.length_append, List.length_append]
    omega
theorem rn_loose (xs : List Int) : (rcds (rn xs)).length ≤ looseL xs := by
  obtain ⟨u, p⟩ := rn_all xs
  have := runs_loose (rn xs) p
  rwa [u] at this
end Tg

namespace Tg
open PySem PySem.Spec PyProof.Rows L2
/-! ### a, o.f = .. : a field among the targets -/
def gFld (K : PySem.W.Frag) (to : TE) (f : Str) : TG := fun v σ H Q => to σ H fun x H1 => ∃ (a C dx : Addr) (fs : List (Str × V)), x = .ref a ∧ H1 a = some (.ins C dx fs) ∧ Cls K C ∧ NoAttr K C f ∧ fs.length < 1000 ∧ Q σ (upd H1 a (.ins C dx (putF f v fs)))
theorem pg_fld {X : Cx} {o : Expr} {to : TE} {f : Str} {pos : Pos} (ho : PE X o to) : PG X (.Attribute o f pos) (gFld X.K to f) := by
  constructor
  intro pins s σ H v u Q I r h
  refine PySem.W.kas_attr (thn (ho.run pins s σ H _ I h) fun ov s1 ⟨x, H1, I1, rx, a, C, dx, fs, ex, ea, cl, no, few, q⟩ => ?_)
  subst ex
  cases (show ov = Value.ref a from rx)
  exact setattr_ok I1 ea cl no few r fun s2 I2 => ⟨σ, _, I2, q⟩
end Tg

namespace Tg
open PySem PySem.Spec PyProof.Rows L2
/-! ### the text -/
def topS (i : Nat) : Stmt := PySem.Challenge.pw_timegranary_k23_columns_looked_into.main.body.getD i (.Pass ⟨0, 0, 0, 0⟩)
abbrev sDraws : Stmt := topS 41
abbrev sNext : Stmt := topS 42
theorem scDraws : FnScope ["_law_cell", "_law_cut", "_law_k"] ["_law_cell"] (defScope sDraws) := ⟨rfl, rfl, rfl, by decide +kernel, rfl, by decide +kernel, by decide +kernel⟩
theorem scNext : FnScope ["_law_draws_here", "_law_k", "_law_number_here"] ["_law_draws_here"] (defScope sNext) := ⟨rfl, rfl, rfl, by decide +kernel, rfl, by decide +kernel, by decide +kernel⟩
section
variable {P : Program} {w : World} {K : PySem.W.Frag} {mg : Str → Option Value} {base : Heap}
/-! ### _law_draws -/
/-- the draws at p, of which at most n were taken -/
def Dr (H : Hp) (p : Addr) (n : Nat) : Prop := ∃ (a k : Int) (b : Bool), H p = some (.lst [.int a, .int k, .bl b]) ∧ 0 ≤ k ∧ k ≤ n
theorem Dr.same {H H' : Hp} {p : Addr} {n : Nat} (s : Same H H') (d : Dr H p n) : Dr H' p n := by
  obtain ⟨a, k, b, h, r⟩ := d
  exact ⟨a, k, b, s _ _ h, r⟩
theorem Dr.ne {H : Hp} {p l : Addr} {n : Nat} (d : Dr H p n) (h : H l = none) : l ≠ p := fun z => by
  obtain ⟨_, _, _, z2, _⟩ := d
  rw [z, z2] at h
  cases h
def spDraws : Sp := fun vs H Q _ => ∃ c : Int, vs = [.int c] ∧ ∀ (p : Addr) (a : Int) (b : Bool), H p = none → Q (.ref p) (upd H p (.lst [.int a, .int 0, .bl b]))
theorem ok_draws {f : Addr} {fd : FuncData} {k : Nat} (F : Fun K "_law_draws" "_law_draws" sDraws f fd) (mr : mg "range" = none) : FnOk P w K mg base CX0 (k + 1) f fd ["_law_cell"] spDraws := by
  refine F.ok scDraws (fun vs H Q E h => ?_) (fun cdv A outer s H vs Q E hr h => ?_)
  · obtain ⟨c, rfl, _⟩ := h
    rfl
  · obtain ⟨c, rfl, q⟩ := h
    refine ⟨_, pss_cons (ps_set (i := 1) scDraws.nd rfl (.inl rfl) (pe_op op_pow pe_int pe_int))
      (pss_cons (ps_for PassesOwn.never rfl (pi_range1 (by rfl) mr (pa_cons pe_int pa_nil)) (pg_name (i := 2) scDraws.nd rfl (.inl rfl))
        (pss_one (ps_set (i := 1) scDraws.nd rfl (.inl rfl) (pe_op op_mulW (pv 1) (pv 1)))))
      (pss_one (ps_ret (pe_lst (pa_cons (pe_op op_mod (pv 0) (pv 1)) (pa_cons pe_int (pa_cons (pe_cmpR op_ge (pv 0) (pe_op op_pow pe_int pe_int) (nomark _)) pa_nil))))))), ?_⟩
    refine ⟨10, 60, rfl, rfl, ⟨by decide, by decide, by decide⟩, ?_⟩
    refine ⟨7, rfl, by decide, by decide, for_range (n := 7) (fun i σ H2 => ∃ (x : Int) (y : Option V), σ = [some (.int c), some (.int x), y] ∧ H2 = H ∧ 0 < x ∧ x.natAbs < 2 ^ (200 * 2 ^ i)) ?_ ?_ ?_⟩
    · exact ⟨_, none, rfl, rfl, by decide, by decide⟩
    · rintro i σ H2 hi ⟨x, y, rfl, rfl, hx, hb⟩
      refine ⟨_, rfl, _, rfl, x, x, rfl, rfl, ?_, x * x, _, rfl, rfl, Int.mul_pos hx hx, ?_⟩
      · have h7 : 2 ^ i ≤ 2 ^ 6 := Nat.pow_le_pow_right (by decide) (by omega)
        have h0 : 0 < 2 ^ i := Nat.pow_pos (by decide)
        exact wide_mul hb hb (by omega) (by omega) (by omega)
      · have e := wide_lt hb hb
        rw [show 200 * 2 ^ (i + 1) = 200 * 2 ^ i + 200 * 2 ^ i by rw [Nat.pow_succ]; omega]
        exact e
    · rintro σ H2 ⟨x, y, rfl, rfl, hx, _⟩
      refine ⟨_, rfl, _, rfl, c, x, rfl, rfl, hx, _, rfl, 10, 18, rfl, rfl, ⟨by decide, by decide, by decide⟩, c, _, rfl, rfl, ?_, fun p hp => ?_⟩
      · show 3 ≤ sizeLine
        decide
      · exact q p _ _ hp
/-! ### _law_next -/
def spNext : Sp := fun vs H Q _ => ∃ (p : Addr) (n : Nat), vs = [.ref p] ∧ Dr H p n ∧ n < 1000000 ∧
  ∀ (v : Int) (H' : Hp), Kp p H H' → Dr H' p (n + 1) → 0 ≤ v → v < 1000000000 → Q (.int v) H'
theorem ok_next {f : Addr} {fd : FuncData} {k : Nat} (F : Fun K "_law_next" "_law_next" sNext f fd) : FnOk P w K mg base CX0 (k + 1) f fd ["_law_draws_here"] spNext := by
  refine F.ok scNext (fun vs H Q E h => ?_) (fun cdv A outer s H vs Q E hr h => ?_)
  · obtain ⟨p, n, rfl, _⟩ := h
    rfl
  · obtain ⟨p, n, rfl, ⟨a, k, b, hp, k0, kn⟩, hn, q⟩ := h
    refine ⟨_, pss_cons (ps_asg (pe_op op_add (pe_ix ix_list (pv 0) pe_int (fun _ _ => rfl)) pe_int) (pg_sub (pv 0) pe_int set_list))
      (pss_cons (ps_set (i := 1) scNext.nd rfl (.inl rfl) (pe_ix ix_list (pv 0) pe_int (fun _ _ => rfl)))
      (pss_cons (ps_if (pt_val (pe_ix ix_list (pv 0) pe_int (fun _ _ => rfl)))
        (pss_cons (ps_set (i := 2) scNext.nd rfl (.inl rfl) (pe_op op_mod (pe_ix ix_list (pv 0) pe_int (fun _ _ => rfl)) (pe_op op_pow pe_int pe_int)))
        (pss_cons (ps_asg (pe_op op_fdiv (pe_ix ix_list (pv 0) pe_int (fun _ _ => rfl)) (pe_op op_pow pe_int pe_int)) (pg_sub (pv 0) pe_int set_list))
        (pss_one (ps_ret (pv 2))))) pss_nil)
      (pss_cons (ps_set (i := 2) scNext.nd rfl (.inl rfl) (pe_op op_mod (pe_op op_mul (pe_op op_add (pe_op op_add (pe_op op_mod (pe_ix ix_list (pv 0) pe_int (fun _ _ => rfl)) pe_int) (pe_op op_mul (pe_op op_mul (pv 1) (pv 1)) pe_int)) (pv 1)) pe_int) pe_int))
      (pss_cons (ps_set (i := 2) scNext.nd rfl (.inl rfl) (pe_op op_mod (pe_op op_mul (pv 2) (pv 2)) pe_int))
      (pss_one (ps_ret (pe_op op_fdiv (pe_op op_mod (pe_op op_mul (pv 2) (pe_op op_add (pv 2) pe_int)) pe_int) pe_int))))))), ?_⟩
    have h1 : (upd H p (.lst [.int a, .int (k + 1), .bl b])) p = some (.lst [.int a, .int (k + 1), .bl b]) := upd_same
    refine ⟨_, rfl, p, _, 1, .int k, rfl, rfl, SqL.of hp, rfl, k, 1, rfl, rfl, _, rfl, p, _, 1, 1, rfl, rfl, hp, rfl, ?_⟩
    refine ⟨_, rfl, p, _, 1, .int (k + 1), rfl, rfl, SqL.of h1, rfl, ?_⟩
    refine ⟨_, rfl, p, _, 2, .bl b, rfl, rfl, SqL.of h1, rfl, b, rfl, ?_⟩
    cases b with
    | true =>
      refine ⟨_, rfl, p, _, 0, .int a, rfl, rfl, SqL.of h1, rfl, 10, 6, rfl, rfl, ⟨by decide, by decide, by decide⟩, a, 1000000, rfl, rfl, (by show (0 : Int) < 1000000; decide), ?_⟩
      refine ⟨_, rfl, p, _, 0, .int a, rfl, rfl, SqL.of h1, rfl, 10, 6, rfl, rfl, ⟨by decide, by decide, by decide⟩, a, 1000000, rfl, rfl, ⟨by decide, by decide⟩, _, rfl, p, _, 0, 0, rfl, rfl, h1, rfl, ?_⟩
      refine ⟨_, rfl, ?_⟩
      rw [upd_upd]
      exact q _ _ Kp.put ⟨_, _, _, upd_same, by omega, by omega⟩ (Int.emod_nonneg _ (by decide)) (Int.lt_of_lt_of_le (Int.emod_lt_of_pos _ (by decide)) (by decide))
    | false =>
      refine ⟨_, rfl, p, _, 0, .int a, rfl, rfl, SqL.of h1, rfl, a, 1000003, rfl, rfl, (by show (0 : Int) < 1000003; decide), _, rfl, _, rfl, k + 1, k + 1, rfl, rfl, .inl ⟨by omega, by omega⟩, _, 7919, rfl, rfl, .inr ⟨by decide, by decide⟩,
        _, _, rfl, rfl, _, rfl, _, k + 1, rfl, rfl, _, 48271, rfl, rfl, .inr ⟨by decide, by decide⟩, _, 2147483629, rfl, rfl, (by show (0 : Int) < 2147483629; decide), ?_⟩
      obtain ⟨x, ex⟩ : ∃ x : Int, (a % 1000003 + (k + 1) * (k + 1) * 7919 + (k + 1)) * 48271 % 2147483629 = x := ⟨_, rfl⟩
      have x0 : 0 ≤ x := by
        rw [← ex]
        exact Int.emod_nonneg _ (by decide)
      have x1 : x < 2147483629 := by
        rw [← ex]
        exact Int.emod_lt_of_pos _ (by decide)
      refine ⟨_, rfl, _, rfl, x, x, congrArg V.int ex, congrArg V.int ex, .inl ⟨by omega, by omega⟩, _, 2147483587, rfl, rfl, (by show (0 : Int) < 2147483587; decide), ?_⟩
      obtain ⟨y, ey⟩ : ∃ y : Int, x * x % 2147483587 = y := ⟨_, rfl⟩
      have y0 : 0 ≤ y := by
        rw [← ey]
        exact Int.emod_nonneg _ (by decide)
      have y1 : y < 2147483587 := by
        rw [← ey]
        exact Int.emod_lt_of_pos _ (by decide)
      refine ⟨_, rfl, _, rfl, y, 2, congrArg V.int ey, rfl, y, _, congrArg V.int ey, rfl, .inl ⟨by omega, by omega⟩, _, 2147483579, rfl, rfl, (by show (0 : Int) < 2147483579; decide), _, 7, rfl, rfl, ⟨by decide, by decide⟩, ?_⟩
      have z0 : 0 ≤ y * (y + 2) % 2147483579 := Int.emod_nonneg _ (by decide)
      have z1 : y * (y + 2) % 2147483579 < 2147483579 := Int.emod_lt_of_pos _ (by decide)
      exact q _ _ Kp.put ⟨_, _, _, upd_same, by omega, by omega⟩ (by omega) (by omega)
end
theorem if_n {b : Bool} {A B : Prop} (e : b = false) (h : B) : if b = true then A else B := by
  rw [e]
  exact if_f h
theorem if_y {b : Bool} {A B : Prop} (e : b = true) (h : A) : if b = true then A else B := by
  rw [e]
  exact if_t h
end Tg

namespace Tg
open PySem PySem.Spec PyProof.Rows L2
abbrev sPl : Stmt := topS 10
abbrev sTu : Stmt := topS 11
abbrev sBa : Stmt := topS 12
abbrev sOw : Stmt := topS 13
abbrev sNu : Stmt := topS 43
theorem scPl : FnScope ["number", "width"] ["number", "width"] (defScope sPl) := ⟨rfl, rfl, rfl, by decide +kernel, rfl, by decide +kernel, by decide +kernel⟩
theorem scTu : FnScope ["number"] ["number"] (defScope sTu) := ⟨rfl, rfl, rfl, by decide +kernel, rfl, by decide +kernel, by decide +kernel⟩
theorem scBa : FnScope ["number"] ["number"] (defScope sBa) := ⟨rfl, rfl, rfl, by decide +kernel, rfl, by decide +kernel, by decide +kernel⟩
theorem scOw : FnScope ["number", "figures"] ["number"] (defScope sOw) := ⟨rfl, rfl, rfl, by decide +kernel, rfl, by decide +kernel, by decide +kernel⟩
theorem scNu : FnScope ["_law_draws_here", "_law_pick", "_law_far", "_law_some"] ["_law_draws_here"] (defScope sNu) := ⟨rfl, rfl, rfl, by decide +kernel, rfl, by decide +kernel, by decide +kernel⟩
theorem vi_z (n : Int) : decide (V.int n = V.int 0) = decide (n = 0) := by
  rw [dec_int]
  rfl
theorem s_nil : (Str.ofString "") = SX.S [] := by decide +kernel
theorem s_0 : (Str.ofString "0") = SX.S [48] := by decide +kernel
theorem s_1 : (Str.ofString "1") = SX.S [49] := by decide +kernel
theorem z500 {n : Nat} (h : n ≤ 60000) : n ≤ sizeLine := Nat.le_trans h (by decide)
theorem blen_small {n : Nat} (h : n < 2 ^ 91) : blen n ≤ 91 := by
  unfold blen
  split
  · exact Nat.zero_le _
  · rename_i c
    exact (Nat.log2_lt c).mpr h
section
variable {P : Program} {w : World} {K : PySem.W.Frag} {mg : Str → Option Value} {base : Heap} {f : Addr} {fd : FuncData} {k : Nat}
def spPl : Sp := fun vs H Q _ => ∃ n w : Nat, vs = [.int (n : Nat), .int (w : Nat)] ∧ blen n ≤ w ∧ w ≤ 500 ∧ Q (.str (SX.S (bt w n))) H
theorem ok_pl (F : Fun K "plain" "plain" sPl f fd) : FnOk P w K mg base CX0 (k + 1) f fd ["number", "width"] spPl := by
  refine F.ok scPl (fun vs H Q E h => ?_) (fun cdv A outer s H vs Q E hr h => ?_)
  · obtain ⟨n, w, rfl, _⟩ := h
    rfl
  · obtain ⟨n, w, rfl, le, few, q⟩ := h
    refine ⟨_, pss_one (ps_ret (pe_ifExp (pt_cmpR op_gt (pv 1) pe_int (nomark _)) (pe_bm PySem.F.plainAttrs_str PySem.F.slot_str_zfill PySem.F.type_str_zfill mt_zfill (pe_joined1 (pe_fmtB (pv 0) (pe_joined1 pe_str))) (pa_cons (pv 1) pa_nil)) pe_str)), ?_⟩
    refine ⟨_, rfl, _, _, rfl, rfl, _, rfl, ite2 (fun g => ?_) (fun g => ?_)⟩
    · have w0 : 0 < w := by
        have := of_decide_eq_true g
        omega
      have bl : (binC n).length ≤ 500 ∧ Txt.zfill (SX.S (binC n)) (w : Int) = SX.S (bt w n) := by
        by_cases n0 : n = 0
        · subst n0
          rw [bin_zero]
          refine ⟨by decide, ?_⟩
          rw [zfill_is (fun c hc => by rw [List.mem_singleton.mp hc]; exact .inl rfl), bt_zero]
          show SX.S (List.replicate (w - 1) 48 ++ [48]) = _
          rw [← List.replicate_succ', show w - 1 + 1 = w by omega]
        · have e := bin_is (n := n) (by omega)
          rw [e]
          refine ⟨by rw [bt_len]; omega, ?_⟩
          rw [zfill_is (bt_bin _ _), bt_len, ← bt_pad le]
      refine ⟨_, rfl, n, rfl, z500 (by omega), rfl, _, rfl, _, _, rfl, rfl, ?_, ?_⟩
      · unfold PadOk fitsSsize Builtin.Str.tooLong
        rw [decide_eq_false (by omega), decide_eq_false (by omega), decide_eq_false (by rw [sizeLine_eq]; omega)]
        rfl
      · rw [bl.2]
        exact q
    · have w0 : w = 0 := by
        have : ¬ ((w : Nat) : Int) > 0 := fun z => g (decide_eq_true z)
        omega
      subst w0
      show Q (.str "") H
      rw [s_nil]
      exact q
def spTu : Sp := fun vs H Q _ => ∃ n : Int, vs = [.int n] ∧ n.natAbs < 2 ^ 89 ∧ Q (.int (tn n)) H
theorem ok_tu (F : Fun K "turned" "turned" sTu f fd) : FnOk P w K mg base CX0 (k + 1) f fd ["number"] spTu := by
  refine F.ok scTu (fun vs H Q E h => ?_) (fun cdv A outer s H vs Q E hr h => ?_)
  · obtain ⟨n, rfl, _⟩ := h
    rfl
  · obtain ⟨n, rfl, few, q⟩ := h
    refine ⟨_, pss_one (ps_ret (pe_ifExp (pt_cmpR op_ge (pv 0) pe_int (nomark _)) (pe_op op_mul pe_int (pv 0)) (pe_op op_sub (pe_op op_mul (pe_un un_neg pe_int) (pv 0)) pe_int))), ?_⟩
    unfold tn at q
    refine ⟨_, rfl, _, _, rfl, rfl, _, rfl, ite2 (fun g => ?_) (fun g => ?_)⟩
    · rw [if_pos (of_decide_eq_true g)] at q
      exact ⟨_, rfl, _, _, rfl, rfl, .inl ⟨by decide, by decide⟩, q⟩
    · rw [if_neg (fun z => g (decide_eq_true z))] at q
      exact ⟨_, rfl, _, rfl, _, _, rfl, rfl, .inl ⟨by decide, by decide⟩, _, _, rfl, rfl, q⟩
def spBa : Sp := fun vs H Q _ => ∃ n : Int, vs = [.int n] ∧ n.natAbs < 2 ^ 90 ∧ Q (.int (bk n)) H
theorem ok_ba (F : Fun K "back" "back" sBa f fd) : FnOk P w K mg base CX0 (k + 1) f fd ["number"] spBa := by
  refine F.ok scBa (fun vs H Q E h => ?_) (fun cdv A outer s H vs Q E hr h => ?_)
  · obtain ⟨n, rfl, _⟩ := h
    rfl
  · obtain ⟨n, rfl, few, q⟩ := h
    refine ⟨_, pss_one (ps_ret (pe_ifExp (pt_cmpR op_eq (pe_op op_mod (pv 0) pe_int) pe_int (nomark _)) (pe_op op_fdiv (pv 0) pe_int) (pe_op op_sub (pe_un un_neg (pe_op op_fdiv (pv 0) pe_int)) pe_int))), ?_⟩
    unfold bk at q
    refine ⟨_, rfl, _, _, rfl, rfl, (by show (0 : Int) < 2; decide), rfl, _, rfl, ite2 (fun g => ?_) (fun g => ?_)⟩
    · rw [vi_z] at g
      rw [if_pos (of_decide_eq_true g)] at q
      exact ⟨_, rfl, _, _, rfl, rfl, ⟨by decide, by decide⟩, q⟩
    · rw [vi_z] at g
      rw [if_neg (fun z => g (decide_eq_true z))] at q
      exact ⟨_, rfl, _, _, rfl, rfl, ⟨by decide, by decide⟩, _, rfl, _, _, rfl, rfl, q⟩
def spOw : Sp := fun vs H Q _ => ∃ n : Nat, vs = [.int (n : Nat)] ∧ n < 2 ^ 90 ∧ Q (.str (SX.S (ownL n))) H
theorem own_64 {n : Nat} (h : n < 2 ^ 90) : blen (n + 1) ≤ 91 := blen_small (by omega)
theorem ok_ow (F : Fun K "own" "own" sOw f fd) (m_len : mg "len" = none) : FnOk P w K mg base CX0 (k + 1) f fd ["number"] spOw := by
  refine F.ok scOw (fun vs H Q E h => ?_) (fun cdv A outer s H vs Q E hr h => ?_)
  · obtain ⟨n, rfl, _⟩ := h
    rfl
  · obtain ⟨n, rfl, few, q⟩ := h
    refine ⟨_, pss_cons (ps_set (i := 1) scOw.nd rfl (.inl rfl) (pe_joined1 (pe_fmtB (pe_op op_add (pv 0) pe_int) (pe_joined1 pe_str))))
      (pss_one (ps_ret (pe_op op_add_str (pe_op (op_times (c := 48)) pe_str (pe_op op_sub (pe_callB call_len_str (by rfl) m_len (by decide +kernel) (pa_cons (pv 1) pa_nil)) pe_int)) (pv 1)))), ?_⟩
    have b64 := own_64 few
    have e := bin_is (n := n + 1) (by omega)
    have lb : (binC (n + 1)).length = blen (n + 1) := by rw [e, bt_len]
    have bp := blen_pos (show 0 < n + 1 by omega)
    refine ⟨_, rfl, _, _, rfl, rfl, n + 1, rfl, z500 (by omega), ?_⟩
    refine ⟨_, rfl, _, rfl, (by rw [SX.S_len]; exact z500 (by omega)), _, _, rfl, rfl, blen (n + 1) - 1, (by rw [← s_0]), ?_, by omega, _, rfl, _, _, rfl, rfl, ?_, ?_⟩
    · rw [SX.S_len, lb]
      exact congrArg V.int (by omega)
    · rw [SX.S_len, SX.S_len, List.length_replicate, lb]
      exact z500 (by omega)
    · rw [SX.S_cat, e, own_is]
      exact q
def spNu : Sp := fun vs H Q _ => ∃ (p : Addr) (n : Nat), vs = [.ref p] ∧ Dr H p n ∧ n < 900000 ∧ ∀ (v : Int) (H' : Hp), Kp p H H' → Dr H' p (n + 2) → v.natAbs < 2 ^ 52 → Q (.int v) H'
theorem ok_nu (F : Fun K "_law_number" "_law_number" sNu f fd) (L_next : Cal P w K mg base k "_law_next" ["_law_draws_here"] spNext) : FnOk P w K mg base CX0 (k + 1) f fd ["_law_draws_here"] spNu := by
  refine F.ok scNu (fun vs H Q E h => ?_) (fun cdv A outer s H vs Q E hr h => ?_)
  · obtain ⟨p, n, rfl, _⟩ := h
    rfl
  · obtain ⟨p, n, rfl, dr, n9, q⟩ := h
    refine ⟨_, pss_cons (ps_set (i := 1) scNu.nd rfl (.inl rfl) (pe_cal L_next (hr.mono (by omega)) (by rfl) (pa_cons (pv 0) pa_nil)))
      (pss_cons (ps_set (i := 2) scNu.nd rfl (.inl rfl) (pe_op op_add (pe_op op_mul (pe_op op_mod (pe_op op_mul (pe_op op_fdiv (pv 1) pe_int) (pe_op op_pow pe_int pe_int)) (pe_op op_pow pe_int pe_int)) (pe_op op_pow pe_int pe_int)) (pe_cal L_next (hr.mono (by omega)) (by rfl) (pa_cons (pv 0) pa_nil))))
      (pss_cons (ps_set (i := 3) scNu.nd rfl (.inl rfl) (pe_lst (pa_cons (pe_op op_mod (pe_op op_fdiv (pv 1) pe_int) pe_int) (pa_cons (pe_op op_sub pe_int (pe_op op_mod (pe_op op_fdiv (pv 1) pe_int) pe_int)) (pa_cons (pe_op op_mod (pe_op op_fdiv (pv 1) pe_int) pe_int) (pa_cons (pe_op op_sub pe_int (pe_op op_mod (pe_op op_fdiv (pv 1) pe_int) pe_int)) (pa_cons (pv 2) (pa_cons (pe_op op_sub pe_int (pv 2)) (pa_cons pe_int (pa_cons pe_int pa_nil))))))))))
      (pss_one (ps_ret (pe_ix ix_list (pv 3) (pe_op op_mod (pv 1) pe_int) (fun _ _ => rfl)))))), ?_⟩
    refine ⟨_, rfl, p, n, rfl, dr, by omega, fun a H1 k1 d1 a0 a1 => ?_⟩
    refine ⟨_, rfl, _, _, rfl, rfl, ⟨by decide, by decide⟩, _, _, rfl, rfl, ⟨by decide, by decide, by decide⟩, _, _, rfl, rfl, .inr ⟨by decide, by decide⟩, _, _, rfl, rfl, ⟨by decide, by decide, by decide⟩, _, _, rfl, rfl, (by show (0 : Int) < 10 ^ Int.toNat 9; decide), _, _, rfl, rfl, ⟨by decide, by decide, by decide⟩, _, _, rfl, rfl, .inr ⟨by decide, by decide⟩, ?_⟩
    refine ⟨_, rfl, p, _, rfl, d1, by omega, fun b H2 k2 d2 b0 b1 => ⟨_, _, rfl, rfl, ?_⟩⟩
    obtain ⟨fr, ef⟩ : ∃ fr : Int, a / 8 * 10 ^ Int.toNat 6 % 10 ^ Int.toNat 9 * 10 ^ Int.toNat 6 + b = fr := ⟨_, rfl⟩
    have fb : 0 ≤ fr ∧ fr < 2 ^ 51 := by
      rw [← ef]
      have h1 : 0 ≤ a / 8 * 10 ^ Int.toNat 6 % 10 ^ Int.toNat 9 := Int.emod_nonneg _ (by decide)
      have h2 : a / 8 * 10 ^ Int.toNat 6 % 10 ^ Int.toNat 9 < 10 ^ Int.toNat 9 := Int.emod_lt_of_pos _ (by decide)
      have e9 : (10 : Int) ^ Int.toNat 9 = 1000000000 := by decide
      have e6 : (10 : Int) ^ Int.toNat 6 = 1000000 := by decide
      rw [e9] at h1 h2 ⊢
      rw [e6] at h1 h2 ⊢
      omega
    dsimp only
    rw [ef]
    refine ⟨_, rfl, _, _, rfl, rfl, ⟨by decide, by decide⟩, _, _, rfl, rfl, (by show (0 : Int) < 4; decide), _, rfl, _, _, rfl, rfl, ⟨by decide, by decide⟩, _, _, rfl, rfl, (by show (0 : Int) < 4; decide), _, _, rfl, rfl, _, rfl, _, _, rfl, rfl, ⟨by decide, by decide⟩, _, _, rfl, rfl, (by show (0 : Int) < 1000; decide), _, rfl, _, _, rfl, rfl, ⟨by decide, by decide⟩, _, _, rfl, rfl, (by show (0 : Int) < 1000; decide), _, _, rfl, rfl, _, rfl, _, rfl, _, _, rfl, rfl, (by show 8 ≤ sizeLine; decide), fun u nu => ?_⟩
    obtain ⟨mv, mm, me⟩ := atI_mem (xs := [a / 8 % 4, 0 - a / 8 % 4, a / 8 % 1000, 0 - a / 8 % 1000, fr, 0 - fr, 0, 1]) (i := a % 8) (by omega) (by show a % 8 < ((8 : Nat) : Int); omega)
    have mb : mv.natAbs < 2 ^ 52 := by
      simp only [List.mem_cons, List.not_mem_nil, or_false] at mm
      omega
    have su := same_new (o := .lst [.int (a / 8 % 4), .int (0 - a / 8 % 4), .int (a / 8 % 1000), .int (0 - a / 8 % 1000), .int fr, .int (0 - fr), .int 0, .int 1]) nu
    exact ⟨_, rfl, _, rfl, _, _, rfl, rfl, (by show (0 : Int) < 8; decide), u, _, _, _, rfl, rfl, SqL.of upd_same, me, q mv _ (k1.trans (k2.trans (Kp.of su))) (d2.same su) mb⟩
end
end Tg

namespace Tg
open PySem PySem.Spec PyProof.Rows L2
abbrev sRO : Stmt := topS 14
theorem scRO : FnScope ["bits", "at", "first", "behind"] ["bits", "at"] (defScope sRO) := ⟨rfl, rfl, rfl, by decide +kernel, rfl, by decide +kernel, by decide +kernel⟩
theorem pss_dead {X : Cx} {b : List Stmt} : PSs X b (fun _ _ _ => False) := ⟨fun _ _ _ _ _ _ h => h.elim⟩
/-- a code stands whole behind a signs -/
theorem code_at (a rest : List Nat) (n v : Nat) : (a ++ (ownL n ++ rest))[a.length + v]? = (ownL n ++ rest)[v]? := by
  rw [List.getElem?_append_right (Nat.le_add_right _ _), Nat.add_sub_cancel_left]
theorem code_find (a rest : List Nat) (n : Nat) : Txt.find3 (SX.S (a ++ (ownL n ++ rest))) ⟨#[49]⟩ ((a.length : Nat) : Int) = ((a.length + (n + 1).log2 : Nat) : Int) := by
  have lo := own_len n
  refine find_at ?_ (Nat.le_add_right _ _) fun v h1 h2 => ?_
  · rw [code_at, List.getElem?_append_left (by rw [lo]; omega)]
    exact own_one n
  · obtain ⟨d, rfl⟩ : ∃ d, v = a.length + d := ⟨v - a.length, by omega⟩
    rw [code_at, List.getElem?_append_left (by rw [lo]; omega), own_lo (by omega)]
    exact fun z => nomatch z
theorem cut_S (l : List Nat) {i j : Nat} (ij : i ≤ j) (jl : j ≤ l.length) : cutS (SX.S l) (some (i : Int)) (some (j : Int)) = SX.S ((l.drop i).take (j - i)) := by
  unfold cutS
  rw [HT.sIx_nat, HT.sIx_nat, SX.S_len, Nat.min_eq_left jl, Nat.min_eq_left (Nat.le_trans ij jl)]
/-- no code stands whole at a -/
def NoCode (l : List Nat) (a : Nat) : Prop := (∀ v, a ≤ v → l[v]? ≠ some 49) ∨ ∃ j, l[a + j]? = some 49 ∧ (∀ v, a ≤ v → v < a + j → l[v]? ≠ some 49) ∧ l.length < a + 2 * j + 1
section
variable {P : Program} {w : World} {K : PySem.W.Frag} {mg : Str → Option Value} {base : Heap} {CB : Addr} {f : Addr} {fd : FuncData} {k : Nat}
def spRO (K : PySem.W.Frag) : Sp := fun vs H Q _ => ∃ (a rest : List Nat) (n : Nat), vs = [.str (SX.S (a ++ (ownL n ++ rest))), .int (a.length : Nat)] ∧ n < 2 ^ 90 ∧ (a ++ (ownL n ++ rest)).length ≤ 60000 ∧ ∀ t H', Same H H' → SqT K H' t [.int (n : Nat), .int ((a.length + (ownL n).length : Nat) : Int)] → Q (.ref t) H'
theorem ok_ro (F : Fun K "read_own" "read_own" sRO f fd) (m_len : mg "len" = none) (m_int : mg "int" = none) : FnOk P w K mg base CX0 (k + 1) f fd ["bits", "at"] (spRO K) := by
  refine F.ok scRO (fun vs H Q E h => ?_) (fun cdv A outer s H vs Q E hr h => ?_)
  · obtain ⟨a, rest, n, rfl, _⟩ := h
    rfl
  · obtain ⟨a, rest, n, rfl, few, l1000, q⟩ := h
    refine ⟨_, pss_cons (ps_set (i := 2) scRO.nd rfl (.inl rfl) (pe_bm PySem.F.plainAttrs_str PySem.F.slot_str_find PySem.F.type_str_find mt_find3 (pv 0) (pa_cons pe_str (pa_cons (pv 1) pa_nil))))
      (pss_cons (ps_set (i := 3) scRO.nd rfl (.inl rfl) (pe_op op_add (pe_op op_sub (pe_op op_mul pe_int (pv 2)) (pv 1)) pe_int))
      (pss_cons (ps_if (PW.pt (pw_or (pt_cmpR op_lt (pv 2) pe_int (nomark _)) (pw_or1 (pt_cmpR op_gt (pv 3) (pe_callB call_len_str (by rfl) m_len (by decide +kernel) (pa_cons (pv 0) pa_nil)) (nomark _)))))
        (pss_one ps_dead)
        pss_nil)
      (pss_one (ps_ret (pe_tup (pa_cons (pe_op op_sub (pe_callTy call_int_bin (by rfl) m_int (by decide +kernel) (pa_cons (pe_slice sl_str (pv 0) (po_some (pv 2)) (po_some (pv 3))) (pa_cons pe_int pa_nil))) pe_int) (pa_cons (pv 3) pa_nil))))))), ?_⟩
    have fnd := code_find a rest n
    have lo := own_len n
    have b64 := own_64 few
    have bp := blen_pos (show 0 < n + 1 by omega)
    obtain ⟨l, el⟩ : ∃ l, a ++ (ownL n ++ rest) = l := ⟨_, rfl⟩
    have ll : a.length + (ownL n).length ≤ l.length := by
      rw [← el, List.length_append, List.length_append]
      omega
    have part : (l.drop (a.length + (n + 1).log2)).take (blen (n + 1)) = bt (blen (n + 1)) (n + 1) := by
      rw [← el, ← List.drop_drop, List.drop_left, List.drop_append_of_le_length (by omega), own_tail, List.take_append_of_le_length (by rw [bt_len]; exact Nat.le_refl _), List.take_of_length_le (by rw [bt_len]; exact Nat.le_refl _)]
    rw [el] at l1000 fnd ⊢
    obtain ⟨m, em⟩ : ∃ m, (n + 1).log2 = m := ⟨_, rfl⟩
    rw [em] at fnd part lo bp
    refine ⟨_, rfl, rfl, _, rfl, SX.S l, SX.S [49], _, rfl, (by rw [← s_1]), ?_⟩
    rw [fnd]
    refine ⟨_, rfl, _, _, rfl, rfl, .inl ⟨by decide, by decide⟩, _, rfl, _, _, rfl, rfl, _, _, rfl, rfl, ?_⟩
    have eb : (2 * ((a.length + m : Nat) : Int) - ((a.length : Nat) : Int) + 1) = ((a.length + (2 * m + 1) : Nat) : Int) := by omega
    dsimp only
    rw [eb]
    refine ⟨_, rfl, _, _, rfl, rfl, _, rfl, if_n (decide_eq_false (by omega)) ?_⟩
    refine ⟨_, rfl, _, rfl, _, rfl, (by rw [SX.S_len]; exact z500 (by omega)), _, _, rfl, rfl, _, rfl, if_n (decide_eq_false (by rw [SX.S_len]; omega)) ?_⟩
    refine ⟨_, rfl, _, rfl, _, rfl, _, rfl, _, rfl, _, rfl, (by rw [SX.S_len]; exact z500 (by omega)), ?_⟩
    rw [cut_S l (by omega) (by omega), show a.length + (2 * m + 1) - (a.length + m) = blen (n + 1) by omega, part]
    refine ⟨bt (blen (n + 1)) (n + 1), rfl, (fun z => by have := bt_len (blen (n + 1)) (n + 1); rw [z] at this; rw [bp] at this; cases this), by rw [bt_len]; omega, bt_bin _ _, ?_⟩
    rw [own_num]
    refine ⟨_, _, rfl, rfl, _, rfl, (by show 2 ≤ sizeLine; decide), fun t nt => ?_⟩
    have e1 : ((((n + 1 : Nat) : Nat) : Int) - 1) = ((n : Nat) : Int) := by omega
    rw [lo] at q
    refine q t _ (same_new nt) ?_
    dsimp only
    rw [e1]
    exact SqT.of upd_same
end
end Tg

namespace Tg
open PySem PySem.Spec PyProof.Rows L2
open SX (S)
abbrev sOC : Stmt := topS 15
abbrev sSO : Stmt := topS 16
abbrev sRu : Stmt := topS 17
abbrev sWS : Stmt := topS 19
abbrev sWT : Stmt := topS 20
abbrev sWR : Stmt := topS 21
abbrev NOC : List Str := ["numbers", "number"]
abbrev NSO : List Str := ["numbers", "ahead", "number"]
abbrev NWR : List Str := ["numbers", "number", "length"]
theorem scOC : FnScope NOC ["numbers"] (defScope sOC) := ⟨rfl, rfl, rfl, by decide +kernel, rfl, by decide +kernel, by decide +kernel⟩
theorem scSO : FnScope NSO ["numbers"] (defScope sSO) := ⟨rfl, rfl, rfl, by decide +kernel, rfl, by decide +kernel, by decide +kernel⟩
theorem scRu : FnScope ["numbers", "runs", "number"] ["numbers"] (defScope sRu) := ⟨rfl, rfl, rfl, by decide +kernel, rfl, by decide +kernel, by decide +kernel⟩
theorem scWS : FnScope ["numbers"] ["numbers"] (defScope sWS) := ⟨rfl, rfl, rfl, by decide +kernel, rfl, by decide +kernel, by decide +kernel⟩
theorem scWT : FnScope ["numbers"] ["numbers"] (defScope sWT) := ⟨rfl, rfl, rfl, by decide +kernel, rfl, by decide +kernel, by decide +kernel⟩
theorem scWR : FnScope NWR ["numbers"] (defScope sWR) := ⟨rfl, rfl, rfl, by decide +kernel, rfl, by decide +kernel, by decide +kernel⟩
/-- numbers below 2 ^ b either way -/
def Lo (b : Nat) (xs : List Int) : Prop := ∀ x, x ∈ xs → x.natAbs < 2 ^ b
theorem Lo.mono {b c : Nat} {xs : List Int} (h : Lo b xs) (bc : b ≤ c) : Lo c xs := fun x hx => Nat.lt_of_lt_of_le (h x hx) (Nat.pow_le_pow_right (by decide) bc)
theorem lo_difs {b : Nat} : ∀ {xs : List Int}, Lo b xs → Lo (b + 1) (difs xs)
  | [], _ => fun x hx => nomatch hx
  | [_], _ => fun x hx => nomatch hx
  | a :: c :: r, h => fun x hx => by
    obtain rfl | hx := List.mem_cons.mp hx
    · have h1 := h a (.head _)
      have h2 := h c (.tail _ (.head _))
      rw [Nat.pow_succ]
      omega
    · exact lo_difs (fun y hy => h y (.tail _ hy)) x hx
theorem lo_stp {b : Nat} {xs : List Int} (h : Lo b xs) : Lo (b + 1) (stp xs) := fun x hx => by
  rcases List.mem_append.mp hx with t | d
  · exact (h.mono (Nat.le_succ b)) x (List.mem_of_mem_take t)
  · exact lo_difs h x d
theorem lo_trn {b : Nat} {xs : List Int} (h : Lo b xs) : Lo (b + 2) (trn xs) := fun x hx => by
  rcases List.mem_append.mp hx with t | d
  · exact (h.mono (Nat.le_add_right b 2)) x (List.mem_of_mem_take t)
  · exact lo_stp (lo_difs h) x d
theorem cd_len {x : Int} (h : x.natAbs < 2 ^ 80) : (cd x).length ≤ 165 := by
  unfold cd
  rw [own_len]
  have z := tN_lt h
  have := (Nat.log2_lt (n := tN x + 1) (k := 82) (by omega)).mpr (by omega)
  omega
theorem cds_len {xs : List Int} (h : Lo 80 xs) : (cds xs).length ≤ 165 * xs.length := by
  unfold cds
  induction xs with
  | nil => exact Nat.le_refl _
  | cons x r ih =>
    have h1 := cd_len (h x (.head _))
    have h2 := ih fun y hy => h y (.tail _ hy)
    rw [List.map_cons, List.flatten_cons, List.length_append, List.length_cons]
    omega
theorem tN_90 {x : Int} (h : x.natAbs < 2 ^ 80) : tN x < 2 ^ 90 := Nat.lt_trans (tN_lt h) (by decide)
theorem abs_89 {x : Int} (h : x.natAbs < 2 ^ 80) : x.natAbs < 2 ^ 89 := Nat.lt_trans h (by decide)
/-- a list of numbers as a def takes it -/
def NL (H : Hp) (l : Addr) (xs : List Int) : Prop := H l = some (.lst (xs.map V.int))
section
variable {P : Program} {w : World} {K : PySem.W.Frag} {mg : Str → Option Value} {base : Heap} {f : Addr} {fd : FuncData} {k : Nat}
/-- a def that tells a text of numbers -/
def spTxt (b n : Nat) (F : List Int → List Nat) : Sp := fun vs H Q _ => ∃ (l : Addr) (xs : List Int), vs = [.ref l] ∧ NL H l xs ∧ Lo b xs ∧ xs.length ≤ n ∧ ∀ H', Same H H' → Q (.str (S (F xs))) H'
theorem ok_oc (F : Fun K "own_codes" "own_codes" sOC f fd) (C_own : Cal P w K mg base k "own" ["number"] spOw) (C_turned : Cal P w K mg base k "turned" ["number"] spTu) : FnOk P w K mg base CX0 (k + 1) f fd ["numbers"] (spTxt 80 360 cds) := by
  refine F.ok scOC (fun vs H Q E h => ?_) (fun cdv A outer s H vs Q E hr h => ?_)
  · obtain ⟨l, xs, rfl, _⟩ := h
    rfl
  · obtain ⟨l, xs, rfl, hl, lo, few, q⟩ := h
    refine ⟨_, pss_one (ps_ret (pe_bm PySem.F.plainAttrs_str PySem.F.slot_str_join PySem.F.type_str_join mt_joinB pe_str (pa_cons (pe_lc (own := [("number", 1)]) (g := (gName 1)) (tt := tYes) rfl scOC.nd (pi_list (pv 0)) (blkOk_by (own := [("number", 1)]) (N := NOC) (sc := defScope sOC) (by decide +kernel)) (fun _ _ _ _ _ => (pg_name (i := 1) scOC.nd rfl (.inl rfl))) (fun _ _ _ _ _ => pts_nil) (fun _ _ _ _ _ => (pe_cal C_own (hr.mono (by omega)) (by rfl) (pa_cons (pe_cal C_turned (hr.mono (by omega)) (by rfl) (pa_cons (pv 1) pa_nil)) pa_nil)))) pa_nil))), ?_⟩
    refine ⟨rfl, _, rfl, l, rfl, ⟨_, SqL.of hl⟩, fun D nD => lc_mapL (xs := xs.map V.int) (xs.map fun x => V.str (S (cd x))) (by simp) nD (SqL.of hl) (by rw [List.length_map]; exact small1000 (by omega)) (fun i x y Hc Q' hx hy sm q' => ?_) fun H' sm hD => ?_⟩
    · rw [List.getElem?_map] at hx hy
      obtain ⟨z, ez, rfl⟩ := Option.map_eq_some_iff.mp hx
      rw [ez] at hy
      cases hy
      have b := lo z (List.mem_of_getElem? ez)
      exact ⟨rfl, _, rfl, z, rfl, abs_89 b, tN z, (by rw [← tn_nat]; rfl), tN_90 b, q' Hc (Same.refl _)⟩
    · exact ⟨D, xs.map cd, (by rw [← s_nil]), rfl, (by rw [List.map_map]; exact SqL.of hD), Nat.le_trans (cds_len lo) (by omega), q H' sm⟩
/-- a def that tells a new list of numbers -/
def spNew (b n : Nat) (F : List Int → List Int) : Sp := fun vs H Q _ => ∃ (l : Addr) (xs : List Int), vs = [.ref l] ∧ NL H l xs ∧ Lo b xs ∧ xs.length ≤ n ∧ ∀ m H', Same H H' → H m = none → NL H' m (F xs) → Q (.ref m) H'
theorem cut_1 (xs : List Int) : cutV (xs.map V.int) none (some 1) = (xs.take 1).map V.int := by
  unfold cutV
  rw [HT.sIx_none, show (1 : Int) = ((1 : Nat) : Int) from rfl, HT.sIx_nat, List.drop_zero, Nat.sub_zero, List.length_map, List.map_take]
  by_cases h : 1 ≤ xs.length
  · rw [Nat.min_eq_left h]
  · rw [Nat.min_eq_right (by omega), List.take_of_length_le (by rw [List.length_map]; exact Nat.le_refl _), List.take_of_length_le (by rw [List.length_map]; omega)]
theorem cut_2 (xs : List Int) : cutV (xs.map V.int) (some 1) none = (xs.drop 1).map V.int := by
  unfold cutV
  rw [HT.sIx_none, show (1 : Int) = ((1 : Nat) : Int) from rfl, HT.sIx_nat, List.length_map, List.map_drop]
  by_cases h : 1 ≤ xs.length
  · rw [Nat.min_eq_left h]
    exact List.take_of_length_le (by rw [List.length_drop, List.length_map]; exact Nat.le_refl _)
  · rw [Nat.min_eq_right (by omega), List.drop_of_length_le (by rw [List.length_map]; exact Nat.le_refl _), List.drop_of_length_le (by rw [List.length_map]; omega), List.take_nil]
theorem ok_so (F : Fun K "steps_of" "steps_of" sSO f fd) (m_zip : mg "zip" = none) : FnOk P w K mg base CX0 (k + 1) f fd ["numbers"] (spNew 80 360 stp) := by
  refine F.ok scSO (fun vs H Q E h => ?_) (fun cdv A outer s H vs Q E hr h => ?_)
  · obtain ⟨l, xs, rfl, _⟩ := h
    rfl
  · obtain ⟨l, xs, rfl, hl, lo, few, q⟩ := h
    refine ⟨_, pss_one (ps_ret (pe_op op_cat (pe_slice sl_list (pv 0) po_none (po_some pe_int)) (pe_lc (own := [("ahead", 1), ("number", 2)]) (g := (gTup K 2 (gCons (gName 1) (gCons (gName 2) gNil)))) (tt := tYes) rfl scSO.nd (pi_zip (by rfl) m_zip (pa_cons (pv 0) (pa_cons (pe_slice sl_list (pv 0) (po_some pe_int) po_none) pa_nil))) (blkOk_by (own := [("ahead", 1), ("number", 2)]) (N := NSO) (sc := defScope sSO) (by decide +kernel)) (fun _ _ _ _ _ => (pg_tup rfl (pgs_cons (pg_name (i := 1) scSO.nd rfl (.inl rfl)) (pgs_cons (pg_name (i := 2) scSO.nd rfl (.inl rfl)) pgs_nil)))) (fun _ _ _ _ _ => pts_nil) (fun _ _ _ _ _ => (pe_op op_sub (pv 2) (pv 1)))))), ?_⟩
    refine ⟨_, rfl, 1, rfl, l, _, rfl, SqL.of hl, fun l1 n1 => ?_⟩
    rw [cut_1]
    have s1 := same_new (o := .lst ((xs.take 1).map V.int)) n1
    obtain ⟨H1, e1⟩ : ∃ H1, upd H l1 (.lst ((xs.take 1).map V.int)) = H1 := ⟨_, rfl⟩
    have h1 : H1 l1 = some (.lst ((xs.take 1).map V.int)) := by rw [← e1]; exact upd_same
    rw [e1] at s1 ⊢
    refine ⟨_, rfl, _, rfl, 1, rfl, l, _, rfl, SqL.of (s1 _ _ hl), fun l2 n2 => ?_⟩
    rw [cut_2]
    have s2 := same_new (o := .lst ((xs.drop 1).map V.int)) n2
    obtain ⟨H2, e2⟩ : ∃ H2, upd H1 l2 (.lst ((xs.drop 1).map V.int)) = H2 := ⟨_, rfl⟩
    have h2 : H2 l2 = some (.lst ((xs.drop 1).map V.int)) := by rw [← e2]; exact upd_same
    rw [e2] at s2 ⊢
    refine ⟨l, l2, _, _, rfl, SqL.of (s2 _ _ (s1 _ _ hl)), SqL.of h2, fun D nD => lc_mapZ (xs := xs.map V.int) (zs := (xs.drop 1).map V.int) ((difs xs).map V.int) (difs xs).length ?_ (by simp) nD (SqL.of (s2 _ _ (s1 _ _ hl))) (SqL.of h2) ?_ (fun i x z y T Hc Q' hx hz hy sm hT q' => ?_) fun H' sm hD => ?_⟩
    · rw [difs_len, List.length_map, List.length_map, List.length_drop]
      omega
    · rw [difs_len]
      exact small1000 (by omega)
    · rw [List.getElem?_map] at hx hz hy
      obtain ⟨a, ea, rfl⟩ := Option.map_eq_some_iff.mp hx
      obtain ⟨b, eb, rfl⟩ := Option.map_eq_some_iff.mp hz
      rw [List.getElem?_drop, Nat.add_comm] at eb
      rw [difs_at xs i a b ea eb] at hy
      cases hy
      exact ⟨T, _, rfl, SqT.of hT, rfl, _, _, rfl, _, _, rfl, rfl, rfl, _, rfl, _, rfl, b, a, rfl, rfl, q' Hc (Same.refl _)⟩
    · have h1' := sm _ _ (s2 _ _ h1)
      refine ⟨l1, D, _, _, rfl, rfl, h1', hD, ?_, fun l3 n3 => ?_⟩
      · rw [List.length_map, List.length_map, List.length_take, difs_len]
        exact Nat.le_of_lt (small1000 (by omega))
      · have sA := (s1.trans s2).trans (sm.trans (same_new (o := .lst ((xs.take 1).map V.int ++ (difs xs).map V.int)) n3))
        refine q l3 _ sA ((s1.trans (s2.trans sm)).free n3) ?_
        show _ = some (HO.lst ((xs.take 1 ++ difs xs).map V.int))
        rw [upd_same, List.map_append]
/-- a writer -/
def spWr (G : List Int → List Nat) : Sp := fun vs H Q _ => ∃ (l : Addr) (xs : List Int), vs = [.ref l] ∧ NL H l xs ∧ Lo 70 xs ∧ xs.length ≤ 300 ∧ 0 < xs.length ∧ ∀ H', Same H H' → Q (.str (S (G xs))) H'
theorem ok_ws (F : Fun K "write_steps" "write_steps" sWS f fd) (C_own_codes : Cal P w K mg base k "own_codes" ["numbers"] (spTxt 80 360 cds)) (C_steps_of : Cal P w K mg base k "steps_of" ["numbers"] (spNew 80 360 stp)) : FnOk P w K mg base CX0 (k + 1) f fd ["numbers"] (spWr (enc .steps)) := by
  refine F.ok scWS (fun vs H Q E h => ?_) (fun cdv A outer s H vs Q E hr h => ?_)
  · obtain ⟨l, xs, rfl, _⟩ := h
    rfl
  · obtain ⟨l, xs, rfl, hl, lo, few, _, q⟩ := h
    refine ⟨_, pss_one (ps_ret (pe_cal C_own_codes (hr.mono (by omega)) (by rfl) (pa_cons (pe_cal C_steps_of (hr.mono (by omega)) (by rfl) (pa_cons (pv 0) pa_nil)) pa_nil))), ?_⟩
    exact ⟨_, rfl, l, xs, rfl, hl, lo.mono (by decide), by omega, fun m H1 s1 _ h1 => ⟨m, stp xs, rfl, h1, (lo_stp lo).mono (by decide), by rw [stp_len]; omega, fun H2 s2 => q H2 (s1.trans s2)⟩⟩
theorem ok_wt (F : Fun K "write_turns" "write_turns" sWT f fd) (C_own_codes : Cal P w K mg base k "own_codes" ["numbers"] (spTxt 80 360 cds)) (C_steps_of : Cal P w K mg base k "steps_of" ["numbers"] (spNew 80 360 stp)) : FnOk P w K mg base CX0 (k + 1) f fd ["numbers"] (spWr (enc .turns)) := by
  refine F.ok scWT (fun vs H Q E h => ?_) (fun cdv A outer s H vs Q E hr h => ?_)
  · obtain ⟨l, xs, rfl, _⟩ := h
    rfl
  · obtain ⟨l, xs, rfl, hl, lo, few, _, q⟩ := h
    refine ⟨_, pss_one (ps_ret (pe_cal C_own_codes (hr.mono (by omega)) (by rfl) (pa_cons (pe_op op_cat (pe_slice sl_list (pv 0) po_none (po_some pe_int)) (pe_cal C_steps_of (hr.mono (by omega)) (by rfl) (pa_cons (pe_slice sl_list (pe_cal C_steps_of (hr.mono (by omega)) (by rfl) (pa_cons (pv 0) pa_nil)) (po_some pe_int) po_none) pa_nil))) pa_nil))), ?_⟩
    refine ⟨_, rfl, 1, rfl, l, _, rfl, SqL.of hl, fun l1 n1 => ?_⟩
    rw [cut_1]
    have s1 := same_new (o := .lst ((xs.take 1).map V.int)) n1
    obtain ⟨H1, e1⟩ : ∃ H1, upd H l1 (.lst ((xs.take 1).map V.int)) = H1 := ⟨_, rfl⟩
    have h1 : H1 l1 = some (.lst ((xs.take 1).map V.int)) := by rw [← e1]; exact upd_same
    rw [e1] at s1 ⊢
    refine ⟨_, rfl, l, xs, rfl, s1 _ _ hl, lo.mono (by decide), by omega, fun m H2 s2 _ h2 => ⟨1, rfl, m, _, rfl, SqL.of h2, fun l3 n3 => ?_⟩⟩
    rw [cut_2]
    have ed : (stp xs).drop 1 = difs xs := by
      unfold stp
      cases xs with
      | nil => rfl
      | cons a r => rfl
    rw [ed]
    have s3 := same_new (o := .lst ((difs xs).map V.int)) n3
    refine ⟨l3, difs xs, rfl, upd_same, (lo_difs lo).mono (by decide), by rw [difs_len]; omega, fun m2 H4 s4 _ h4 => ⟨l1, m2, _, _, rfl, rfl, s4 _ _ (s3 _ _ (s2 _ _ h1)), h4, ?_, fun l5 n5 => ?_⟩⟩
    · rw [List.length_map, List.length_map, List.length_take, stp_len, difs_len]
      exact Nat.le_of_lt (small1000 (by omega))
    · have s5 := same_new (o := .lst ((xs.take 1).map V.int ++ (stp (difs xs)).map V.int)) n5
      refine ⟨l5, trn xs, rfl, ?_, (lo_trn lo).mono (by decide), by rw [trn_len]; omega, fun H6 s6 => q H6 (s1.trans (s2.trans (s3.trans (s4.trans (s5.trans s6)))))⟩
      show _ = some (HO.lst ((xs.take 1 ++ stp (difs xs)).map V.int))
      rw [upd_same, List.map_append]
/-! ### runs -/
/-- tuples of two numbers -/
def RunT (H : Hp) (ts : List Addr) (rs : List Run) : Prop := ts.length = rs.length ∧ ∀ (i : Nat) (t : Addr) (r : Run), ts[i]? = some t → rs[i]? = some r → H t = some (.tup [.int r.1, .int (r.2 : Nat)])
theorem RunT.kt {H H' : Hp} {ts : List Addr} {rs : List Run} (h : RunT H ts rs) (k : KT H H') : RunT H' ts rs := ⟨h.1, fun i t r e1 e2 => k _ _ trivial (h.2 i t r e1 e2)⟩
theorem RunT.snoc {H : Hp} {ts : List Addr} {rs : List Run} {t : Addr} {r : Run} (h : RunT H ts rs) (ht : H t = some (.tup [.int r.1, .int (r.2 : Nat)])) : RunT H (ts ++ [t]) (rs ++ [r]) := by
  refine ⟨by rw [List.length_append, List.length_append, h.1]; rfl, fun i u q e1 e2 => ?_⟩
  rcases Nat.lt_or_ge i ts.length with g | g
  · rw [List.getElem?_append_left g] at e1
    rw [List.getElem?_append_left (by rw [← h.1]; exact g)] at e2
    exact h.2 i u q e1 e2
  · have e : i = ts.length := by
      have := (List.getElem?_eq_some_iff.mp e1).1
      rw [List.length_append] at this
      have z : [t].length = 1 := rfl
      omega
    subst e
    rw [List.getElem?_append_right (Nat.le_refl _), Nat.sub_self] at e1
    rw [h.1, List.getElem?_append_right (Nat.le_refl _), Nat.sub_self] at e2
    cases e1
    cases e2
    exact ht
theorem RunT.init {H : Hp} {ts : List Addr} {rs : List Run} (h : RunT H ts rs) : RunT H ts.dropLast rs.dropLast := by
  refine ⟨by rw [List.length_dropLast, List.length_dropLast, h.1], fun i t r e1 e2 => ?_⟩
  rw [List.getElem?_dropLast] at e1 e2
  split at e1
  · split at e2
    · exact h.2 i t r e1 e2
    · cases e2
  · cases e1
def spRu : Sp := fun vs H Q _ => ∃ (l : Addr) (xs : List Int), vs = [.ref l] ∧ NL H l xs ∧ xs.length ≤ 300 ∧ ∀ (m : Addr) (ts : List Addr) (H' : Hp), Same H H' → H' m = some (.lst (ts.map V.ref)) → RunT H' ts (rn xs) → Q (.ref m) H'
theorem rnA_len (rs : List Run) (x : Int) : (rnA rs x).length ≤ rs.length + 1 := by
  unfold rnA
  split
  · split
    · rw [List.length_append, List.length_dropLast]
      show _ - 1 + 1 ≤ _
      omega
    · rw [List.length_append]
      exact Nat.le_refl _
  · exact Nat.le_add_left _ _
theorem rn_take {xs : List Int} {i : Nat} {x : Int} (h : xs[i]? = some x) : rn (xs.take (i + 1)) = rnA (rn (xs.take i)) x := by
  rw [List.take_add_one, h]
  exact rn_snoc _ _
theorem rn_len (xs : List Int) : (rn xs).length ≤ xs.length := by
  have go : ∀ (ys : List Int) (rs : List Run), (ys.foldl rnA rs).length ≤ rs.length + ys.length := by
    intro ys
    induction ys with
    | nil => exact fun rs => Nat.le_refl _
    | cons y ys ih =>
      intro rs
      have h1 := ih (rnA rs y)
      have h2 := rnA_len rs y
      rw [List.length_cons, List.foldl_cons]
      omega
  have z := go xs []
  rw [List.length_nil, Nat.zero_add] at z
  exact z
theorem rnA_nil (x : Int) : rnA [] x = [(x, 1)] := rfl
theorem rnA_same (rs : List Run) (x : Int) (n : Nat) : rnA (rs ++ [(x, n)]) x = rs ++ [(x, n + 1)] := by
  unfold rnA
  rw [List.getLast?_concat]
  dsimp only
  rw [if_pos rfl, List.dropLast_concat]
theorem rnA_other (rs : List Run) (x y : Int) (n : Nat) (h : y ≠ x) : rnA (rs ++ [(y, n)]) x = rs ++ [(y, n)] ++ [(x, 1)] := by
  unfold rnA
  rw [List.getLast?_concat]
  dsimp only
  rw [if_neg h]
/-- the list m of tuples changed -/
theorem runs_put {H H' : Hp} {m t : Addr} {xs ys : List V} {a : Int} {n : Nat} (hm : H m = some (.lst xs)) (nt : H t = none) (e : H' = upd (upd H t (.tup [.int a, .int (n : Nat)])) m (.lst ys)) : H' m = some (.lst ys) ∧ H' t = some (.tup [.int a, .int (n : Nat)]) ∧ KT H H' ∧ ∀ b o, b ≠ m → H b = some o → H' b = some o := by
  subst e
  have tm : t ≠ m := fun z => by
    rw [z, hm] at nt
    cases nt
  have s1 := same_new (o := .tup [.int a, .int (n : Nat)]) nt
  refine ⟨upd_same, by rw [upd_ne tm, upd_same], (KT.of s1).trans (KT.put (s1 _ _ hm) nfix_lst), fun b o nb hb => ?_⟩
  rw [upd_ne nb]
  exact s1 _ _ hb
theorem ok_ru (F : Fun K "runs_of" "runs_of" sRu f fd) : FnOk P w K mg base CX0 (k + 1) f fd ["numbers"] spRu := by
  refine F.ok scRu (fun vs H Q E h => ?_) (fun cdv A outer s H vs Q E hr h => ?_)
  · obtain ⟨l, xs, rfl, _⟩ := h
    rfl
  · obtain ⟨l, xs, rfl, hl, few, q⟩ := h
    refine ⟨_, pss_cons (ps_set (i := 1) scRu.nd rfl (.inl rfl) (pe_lst pa_nil))
      (pss_cons (ps_for PassesOwn.never rfl (pi_list (pv 0)) (pg_name (i := 2) scRu.nd rfl (.inl rfl))
        (pss_one (ps_if (PW.pt (pw_and (pt_truth (pv 1) (fun _ => rfl)) (pw_and1 (pt_cmpR op_eq (pe_ix ix_tup (pe_ix ix_list (pv 1) (pe_un un_neg pe_int) (fun _ _ => rfl)) pe_int (fun _ _ => rfl)) (pv 2) (nomark _)))))
          (pss_one (ps_asg (pe_tup (pa_cons (pv 2) (pa_cons (pe_op op_add (pe_ix ix_tup (pe_ix ix_list (pv 1) (pe_un un_neg pe_int) (fun _ _ => rfl)) pe_int (fun _ _ => rfl)) pe_int) pa_nil))) (pg_sub (pv 1) (pe_un un_neg pe_int) set_list)))
          (pss_one (ps_expr (pe_bm PySem.F.plainAttrs_list PySem.F.slot_list_append PySem.F.type_list_append mt_append (pv 1) (pa_cons (pe_tup (pa_cons (pv 2) (pa_cons pe_int pa_nil))) pa_nil)))))))
      (pss_one (ps_ret (pv 1)))), ?_⟩
    refine ⟨Nat.zero_le _, fun m nm => ?_⟩
    have s1 := same_new (o := .lst []) nm
    refine ⟨_, rfl, l, rfl, ⟨_, SqL.of (s1 _ _ hl)⟩, for_list (xs := xs.map V.int) (fun i σ Hc => ∃ (z : Option V) (ts : List Addr), σ = [some (.ref l), some (.ref m), z] ∧ Same H Hc ∧ Hc m = some (.lst (ts.map V.ref)) ∧ RunT Hc ts (rn (xs.take i))) ?_ ?_ ?_ ?_⟩
    · exact ⟨none, [], rfl, s1, upd_same, rfl, fun i t r e => by simp at e⟩
    · rintro i σ Hc _ ⟨z, ts, rfl, sm, _⟩
      exact SqL.of (sm _ _ hl)
    · rintro i y σ Hc hy ⟨z, ts, rfl, sm, hm, rt⟩
      rw [List.getElem?_map] at hy
      obtain ⟨x, ex, rfl⟩ := Option.map_eq_some_iff.mp hy
      have lt := (List.getElem?_eq_some_iff.mp ex).1
      have ln : ts.length ≤ 300 := by
        have h1 := rn_len (xs.take i)
        rw [← rt.1, List.length_take] at h1
        omega
      have en := rn_take ex
      rcases List.eq_nil_or_concat ts with rfl | ⟨ti, tl, rfl⟩
      · have e0 : rn (xs.take i) = [] := List.length_eq_zero_iff.mp rt.1.symm
        rw [e0, rnA_nil] at en
        refine ⟨_, rfl, false, .inl ⟨_, SqL.of hm, rfl⟩, if_f (if_f ?_)⟩
        refine ⟨_, rfl, .inl ⟨rfl, _, SqL.of hm⟩, _, rfl, by show 2 ≤ sizeLine; decide, fun t nt => ?_⟩
        have s3 := same_new (o := .tup [.int x, .int ((1 : Nat) : Int)]) nt
        refine ⟨m, _, _, rfl, rfl, s3 _ _ hm, small1000 (by show 0 ≤ 1000; decide), ?_⟩
        obtain ⟨p1, p2, p3, p4⟩ := runs_put (n := 1) (ys := [.ref t]) hm nt rfl
        refine ⟨_, [t], rfl, fun b o hb => p4 b o (ne_of_none hb nm) (sm _ _ hb), p1, ?_⟩
        rw [en]
        exact ⟨rfl, fun j u r e1 e2 => by
          match j, e1, e2 with
          | 0, e1, e2 =>
            cases e1
            cases e2
            exact p2⟩
      · rw [List.concat_eq_append] at hm rt ln
        obtain ⟨ri, rl, er⟩ : ∃ ri rl, rn (xs.take i) = ri ++ [rl] := by
          rcases List.eq_nil_or_concat (rn (xs.take i)) with z | ⟨ri, rl, z⟩
          · have l := rt.1
            rw [z, List.length_append] at l
            cases l
          · exact ⟨ri, rl, by rw [z, List.concat_eq_append]⟩
        obtain ⟨y, n⟩ := rl
        rw [er] at rt en
        have lti : ti.length = ri.length := by
          have l := rt.1
          rw [List.length_append, List.length_append] at l
          exact Nat.succ.inj l
        have htl : Hc tl = some (.tup [.int y, .int (n : Nat)]) := rt.2 ti.length tl (y, n) (by rw [List.getElem?_append_right (Nat.le_refl _), Nat.sub_self]; rfl) (by rw [lti, List.getElem?_append_right (Nat.le_refl _), Nat.sub_self]; rfl)
        have rti : RunT Hc ti ri := by
          have z := rt.init
          rw [List.dropLast_concat, List.dropLast_concat] at z
          exact z
        rw [List.map_append] at hm
        have tru : (!(ti.map V.ref ++ [tl].map V.ref).isEmpty) = true := by
          cases ti <;> rfl
        refine ⟨_, rfl, true, .inl ⟨_, SqL.of hm, tru.symm⟩, if_t ?_⟩
        refine ⟨_, rfl, 1, rfl, m, _, -1, .ref tl, rfl, rfl, SqL.of hm, atI_last _ _, tl, _, 0, .int y, rfl, rfl, SqT.of htl, rfl, ?_⟩
        refine ⟨_, rfl, rfl, _, rfl, ite2 (fun g => ?_) (fun g => ?_)⟩
        · obtain rfl : y = x := by
            rw [dec_int] at g
            exact of_decide_eq_true g
          rw [rnA_same] at en
          refine ⟨_, rfl, _, rfl, 1, rfl, m, _, -1, .ref tl, rfl, rfl, SqL.of hm, atI_last _ _, tl, _, 1, .int (n : Nat), rfl, rfl, SqT.of htl, rfl, (n : Int), 1, rfl, rfl, by show 2 ≤ sizeLine; decide, fun t nt => ?_⟩
          have s3 := same_new (o := .tup [.int y, .int (((n + 1 : Nat)) : Int)]) nt
          have eset : (ti.map V.ref ++ [tl].map V.ref).set ti.length (.ref t) = (ti ++ [t]).map V.ref := by
            rw [List.set_append_right _ _ (by rw [List.length_map]; exact Nat.le_refl _), List.length_map, Nat.sub_self, List.map_append]
            rfl
          refine ⟨_, rfl, 1, rfl, m, _, -1, ti.length, rfl, rfl, s3 _ _ hm, ?_, ?_⟩
          · unfold ixN
            rw [List.length_append, List.length_map, List.length_map]
            simp only [List.length_nil, List.length_cons]
            rw [if_neg (by decide), if_pos (by omega)]
            congr 1
            omega
          · rw [eset]
            obtain ⟨p1, p2, p3, p4⟩ := runs_put (n := n + 1) (ys := (ti ++ [t]).map V.ref) hm nt rfl
            refine ⟨_, ti ++ [t], rfl, fun b o hb => p4 b o (ne_of_none hb nm) (sm _ _ hb), p1, ?_⟩
            rw [en]
            exact (rti.kt p3).snoc p2
        · have yx : y ≠ x := fun z => g (by
            rw [dec_int]
            exact decide_eq_true z)
          rw [rnA_other _ _ _ _ yx] at en
          refine ⟨_, rfl, .inl ⟨rfl, _, SqL.of hm⟩, _, rfl, by show 2 ≤ sizeLine; decide, fun t nt => ?_⟩
          have s3 := same_new (o := .tup [.int x, .int ((1 : Nat) : Int)]) nt
          refine ⟨m, _, _, rfl, rfl, s3 _ _ hm, small1000 (by rw [← List.map_append, List.length_map]; omega), ?_⟩
          have eapp : ti.map V.ref ++ [tl].map V.ref ++ [V.ref t] = (ti ++ [tl] ++ [t]).map V.ref := by
            rw [List.map_append, List.map_append]
            rfl
          rw [eapp]
          obtain ⟨p1, p2, p3, p4⟩ := runs_put (n := 1) (ys := (ti ++ [tl] ++ [t]).map V.ref) hm nt rfl
          refine ⟨_, ti ++ [tl] ++ [t], rfl, fun b o hb => p4 b o (ne_of_none hb nm) (sm _ _ hb), p1, ?_⟩
          rw [en]
          exact (rt.kt p3).snoc p2
    · rintro σ Hc ⟨z, ts, rfl, sm, hm, rt⟩
      rw [List.length_map, List.take_length] at rt
      exact ⟨_, rfl, q m ts Hc sm hm rt⟩
end
end Tg

namespace Tg
open PySem PySem.Spec PyProof.Rows L2
open SX (S)
abbrev sWP : Stmt := topS 18
abbrev sWB : Stmt := topS 22
abbrev NWP : List Str := ["numbers", "least", "width", "codes", "number"]
abbrev NWB : List Str := ["numbers", "book", "place_by_number", "place", "number", "width", "gaps", "ahead", "codes"]
theorem scWP : FnScope NWP ["numbers"] (defScope sWP) := ⟨rfl, rfl, rfl, by decide +kernel, rfl, by decide +kernel, by decide +kernel⟩
theorem scWB : FnScope NWB ["numbers"] (defScope sWB) := ⟨rfl, rfl, rfl, by decide +kernel, rfl, by decide +kernel, by decide +kernel⟩
theorem own_short {n w : Nat} (h : n + 1 < 2 ^ w) : (ownL n).length ≤ 2 * w := by
  rw [own_len]
  have := (Nat.log2_lt (n := n + 1) (k := w) (by omega)).mpr h
  omega
theorem rcd_len {r : Run} (h1 : r.1.natAbs < 2 ^ 80) (h2 : r.2 ≤ 300) : (rcd r).length ≤ 190 := by
  unfold rcd
  rw [List.length_append]
  have a := cd_len h1
  have b := own_short (n := r.2 - 1) (w := 9) (by omega)
  omega
theorem flat_le {n : Nat} : ∀ {ls : List (List Nat)}, (∀ l, l ∈ ls → l.length ≤ n) → ls.flatten.length ≤ n * ls.length
  | [], _ => Nat.le_refl _
  | l :: r, h => by
    have h1 := h l (.head _)
    have h2 := flat_le fun y hy => h y (.tail _ hy)
    rw [List.flatten_cons, List.length_append, List.length_cons, Nat.mul_succ]
    omega
/-- what runs are made of -/
theorem run_in {xs : List Int} {r : Run} (h : r ∈ rn xs) : r.1 ∈ xs ∧ 1 ≤ r.2 ∧ r.2 ≤ xs.length := by
  obtain ⟨u, pos⟩ := rn_all xs
  have p := pos r h
  obtain ⟨a, b, e⟩ := List.append_of_mem h
  rw [e, show a ++ r :: b = a ++ [r] ++ b by simp, unr_app, unr_app, unr_one] at u
  refine ⟨?_, p, ?_⟩
  · rw [← u]
    exact List.mem_append_left _ (List.mem_append_right _ (List.mem_replicate.mpr ⟨by omega, rfl⟩))
  · rw [← u, List.length_append, List.length_append, List.length_replicate]
    omega
section
variable {P : Program} {w : World} {K : PySem.W.Frag} {mg : Str → Option Value} {base : Heap} {f : Addr} {fd : FuncData} {k : Nat}
theorem ok_wr (F : Fun K "write_runs" "write_runs" sWR f fd) (C_runs_of : Cal P w K mg base k "runs_of" ["numbers"] spRu) (C_own : Cal P w K mg base k "own" ["number"] spOw) (C_turned : Cal P w K mg base k "turned" ["number"] spTu) : FnOk P w K mg base CX0 (k + 1) f fd ["numbers"] (spWr (enc .runs)) := by
  refine F.ok scWR (fun vs H Q E h => ?_) (fun cdv A outer s H vs Q E hr h => ?_)
  · obtain ⟨l, xs, rfl, _⟩ := h
    rfl
  · obtain ⟨l, xs, rfl, hl, lo, few, _, q⟩ := h
    refine ⟨_, pss_one (ps_ret (pe_bm PySem.F.plainAttrs_str PySem.F.slot_str_join PySem.F.type_str_join mt_joinB pe_str (pa_cons (pe_lc (own := [("number", 1), ("length", 2)]) (g := (gTup K 2 (gCons (gName 1) (gCons (gName 2) gNil)))) (tt := tYes) rfl scWR.nd (pi_list (pe_cal C_runs_of (hr.mono (by omega)) (by rfl) (pa_cons (pv 0) pa_nil))) (blkOk_by (own := [("number", 1), ("length", 2)]) (N := NWR) (sc := defScope sWR) (by decide +kernel)) (fun _ _ _ _ _ => (pg_tup rfl (pgs_cons (pg_name (i := 1) scWR.nd rfl (.inl rfl)) (pgs_cons (pg_name (i := 2) scWR.nd rfl (.inl rfl)) pgs_nil)))) (fun _ _ _ _ _ => pts_nil) (fun _ _ _ _ _ => (pe_op op_addB (pe_cal C_own (hr.mono (by omega)) (by rfl) (pa_cons (pe_cal C_turned (hr.mono (by omega)) (by rfl) (pa_cons (pv 1) pa_nil)) pa_nil)) (pe_cal C_own (hr.mono (by omega)) (by rfl) (pa_cons (pe_op op_sub (pv 2) pe_int) pa_nil))))) pa_nil))), ?_⟩
    refine ⟨rfl, _, rfl, l, xs, rfl, hl, few, fun m ts H1 s1 hm rt => ⟨m, rfl, ⟨_, SqL.of hm⟩, fun D nD => lc_mapL (xs := ts.map V.ref) ((rn xs).map fun r => V.str (S (rcd r))) (by rw [List.length_map, List.length_map, rt.1]) nD (SqL.of hm) ?_ (fun i x y Hc Q' hx hy sm q' => ?_) fun H' sm hD => ?_⟩⟩
    · rw [List.length_map, rt.1]
      exact small1000 (Nat.le_trans (rn_len xs) (by omega))
    · rw [List.getElem?_map] at hx hy
      obtain ⟨t, et, rfl⟩ := Option.map_eq_some_iff.mp hx
      obtain ⟨r, er, rfl⟩ := Option.map_eq_some_iff.mp hy
      obtain ⟨r1, r2, r3⟩ := run_in (List.mem_of_getElem? er)
      have b : r.1.natAbs < 2 ^ 80 := Nat.lt_of_lt_of_le (lo r.1 r1) (by decide)
      refine ⟨t, _, rfl, SqT.of (sm _ _ (rt.2 i t r et er)), rfl, _, _, rfl, _, _, rfl, rfl, rfl, ?_⟩
      refine ⟨_, rfl, r.1, rfl, abs_89 b, tN r.1, (by rw [← tn_nat]; rfl), tN_90 b, ?_⟩
      refine ⟨_, rfl, _, _, rfl, rfl, r.2 - 1, ?_, ?_, _, _, rfl, rfl, rcd_len b (by omega) |> fun z => ?_, ?_⟩
      · show [V.int ((r.2 : Nat) - 1)] = _
        congr 2
        omega
      · exact Nat.lt_of_le_of_lt (show r.2 - 1 ≤ 300 by omega) (by decide)
      · unfold rcd cd at z
        rw [List.length_append] at z
        omega
      · exact q' Hc (Same.refl _)
    · refine ⟨D, (rn xs).map rcd, (by rw [← s_nil]), rfl, (by rw [List.map_map]; exact SqL.of hD), ?_, q H' (s1.trans sm)⟩
      refine Nat.le_trans (flat_le (n := 190) fun y hy => ?_) ?_
      · obtain ⟨r, hr, rfl⟩ := List.mem_map.mp hy
        obtain ⟨r1, r2, r3⟩ := run_in hr
        exact rcd_len (Nat.lt_of_lt_of_le (lo r.1 r1) (by decide)) (by omega)
      · rw [List.length_map]
        have := rn_len xs
        omega
theorem bits_nat {n : Int} (h : 0 ≤ n) : Builtin.Int.intBits n = blen n.toNat := by
  unfold Builtin.Int.intBits blen
  by_cases c : n = 0
  · subst c
    rfl
  · rw [if_neg (by rw [beq_iff_eq]; exact c), if_neg (by omega), show n.natAbs = n.toNat by omega]
theorem wdP_le {xs : List Int} (lo : Lo 70 xs) (ne : xs ≠ []) : wdP xs ≤ 71 := by
  unfold wdP
  have h1 := lo _ (mnI_is ne).1
  have h2 := lo _ (mxI_is ne).1
  refine blen_le ?_
  rw [show (2 : Nat) ^ 71 = 2 ^ 70 * 2 from rfl]
  omega
theorem ok_wp (F : Fun K "write_plain" "write_plain" sWP f fd) (C_plain : Cal P w K mg base k "plain" ["number", "width"] spPl) (C_own : Cal P w K mg base k "own" ["number"] spOw) (C_turned : Cal P w K mg base k "turned" ["number"] spTu) (m_min : mg "min" = none) (m_max : mg "max" = none) : FnOk P w K mg base CX0 (k + 1) f fd ["numbers"] (spWr encP) := by
  refine F.ok scWP (fun vs H Q E h => ?_) (fun cdv A outer s H vs Q E hr h => ?_)
  · obtain ⟨l, xs, rfl, _⟩ := h
    rfl
  · obtain ⟨l, xs, rfl, hl, lo, few, pos, q⟩ := h
    have ne : xs ≠ [] := List.length_pos_iff.mp pos
    have w71 := wdP_le lo ne
    obtain ⟨n1, n2⟩ := mnI_is ne
    obtain ⟨x1, x2⟩ := mxI_is ne
    refine ⟨_, pss_cons (ps_set (i := 1) scWP.nd rfl (.inr rfl) (pe_callB (cr_min rfl) (by rfl) m_min (by decide +kernel) (pa_cons (pv 0) pa_nil)))
      (pss_cons (ps_set (i := 2) scWP.nd rfl (.inr rfl) (pe_bits (pe_op op_sub (pe_callB (cr_max rfl) (by rfl) m_max (by decide +kernel) (pa_cons (pv 0) pa_nil)) (pv 1))))
      (pss_cons (ps_setLc (i := 3) (own := [("number", 4)]) (g := (gName 4)) (tt := tYes) rfl scWP.nd rfl rfl (sw_true rfl rfl rfl (by decide +kernel)) (pi_list (pv 0)) (blkOk_by (own := [("number", 4)]) (N := NWP) (sc := defScope sWP) (by decide +kernel)) (fun _ _ _ _ _ => (pg_name (i := 4) scWP.nd rfl (.inl rfl))) (fun _ _ _ _ _ => pts_nil) (fun _ _ _ _ _ => (pe_cal C_plain (hr.mono (by omega)) (by rfl) (pa_cons (pe_op op_sub (pv 4) (pv 1)) (pa_cons (pv 2) pa_nil)))))
      (pss_one (ps_ret (pe_op op_addB (pe_op op_addB (pe_cal C_own (hr.mono (by omega)) (by rfl) (pa_cons (pe_cal C_turned (hr.mono (by omega)) (by rfl) (pa_cons (pv 1) pa_nil)) pa_nil)) (pe_cal C_own (hr.mono (by omega)) (by rfl) (pa_cons (pv 2) pa_nil))) (pe_bm PySem.F.plainAttrs_str PySem.F.slot_str_join PySem.F.type_str_join mt_joinB pe_str (pa_cons (pv 3) pa_nil))))))), ?_⟩
    refine ⟨_, rfl, l, xs, rfl, SqL.of hl, pos, fun m hm hmin => ?_⟩
    obtain rfl := mn_of hm hmin
    refine ⟨_, rfl, l, xs, rfl, SqL.of hl, pos, fun m hm hmax => ?_⟩
    obtain rfl := mx_of hm hmax
    refine ⟨_, rfl, _, _, rfl, rfl, _, rfl, ?_⟩
    rw [bits_nat (by have := n2 _ x1; omega)]
    refine ⟨_, rfl, l, rfl, ⟨_, SqL.of hl⟩, fun D nD => lc_mapL (xs := xs.map V.int) (xs.map fun x => V.str (S (bt (wdP xs) (x - mnI xs).toNat))) (by simp) nD (SqL.of hl) (by rw [List.length_map]; exact small1000 (by omega)) (fun i x y Hc Q' hx hy sm q' => ?_) fun H' sm hD => ?_⟩
    · rw [List.getElem?_map] at hx hy
      obtain ⟨z, ez, rfl⟩ := Option.map_eq_some_iff.mp hx
      rw [ez] at hy
      cases hy
      have z1 := n2 z (List.mem_of_getElem? ez)
      have z2 := x2 z (List.mem_of_getElem? ez)
      refine ⟨rfl, _, rfl, _, rfl, _, _, rfl, rfl, _, rfl, (z - mnI xs).toNat, wdP xs, ?_, blen_mono (by omega), by omega, q' Hc (Same.refl _)⟩
      show [V.int (z - mnI xs), V.int (blen (mxI xs - mnI xs).toNat : Nat)] = _
      rw [Int.toNat_of_nonneg (by omega)]
      rfl
    · have b : (mnI xs).natAbs < 2 ^ 80 := Nat.lt_of_lt_of_le (lo _ n1) (by decide)
      have c1 := cd_len b
      have c2 := own_short (n := wdP xs) (w := 7) (by omega)
      refine ⟨_, rfl, mnI xs, rfl, abs_89 b, tN (mnI xs), (by rw [← tn_nat]; rfl), tN_90 b, ?_⟩
      refine ⟨_, rfl, wdP xs, rfl, Nat.lt_of_le_of_lt w71 (by decide), _, _, rfl, rfl, (by unfold cd at c1; omega), ?_⟩
      refine ⟨rfl, _, rfl, D, plC xs, (by rw [← s_nil]), rfl, (by unfold plC; rw [List.map_map]; exact SqL.of hD), ?_, _, _, rfl, rfl, ?_, q H' sm⟩
      all_goals
        have fl : (plC xs).flatten.length = (plC xs).length * wdP xs := flat_same fun y hy => by
          obtain ⟨z, hz, rfl⟩ := List.mem_map.mp hy
          exact bt_len _ _
        have e : (plC xs).length = xs.length := List.length_map ..
        have m1 : xs.length * wdP xs ≤ 300 * 71 := Nat.mul_le_mul few w71
        rw [e] at fl
      · omega
      · rw [List.length_append]
        unfold cd at c1
        omega
end
end Tg

namespace Tg
open PySem PySem.Spec PyProof.Rows L2
open SX (S)
abbrev sBB : Stmt := topS 24
abbrev sSB : Stmt := topS 25
theorem scBB : FnScope ["numbers", "way", "told", "writer"] ["numbers", "way"] (defScope sBB) := ⟨rfl, rfl, rfl, by decide +kernel, rfl, by decide +kernel, by decide +kernel⟩
theorem scSB : FnScope ["numbers", "way"] ["numbers", "way"] (defScope sSB) := ⟨rfl, rfl, rfl, by decide +kernel, rfl, by decide +kernel, by decide +kernel⟩
theorem up_gap {b : List Int} (h : b.Pairwise (· < ·)) : ∀ d, d ∈ difs b → 1 ≤ d := by
  induction b with
  | nil => exact fun d hd => nomatch hd
  | cons x r ih =>
    cases r with
    | nil => exact fun d hd => nomatch hd
    | cons y s =>
      intro d hd
      have p := List.pairwise_cons.mp h
      obtain rfl | hd := List.mem_cons.mp hd
      · have := p.1 y (.head _)
        omega
      · exact ih p.2 d hd
theorem headD_of {b : List Int} {x : Int} (h : b[0]? = some x) : b.headD 0 = x := by
  cases b with
  | nil => cases h
  | cons y r =>
    cases h
    rfl
/-- the places by numbers -/
def plcE (b : List Int) : List (Key × V) := (List.range b.length).map fun i => (.inl (b.getD i 0), .int (i : Nat))
theorem plcE_at {b : List Int} {i : Nat} {x : Int} (h : b[i]? = some x) : (plcE b)[i]? = some (.inl x, .int (i : Nat)) := by
  have lt := (List.getElem?_eq_some_iff.mp h).1
  unfold plcE
  rw [List.getElem?_map, List.getElem?_range lt]
  show some ((Sum.inl (b.getD i 0) : Key), V.int (i : Nat)) = _
  rw [List.getD_eq_getElem?_getD, h]
  rfl
theorem plcE_keys (b : List Int) : (plcE b).map (·.1) = b.map (Sum.inl : Int → Key) := by
  apply List.ext_getElem?
  intro i
  simp only [List.getElem?_map]
  cases h : b[i]? with
  | none =>
    have le := List.getElem?_eq_none_iff.mp h
    rw [List.getElem?_eq_none (by unfold plcE; rw [List.length_map, List.length_range]; exact le)]
    rfl
  | some x =>
    rw [plcE_at h]
    rfl
theorem plcE_nodup {b : List Int} (h : b.Nodup) : ((plcE b).map (·.1)).Nodup := by
  rw [plcE_keys]
  exact List.pairwise_map.mpr (h.imp fun ne z => ne (Sum.inl.inj z))
theorem val_of {kvs : List (Key × V)} {k : Key} {v : V} (nd : (kvs.map (·.1)).Nodup) (h : (k, v) ∈ kvs) : valV kvs k = some v := by
  induction kvs with
  | nil => cases h
  | cons q r ih =>
    unfold valV at *
    rw [List.find?_cons]
    obtain e | h := List.mem_cons.mp h
    · subst e
      rw [decide_eq_true rfl]
      rfl
    · have n := List.nodup_cons.mp nd
      have ne : q.1 ≠ k := fun e => n.1 (by show q.1 ∈ _; rw [e]; exact List.mem_map.mpr ⟨_, h, rfl⟩)
      rw [decide_eq_false ne]
      exact ih n.2 h
theorem plcE_val {b : List Int} {x : Int} (nd : b.Nodup) (h : x ∈ b) : valV (plcE b) (.inl x) = some (.int (b.idxOf x : Nat)) := by
  have lt : b.idxOf x < b.length := List.idxOf_lt_length_of_mem h
  have e : b[b.idxOf x]? = some x := by rw [List.getElem?_eq_getElem lt, List.getElem_idxOf]
  exact val_of (plcE_nodup nd) (List.mem_of_getElem? (plcE_at e))
section
variable {P : Program} {w : World} {K : PySem.W.Frag} {mg : Str → Option Value} {base : Heap} {f : Addr} {fd : FuncData} {k : Nat}
theorem ok_wb (F : Fun K "write_book" "write_book" sWB f fd) (C_plain : Cal P w K mg base k "plain" ["number", "width"] spPl) (C_own : Cal P w K mg base k "own" ["number"] spOw) (C_turned : Cal P w K mg base k "turned" ["number"] spTu)
    (m_sorted : mg "sorted" = none) (m_set : mg "set" = none) (m_enumerate : mg "enumerate" = none) (m_len : mg "len" = none) (m_zip : mg "zip" = none) : FnOk P w K mg base CX0 (k + 1) f fd ["numbers"] (spWr encB) := by
  refine F.ok scWB (fun vs H Q E h => ?_) (fun cdv A outer s H vs Q E hr h => ?_)
  · obtain ⟨l, xs, rfl, _⟩ := h
    rfl
  · obtain ⟨l, xs, rfl, hl, lo, few, pos, q⟩ := h
    have hu := hu_of hr
    refine ⟨_, pss_cons (ps_set (i := 1) scWB.nd rfl (.inl rfl) (pe_callB (cr_sortedSetA rfl) (by rfl) m_sorted (by decide +kernel) (pa_cons (pe_callTy (cr_setL rfl) (by rfl) m_set (by decide +kernel) (pa_cons (pv 0) pa_nil)) pa_nil)))
      (pss_cons (ps_set (i := 2) scWB.nd rfl (.inr rfl) (pe_dc (own := [("place", 3), ("number", 4)]) (g := gTup K 2 (gCons (gName 3) (gCons (gName 4) gNil))) (tt := tYes) rfl scWB.nd (pi_enum (by rfl) m_enumerate (pa_cons (pv 1) pa_nil)) (blkOk_by (own := [("place", 3), ("number", 4)]) (N := NWB) (sc := defScope sWB) (by decide +kernel)) (fun _ _ _ _ _ => pg_tup rfl (pgs_cons (pg_name (i := 3) scWB.nd rfl (.inl rfl)) (pgs_cons (pg_name (i := 4) scWB.nd rfl (.inl rfl)) pgs_nil))) (fun _ _ _ _ _ => pts_nil) (fun _ _ _ _ _ => pv 4) (fun _ _ _ _ _ => pv 3)))
      (pss_cons (ps_set (i := 5) scWB.nd rfl (.inr rfl) (pe_bits (pe_op op_sub (pe_callB call_len_seq (by rfl) m_len (by decide +kernel) (pa_cons (pv 1) pa_nil)) pe_int)))
      (pss_cons (ps_setLc (i := 6) (own := [("ahead", 7), ("number", 4)]) (g := (gTup K 2 (gCons (gName 7) (gCons (gName 4) gNil)))) (tt := tYes) rfl scWB.nd rfl rfl (sw_true rfl rfl rfl (by decide +kernel)) (pi_zip (by rfl) m_zip (pa_cons (pv 1) (pa_cons (pe_slice sl_list (pv 1) (po_some pe_int) po_none) pa_nil))) (blkOk_by (own := [("ahead", 7), ("number", 4)]) (N := NWB) (sc := defScope sWB) (by decide +kernel)) (fun _ _ _ _ _ => (pg_tup rfl (pgs_cons (pg_name (i := 7) scWB.nd rfl (.inl rfl)) (pgs_cons (pg_name (i := 4) scWB.nd rfl (.inl rfl)) pgs_nil)))) (fun _ _ _ _ _ => pts_nil) (fun _ _ _ _ _ => (pe_cal C_own (hr.mono (by omega)) (by rfl) (pa_cons (pe_op op_sub (pe_op op_sub (pv 4) (pv 7)) pe_int) pa_nil))))
      (pss_cons (ps_setLc (i := 8) (own := [("number", 4)]) (g := (gName 4)) (tt := tYes) rfl scWB.nd rfl rfl (sw_true rfl rfl rfl (by decide +kernel)) (pi_list (pv 0)) (blkOk_by (own := [("number", 4)]) (N := NWB) (sc := defScope sWB) (by decide +kernel)) (fun _ _ _ _ _ => (pg_name (i := 4) scWB.nd rfl (.inl rfl))) (fun _ _ _ _ _ => pts_nil) (fun _ _ _ _ _ => (pe_cal C_plain (hr.mono (by omega)) (by rfl) (pa_cons (pe_dget hu (pv 2) (pv 4) (fun _ _ => rfl)) (pa_cons (pv 5) pa_nil)))))
      (pss_one (ps_ret (pe_op op_addB (pe_op op_addB (pe_op op_addB (pe_cal C_own (hr.mono (by omega)) (by rfl) (pa_cons (pe_op op_sub (pe_callB call_len_seq (by rfl) m_len (by decide +kernel) (pa_cons (pv 1) pa_nil)) pe_int) pa_nil)) (pe_cal C_own (hr.mono (by omega)) (by rfl) (pa_cons (pe_cal C_turned (hr.mono (by omega)) (by rfl) (pa_cons (pe_ix ix_list (pv 1) pe_int (fun _ _ => rfl)) pa_nil)) pa_nil))) (pe_bm PySem.F.plainAttrs_str PySem.F.slot_str_join PySem.F.type_str_join mt_joinB pe_str (pa_cons (pv 6) pa_nil))) (pe_bm PySem.F.plainAttrs_str PySem.F.slot_str_join PySem.F.type_str_join mt_joinB pe_str (pa_cons (pv 8) pa_nil))))))))), ?_⟩
    refine ⟨_, rfl, l, xs, rfl, SqL.of hl, by omega, fun a c na cnt => ?_⟩
    have c100 : c ≤ xs.length := cnt xs fun _ h => h
    have s1 : Same H (upd H a (SetO w a (fun k => decide (k ∈ xs)) c)) := same_new na
    refine ⟨a, _, c, rfl, upd_same, Nat.le_of_lt (small1000 (by omega)), fun ns p ⟨up, mem, len⟩ np => ?_⟩
    obtain rfl : ns = bookOf xs := book_of up fun k => (mem k).trans decide_eq_true_iff
    obtain ⟨b, eb⟩ : ∃ b, bookOf xs = b := ⟨_, rfl⟩
    have s2 := same_new (o := .lst ((bookOf xs).map V.int)) np
    obtain ⟨H2, e2⟩ : ∃ H2, upd (upd H a (SetO w a (fun k => decide (k ∈ xs)) c)) p (.lst ((bookOf xs).map V.int)) = H2 := ⟨_, rfl⟩
    have h2 : H2 p = some (.lst (b.map V.int)) := by
      rw [← e2, eb]
      exact upd_same
    have sA : Same H H2 := by
      rw [← e2]
      exact s1.trans s2
    show gName 1 _ _ (upd (upd H a (SetO w a (fun k => decide (k ∈ xs)) c)) p (.lst ((bookOf xs).map V.int))) _
    rw [e2]
    have bn : b.Nodup := by
      rw [← eb]
      exact up_nodup up
    have bl : b.length ≤ 300 := by
      rw [← eb]
      exact Nat.le_trans (book_len xs) few
    have bp : 0 < b.length := by
      rw [← eb]
      exact book_ne pos
    have blo : Lo 70 b := fun x hx => lo x ((mem x).mp (by rw [eb]; exact hx) |> of_decide_eq_true)
    have gup : ∀ d, d ∈ difs b → 1 ≤ d := up_gap (by rw [← eb]; exact up)
    refine ⟨_, rfl, p, _, rfl, SqL.of h2, fun Dd nDd => dc_walk (J := Ite K p) b.length (plcE b) (by unfold plcE; rw [List.length_map, List.length_range]) (plcE_nodup bn) nDd (small1000 (by omega)) (fun Hc sm => ⟨b.map V.int, sm.seq (SqL.of h2), by rw [List.length_map]; exact Nat.le_refl _⟩)
      (fun i Hc lt sm => ⟨b.map V.int, .int (b[i]), sm.seq (SqL.of h2), by rw [List.getElem?_map, List.getElem?_eq_getElem lt]; rfl⟩) (fun i x k y Hc H' Q' lt ee sm yl q' => ?_)
      (fun σ2 H2 A B h ⟨u, e, v, e2, a⟩ => ⟨u, e, v, e2, h _ _ _ a⟩) (fun x σ2 H2 A B h ⟨a, ys, e1, e2, e3, v, r, e4, v2, r2, e5, e6, z⟩ => ⟨a, ys, e1, e2, e3, v, r, e4, v2, r2, e5, e6, h _ _ z⟩)
      (fun i x Hc H' _ _ yl => by
        obtain ⟨T, u, rfl, nT, rfl, _⟩ := yl
        exact same_new nT) fun H3 s3 hD3 => ?_⟩
    · obtain ⟨T, u, rfl, nT, rfl, fT⟩ := yl
      have eu := fT _ (sm.seq (SqL.of h2))
      rw [List.getElem?_map, List.getElem?_eq_getElem lt] at eu
      cases eu
      rw [plcE_at (List.getElem?_eq_getElem lt)] at ee
      cases ee
      exact ⟨T, _, rfl, SqT.of upd_same, rfl, _, _, rfl, _, _, rfl, rfl, rfl, _, rfl, _, rfl, rfl, rfl, Same.refl _⟩
    have h3 := s3 _ _ h2
    have sB := sA.trans s3
    refine ⟨_, rfl, p, _, rfl, .inl (SqL.of h3), _, _, rfl, rfl, _, rfl, ?_⟩
    have ew : Builtin.Int.intBits ((((b.map V.int).length : Nat) : Int) - 1) = wdB xs := by
      rw [bits_nat (by rw [List.length_map]; omega)]
      unfold wdB
      rw [eb, List.length_map]
      congr 1
      omega
    rw [ew]
    have w8 : wdB xs ≤ 9 := by
      unfold wdB
      rw [eb]
      exact blen_le (by omega)
    refine ⟨_, rfl, _, rfl, 1, rfl, p, _, rfl, SqL.of h3, fun l4 n4 => ?_⟩
    rw [cut_2]
    have s4 := same_new (o := .lst ((b.drop 1).map V.int)) n4
    obtain ⟨H4, e4⟩ : ∃ H4, upd H3 l4 (.lst ((b.drop 1).map V.int)) = H4 := ⟨_, rfl⟩
    have h4 : H4 l4 = some (.lst ((b.drop 1).map V.int)) := by
      rw [← e4]
      exact upd_same
    rw [e4] at s4 ⊢
    refine ⟨p, l4, _, _, rfl, SqL.of (s4 _ _ h3), SqL.of h4, fun D5 n5 => lc_mapZ (xs := b.map V.int) (zs := (b.drop 1).map V.int) ((difs b).map fun d => V.str (S (ownL (d - 1).toNat))) (difs b).length ?_ (by simp) n5 (SqL.of (s4 _ _ h3)) (SqL.of h4) ?_ (fun i x z y T Hc Q' hx hz hy sm hT q' => ?_) fun H5 s5 hD5 => ?_⟩
    · rw [difs_len, List.length_map, List.length_map, List.length_drop]
      omega
    · rw [difs_len]
      exact small1000 (by omega)
    · rw [List.getElem?_map] at hx hz hy
      obtain ⟨u, eu, rfl⟩ := Option.map_eq_some_iff.mp hx
      obtain ⟨v, ev, rfl⟩ := Option.map_eq_some_iff.mp hz
      rw [List.getElem?_drop, Nat.add_comm] at ev
      have ed := difs_at b i u v eu ev
      rw [ed] at hy
      cases hy
      have d1 := gup _ (List.mem_of_getElem? ed)
      have d2 := lo_difs blo _ (List.mem_of_getElem? ed)
      refine ⟨T, _, rfl, SqT.of hT, rfl, _, _, rfl, _, _, rfl, rfl, rfl, _, rfl, _, rfl, v, u, rfl, rfl, _, _, rfl, rfl, (v - u - 1).toNat, ?_, ?_, q' Hc (Same.refl _)⟩
      · show [V.int (v - u - 1)] = _
        rw [Int.toNat_of_nonneg (by omega)]
      · refine Nat.lt_of_le_of_lt (show (v - u - 1).toNat ≤ (v - u).natAbs by omega) (Nat.lt_trans d2 (by decide))
    have sC := sB.trans (s4.trans s5)
    have s35 := s4.trans s5
    refine ⟨_, rfl, l, rfl, ⟨_, SqL.of (sC _ _ hl)⟩, fun D6 n6 => lc_mapL (xs := xs.map V.int) (xs.map fun x => V.str (S (bt (wdB xs) (b.idxOf x)))) (by simp) n6 (SqL.of (sC _ _ hl)) (by rw [List.length_map]; exact small1000 (by omega)) (fun i x y Hc Q' hx hy sm q' => ?_) fun H6 s6 hD6 => ?_⟩
    · rw [List.getElem?_map] at hx hy
      obtain ⟨z, ez, rfl⟩ := Option.map_eq_some_iff.mp hx
      rw [ez] at hy
      cases hy
      have zb : z ∈ b := by
        rw [← eb]
        exact (mem z).mpr (decide_eq_true (List.mem_of_getElem? ez))
      have dg := DGet.k (k := .inl z) (sm _ _ (s35 _ _ hD3))
      rw [plcE_val bn zb] at dg
      have lt : b.idxOf z < b.length := List.idxOf_lt_length_of_mem zb
      refine ⟨rfl, _, rfl, _, rfl, Dd, _, rfl, dg, _, rfl, b.idxOf z, wdB xs, rfl, ?_, by omega, q' Hc (Same.refl _)⟩
      unfold wdB
      rw [eb]
      exact blen_mono (by omega)
    have h6 := s6 _ _ (s35 _ _ h3)
    have hD56 := s6 _ _ hD5
    obtain ⟨b0, eb0⟩ : ∃ b0, b[0]? = some b0 := ⟨_, List.getElem?_eq_getElem bp⟩
    have b0lo : b0.natAbs < 2 ^ 80 := Nat.lt_of_lt_of_le (blo b0 (List.mem_of_getElem? eb0)) (by decide)
    have c1 := cd_len b0lo
    have c2 := own_short (n := b.length - 1) (w := 9) (by omega)
    refine ⟨_, rfl, p, _, rfl, .inl (SqL.of h6), _, _, rfl, rfl, b.length - 1, ?_, Nat.lt_of_le_of_lt (show b.length - 1 ≤ 300 by omega) (by decide), ?_⟩
    · show [V.int (((b.map V.int).length : Nat) - 1)] = _
      rw [List.length_map]
      congr 2
      omega
    refine ⟨_, rfl, p, _, 0, .int b0, rfl, rfl, SqL.of h6, atI_nat (j := 0) (by rw [List.getElem?_map, eb0]; rfl), b0, rfl, abs_89 b0lo, tN b0, (by rw [← tn_nat]; rfl), tN_90 b0lo, _, _, rfl, rfl, (by unfold cd at c1; omega), ?_⟩
    have g1 : (gpC xs).flatten.length ≤ 170 * 300 := by
      refine Nat.le_trans (flat_le (n := 170) fun y hy => ?_) (Nat.mul_le_mul (Nat.le_refl _) ?_)
      · obtain ⟨d, hd, rfl⟩ := List.mem_map.mp hy
        rw [eb] at hd
        have d2 := lo_difs blo _ hd
        have := own_short (n := (d - 1).toNat) (w := 73) (by
          have e73 : (2 : Nat) ^ 73 = 2 ^ 71 * 4 := rfl
          have d2' : d.natAbs < 2 ^ 71 := d2
          omega)
        omega
      · unfold gpC
        rw [List.length_map, eb, difs_len]
        omega
    have g2 : (bkC xs).flatten.length ≤ 300 * 9 := by
      have fl : (bkC xs).flatten.length = (bkC xs).length * wdB xs := flat_same fun y hy => by
        obtain ⟨z, hz, rfl⟩ := List.mem_map.mp hy
        exact bt_len _ _
      rw [fl]
      unfold bkC
      rw [List.length_map]
      exact Nat.mul_le_mul few w8
    unfold cd at c1
    refine ⟨rfl, _, rfl, D5, gpC xs, (by rw [← s_nil]), rfl, (by unfold gpC; rw [List.map_map, eb]; exact SqL.of hD56), by omega, _, _, rfl, rfl, (by rw [List.length_append]; omega), ?_⟩
    refine ⟨rfl, _, rfl, D6, bkC xs, (by rw [← s_nil]), rfl, (by unfold bkC; rw [List.map_map, eb]; exact SqL.of hD6), by omega, _, _, rfl, rfl, (by rw [List.length_append, List.length_append]; omega), ?_⟩
    have z := q H6 (sC.trans s6)
    unfold encB at z
    rw [eb, headD_of eb0] at z
    exact z
/-! ### by any way -/
inductive Wy where
  | plain
  | by (W : Way)
  | book
def Wy.nm : Wy → Str
  | .plain => "plain"
  | .by .steps => "steps"
  | .by .turns => "turns"
  | .by .runs => "runs"
  | .book => "book"
def encY : Wy → List Int → List Nat
  | .plain => encP
  | .by W => enc W
  | .book => encB
/-- the bits by a way, of none none -/
def bitsY (y : Wy) (xs : List Int) : List Nat := if xs = [] then [] else encY y xs
/-- what the written dict of writers holds -/
structure Wrs (P : Program) (w : World) (K : PySem.W.Frag) (mg : Str → Option Value) (base : Heap) (k : Nat) (W : Addr) where
  fn : Wy → Addr
  ex : ∀ y, Held P w K mg base k (fn y) (spWr (encY y))
  dct : ∀ y, KDct K w W y.nm (.ref (fn y))
def spBB : Sp := fun vs H Q _ => ∃ (l : Addr) (xs : List Int) (y : Wy), vs = [.ref l, .str y.nm] ∧ NL H l xs ∧ Lo 70 xs ∧ xs.length ≤ 300 ∧ ∀ H', Same H H' → Q (.str (S (bitsY y xs))) H'
theorem ok_bb {W : Addr} (F : Fun K "bits_by" "bits_by" sBB f fd) (Z : Wrs P w K mg base k W) (g_WRITERS : mg "WRITERS" = some (.ref W)) (m_list : mg "list" = none) : FnOk P w K mg base CX0 (k + 1) f fd ["numbers", "way"] spBB := by
  refine F.ok scBB (fun vs H Q E h => ?_) (fun cdv A outer s H vs Q E hr h => ?_)
  · obtain ⟨l, xs, y, rfl, _⟩ := h
    rfl
  · obtain ⟨l, xs, y, rfl, hl, lo, few, q⟩ := h
    have hu := hu_of hr
    have HW : ∀ g sp, (fun g => if g = Z.fn y then some (spWr (encY y)) else none) g = some sp → Held P w K mg base k g sp := fun g sp e => by
      dsimp only at e
      split at e
      · rename_i eg
        subst eg
        cases e
        exact Z.ex y
      · cases e
    refine ⟨_, pss_cons (ps_set (i := 2) scBB.nd rfl (.inl rfl) (pe_callTy call_list_of (by rfl) m_list (by decide +kernel) (pa_cons (pv 0) pa_nil)))
      (pss_cons (ps_if (pt_not (pt_truth (pv 2) (fun _ => rfl)))
        (pss_one (ps_ret pe_str))
        pss_nil)
      (pss_cons (ps_set (i := 3) scBB.nd rfl (.inl rfl) (pe_ix ix_kdict (pe_glob (v := .ref W) rfl g_WRITERS rfl) (pv 1) (fun _ _ => rfl)))
      (pss_one (ps_ret (pe_callA (i := 3) HW (hr.mono (by omega)) rfl (.inl rfl) (pa_cons (pv 2) pa_nil)))))), ?_⟩
    refine ⟨_, rfl, l, _, rfl, .inl (SqL.of hl), fun m nm => ?_⟩
    have s1 := same_new (o := .lst (xs.map V.int)) nm
    refine ⟨_, rfl, _, .inl ⟨_, SqL.of upd_same, rfl⟩, ?_⟩
    by_cases c : xs = []
    · subst c
      refine if_t ?_
      show Q (.str "") _
      rw [s_nil]
      exact q _ s1
    · have ne : xs.isEmpty = false := by
        cases xs with
        | nil => exact absurd rfl c
        | cons a r => rfl
      have e0 : (xs.map V.int).isEmpty = false := by
        rw [List.isEmpty_map, ne]
      rw [e0]
      refine if_f ⟨_, rfl, W, y.nm, .ref (Z.fn y), rfl, rfl, Z.dct y, Z.fn y, _, rfl, if_pos rfl, _, rfl, m, xs, rfl, upd_same, lo, few, List.length_pos_iff.mpr c, fun H' s' => ?_⟩
      have z := q H' (s1.trans s')
      unfold bitsY at z
      rw [if_neg c] at z
      exact z
def spSB : Sp := fun vs H Q _ => ∃ (l : Addr) (xs : List Int) (y : Wy), vs = [.ref l, .str y.nm] ∧ NL H l xs ∧ Lo 70 xs ∧ xs.length ≤ 300 ∧ (bitsY y xs).length ≤ 60000 ∧ ∀ H', Same H H' → Q (.int ((bitsY y xs).length : Nat)) H'
theorem ok_sb (F : Fun K "size_by" "size_by" sSB f fd) (C_bits_by : Cal P w K mg base k "bits_by" ["numbers", "way"] spBB) (m_len : mg "len" = none) : FnOk P w K mg base CX0 (k + 1) f fd ["numbers", "way"] spSB := by
  refine F.ok scSB (fun vs H Q E h => ?_) (fun cdv A outer s H vs Q E hr h => ?_)
  · obtain ⟨l, xs, y, rfl, _⟩ := h
    rfl
  · obtain ⟨l, xs, y, rfl, hl, lo, few, few2, q⟩ := h
    refine ⟨_, pss_one (ps_ret (pe_callB call_lenB (by rfl) m_len (by decide +kernel) (pa_cons (pe_cal C_bits_by (hr.mono (by omega)) (by rfl) (pa_cons (pv 0) (pa_cons (pv 1) pa_nil))) pa_nil))), ?_⟩
    exact ⟨_, rfl, _, rfl, l, xs, y, rfl, hl, lo, few, fun H' s' => ⟨_, rfl, few2, q H' s'⟩⟩
end
end Tg

namespace Tg
open PySem PySem.Spec PyProof.Rows L2
open SX (S)
abbrev sRS : Stmt := topS 26
abbrev sRT : Stmt := topS 27
abbrev sRR : Stmt := topS 28
theorem scRS : FnScope ["bits", "mark", "room", "at", "ahead", "beside", "code", "behind"] ["bits", "mark", "room"] (defScope sRS) := ⟨rfl, rfl, rfl, by decide +kernel, rfl, by decide +kernel, by decide +kernel⟩
theorem scRT : FnScope ["bits", "mark", "room", "at", "ahead", "step", "code", "behind"] ["bits", "mark", "room"] (defScope sRT) := ⟨rfl, rfl, rfl, by decide +kernel, rfl, by decide +kernel, by decide +kernel⟩
theorem scRR : FnScope ["bits", "mark", "room", "at", "ahead", "more", "code", "middle", "behind"] ["bits", "mark", "room"] (defScope sRR) := ⟨rfl, rfl, rfl, by decide +kernel, rfl, by decide +kernel, by decide +kernel⟩
def vo : Option Int → V
  | none => .non
  | some x => .int x
def mkV (m : Mrk) : List V := [.int (m.1 : Nat), .int m.2.1, vo m.2.2]
theorem ahd_0 (xs : List Int) : ahd xs 0 = 0 := rfl
theorem enc_short {W : Way} {xs : List Int} (lo : Lo 70 xs) (few : xs.length ≤ 300) : (enc W xs).length ≤ 57000 := by
  cases W with
  | steps =>
    have := cds_len ((lo_stp lo).mono (show 71 ≤ 80 by decide))
    rw [stp_len] at this
    show (cds (stp xs)).length ≤ _
    omega
  | turns =>
    have := cds_len ((lo_trn lo).mono (show 72 ≤ 80 by decide))
    rw [trn_len] at this
    show (cds (trn xs)).length ≤ _
    omega
  | runs =>
    show ((rn xs).map rcd).flatten.length ≤ _
    refine Nat.le_trans (flat_le (n := 190) fun y hy => ?_) ?_
    · obtain ⟨r, hr, rfl⟩ := List.mem_map.mp hy
      obtain ⟨r1, r2, r3⟩ := run_in hr
      exact rcd_len (Nat.lt_of_lt_of_le (lo r.1 r1) (by decide)) (by omega)
    · rw [List.length_map]
      have := rn_len xs
      omega
/-- a reader: the mark behind the next number -/
def spRd (K : PySem.W.Frag) (W : Way) : Sp := fun vs H Q _ => ∃ (t : Addr) (xs : List Int) (i : Nat) (m : Mrk), vs = [.str (S (enc W xs)), .ref t, .int ((xs.length : Nat) - (i : Nat) : Int)] ∧ SqT K H t (mkV m) ∧ MkA W xs i m ∧ i < xs.length ∧ Lo 70 xs ∧ xs.length ≤ 300 ∧
  ∀ (t' : Addr) (m' : Mrk) (H' : Hp), Same H H' → H' t' = some (.tup (mkV m')) → MkA W xs (i + 1) m' → xs[i]? = some m'.2.1 → m.1 ≤ m'.1 → Q (.ref t') H'
section
variable {P : Program} {w : World} {K : PySem.W.Frag} {mg : Str → Option Value} {base : Heap} {f : Addr} {fd : FuncData} {k : Nat}
theorem bk_tN (c : Int) : bk ((tN c : Nat) : Int) = c := by rw [← tn_nat, bk_tn]
theorem tN_abs {c : Int} (h : c.natAbs < 2 ^ 80) : ((tN c : Nat) : Int).natAbs < 2 ^ 90 := by
  rw [Int.natAbs_natCast]
  exact tN_90 h
theorem ok_rs (F : Fun K "read_step" "read_step" sRS f fd) (C_read_own : Cal P w K mg base k "read_own" ["bits", "at"] (spRO K)) (C_back : Cal P w K mg base k "back" ["number"] spBa) : FnOk P w K mg base CX0 (k + 1) f fd ["bits", "mark", "room"] (spRd K .steps) := by
  refine F.ok scRS (fun vs H Q E h => ?_) (fun cdv A outer s H vs Q E hr h => ?_)
  · obtain ⟨t, xs, i, m, rfl, _⟩ := h
    rfl
  · obtain ⟨t, xs, i, m, rfl, ht, rfl, lt, lo, few, q⟩ := h
    refine ⟨_, pss_cons (ps_asg (pv 1) (pg_tup rfl (pgs_cons (pg_name (i := 3) scRS.nd rfl (.inl rfl)) (pgs_cons (pg_name (i := 4) scRS.nd rfl (.inl rfl)) (pgs_cons (pg_name (i := 5) scRS.nd rfl (.inl rfl)) pgs_nil)))))
      (pss_cons (ps_asg (pe_cal C_read_own (hr.mono (by omega)) (by rfl) (pa_cons (pv 0) (pa_cons (pv 3) pa_nil))) (pg_tup rfl (pgs_cons (pg_name (i := 6) scRS.nd rfl (.inl rfl)) (pgs_cons (pg_name (i := 7) scRS.nd rfl (.inl rfl)) pgs_nil))))
      (pss_one (ps_ret (pe_tup (pa_cons (pv 7) (pa_cons (pe_op op_add (pv 4) (pe_cal C_back (hr.mono (by omega)) (by rfl) (pa_cons (pv 6) pa_nil))) (pa_cons pe_non pa_nil))))))), ?_⟩
    have short := enc_short (W := .steps) lo few
    have l80 := (lo_stp lo).mono (show 71 ≤ 80 by decide)
    obtain ⟨c, ec⟩ : ∃ c, (stp xs)[i]? = some c := ⟨_, List.getElem?_eq_getElem (by rw [stp_len]; exact lt)⟩
    have cl := l80 c (List.mem_of_getElem? ec)
    have eb := cds_at ec
    obtain ⟨x, ex⟩ : ∃ x, xs[i]? = some x := ⟨_, List.getElem?_eq_getElem lt⟩
    have ac : ahd xs i + c = x := by
      cases i with
      | zero =>
        rw [stp_0 ex] at ec
        cases ec
        rw [ahd_0]
        omega
      | succ i =>
        obtain ⟨y, ey⟩ : ∃ y, xs[i]? = some y := ⟨_, List.getElem?_eq_getElem (by omega)⟩
        rw [stp_at ey ex] at ec
        cases ec
        rw [ahd_next ey]
        omega
    refine ⟨_, rfl, t, _, rfl, ht, rfl, _, _, rfl, _, _, rfl, _, _, rfl, rfl, ?_⟩
    refine ⟨_, rfl, _, rfl, cds ((stp xs).take i), cds ((stp xs).drop (i + 1)), tN c, ?_, tN_90 cl, ?_, fun u H1 s1 hu => ?_⟩
    · show [V.str (S (cds (stp xs))), _] = _
      rw [eb]
      rfl
    · show (cds ((stp xs).take i) ++ (cd c ++ cds ((stp xs).drop (i + 1)))).length ≤ _
      rw [← eb]
      exact Nat.le_trans short (by decide)
    · refine ⟨u, _, rfl, hu, rfl, _, _, rfl, _, _, rfl, rfl, ?_⟩
      refine ⟨_, rfl, _, rfl, _, rfl, _, rfl, tN_abs cl, ?_⟩
      rw [bk_tN]
      refine ⟨_, _, rfl, rfl, by show 3 ≤ sizeLine; decide, fun t' nt => ?_⟩
      refine q t' (((cds ((stp xs).take i)).length + (ownL (tN c)).length), ahd xs i + c, none) _ (s1.trans (same_new nt)) upd_same ?_ ?_ (Nat.le_add_right _ _)
      · show _ = ((cds ((stp xs).take (i + 1))).length, ahd xs (i + 1), none)
        rw [cds_next ec, ahd_next ex, ac]
        rfl
      · rw [ac]
        exact ex
theorem ok_rt (F : Fun K "read_turn" "read_turn" sRT f fd) (C_read_own : Cal P w K mg base k "read_own" ["bits", "at"] (spRO K)) (C_back : Cal P w K mg base k "back" ["number"] spBa) : FnOk P w K mg base CX0 (k + 1) f fd ["bits", "mark", "room"] (spRd K .turns) := by
  refine F.ok scRT (fun vs H Q E h => ?_) (fun cdv A outer s H vs Q E hr h => ?_)
  · obtain ⟨t, xs, i, m, rfl, _⟩ := h
    rfl
  · obtain ⟨t, xs, i, m, rfl, ht, rfl, lt, lo, few, q⟩ := h
    refine ⟨_, pss_cons (ps_asg (pv 1) (pg_tup rfl (pgs_cons (pg_name (i := 3) scRT.nd rfl (.inl rfl)) (pgs_cons (pg_name (i := 4) scRT.nd rfl (.inl rfl)) (pgs_cons (pg_name (i := 5) scRT.nd rfl (.inl rfl)) pgs_nil)))))
      (pss_cons (ps_asg (pe_cal C_read_own (hr.mono (by omega)) (by rfl) (pa_cons (pv 0) (pa_cons (pv 3) pa_nil))) (pg_tup rfl (pgs_cons (pg_name (i := 6) scRT.nd rfl (.inl rfl)) (pgs_cons (pg_name (i := 7) scRT.nd rfl (.inl rfl)) pgs_nil))))
      (pss_cons (ps_if (pt_cmpR op_isN (pv 5) pe_non (nomark _))
        (pss_one (ps_ret (pe_tup (pa_cons (pv 7) (pa_cons (pe_cal C_back (hr.mono (by omega)) (by rfl) (pa_cons (pv 6) pa_nil)) (pa_cons pe_int pa_nil))))))
        pss_nil)
      (pss_one (ps_ret (pe_tup (pa_cons (pv 7) (pa_cons (pe_op op_add (pe_op op_add (pv 4) (pv 5)) (pe_cal C_back (hr.mono (by omega)) (by rfl) (pa_cons (pv 6) pa_nil))) (pa_cons (pe_op op_add (pv 5) (pe_cal C_back (hr.mono (by omega)) (by rfl) (pa_cons (pv 6) pa_nil))) pa_nil)))))))), ?_⟩
    have short := enc_short (W := .turns) lo few
    have l80 := (lo_trn lo).mono (show 72 ≤ 80 by decide)
    obtain ⟨c, ec⟩ : ∃ c, (trn xs)[i]? = some c := ⟨_, List.getElem?_eq_getElem (by rw [trn_len]; exact lt)⟩
    have cl := l80 c (List.mem_of_getElem? ec)
    have eb := cds_at ec
    obtain ⟨x, ex⟩ : ∃ x, xs[i]? = some x := ⟨_, List.getElem?_eq_getElem lt⟩
    refine ⟨_, rfl, t, _, rfl, ht, rfl, _, _, rfl, _, _, rfl, _, _, rfl, rfl, ?_⟩
    refine ⟨_, rfl, _, rfl, cds ((trn xs).take i), cds ((trn xs).drop (i + 1)), tN c, ?_, tN_90 cl, ?_, fun u H1 s1 hu => ?_⟩
    · show [V.str (S (cds (trn xs))), _] = _
      rw [eb]
      rfl
    · show (cds ((trn xs).take i) ++ (cd c ++ cds ((trn xs).drop (i + 1)))).length ≤ _
      rw [← eb]
      exact Nat.le_trans short (by decide)
    · refine ⟨u, _, rfl, hu, rfl, _, _, rfl, _, _, rfl, rfl, ?_⟩
      cases i with
      | zero =>
        rw [trn_0 ex] at ec
        cases ec
        refine ⟨_, rfl, rfl, true, rfl, if_t ?_⟩
        refine ⟨_, rfl, _, rfl, _, rfl, tN_abs cl, ?_⟩
        rw [bk_tN]
        refine ⟨by show 3 ≤ sizeLine; decide, fun t' nt => ?_⟩
        refine q t' (((cds ((trn xs).take 0)).length + (ownL (tN c)).length), c, some 0) _ (s1.trans (same_new nt)) upd_same ?_ ex (Nat.le_add_right _ _)
        show _ = ((cds ((trn xs).take (0 + 1))).length, ahd xs (0 + 1), some 0)
        rw [cds_next (trn_0 ex), ahd_next ex]
        rfl
      | succ i =>
        obtain ⟨y, ey⟩ : ∃ y, xs[i]? = some y := ⟨_, List.getElem?_eq_getElem (by omega)⟩
        obtain ⟨sp, es, ac, sc⟩ : ∃ sp : Int, bsd xs (i + 1) = some sp ∧ ahd xs (i + 1) + sp + c = x ∧ bsd xs (i + 1 + 1) = some (sp + c) := by
          rw [ahd_next ey]
          have eb2 : bsd xs (i + 1 + 1) = some (x - y) := by
            unfold bsd
            rw [if_neg (by omega), if_neg (by omega), ahd_next ex, Nat.add_sub_cancel, ahd_next ey]
          cases i with
          | zero =>
            rw [trn_1 ey ex] at ec
            cases ec
            exact ⟨0, rfl, by omega, by rw [eb2]; congr 1; omega⟩
          | succ i =>
            obtain ⟨z, ez⟩ : ∃ z, xs[i]? = some z := ⟨_, List.getElem?_eq_getElem (by omega)⟩
            rw [trn_at ez ey ex] at ec
            cases ec
            refine ⟨y - z, ?_, by omega, by rw [eb2]; congr 1; omega⟩
            unfold bsd
            rw [if_neg (by omega), if_neg (by omega), ahd_next ey, Nat.add_sub_cancel, ahd_next ez]
        rw [es]
        refine ⟨_, rfl, rfl, false, rfl, if_f ?_⟩
        refine ⟨_, rfl, _, rfl, _, rfl, _, _, rfl, rfl, _, rfl, _, rfl, tN_abs cl, ?_⟩
        rw [bk_tN]
        refine ⟨_, _, rfl, rfl, _, rfl, _, rfl, _, rfl, tN_abs cl, ?_⟩
        rw [bk_tN]
        refine ⟨_, _, rfl, rfl, by show 3 ≤ sizeLine; decide, fun t' nt => ?_⟩
        refine q t' (((cds ((trn xs).take (i + 1))).length + (ownL (tN c)).length), ahd xs (i + 1) + sp + c, some (sp + c)) _ (s1.trans (same_new nt)) upd_same ?_ ?_ (Nat.le_add_right _ _)
        · show _ = ((cds ((trn xs).take (i + 1 + 1))).length, ahd xs (i + 1 + 1), bsd xs (i + 1 + 1))
          rw [cds_next ec, ahd_next ex, ac, sc]
          rfl
        · rw [ac]
          exact ex
end
end Tg

namespace Tg
open PySem PySem.Spec PyProof.Rows L2
open SX (S)
theorem unr_at {pre suf : List Run} {r : Run} {o : Nat} (h : o < r.2) : (unr (pre ++ r :: suf))[(unr pre).length + o]? = some r.1 := by
  rw [show pre ++ r :: suf = pre ++ ([r] ++ suf) from rfl, unr_app, List.getElem?_append_right (Nat.le_add_right _ _), Nat.add_sub_cancel_left, unr_app, unr_one, List.getElem?_append_left (by rw [List.length_replicate]; exact h), List.getElem?_replicate, if_pos h]
theorem run_next {xs : List Int} {i : Nat} {m : Mrk} (h : MkA .runs xs i m) (lt : i < xs.length) :
    (∃ j : Nat, m.2.2 = some ((j : Nat) + 1 : Int) ∧ MkA .runs xs (i + 1) (m.1, m.2.1, some (j : Nat)) ∧ xs[i]? = some m.2.1) ∨
    ((m.2.2 = none ∨ m.2.2 = some 0) ∧ ∃ (a rest : List Nat) (r : Run), rcds (rn xs) = a ++ (rcd r ++ rest) ∧ a.length = m.1 ∧ r ∈ rn xs ∧ MkA .runs xs (i + 1) (m.1 + (rcd r).length, r.1, some ((r.2 - 1 : Nat) : Int)) ∧ xs[i]? = some r.1 ∧ r.2 - 1 < xs.length - i) := by
  obtain ⟨u, pos⟩ := rn_all xs
  have fresh : ∀ (pre : List Run), (∃ s, rn xs = pre ++ s) → (unr pre).length = i → ∃ (a rest : List Nat) (r : Run), rcds (rn xs) = a ++ (rcd r ++ rest) ∧ a.length = (rcds pre).length ∧ r ∈ rn xs ∧ MkA .runs xs (i + 1) ((rcds pre).length + (rcd r).length, r.1, some ((r.2 - 1 : Nat) : Int)) ∧ xs[i]? = some r.1 ∧ r.2 - 1 < xs.length - i := by
    rintro pre ⟨s, es⟩ ei
    cases s with
    | nil =>
      rw [es, List.append_nil] at u
      rw [← u] at lt
      omega
    | cons r suf =>
      have p := pos r (by rw [es]; simp)
      have l : (unr (rn xs)).length = xs.length := by rw [u]
      rw [es, show pre ++ r :: suf = pre ++ ([r] ++ suf) from rfl, unr_app, unr_app, unr_one, List.length_append, List.length_append, List.length_replicate] at l
      refine ⟨rcds pre, rcds suf, r, ?_, rfl, by rw [es]; simp, .inr ⟨pre, suf, r, 1, es, Nat.le_refl 1, p, by omega, ?_⟩, ?_, by omega⟩
      · rw [es, show pre ++ r :: suf = pre ++ ([r] ++ suf) from rfl, rcds_app, rcds_app, rcds_one]
      · rw [rcds_app, rcds_one, List.length_append]
      · have z := unr_at (pre := pre) (suf := suf) (r := r) (o := 0) (by omega)
        rw [← es, u, ei] at z
        exact z
  rcases h with ⟨rfl, rfl⟩ | ⟨pre, suf, r, o, er, o1, o2, ei, rfl⟩
  · obtain ⟨a, rest, r, h1, h2, h3, h4, h5, h6⟩ := fresh [] ⟨rn xs, rfl⟩ rfl
    exact .inr ⟨.inl rfl, a, rest, r, h1, h2, h3, h4, h5, h6⟩
  · rcases Nat.lt_or_ge o r.2 with g | g
    · refine .inl ⟨r.2 - o - 1, ?_, .inr ⟨pre, suf, r, o + 1, er, by omega, g, by omega, ?_⟩, ?_⟩
      · show some ((r.2 - o : Nat) : Int) = _
        congr 1
        omega
      · show ((rcds (pre ++ [r])).length, r.1, some ((r.2 - o - 1 : Nat) : Int)) = _
        rw [show r.2 - o - 1 = r.2 - (o + 1) by omega]
      · have z := unr_at (pre := pre) (suf := suf) g
        rw [← er, u, ← ei] at z
        exact z
    · obtain rfl : o = r.2 := Nat.le_antisymm o2 g
      have e2 : rn xs = (pre ++ [r]) ++ suf := by rw [er, List.append_assoc]; rfl
      obtain ⟨a, rest, q, h1, h2, h3, h4, h5, h6⟩ := fresh (pre ++ [r]) ⟨suf, e2⟩ (by rw [unr_app, unr_one, List.length_append, List.length_replicate]; exact ei.symm)
      refine .inr ⟨.inr ?_, a, rest, q, h1, h2, h3, h4, h5, h6⟩
      show some ((r.2 - r.2 : Nat) : Int) = some 0
      rw [Nat.sub_self]
      rfl
section
variable {P : Program} {w : World} {K : PySem.W.Frag} {mg : Str → Option Value} {base : Heap} {f : Addr} {fd : FuncData} {k : Nat}
theorem ok_rr (F : Fun K "read_run" "read_run" sRR f fd) (C_read_own : Cal P w K mg base k "read_own" ["bits", "at"] (spRO K)) (C_back : Cal P w K mg base k "back" ["number"] spBa) : FnOk P w K mg base CX0 (k + 1) f fd ["bits", "mark", "room"] (spRd K .runs) := by
  refine F.ok scRR (fun vs H Q E h => ?_) (fun cdv A outer s H vs Q E hr h => ?_)
  · obtain ⟨t, xs, i, m, rfl, _⟩ := h
    rfl
  · obtain ⟨t, xs, i, m, rfl, ht, hm, lt, lo, few, q⟩ := h
    refine ⟨_, pss_cons (ps_asg (pv 1) (pg_tup rfl (pgs_cons (pg_name (i := 3) scRR.nd rfl (.inl rfl)) (pgs_cons (pg_name (i := 4) scRR.nd rfl (.inl rfl)) (pgs_cons (pg_name (i := 5) scRR.nd rfl (.inl rfl)) pgs_nil)))))
      (pss_cons (ps_if (PW.pt (pw_and (pt_cmpR op_notN (pv 5) pe_non (nomark _)) (pw_and1 (pt_cmpR op_gt (pv 5) pe_int (nomark _)))))
        (pss_one (ps_ret (pe_tup (pa_cons (pv 3) (pa_cons (pv 4) (pa_cons (pe_op op_sub (pv 5) pe_int) pa_nil))))))
        pss_nil)
      (pss_cons (ps_asg (pe_cal C_read_own (hr.mono (by omega)) (by rfl) (pa_cons (pv 0) (pa_cons (pv 3) pa_nil))) (pg_tup rfl (pgs_cons (pg_name (i := 6) scRR.nd rfl (.inl rfl)) (pgs_cons (pg_name (i := 7) scRR.nd rfl (.inl rfl)) pgs_nil))))
      (pss_cons (ps_asg (pe_cal C_read_own (hr.mono (by omega)) (by rfl) (pa_cons (pv 0) (pa_cons (pv 7) pa_nil))) (pg_tup rfl (pgs_cons (pg_name (i := 5) scRR.nd rfl (.inl rfl)) (pgs_cons (pg_name (i := 8) scRR.nd rfl (.inl rfl)) pgs_nil))))
      (pss_cons (ps_if (pt_cmpR op_ge (pv 5) (pv 2) (nomark _))
        (pss_one ps_dead)
        pss_nil)
      (pss_one (ps_ret (pe_tup (pa_cons (pv 8) (pa_cons (pe_cal C_back (hr.mono (by omega)) (by rfl) (pa_cons (pv 6) pa_nil)) (pa_cons (pv 5) pa_nil)))))))))), ?_⟩
    have short := enc_short (W := .runs) lo few
    obtain ⟨at0, ah, bs⟩ := m
    refine ⟨_, rfl, t, _, rfl, ht, rfl, _, _, rfl, _, _, rfl, _, _, rfl, rfl, ?_⟩
    rcases run_next hm lt with ⟨j, e, h1, h2⟩ | ⟨e, a, rest, r, h1, h2, h3, h4, h5, h6⟩
    · obtain rfl : bs = some ((j : Nat) + 1 : Int) := e
      refine ⟨_, rfl, rfl, true, rfl, if_t ⟨_, rfl, _, _, rfl, rfl, true, ?_, if_t ?_⟩⟩
      · exact congrArg V.bl (decide_eq_true (by omega))
      · refine ⟨_, rfl, _, rfl, _, rfl, _, _, rfl, rfl, by show 3 ≤ sizeLine; decide, fun t' nt => ?_⟩
        refine q t' (at0, ah, some (j : Nat)) _ (same_new nt) ?_ h1 h2 (Nat.le_refl _)
        rw [upd_same]
        show some (HO.tup [.int (at0 : Nat), .int ah, .int ((j : Nat) + 1 - 1 : Int)]) = _
        rw [Int.add_sub_cancel]
        rfl
    · have rb := run_in h3
      have cl : r.1.natAbs < 2 ^ 80 := Nat.lt_of_lt_of_le (lo r.1 rb.1) (by decide)
      have eb : rcds (rn xs) = a ++ (ownL (tN r.1) ++ (ownL (r.2 - 1) ++ rest)) := by
        rw [h1]
        unfold rcd cd
        rw [List.append_assoc]
      have eb2 : rcds (rn xs) = (a ++ ownL (tN r.1)) ++ (ownL (r.2 - 1) ++ rest) := by
        rw [eb, List.append_assoc]
      have tail : ∀ Q : Prop, Q → (bs = none ∨ bs = some 0) → Q := fun _ h _ => h
      have main : ∀ {G : Prop}, G → ∃ v, some (vo bs) = some v ∧ v = vo bs := fun _ => ⟨_, rfl, rfl⟩
      have skip : ∀ {A B : Hp → Prop}, B H → (∃ v, (([some (.str (S (enc .runs xs))), some (.ref t), some (.int ((xs.length : Nat) - (i : Nat) : Int)), some (.int (at0 : Nat)), some (.int ah), some (vo bs), none, none, none] : L2.St)[5]? = some (some v)) ∧ ((V.non : V) = .non ∧ ∃ c, V.bl (!decide (v = .non)) = .bl c ∧ if c = true then (∃ v, (([some (.str (S (enc .runs xs))), some (.ref t), some (.int ((xs.length : Nat) - (i : Nat) : Int)), some (.int (at0 : Nat)), some (.int ah), some (vo bs), none, none, none] : L2.St)[5]? = some (some v)) ∧ ∃ a b, v = .int a ∧ (V.int 0) = .int b ∧ ∃ c, V.bl (decide (a > b)) = .bl c ∧ if c = true then A H else B H) else if false = true then A H else B H)) := by
        intro A B hB
        rcases e with e | e
        · have e' : bs = none := e
          subst e'
          exact ⟨_, rfl, rfl, false, rfl, if_f (if_f hB)⟩
        · have e' : bs = some 0 := e
          subst e'
          exact ⟨_, rfl, rfl, true, rfl, if_t ⟨_, rfl, _, _, rfl, rfl, false, rfl, if_f hB⟩⟩
      refine skip ?_
      have la : a.length = at0 := h2
      refine ⟨_, rfl, _, rfl, a, ownL (r.2 - 1) ++ rest, tN r.1, ?_, tN_90 cl, ?_, fun u H1 s1 hu => ?_⟩
      · show [V.str (S (rcds (rn xs))), .int (at0 : Nat)] = _
        rw [eb, la]
      · rw [← eb]
        exact Nat.le_trans short (by decide)
      refine ⟨u, _, rfl, hu, rfl, _, _, rfl, _, _, rfl, rfl, ?_⟩
      refine ⟨_, rfl, _, rfl, a ++ ownL (tN r.1), rest, r.2 - 1, ?_, Nat.lt_of_le_of_lt (show r.2 - 1 ≤ 300 by omega) (by decide), ?_, fun u2 H2 s2 hu2 => ?_⟩
      · show [V.str (S (rcds (rn xs))), .int (a.length + (ownL (tN r.1)).length : Nat)] = _
        rw [eb2, List.length_append]
      · rw [← eb2]
        exact Nat.le_trans short (by decide)
      refine ⟨u2, _, rfl, hu2, rfl, _, _, rfl, _, _, rfl, rfl, ?_⟩
      refine ⟨_, rfl, _, rfl, _, _, rfl, rfl, false, ?_, if_f ?_⟩
      · exact congrArg V.bl (decide_eq_false (by omega))
      refine ⟨_, rfl, _, rfl, _, rfl, tN_abs cl, ?_⟩
      rw [bk_tN]
      refine ⟨_, rfl, by show 3 ≤ sizeLine; decide, fun t' nt => ?_⟩
      have el : (a ++ ownL (tN r.1)).length + (ownL (r.2 - 1)).length = at0 + (rcd r).length := by
        unfold rcd cd
        rw [List.length_append, List.length_append, la]
        omega
      refine q t' (at0 + (rcd r).length, r.1, some ((r.2 - 1 : Nat) : Int)) _ (s1.trans (s2.trans (same_new nt))) ?_ h4 h5 (Nat.le_add_right _ _)
      rw [upd_same, el]
      rfl
end
end Tg

namespace Tg
open PySem PySem.Spec PyProof.Rows L2
open SX (S)
abbrev sMB : Stmt := topS 30
abbrev sCC : Stmt := topS 31
abbrev sRC : Stmt := topS 32
abbrev NRC : List Str := ["bits", "at", "width", "many", "end", "place"]
theorem scMB : FnScope ["way", "bits", "many", "reader", "marks", "mark", "place"] ["way", "bits", "many"] (defScope sMB) := ⟨rfl, rfl, rfl, by decide +kernel, rfl, by decide +kernel, by decide +kernel⟩
theorem scCC : FnScope ["bits", "at", "width", "many", "end"] ["bits", "at", "width", "many"] (defScope sCC) := ⟨rfl, rfl, rfl, by decide +kernel, rfl, by decide +kernel, by decide +kernel⟩
theorem scRC : FnScope NRC ["bits", "at", "width", "many"] (defScope sRC) := ⟨rfl, rfl, rfl, by decide +kernel, rfl, by decide +kernel, by decide +kernel⟩
/-- what the written dict of readers holds -/
structure Rds (P : Program) (w : World) (K : PySem.W.Frag) (mg : Str → Option Value) (base : Heap) (k : Nat) (R : Addr) where
  fn : Way → Addr
  ex : ∀ W, Held P w K mg base k (fn W) (spRd K W)
  dct : ∀ W, KDct K w R (Wy.by W).nm (.ref (fn W))
/-- the marks at each 32nd number -/
def Mks (K : PySem.W.Frag) (H : Hp) (W : Way) (xs : List Int) (n : Nat) (ts : List Addr) : Prop := ts.length = (n + 31) / 32 ∧ ∀ (j : Nat) (t : Addr), ts[j]? = some t → ∃ m : Mrk, SqT K H t (mkV m) ∧ MkA W xs (32 * j) m
theorem Mks.kt {K : PySem.W.Frag} {H H' : Hp} {W : Way} {xs : List Int} {n : Nat} {ts : List Addr} (h : Mks K H W xs n ts) (k : KT H H') : Mks K H' W xs n ts := ⟨h.1, fun j t e => by
  obtain ⟨m, h1, h2⟩ := h.2 j t e
  exact ⟨m, sqT_kt k h1, h2⟩⟩
def spMB (K : PySem.W.Frag) : Sp := fun vs H Q _ => ∃ (W : Way) (xs : List Int), vs = [.str (Wy.by W).nm, .str (S (enc W xs)), .int (xs.length : Nat)] ∧ 0 < xs.length ∧ xs.length ≤ 300 ∧ Lo 70 xs ∧
  ∀ (l : Addr) (ts : List Addr) (H' : Hp), Same H H' → H l = none → H' l = some (.lst (ts.map V.ref)) → Mks K H' W xs xs.length ts → Q (.ref l) H'
section
variable {P : Program} {w : World} {K : PySem.W.Frag} {mg : Str → Option Value} {base : Heap} {f : Addr} {fd : FuncData} {k : Nat}
theorem ok_mb {RD BG : Addr} {t32 : Tok} (F : Fun K "marks_by" "marks_by" sMB f fd) (Z : Rds P w K mg base k RD) (g_READERS : mg "READERS" = some (.ref RD)) (g_BEGIN : mg "BEGIN" = some (.ref BG)) (hBG : ∀ H, SqT K H BG (mkV (0, 0, none))) (g_SPAN : mg "SPAN" = some (.int 32 t32)) (m_range : mg "range" = none) (m_len : mg "len" = none) :
    FnOk P w K mg base CX0 (k + 1) f fd ["way", "bits", "many"] (spMB K) := by
  refine F.ok scMB (fun vs H Q E h => ?_) (fun cdv A outer s H vs Q E hr h => ?_)
  · obtain ⟨W, xs, rfl, _⟩ := h
    rfl
  · obtain ⟨W, xs, rfl, pos, few, lo, q⟩ := h
    have HR : ∀ g sp, (fun g => if g = Z.fn W then some (spRd K W) else none) g = some sp → Held P w K mg base k g sp := fun g sp e => by
      dsimp only at e
      split at e
      · rename_i eg
        subst eg
        cases e
        exact Z.ex W
      · cases e
    refine ⟨_, pss_cons (ps_set (i := 3) scMB.nd rfl (.inl rfl) (pe_ix ix_kdict (pe_glob (v := .ref RD) rfl g_READERS rfl) (pv 0) (fun _ _ => rfl)))
      (pss_cons (ps_set (i := 4) scMB.nd rfl (.inl rfl) (pe_lst pa_nil))
      (pss_cons (ps_set (i := 5) scMB.nd rfl (.inl rfl) (pe_glob (v := .ref BG) rfl g_BEGIN rfl))
      (pss_cons (ps_for PassesOwn.never rfl (pi_range1 (by rfl) m_range (pa_cons (pv 2) pa_nil)) (pg_name (i := 6) scMB.nd rfl (.inl rfl))
        (pss_cons (ps_if (pt_cmpR op_eq (pe_op op_mod (pv 6) (pe_glob (v := .int 32) rfl g_SPAN ⟨_, rfl⟩)) pe_int (nomark _))
          (pss_one (ps_expr (pe_bm PySem.F.plainAttrs_list PySem.F.slot_list_append PySem.F.type_list_append mt_append (pv 4) (pa_cons (pv 5) pa_nil))))
          pss_nil)
        (pss_one (ps_set (i := 5) scMB.nd rfl (.inl rfl) (pe_callA (i := 3) HR (hr.mono (by omega)) rfl (.inl rfl) (pa_cons (pv 1) (pa_cons (pv 5) (pa_cons (pe_op op_sub (pv 2) (pv 6)) pa_nil))))))))
      (pss_cons (ps_if (pt_cmpR op_lt (pe_ix ix_tup (pv 5) pe_int (fun _ _ => rfl)) (pe_callB call_lenB (by rfl) m_len (by decide +kernel) (pa_cons (pv 1) pa_nil)) (nomark _))
        (pss_one ps_dead)
        pss_nil)
      (pss_one (ps_ret (pv 4))))))), ?_⟩
    have short := enc_short (W := W) lo few
    refine ⟨_, rfl, RD, (Wy.by W).nm, .ref (Z.fn W), rfl, rfl, Z.dct W, Nat.zero_le _, fun l nl => ?_⟩
    have s1 := same_new (o := .lst []) nl
    refine ⟨_, rfl, _, rfl, by omega, by omega, for_range (n := xs.length) (fun i σ Hc => ∃ (z : Option V) (t : Addr) (m : Mrk) (ts : List Addr), σ = [some (.str (Wy.by W).nm), some (.str (S (enc W xs))), some (.int (xs.length : Nat)), some (.ref (Z.fn W)), some (.ref l), some (.ref t), z] ∧ Same H Hc ∧ Hc l = some (.lst (ts.map V.ref)) ∧ SqT K Hc t (mkV m) ∧ MkA W xs i m ∧ Mks K Hc W xs i ts) ?_ ?_ ?_⟩
    · exact ⟨none, BG, (0, 0, none), [], rfl, s1, upd_same, hBG _, mk_begin W xs, rfl, fun j t e => by simp at e⟩
    · rintro i σ Hc hi ⟨z, t, m, ts, rfl, sm, hl, ht, hm, mks⟩
      have lts : ts.length ≤ 10 := by
        have := mks.1
        omega
      -- the turn's second row
      have go : ∀ (ts' : List Addr) (Hd : Hp), Same H Hd → Hd l = some (.lst (ts'.map V.ref)) → SqT K Hd t (mkV m) → Mks K Hd W xs (i + 1) ts' → ∀ Q' : V → Hp → Prop, (∀ (t' : Addr) (H' : Hp) (m' : Mrk), Same H H' → H' l = some (.lst (ts'.map V.ref)) → SqT K H' t' (mkV m') → MkA W xs (i + 1) m' → Mks K H' W xs (i + 1) ts' → Q' (.ref t') H') →
          spRd K W [.str (S (enc W xs)), .ref t, .int ((xs.length : Nat) - (0 + (i : Nat)) : Int)] Hd Q' (fun _ _ _ => False) := by
        intro ts' Hd s2 hl2 ht2 mk2 Q' h
        refine ⟨t, xs, i, m, by rw [Int.zero_add], ht2, hm, hi, lo, few, fun t' m' H' s3 ht' hm' _ _ => h t' H' m' (s2.trans s3) (s3 _ _ hl2) (SqT.of ht') hm' (mk2.kt (.of s3))⟩
      refine ⟨_, rfl, _, _, rfl, rfl, (by show (0 : Int) < 32; decide), rfl, _, rfl, ite2 (fun g => ?_) (fun g => ?_)⟩
      · have i0 : i % 32 = 0 := by
          rw [dec_int] at g
          have := of_decide_eq_true g
          omega
        refine ⟨_, rfl, .inl ⟨rfl, _, SqL.of hl⟩, _, rfl, l, _, _, rfl, rfl, hl, by rw [List.length_map]; exact small1000 (by omega), ?_⟩
        have kt : KT Hc (upd Hc l (.lst (ts.map V.ref ++ [.ref t]))) := KT.put hl nfix_lst
        have e1 : ts.map V.ref ++ [V.ref t] = (ts ++ [t]).map V.ref := by
          rw [List.map_append]
          rfl
        have mk2 : Mks K (upd Hc l (.lst (ts.map V.ref ++ [.ref t]))) W xs (i + 1) (ts ++ [t]) := by
          have m1 := mks.kt kt
          refine ⟨?_, fun j u e => ?_⟩
          · rw [List.length_append, m1.1]
            show _ + 1 = _
            omega
          · rcases Nat.lt_or_ge j ts.length with g2 | g2
            · rw [List.getElem?_append_left g2] at e
              exact m1.2 j u e
            · have ej : j = ts.length := by
                have := (List.getElem?_eq_some_iff.mp e).1
                rw [List.length_append] at this
                have z1 : [t].length = 1 := rfl
                omega
              subst ej
              rw [List.getElem?_append_right (Nat.le_refl _), Nat.sub_self] at e
              cases e
              refine ⟨m, sqT_kt kt ht, ?_⟩
              have : 32 * ts.length = i := by
                have := mks.1
                omega
              rw [this]
              exact hm
        refine ⟨Z.fn W, _, rfl, if_pos rfl, _, rfl, _, rfl, _, rfl, _, rfl, _, _, rfl, rfl, ?_⟩
        dsimp only [tNil]
        refine go (ts ++ [t]) _ (same_put nl sm) (by rw [upd_same, e1]) (sqT_kt kt ht) mk2 _ fun t' H' m' a b c d e => ?_
        exact ⟨_, t', m', ts ++ [t], rfl, a, b, c, d, e⟩
      · have i0 : ¬ i % 32 = 0 := fun z => g (by
          rw [dec_int]
          exact decide_eq_true (by omega))
        have mk2 : Mks K Hc W xs (i + 1) ts := ⟨by rw [mks.1]; omega, mks.2⟩
        refine ⟨Z.fn W, _, rfl, if_pos rfl, _, rfl, _, rfl, _, rfl, _, rfl, _, _, rfl, rfl, ?_⟩
        dsimp only [tNil]
        refine go ts _ sm hl ht mk2 _ fun t' H' m' a b c d e => ?_
        exact ⟨_, t', m', ts, rfl, a, b, c, d, e⟩
    · rintro σ Hc ⟨z, t, m, ts, rfl, sm, hl, ht, hm, mks⟩
      have em := mk_end hm
      refine ⟨_, rfl, t, _, 0, .int (m.1 : Nat), rfl, rfl, ht, rfl, _, rfl, enc W xs, rfl, by omega, _, _, rfl, rfl, false, ?_, if_f ?_⟩
      · rw [em]
        exact congrArg V.bl (decide_eq_false (by omega))
      · exact ⟨_, rfl, q l ts Hc sm nl hl mks⟩
def spCC : Sp := fun vs H Q _ => ∃ (l : List Nat) (a v n : Nat), vs = [.str (S l), .int (a : Nat), .int (v : Nat), .int (n : Nat)] ∧ v ≤ 1000 ∧ l.length ≤ 60000 ∧ a + v * n = l.length ∧ Q .non H
theorem ok_cc (F : Fun K "check_codes" "check_codes" sCC f fd) (m_len : mg "len" = none) : FnOk P w K mg base CX0 (k + 1) f fd ["bits", "at", "width", "many"] spCC := by
  refine F.ok scCC (fun vs H Q E h => ?_) (fun cdv A outer s H vs Q E hr h => ?_)
  · obtain ⟨l, a, v, n, rfl, _⟩ := h
    rfl
  · obtain ⟨l, a, v, n, rfl, few, big, e, q⟩ := h
    refine ⟨_, pss_cons (ps_set (i := 4) scCC.nd rfl (.inl rfl) (pe_op op_add (pv 1) (pe_op op_mul (pv 2) (pv 3))))
      (pss_cons (ps_if (pt_cmpR op_gt (pv 4) (pe_callB call_lenB (by rfl) m_len (by decide +kernel) (pa_cons (pv 0) pa_nil)) (nomark _))
        (pss_one ps_dead)
        pss_nil)
      (pss_one (ps_if (pt_cmpR op_lt (pv 4) (pe_callB call_lenB (by rfl) m_len (by decide +kernel) (pa_cons (pv 0) pa_nil)) (nomark _))
        (pss_one ps_dead)
        pss_nil))), ?_⟩
    have ev : ((a : Nat) : Int) + ((v : Nat) : Int) * ((n : Nat) : Int) = ((l.length : Nat) : Int) := by
      rw [← e, Int.natCast_add, Int.natCast_mul]
    refine ⟨_, rfl, _, rfl, _, rfl, _, _, rfl, rfl, .inl ⟨by omega, by omega⟩, _, _, rfl, rfl, ?_⟩
    dsimp only
    rw [ev]
    exact ⟨_, rfl, _, rfl, l, rfl, big, _, _, rfl, rfl, false, congrArg V.bl (decide_eq_false (by omega)), if_f ⟨_, rfl, _, rfl, l, rfl, big, _, _, rfl, rfl, false, congrArg V.bl (decide_eq_false (by omega)), if_f q⟩⟩
end
end Tg

namespace Tg
open PySem PySem.Spec PyProof.Rows L2
open SX (S)
abbrev sPH : Stmt := topS 33
abbrev sBH : Stmt := topS 34
theorem scPH : FnScope ["bits", "many", "least", "at", "width"] ["bits", "many"] (defScope sPH) := ⟨rfl, rfl, rfl, by decide +kernel, rfl, by decide +kernel, by decide +kernel⟩
theorem scBH : FnScope ["bits", "many", "last", "at", "least", "book", "gap", "width", "place", "code"] ["bits", "many"] (defScope sBH) := ⟨rfl, rfl, rfl, by decide +kernel, rfl, by decide +kernel, by decide +kernel⟩
/-! ### codes side by side -/
theorem flat_at {v : Nat} : ∀ {cs : List (List Nat)}, (∀ c, c ∈ cs → c.length = v) → ∀ (i : Nat) (c : List Nat) (rest : List Nat), cs[i]? = some c → ((cs.flatten ++ rest).drop (i * v)).take v = c
  | [], _, i, c, rest, e => by simp at e
  | d :: r, h, 0, c, rest, e => by
    cases e
    rw [Nat.zero_mul, List.drop_zero, List.flatten_cons, List.append_assoc, List.take_append_of_le_length (by rw [h d (.head _)]; exact Nat.le_refl _), List.take_of_length_le (by rw [h d (.head _)]; exact Nat.le_refl _)]
  | d :: r, h, i + 1, c, rest, e => by
    have ld := h d (.head _)
    rw [List.flatten_cons, List.append_assoc, Nat.succ_mul, Nat.add_comm, ← List.drop_drop, List.drop_append_of_le_length (by rw [ld]; exact Nat.le_refl _), show List.drop v d = [] from List.drop_of_length_le (by rw [ld]; exact Nat.le_refl _), List.nil_append]
    exact flat_at (fun y hy => h y (.tail _ hy)) i c rest e
theorem zeros_map : ∀ {cs : List (List Nat)}, (∀ c, c ∈ cs → c = []) → (List.replicate cs.length [V.int 0]).flatten = cs.map fun c => V.int (binNum c : Nat)
  | [], _ => rfl
  | c :: r, h => by
    rw [List.length_cons, List.replicate_succ, List.flatten_cons, zeros_map fun y hy => h y (.tail _ hy), h c (.head _)]
    rfl
theorem rgc_is {a e v : Int} {n : Nat} (hv : 0 < v) (v2 : v < 2 ^ 20) (ha : 0 ≤ a ∧ a < 2 ^ 40) (he : -(2 ^ 40) < e ∧ e < 2 ^ 40) (n2 : n < 2 ^ 20) (h1 : n = 0 ∨ a + ((n : Nat) - 1 : Int) * v < e) (h2 : e ≤ a + (n : Nat) * v) : RgC a e v n := by
  have hs : Builtin.Range.rangeSize a e v = (n : Nat) := by
    delta Builtin.Range.rangeSize
    rw [if_pos hv]
    cases n with
    | zero =>
      rw [if_neg (by
        have e0 : ((0 : Nat) : Int) * v = 0 := Int.zero_mul v
        omega)]
      rfl
    | succ m =>
      have em : ((m + 1 : Nat) : Int) * v = (m : Int) * v + v := by
        rw [Int.natCast_add, Int.add_mul]
        show (m : Int) * v + 1 * v = _
        rw [Int.one_mul]
      have m0 : 0 ≤ (m : Int) * v := Int.mul_nonneg (by omega) (by omega)
      have h1' : a + (m : Int) * v < e := by
        rcases h1 with z | z
        · omega
        · rw [show (((m + 1 : Nat) : Nat) : Int) - 1 = (m : Int) by omega] at z
          exact z
      rw [em] at h2
      rw [if_pos (by omega)]
      have d : (e - a - 1) / v = m := by
        refine Int.le_antisymm (Int.lt_add_one_iff.mp (Int.ediv_lt_of_lt_mul hv ?_)) (Int.le_ediv_of_mul_le hv ?_)
        · rw [Int.add_mul, Int.one_mul]
          omega
        · omega
      rw [d]
      omega
  refine ⟨by omega, by omega, ?_, hs⟩
  unfold Builtin.Range.small
  rw [hs]
  simp only [Builtin.Range.rangeFitsLong, Bool.and_eq_true, Bool.or_eq_true, decide_eq_true_eq, beq_iff_eq, if_pos (show v > 0 from hv)]
  refine ⟨⟨⟨⟨⟨?_, ?_⟩, ?_, ?_⟩, ?_, ?_⟩, ?_, ?_⟩, .inr ⟨?_, ?_⟩⟩ <;> omega
section
variable {P : Program} {w : World} {K : PySem.W.Frag} {mg : Str → Option Value} {base : Heap} {f : Addr} {fd : FuncData} {k : Nat}
def spRC : Sp := fun vs H Q _ => ∃ (a rest : List Nat) (cs : List (List Nat)) (v : Nat), vs = [.str (S (a ++ (cs.flatten ++ rest))), .int (a.length : Nat), .int (v : Nat), .int (cs.length : Nat)] ∧ (∀ c, c ∈ cs → c.length = v ∧ ∀ d, d ∈ c → IsBin d) ∧ v ≤ 600 ∧ cs.length ≤ 360 ∧ (a ++ (cs.flatten ++ rest)).length ≤ 60000 ∧
  ∀ (m : Addr) (H' : Hp), Same H H' → H m = none → H' m = some (.lst (cs.map fun c => V.int (binNum c : Nat))) → Q (.ref m) H'
theorem ok_rc (F : Fun K "read_codes" "read_codes" sRC f fd) (m_len : mg "len" = none) (m_min : mg "min" = none) (m_range : mg "range" = none) (m_int : mg "int" = none) : FnOk P w K mg base CX0 (k + 1) f fd ["bits", "at", "width", "many"] spRC := by
  refine F.ok scRC (fun vs H Q E h => ?_) (fun cdv A outer s H vs Q E hr h => ?_)
  · obtain ⟨a, rest, cs, v, rfl, _⟩ := h
    rfl
  · obtain ⟨a, rest, cs, v, rfl, each, v6, n2, big, q⟩ := h
    refine ⟨_, pss_cons (ps_if (pt_cmpR op_eq (pv 2) pe_int (nomark _))
        (pss_one (ps_ret (pe_op op_rep (pe_lst (pa_cons pe_int pa_nil)) (pv 3))))
        pss_nil)
      (pss_cons (ps_set (i := 4) scRC.nd rfl (.inl rfl) (pe_callB (call_min2 rfl) (by rfl) m_min (by decide +kernel) (pa_cons (pe_op op_add (pv 1) (pe_op op_mul (pv 2) (pv 3))) (pa_cons (pe_op op_add (pe_op op_sub (pe_callB call_lenB (by rfl) m_len (by decide +kernel) (pa_cons (pv 0) pa_nil)) (pv 2)) pe_int) pa_nil))))
      (pss_one (ps_ret (pe_lc (own := [("place", 5)]) (g := (gName 5)) (tt := tYes) rfl scRC.nd (pi_range3 (by rfl) m_range (pa_cons (pv 1) (pa_cons (pv 4) (pa_cons (pv 2) pa_nil)))) (blkOk_by (own := [("place", 5)]) (N := NRC) (sc := defScope sRC) (by decide +kernel)) (fun _ _ _ _ _ => (pg_name (i := 5) scRC.nd rfl (.inl rfl))) (fun _ _ _ _ _ => pts_nil) (fun _ _ _ _ _ => (pe_callTy call_int_bin (by rfl) m_int (by decide +kernel) (pa_cons (pe_slice sl_str (pv 0) (po_some (pv 5)) (po_some (pe_op op_add (pv 5) (pv 2)))) (pa_cons pe_int pa_nil)))))))), ?_⟩
    obtain ⟨n, en⟩ : ∃ n, cs.length = n := ⟨_, rfl⟩
    have fl : cs.flatten.length = n * v := by
      rw [flat_same fun y hy => (each y hy).1, en]
    obtain ⟨l, el⟩ : ∃ l, a ++ (cs.flatten ++ rest) = l := ⟨_, rfl⟩
    have ll : l.length = a.length + n * v + rest.length := by
      rw [← el, List.length_append, List.length_append, fl]
      omega
    rw [el] at big ⊢
    rw [en] at n2 ⊢
    refine ⟨_, rfl, rfl, _, rfl, ite2 (fun g => ?_) (fun g => ?_)⟩
    · have v0 : v = 0 := by
        rw [dec_int] at g
        have := of_decide_eq_true g
        omega
      refine ⟨by show 1 ≤ sizeLine; decide, fun l1 n1 => ?_⟩
      have s1 := same_new (o := .lst [V.int 0]) n1
      refine ⟨_, rfl, l1, _, _, rfl, rfl, upd_same, by omega, by omega, ?_, fun m nm => ?_⟩
      · show 1 * _ ≤ sizeLine
        exact Nat.le_of_lt (small1000 (by omega))
      · refine q m _ (s1.trans (same_new nm)) (s1.free nm) ?_
        rw [upd_same, Int.toNat_natCast]
        congr 2
        rw [← en]
        exact zeros_map fun c hc => List.length_eq_zero_iff.mp (by rw [(each c hc).1, v0])
    · have vp : 0 < v := by
        have : ¬ v = 0 := fun z => g (by
          rw [dec_int]
          exact decide_eq_true (by omega))
        omega
      have nv : n * v ≤ 360 * 600 := Nat.mul_le_mul n2 v6
      have cast : ((n * v : Nat) : Int) = (v : Int) * (n : Int) := by rw [Int.natCast_mul, Int.mul_comm]
      refine ⟨_, rfl, _, rfl, _, rfl, _, _, rfl, rfl, .inl ⟨by omega, by omega⟩, _, _, rfl, rfl, ?_⟩
      refine ⟨_, rfl, l, rfl, big, _, rfl, _, _, rfl, rfl, _, _, rfl, rfl, _, _, rfl, ?_⟩
      dsimp only
      obtain ⟨e, ee⟩ : ∃ e : Int, (if ((l.length : Nat) : Int) - (v : Nat) + 1 < (a.length : Nat) + (v : Nat) * (n : Nat) then ((l.length : Nat) : Int) - (v : Nat) + 1 else (a.length : Nat) + (v : Nat) * (n : Nat)) = e := ⟨_, rfl⟩
      rw [ee]
      have eb : e ≤ (a.length : Nat) + (n : Nat) * (v : Nat) ∧ (n = 0 ∨ ((a.length : Nat) : Int) + ((n : Nat) - 1 : Int) * (v : Nat) < e) ∧ -(2 ^ 40) < e ∧ e < 2 ^ 40 := by
        have c2 : ((n : Nat) : Int) * (v : Nat) = (v : Int) * (n : Int) := Int.mul_comm _ _
        rw [Int.sub_mul, c2, Int.one_mul, ← cast]
        rw [← cast] at ee
        split at ee <;> omega
      refine ⟨_, rfl, _, rfl, _, rfl, _, _, _, n, rfl, rgc_is (by omega) (by omega) ⟨by omega, by omega⟩ eb.2.2 (by omega) eb.2.1 eb.1, fun D nD => lc_mapC (n := n) (cs.map fun c => V.int (binNum c : Nat)) (by rw [List.length_map, en]) nD (small1000 (by omega)) (fun i y Hc Q' hi hy sm q' => ?_) fun H' sm hD => q D H' sm nD hD⟩
      rw [List.getElem?_map] at hy
      obtain ⟨c, ec, rfl⟩ := Option.map_eq_some_iff.mp hy
      obtain ⟨cl, cb⟩ := each c (List.mem_of_getElem? ec)
      have iv : i * v + v ≤ n * v := by
        have := Nat.mul_le_mul_right v (show i + 1 ≤ n from hi)
        rw [Nat.succ_mul] at this
        exact this
      have ep : ((a.length : Nat) : Int) + ((i : Nat) : Int) * ((v : Nat) : Int) = ((a.length + i * v : Nat) : Int) := by
        rw [Int.natCast_add, Int.natCast_mul]
      have ep2 : ((a.length + i * v : Nat) : Int) + ((v : Nat) : Int) = ((a.length + i * v + v : Nat) : Int) := by omega
      refine ⟨rfl, _, rfl, _, rfl, ?_⟩
      refine ⟨_, rfl, _, rfl, _, rfl, _, _, rfl, rfl, _, rfl, S l, rfl, by rw [SX.S_len]; exact fit60 big, ?_⟩
      rw [ep, ep2, cut_S l (by omega) (by omega), Nat.add_sub_cancel_left, ← el, ← List.drop_drop, List.drop_left, flat_at (fun y hy => (each y hy).1) i c rest ec]
      exact ⟨c, rfl, (fun z => by rw [z] at cl; exact absurd cl (by show ¬ 0 = v; omega)), by omega, cb, q' Hc (Same.refl _)⟩
end
end Tg

namespace Tg
open PySem PySem.Spec PyProof.Rows L2
open SX (S)
section
variable {P : Program} {w : World} {K : PySem.W.Frag} {mg : Str → Option Value} {base : Heap} {f : Addr} {fd : FuncData} {k : Nat}
theorem plC_in {xs : List Int} {c : List Nat} (h : c ∈ plC xs) : c.length = wdP xs ∧ ∀ d, d ∈ c → IsBin d := by
  obtain ⟨x, _, rfl⟩ := List.mem_map.mp h
  exact ⟨bt_len _ _, bt_bin _ _⟩
theorem bkC_in {xs : List Int} {c : List Nat} (h : c ∈ bkC xs) : c.length = wdB xs ∧ ∀ d, d ∈ c → IsBin d := by
  obtain ⟨x, _, rfl⟩ := List.mem_map.mp h
  exact ⟨bt_len _ _, bt_bin _ _⟩
/-- what stands ahead of the codes -/
def atP (xs : List Int) : Nat := (cd (mnI xs)).length + (ownL (wdP xs)).length
def atB (xs : List Int) : Nat := (ownL ((bookOf xs).length - 1) ++ cd ((bookOf xs).headD 0) ++ (gpC xs).flatten).length
def spPH : Sp := fun vs H Q _ => ∃ xs : List Int, vs = [.str (S (encP xs)), .int (xs.length : Nat)] ∧ 0 < xs.length ∧ xs.length ≤ 300 ∧ Lo 70 xs ∧
  ∀ (t : Addr) (H' : Hp), Same H H' → H' t = some (.tup [.int (atP xs : Nat), .int (wdP xs : Nat), .int (mnI xs)]) → Q (.ref t) H'
theorem encP_len {xs : List Int} (pos : 0 < xs.length) (few : xs.length ≤ 300) (lo : Lo 70 xs) : (encP xs).length = atP xs + wdP xs * xs.length ∧ atP xs ≤ 400 ∧ wdP xs ≤ 71 := by
  have ne : xs ≠ [] := fun z => by subst z; exact absurd pos (by decide)
  have w71 := wdP_le lo ne
  have c1 := cd_len (Nat.lt_of_lt_of_le (lo _ (mnI_is ne).1) (show 2 ^ 70 ≤ 2 ^ 80 by decide))
  have c2 := own_short (n := wdP xs) (w := 10) (by omega)
  refine ⟨?_, ?_, w71⟩
  · unfold encP atP
    rw [List.length_append, List.length_append, flat_same fun l h => (plC_in h).1]
    unfold plC
    rw [List.length_map, Nat.mul_comm]
  · unfold atP
    omega
theorem ok_ph (F : Fun K "plain_head" "plain_head" sPH f fd) (C_read_own : Cal P w K mg base k "read_own" ["bits", "at"] (spRO K)) (C_back : Cal P w K mg base k "back" ["number"] spBa) (C_check_codes : Cal P w K mg base k "check_codes" ["bits", "at", "width", "many"] spCC) : FnOk P w K mg base CX0 (k + 1) f fd ["bits", "many"] spPH := by
  refine F.ok scPH (fun vs H Q E h => ?_) (fun cdv A outer s H vs Q E hr h => ?_)
  · obtain ⟨xs, rfl, _⟩ := h
    rfl
  · obtain ⟨xs, rfl, pos, few, lo, q⟩ := h
    refine ⟨_, pss_cons (ps_asg (pe_cal C_read_own (hr.mono (by omega)) (by rfl) (pa_cons (pv 0) (pa_cons pe_int pa_nil))) (pg_tup rfl (pgs_cons (pg_name (i := 2) scPH.nd rfl (.inl rfl)) (pgs_cons (pg_name (i := 3) scPH.nd rfl (.inl rfl)) pgs_nil))))
      (pss_cons (ps_asg (pe_cal C_read_own (hr.mono (by omega)) (by rfl) (pa_cons (pv 0) (pa_cons (pv 3) pa_nil))) (pg_tup rfl (pgs_cons (pg_name (i := 4) scPH.nd rfl (.inl rfl)) (pgs_cons (pg_name (i := 3) scPH.nd rfl (.inl rfl)) pgs_nil))))
      (pss_cons (ps_expr (pe_cal C_check_codes (hr.mono (by omega)) (by rfl) (pa_cons (pv 0) (pa_cons (pv 3) (pa_cons (pv 4) (pa_cons (pv 1) pa_nil))))))
      (pss_one (ps_ret (pe_tup (pa_cons (pv 3) (pa_cons (pv 4) (pa_cons (pe_cal C_back (hr.mono (by omega)) (by rfl) (pa_cons (pv 2) pa_nil)) pa_nil)))))))), ?_⟩
    have ne : xs ≠ [] := fun z => by subst z; exact absurd pos (by decide)
    obtain ⟨l1, l2, l3⟩ := encP_len pos few lo
    have sz : wdP xs * xs.length ≤ 71 * 300 := Nat.mul_le_mul l3 few
    have cl := Nat.lt_of_lt_of_le (lo _ (mnI_is ne).1) (show 2 ^ 70 ≤ 2 ^ 80 by decide)
    have e1 : encP xs = [] ++ (ownL (tN (mnI xs)) ++ (ownL (wdP xs) ++ (plC xs).flatten)) := by
      unfold encP cd
      rw [List.nil_append, List.append_assoc]
    have e2 : encP xs = cd (mnI xs) ++ (ownL (wdP xs) ++ (plC xs).flatten) := by
      unfold encP
      rw [List.append_assoc]
    refine ⟨_, rfl, [], ownL (wdP xs) ++ (plC xs).flatten, tN (mnI xs), by rw [← e1]; rfl, tN_90 cl, by rw [← e1]; omega, fun u H1 s1 hu => ?_⟩
    refine ⟨u, _, rfl, hu, rfl, _, _, rfl, _, _, rfl, rfl, ?_⟩
    refine ⟨_, rfl, _, rfl, cd (mnI xs), (plC xs).flatten, wdP xs, ?_, by omega, by rw [← e2]; omega, fun u2 H2 s2 hu2 => ?_⟩
    · rw [← e2]
      show _ = [V.str (S (encP xs)), V.int (((ownL (tN (mnI xs))).length : Nat) : Int)]
      simp only [List.length_nil, Nat.zero_add]
      rfl
    refine ⟨u2, _, rfl, hu2, rfl, _, _, rfl, _, _, rfl, rfl, ?_⟩
    refine ⟨_, rfl, _, rfl, _, rfl, _, rfl, encP xs, atP xs, wdP xs, xs.length, rfl, by omega, by omega, l1.symm, ?_⟩
    refine ⟨_, rfl, _, rfl, _, rfl, _, rfl, tN_abs cl, ?_⟩
    rw [bk_tN]
    refine ⟨by show 3 ≤ sizeLine; decide, fun t nt => ?_⟩
    exact q t _ ((s1.trans s2).trans (same_new nt)) upd_same
end
end Tg

namespace Tg
open PySem PySem.Spec PyProof.Rows L2
open SX (S)
def hdB (xs : List Int) : List Nat := ownL ((bookOf xs).length - 1) ++ cd ((bookOf xs).headD 0)
theorem encB_len {xs : List Int} (pos : 0 < xs.length) (few : xs.length ≤ 300) (lo : Lo 70 xs) : (encB xs).length = atB xs + wdB xs * xs.length ∧ atB xs ≤ 56000 ∧ wdB xs ≤ 9 ∧ (bookOf xs).length ≤ 300 ∧ 0 < (bookOf xs).length ∧ Lo 70 (bookOf xs) ∧ (bookOf xs).Pairwise (· < ·) := by
  obtain ⟨up, mem⟩ := book_is xs
  obtain ⟨b, eb⟩ : ∃ b, bookOf xs = b := ⟨_, rfl⟩
  have bl : b.length ≤ 300 := by
    rw [← eb]
    exact Nat.le_trans (book_len xs) few
  have bp : 0 < b.length := by
    rw [← eb]
    exact book_ne pos
  have blo : Lo 70 b := fun x hx => lo x ((mem x).mp (by rw [eb]; exact hx))
  have w8 : wdB xs ≤ 9 := by
    unfold wdB
    rw [eb]
    exact blen_le (by omega)
  obtain ⟨b0, eb0⟩ : ∃ b0, b[0]? = some b0 := ⟨_, List.getElem?_eq_getElem bp⟩
  have b0lo : b0.natAbs < 2 ^ 80 := Nat.lt_of_lt_of_le (blo b0 (List.mem_of_getElem? eb0)) (by decide)
  have c1 := cd_len b0lo
  have c2 := own_short (n := b.length - 1) (w := 9) (by omega)
  have g1 : (gpC xs).flatten.length ≤ 170 * 300 := by
    refine Nat.le_trans (flat_le (n := 170) fun y hy => ?_) (Nat.mul_le_mul (Nat.le_refl _) ?_)
    · obtain ⟨d, hd, rfl⟩ := List.mem_map.mp hy
      rw [eb] at hd
      have d2 := lo_difs blo _ hd
      have := own_short (n := (d - 1).toNat) (w := 73) (by
        have e73 : (2 : Nat) ^ 73 = 2 ^ 71 * 4 := rfl
        have d2' : d.natAbs < 2 ^ 71 := d2
        omega)
      omega
    · unfold gpC
      rw [List.length_map, eb, difs_len]
      omega
  refine ⟨?_, ?_, w8, by rw [eb]; exact bl, by rw [eb]; exact bp, by rw [eb]; exact blo, up⟩
  · unfold encB atB
    rw [List.length_append, flat_same (w := wdB xs) fun l h => (bkC_in h).1]
    unfold bkC
    rw [List.length_map, Nat.mul_comm]
  · unfold atB
    rw [List.length_append, List.length_append, eb, headD_of eb0]
    omega
def muB : L2.St → Hp → Nat := fun σ _ => match σ[3]? with
  | some (some (V.int a)) => (60000 - a).toNat
  | _ => 0
theorem book_code {xs : List Int} {i : Nat} (h : i < xs.length) : ((xs.map fun x => V.int ((bookOf xs).idxOf x : Nat)))[i]? = some (V.int ((bookOf xs).idxOf xs[i] : Nat)) := by
  rw [List.getElem?_map, List.getElem?_eq_getElem h]
  rfl
theorem book_codes {xs : List Int} : ((bkC xs).map fun c => V.int (binNum c : Nat)) = xs.map fun x => V.int ((bookOf xs).idxOf x : Nat) := by
  unfold bkC
  rw [List.map_map]
  refine List.map_congr_left fun x hx => ?_
  have lt : (bookOf xs).idxOf x < (bookOf xs).length := List.idxOf_lt_length_of_mem (((book_is xs).2 x).mpr hx)
  show V.int (binNum (bt (wdB xs) _) : Nat) = _
  rw [num_bt, Nat.mod_eq_of_lt]
  exact Nat.lt_of_le_of_lt (show _ ≤ (bookOf xs).length - 1 by omega) (lt_blen _)
section
variable {P : Program} {w : World} {K : PySem.W.Frag} {mg : Str → Option Value} {base : Heap} {f : Addr} {fd : FuncData} {k : Nat}
def spBH : Sp := fun vs H Q _ => ∃ xs : List Int, vs = [.str (S (encB xs)), .int (xs.length : Nat)] ∧ 0 < xs.length ∧ xs.length ≤ 300 ∧ Lo 70 xs ∧
  ∀ (t l : Addr) (H' : Hp), Same H H' → H l = none → H' t = some (.tup [.int (atB xs : Nat), .int (wdB xs : Nat), .ref l]) → NL H' l (bookOf xs) → Q (.ref t) H'
theorem ok_bh (F : Fun K "book_head" "book_head" sBH f fd) (C_read_own : Cal P w K mg base k "read_own" ["bits", "at"] (spRO K)) (C_back : Cal P w K mg base k "back" ["number"] spBa) (C_check_codes : Cal P w K mg base k "check_codes" ["bits", "at", "width", "many"] spCC) (C_read_codes : Cal P w K mg base k "read_codes" ["bits", "at", "width", "many"] spRC) (m_len : mg "len" = none) (m_enumerate : mg "enumerate" = none) : FnOk P w K mg base CX0 (k + 1) f fd ["bits", "many"] spBH := by
  refine F.ok scBH (fun vs H Q E h => ?_) (fun cdv A outer s H vs Q E hr h => ?_)
  · obtain ⟨xs, rfl, _⟩ := h
    rfl
  · obtain ⟨xs, rfl, pos, few, lo, q⟩ := h
    refine ⟨_, pss_cons (ps_asg (pe_cal C_read_own (hr.mono (by omega)) (by rfl) (pa_cons (pv 0) (pa_cons pe_int pa_nil))) (pg_tup rfl (pgs_cons (pg_name (i := 2) scBH.nd rfl (.inl rfl)) (pgs_cons (pg_name (i := 3) scBH.nd rfl (.inl rfl)) pgs_nil))))
      (pss_cons (ps_asg (pe_cal C_read_own (hr.mono (by omega)) (by rfl) (pa_cons (pv 0) (pa_cons (pv 3) pa_nil))) (pg_tup rfl (pgs_cons (pg_name (i := 4) scBH.nd rfl (.inl rfl)) (pgs_cons (pg_name (i := 3) scBH.nd rfl (.inl rfl)) pgs_nil))))
      (pss_cons (ps_set (i := 5) scBH.nd rfl (.inl rfl) (pe_lst (pa_cons (pe_cal C_back (hr.mono (by omega)) (by rfl) (pa_cons (pv 4) pa_nil)) pa_nil)))
      (pss_cons (ps_while PassesOwn.never (pt_cmpR op_le (pe_callB call_len_seq (by rfl) m_len (by decide +kernel) (pa_cons (pv 5) pa_nil)) (pv 2) (nomark _))
        (pss_cons (ps_asg (pe_cal C_read_own (hr.mono (by omega)) (by rfl) (pa_cons (pv 0) (pa_cons (pv 3) pa_nil))) (pg_tup rfl (pgs_cons (pg_name (i := 6) scBH.nd rfl (.inl rfl)) (pgs_cons (pg_name (i := 3) scBH.nd rfl (.inl rfl)) pgs_nil))))
        (pss_one (ps_expr (pe_bm PySem.F.plainAttrs_list PySem.F.slot_list_append PySem.F.type_list_append mt_append (pv 5) (pa_cons (pe_op op_add (pe_op op_add (pe_ix ix_list (pv 5) (pe_un un_neg pe_int) (fun _ _ => rfl)) (pv 6)) pe_int) pa_nil))))))
      (pss_cons (ps_set (i := 7) scBH.nd rfl (.inl rfl) (pe_bits (pv 2)))
      (pss_cons (ps_for PassesOwn.never rfl (pi_enum (by rfl) m_enumerate (pa_cons (pe_cal C_read_codes (hr.mono (by omega)) (by rfl) (pa_cons (pv 0) (pa_cons (pv 3) (pa_cons (pv 7) (pa_cons (pv 1) pa_nil))))) pa_nil)) (pg_tup rfl (pgs_cons (pg_name (i := 8) scBH.nd rfl (.inl rfl)) (pgs_cons (pg_name (i := 9) scBH.nd rfl (.inl rfl)) pgs_nil)))
        (pss_one (ps_if (pt_cmpR op_gt (pv 9) (pv 2) (nomark _))
          (pss_one ps_dead)
          pss_nil)))
      (pss_cons (ps_expr (pe_cal C_check_codes (hr.mono (by omega)) (by rfl) (pa_cons (pv 0) (pa_cons (pv 3) (pa_cons (pv 7) (pa_cons (pv 1) pa_nil))))))
      (pss_one (ps_ret (pe_tup (pa_cons (pv 3) (pa_cons (pv 7) (pa_cons (pv 5) pa_nil)))))))))))), ?_⟩
    obtain ⟨l1, l2, l3, bl, bp, blo, up⟩ := encB_len pos few lo
    have sz : wdB xs * xs.length ≤ 9 * 300 := Nat.mul_le_mul l3 few
    obtain ⟨b, eb⟩ : ∃ b, bookOf xs = b := ⟨_, rfl⟩
    rw [eb] at bl bp blo up
    obtain ⟨b0, eb0⟩ : ∃ b0, b[0]? = some b0 := ⟨_, List.getElem?_eq_getElem bp⟩
    have b0lo : b0.natAbs < 2 ^ 80 := Nat.lt_of_lt_of_le (blo b0 (List.mem_of_getElem? eb0)) (by decide)
    have gl : (gpC xs).length = b.length - 1 := by
      unfold gpC
      rw [List.length_map, eb, difs_len]
    have e0 : encB xs = hdB xs ++ ((gpC xs).flatten ++ (bkC xs).flatten) := by
      unfold encB hdB
      rw [List.append_assoc]
    have hdb : hdB xs = ownL (b.length - 1) ++ ownL (tN b0) := by
      unfold hdB cd
      rw [eb, headD_of eb0]
    have e1 : encB xs = [] ++ (ownL (b.length - 1) ++ (ownL (tN b0) ++ ((gpC xs).flatten ++ (bkC xs).flatten))) := by
      rw [e0, hdb, List.nil_append, List.append_assoc]
    have e2 : encB xs = ownL (b.length - 1) ++ (ownL (tN b0) ++ ((gpC xs).flatten ++ (bkC xs).flatten)) := by
      rw [e1, List.nil_append]
    have pl_end : (hdB xs ++ ((gpC xs).take (b.length - 1)).flatten).length = atB xs := by
      rw [List.take_of_length_le (by omega)]
      unfold atB hdB
      rfl
    refine ⟨_, rfl, [], _, b.length - 1, by rw [← e1]; rfl, Nat.lt_of_le_of_lt (show b.length - 1 ≤ 300 by omega) (by decide), by rw [← e1]; omega, fun u H1 s1 hu => ?_⟩
    refine ⟨u, _, rfl, hu, rfl, _, _, rfl, _, _, rfl, rfl, ?_⟩
    refine ⟨_, rfl, _, rfl, ownL (b.length - 1), _, tN b0, ?_, tN_90 b0lo, by rw [← e2]; omega, fun u2 H2 s2 hu2 => ?_⟩
    · rw [← e2]
      show _ = [V.str (S (encB xs)), V.int (((ownL (b.length - 1)).length : Nat) : Int)]
      simp only [List.length_nil, Nat.zero_add]
      rfl
    refine ⟨u2, _, rfl, hu2, rfl, _, _, rfl, _, _, rfl, rfl, ?_⟩
    refine ⟨_, rfl, _, rfl, tN_abs b0lo, ?_⟩
    rw [bk_tN]
    refine ⟨by show 1 ≤ sizeLine; decide, fun l nl => ?_⟩
    have s3 := same_new (o := .lst [V.int b0]) nl
    have at0 : (ownL (b.length - 1)).length + (ownL (tN b0)).length = (hdB xs ++ ((gpC xs).take 0).flatten).length := by
      rw [hdb, List.take_zero, List.flatten_nil, List.append_nil, List.length_append]
    refine while_by (fun σ Hc => ∃ (i : Nat) (z : Option V), σ = [some (.str (S (encB xs))), some (.int (xs.length : Nat)), some (.int (b.length - 1 : Nat)), some (.int ((hdB xs ++ ((gpC xs).take i).flatten).length : Nat)), some (.int (tN b0 : Nat)), some (.ref l), z, none, none, none] ∧ i < b.length ∧ Same H Hc ∧ Hc l = some (.lst ((b.take (i + 1)).map V.int))) muB ?_ ?_ ?_
    · refine ⟨0, none, ?_, bp, (s1.trans s2).trans s3, ?_⟩
      · rw [← at0]
        rfl
      · rw [upd_same, List.take_add_one, eb0]
        rfl
    · rintro σ Hc ⟨i, z, rfl, hi, sm, hl⟩
      have lt : ((b.take (i + 1)).map V.int).length = i + 1 := by
        rw [List.length_map, List.length_take]
        omega
      refine ⟨_, rfl, l, _, rfl, .inl (SqL.of hl), _, rfl, _, _, rfl, rfl, _, rfl, ite2 (fun g => ?_) (fun g => ?_)⟩
      · have g1 : i + 1 < b.length := by
          have := of_decide_eq_true g
          rw [lt] at this
          omega
        obtain ⟨x, ex⟩ : ∃ x, b[i]? = some x := ⟨_, List.getElem?_eq_getElem hi⟩
        obtain ⟨y, ey⟩ : ∃ y, b[i + 1]? = some y := ⟨_, List.getElem?_eq_getElem g1⟩
        have ed := difs_at b i x y ex ey
        have d1 := up_gap up _ (List.mem_of_getElem? ed)
        have d2 := lo_difs blo _ (List.mem_of_getElem? ed)
        have eg : (gpC xs)[i]? = some (ownL (y - x - 1).toNat) := by
          unfold gpC
          rw [List.getElem?_map, eb, ed]
          rfl
        have n90 : (y - x - 1).toNat < 2 ^ 90 := Nat.lt_of_le_of_lt (show (y - x - 1).toNat ≤ (y - x).natAbs by omega) (Nat.lt_trans d2 (by decide))
        have gs : (gpC xs).flatten = ((gpC xs).take i).flatten ++ (ownL (y - x - 1).toNat ++ ((gpC xs).drop (i + 1)).flatten) := by
          conv => lhs; rw [← List.take_append_drop i (gpC xs), List.flatten_append]
          obtain ⟨hg, eg2⟩ := List.getElem?_eq_some_iff.mp eg
          rw [List.drop_eq_getElem_cons hg, eg2, List.flatten_cons]
        have e3 : encB xs = (hdB xs ++ ((gpC xs).take i).flatten) ++ (ownL (y - x - 1).toNat ++ (((gpC xs).drop (i + 1)).flatten ++ (bkC xs).flatten)) := by
          rw [e0, gs]
          simp only [List.append_assoc]
        have nx : (hdB xs ++ ((gpC xs).take i).flatten).length + (ownL (y - x - 1).toNat).length = (hdB xs ++ ((gpC xs).take (i + 1)).flatten).length := by
          rw [List.take_add_one, eg, Option.toList_some, List.flatten_append, List.flatten_cons, List.flatten_nil, List.append_nil, ← List.append_assoc, List.length_append (as := hdB xs ++ ((gpC xs).take i).flatten)]
        have ol := own_len (y - x - 1).toNat
        have tot : (hdB xs ++ ((gpC xs).take i).flatten).length + (ownL (y - x - 1).toNat).length ≤ (encB xs).length := by
          rw [e3, List.length_append (as := hdB xs ++ ((gpC xs).take i).flatten), List.length_append (as := ownL _)]
          omega
        refine ⟨_, rfl, _, rfl, hdB xs ++ ((gpC xs).take i).flatten, _, (y - x - 1).toNat, by rw [← e3]; rfl, n90, by rw [← e3]; omega, fun u3 H4 s4 hu3 => ?_⟩
        refine ⟨u3, _, rfl, hu3, rfl, _, _, rfl, _, _, rfl, rfl, ?_⟩
        have hl4 := s4 _ _ hl
        have et : (b.take (i + 1)).map V.int = (b.take i).map V.int ++ [V.int x] := by
          rw [List.take_add_one, ex, Option.toList_some, List.map_append]
          rfl
        have et2 : (b.take (i + 1 + 1)).map V.int = (b.take (i + 1)).map V.int ++ [V.int y] := by
          rw [List.take_add_one (i := i + 1), ey, Option.toList_some, List.map_append]
          rfl
        refine ⟨_, rfl, .inl ⟨rfl, _, SqL.of hl4⟩, _, rfl, 1, rfl, l, _, -1, .int x, rfl, rfl, SqL.of hl4, (by rw [et]; exact atI_last _ _), _, rfl, _, _, rfl, rfl, _, _, rfl, rfl, l, _, _, rfl, rfl, hl4, small1000 (by omega), ?_⟩
        refine ⟨⟨i + 1, some (.int ((y - x - 1).toNat : Nat)), ?_, g1, same_put ((s1.trans s2).free nl) (sm.trans s4), ?_⟩, ?_⟩
        · rw [← nx]
          rfl
        · rw [upd_same, et2]
          show some (HO.lst (_ ++ [V.int (x + ((y - x - 1).toNat : Nat) + 1)])) = _
          rw [show x + ((y - x - 1).toNat : Nat) + 1 = y by omega]
        · obtain ⟨e1', e2'⟩ : ∃ a : Nat, (hdB xs ++ ((gpC xs).take i).flatten).length = a := ⟨_, rfl⟩
          obtain ⟨f1, f2⟩ : ∃ c : Nat, (ownL (y - x - 1).toNat).length = c := ⟨_, rfl⟩
          have key : (60000 - ((e1' + f1 : Nat) : Int)).toNat < (60000 - ((e1' : Nat) : Int)).toNat := by omega
          rw [← e2', ← f2] at key
          exact key
      · have g1 : i + 1 = b.length := by
          have : ¬ ((((b.take (i + 1)).map V.int).length : Nat) : Int) ≤ ((b.length - 1 : Nat) : Int) := fun z => g (decide_eq_true z)
          rw [lt] at this
          omega
        have eat : (hdB xs ++ ((gpC xs).take i).flatten).length = atB xs := by
          rw [← pl_end, show i = b.length - 1 by omega]
        have hl2 : NL Hc l b := by
          rw [List.take_of_length_le (by omega)] at hl
          exact hl
        rw [eat]
        have ew : Builtin.Int.intBits (((b.length - 1 : Nat) : Nat) : Int) = wdB xs := by
          rw [bits_nat (by omega)]
          unfold wdB
          rw [eb]
          rfl
        refine ⟨_, rfl, _, rfl, ?_⟩
        rw [ew]
        obtain ⟨A', eA⟩ : ∃ A' : List Nat, A' = hdB xs ++ (gpC xs).flatten := ⟨_, rfl⟩
        have lA : A'.length = atB xs := by
          rw [eA]
          rfl
        have e4 : encB xs = A' ++ ((bkC xs).flatten ++ []) := by
          rw [e0, eA, List.append_nil, List.append_assoc]
        refine ⟨_, rfl, _, rfl, _, rfl, _, rfl, A', [], bkC xs, wdB xs, ?_, fun c hc => bkC_in hc, by omega, ?_, by rw [← e4]; omega, fun m H5 s5 nm hm => ?_⟩
        · rw [← e4, lA]
          unfold bkC
          rw [List.length_map]
          rfl
        · unfold bkC
          rw [List.length_map]
          omega
        rw [book_codes] at hm
        refine ⟨m, _, rfl, SqL.of hm, for_enumL (xs := xs.map fun x => V.int ((bookOf xs).idxOf x : Nat)) (fun i σ Hd => ∃ z1 z2 z3, σ = [some (.str (S (encB xs))), some (.int (xs.length : Nat)), some (.int (b.length - 1 : Nat)), some (.int (atB xs : Nat)), some (.int (tN b0 : Nat)), some (.ref l), z1, some (.int (wdB xs : Nat)), z2, z3] ∧ Same H5 Hd) ?_ ?_ ?_ ?_⟩
        · exact ⟨_, _, _, rfl, Same.refl _⟩
        · rintro i σ Hd _ ⟨_, _, _, rfl, sd⟩
          exact SqL.of (sd _ _ hm)
        · rintro i x T σ Hd ex ⟨_, _, _, rfl, sd⟩ nT
          rw [List.getElem?_map] at ex
          obtain ⟨y, ey, rfl⟩ := Option.map_eq_some_iff.mp ex
          have lt : (bookOf xs).idxOf y < (bookOf xs).length := List.idxOf_lt_length_of_mem (((book_is xs).2 y).mpr (List.mem_of_getElem? ey))
          rw [eb] at lt ⊢
          refine ⟨T, _, rfl, SqT.of upd_same, rfl, _, _, rfl, _, _, rfl, rfl, _, rfl, _, rfl, _, _, rfl, rfl, false, congrArg V.bl (decide_eq_false (by omega)), if_f ?_⟩
          exact ⟨_, _, _, rfl, sd.trans (same_new nT)⟩
        · rintro σ Hd ⟨_, _, _, rfl, sd⟩
          refine ⟨_, rfl, _, rfl, _, rfl, _, rfl, encB xs, atB xs, wdB xs, xs.length, rfl, by omega, by omega, l1.symm, ?_⟩
          refine ⟨_, rfl, _, rfl, _, rfl, by show 3 ≤ sizeLine; decide, fun t nt => ?_⟩
          have sf := (s5.trans sd).trans (same_new (o := .tup [.int (atB xs : Nat), .int (wdB xs : Nat), .ref l]) nt)
          exact q t l _ (sm.trans sf) ((s1.trans s2).free nl) upd_same (by rw [eb]; exact sf _ _ hl2)
    · rintro σ Hc Q1 Q2 h ⟨_, r, p, ys, e, sq, z⟩
      obtain ⟨_, r2, _, _, e3, e4, bb, e5, z⟩ := z
      exact ⟨_, r, p, ys, e, sq, _, r2, _, _, e3, e4, bb, e5, h _ _ z⟩
end
end Tg

namespace Tg
open PySem PySem.Spec PyProof.Rows L2
open SX (S)
abbrev sGO : Stmt := topS 35
abbrev sWI : Stmt := topS 38
abbrev sNI : Stmt := topS 37
abbrev sPk : Stmt := topS 39
abbrev sCI : Stmt := inCls (topS 36) 0
abbrev sCE : Stmt := inCls (topS 36) 1
abbrev sCL : Stmt := inCls (topS 36) 2
abbrev sCU : Stmt := inCls (topS 36) 3
abbrev NNI : List Str := ["column", "start", "end", "at", "width", "told", "codes", "code"]
theorem scGO : FnScope ["way", "bits", "many"] ["way", "bits", "many"] (defScope sGO) := ⟨rfl, rfl, rfl, by decide +kernel, rfl, by decide +kernel, by decide +kernel⟩
theorem scWI : FnScope ["column", "start", "end", "reader", "mark", "numbers", "passed", "place", "ahead"] ["column", "start", "end"] (defScope sWI) := ⟨rfl, rfl, rfl, by decide +kernel, rfl, by decide +kernel, by decide +kernel⟩
theorem scNI : FnScope NNI ["column", "start", "end"] (defScope sNI) := ⟨rfl, rfl, rfl, by decide +kernel, rfl, by decide +kernel, by decide +kernel⟩
theorem scCI : FnScope ["self", "way", "bits", "many"] ["self", "way", "bits", "many"] (defScope sCI) := ⟨rfl, rfl, rfl, by decide +kernel, rfl, by decide +kernel, by decide +kernel⟩
theorem scCE : FnScope ["self", "other"] ["self", "other"] (defScope sCE) := ⟨rfl, rfl, rfl, by decide +kernel, rfl, by decide +kernel, by decide +kernel⟩
theorem scCL : FnScope ["self"] ["self"] (defScope sCL) := ⟨rfl, rfl, rfl, by decide +kernel, rfl, by decide +kernel, by decide +kernel⟩
theorem scCU : FnScope ["self", "numbers", "passed"] ["self"] (defScope sCU) := ⟨rfl, rfl, rfl, by decide +kernel, rfl, by decide +kernel, by decide +kernel⟩
/-- what a column keeps to read its bits -/
def GdY (K : PySem.W.Frag) (H : Hp) (xs : List Int) (q : Addr) : Wy → Prop
  | .plain => SqT K H q [.int (atP xs : Nat), .int (wdP xs : Nat), .int (mnI xs)]
  | .book => ∃ l, SqT K H q [.int (atB xs : Nat), .int (wdB xs : Nat), .ref l] ∧ NL H l (bookOf xs)
  | .by W => ∃ ts : List Addr, H q = some (.lst (ts.map V.ref)) ∧ Mks K H W xs xs.length ts
theorem GdY.same {K : PySem.W.Frag} {H H' : Hp} {xs : List Int} {q : Addr} {y : Wy} (h : GdY K H xs q y) (s : Same H H') : GdY K H' xs q y := by
  cases y with
  | plain => exact sqT_kt (.of s) h
  | book =>
    obtain ⟨l, h1, h2⟩ := h
    exact ⟨l, sqT_kt (.of s) h1, s _ _ h2⟩
  | «by» W =>
    obtain ⟨ts, h1, h2⟩ := h
    exact ⟨ts, s _ _ h1, h2.kt (.of s)⟩
def Gd (K : PySem.W.Frag) (H : Hp) (y : Wy) (xs : List Int) (g : V) : Prop := ∃ q, g = .ref q ∧ (xs ≠ [] → GdY K H xs q y)
theorem Gd.same {K : PySem.W.Frag} {H H' : Hp} {xs : List Int} {g : V} {y : Wy} (h : Gd K H y xs g) (s : Same H H') : Gd K H' y xs g := by
  obtain ⟨q, h1, h2⟩ := h
  exact ⟨q, h1, fun ne => (h2 ne).same s⟩
/-- it stands, too, when a list that was there ahead is changed -/
def Apt (K : PySem.W.Frag) (H H' : Hp) (y : Wy) (xs : List Int) (g : V) : Prop := ∀ (p : Addr) (ys zs : List V), H p ≠ none → H' p = some (.lst ys) → Gd K (upd H' p (.lst zs)) y xs g
theorem apt_tup {K : PySem.W.Frag} {H H' : Hp} {xs : List Int} {q : Addr} (h : SqT K H' q [.int (atP xs : Nat), .int (wdP xs : Nat), .int (mnI xs)]) : Apt K H H' .plain xs (.ref q) := fun p ys zs _ e => ⟨q, rfl, fun _ => sqT_kt (KT.put e nfix_lst) h⟩
theorem apt_book {K : PySem.W.Frag} {H H' : Hp} {xs : List Int} {q l : Addr} (h : SqT K H' q [.int (atB xs : Nat), .int (wdB xs : Nat), .ref l]) (hl : NL H' l (bookOf xs)) (nl : H l = none) : Apt K H H' .book xs (.ref q) := fun p ys zs np e => ⟨q, rfl, fun _ => ⟨l, sqT_kt (KT.put e nfix_lst) h, by
  unfold NL
  rw [upd_ne (fun z => np (by rw [← z]; exact nl))]
  exact hl⟩⟩
theorem apt_by {K : PySem.W.Frag} {H H' : Hp} {xs : List Int} {q : Addr} {W : Way} {ts : List Addr} (h : H' q = some (.lst (ts.map V.ref))) (hm : Mks K H' W xs xs.length ts) (nl : H q = none) : Apt K H H' (.by W) xs (.ref q) := fun p ys zs np e => ⟨q, rfl, fun _ => ⟨ts, by
  rw [upd_ne (fun z => np (by rw [← z]; exact nl))]
  exact h, hm.kt (KT.put e nfix_lst)⟩⟩
section
variable {P : Program} {w : World} {K : PySem.W.Frag} {mg : Str → Option Value} {base : Heap} {f : Addr} {fd : FuncData} {k : Nat}
def spGO (K : PySem.W.Frag) : Sp := fun vs H Q _ => ∃ (xs : List Int) (y : Wy), vs = [.str y.nm, .str (S (bitsY y xs)), .int (xs.length : Nat)] ∧ Lo 70 xs ∧ xs.length ≤ 300 ∧ ∀ (g : V) (H' : Hp), Same H H' → Gd K H' y xs g → Apt K H H' y xs g → Q g H'
theorem ok_go (F : Fun K "guide_of" "guide_of" sGO f fd) (C_plain_head : Cal P w K mg base k "plain_head" ["bits", "many"] spPH) (C_book_head : Cal P w K mg base k "book_head" ["bits", "many"] spBH) (C_marks_by : Cal P w K mg base k "marks_by" ["way", "bits", "many"] (spMB K)) : FnOk P w K mg base CX0 (k + 1) f fd ["way", "bits", "many"] (spGO K) := by
  refine F.ok scGO (fun vs H Q E h => ?_) (fun cdv A outer s H vs Q E hr h => ?_)
  · obtain ⟨xs, y, rfl, _⟩ := h
    rfl
  · obtain ⟨xs, y, rfl, lo, few, q⟩ := h
    refine ⟨_, pss_cons (ps_if (pt_cmpR op_lt (pv 2) pe_int (nomark _))
        (pss_cons (ps_if (PW.pt (pw_or (pt_truth (pv 1) (fun _ => rfl)) (pw_or1 (pt_cmpR op_lt (pv 2) pe_int (nomark _)))))
          (pss_one ps_dead)
          pss_nil)
        (pss_one (ps_ret (pe_lst pa_nil))))
        pss_nil)
      (pss_cons (ps_if (pt_cmpR op_eq (pv 0) pe_str (nomark _))
        (pss_one (ps_ret (pe_cal C_plain_head (hr.mono (by omega)) (by rfl) (pa_cons (pv 1) (pa_cons (pv 2) pa_nil)))))
        pss_nil)
      (pss_cons (ps_if (pt_cmpR op_eq (pv 0) pe_str (nomark _))
        (pss_one (ps_ret (pe_cal C_book_head (hr.mono (by omega)) (by rfl) (pa_cons (pv 1) (pa_cons (pv 2) pa_nil)))))
        pss_nil)
      (pss_one (ps_ret (pe_cal C_marks_by (hr.mono (by omega)) (by rfl) (pa_cons (pv 0) (pa_cons (pv 1) (pa_cons (pv 2) pa_nil)))))))), ?_⟩
    by_cases c : xs = []
    · subst c
      refine ⟨_, rfl, _, _, rfl, rfl, true, rfl, if_t ?_⟩
      refine ⟨_, rfl, false, ⟨Nat.zero_le _, rfl⟩, if_f ⟨_, rfl, _, _, rfl, rfl, false, rfl, if_f ?_⟩⟩
      exact ⟨Nat.zero_le _, fun l nl => q _ _ (same_new nl) ⟨l, rfl, fun ne => absurd rfl ne⟩ fun p ys zs _ _ => ⟨l, rfl, fun ne => absurd rfl ne⟩⟩
    · have pos := List.length_pos_iff.mpr c
      have eb : bitsY y xs = encY y xs := if_neg c
      refine ⟨_, rfl, _, _, rfl, rfl, false, congrArg V.bl (decide_eq_false (by omega)), if_f ?_⟩
      rw [eb]
      cases y with
      | plain =>
        refine ⟨_, rfl, rfl, true, rfl, if_t ?_⟩
        exact ⟨_, rfl, _, rfl, xs, rfl, pos, few, lo, fun t H' s' ht => q _ H' s' ⟨t, rfl, fun _ => SqT.of ht⟩ (apt_tup (SqT.of ht))⟩
      | book =>
        refine ⟨_, rfl, rfl, false, rfl, if_f ⟨_, rfl, rfl, true, rfl, if_t ?_⟩⟩
        exact ⟨_, rfl, _, rfl, xs, rfl, pos, few, lo, fun t l H' s' nl ht hl => q _ H' s' ⟨t, rfl, fun _ => ⟨l, SqT.of ht, hl⟩⟩ (apt_book (SqT.of ht) hl nl)⟩
      | «by» W =>
        refine ⟨_, rfl, rfl, false, by cases W <;> rfl, if_f ⟨_, rfl, rfl, false, by cases W <;> rfl, if_f ?_⟩⟩
        exact ⟨_, rfl, _, rfl, _, rfl, W, xs, rfl, pos, few, lo, fun l ts H' s' nl hl hm => q _ H' s' ⟨l, rfl, fun _ => ⟨ts, hl, hm⟩⟩ (apt_by hl hm nl)⟩
end
end Tg

namespace Tg
open PySem PySem.Spec PyProof.Rows L2
open SX (S)
theorem scPk : FnScope ["numbers", "way", "chosen"] ["numbers", "way"] (defScope sPk) := ⟨rfl, rfl, rfl, by decide +kernel, rfl, by decide +kernel, by decide +kernel⟩
/-- the class Column by the top -/
structure TCol (K : PySem.W.Frag) (C : Addr) : Prop where
  cl : Cls K C
  no : ∀ n, n ∈ ["guide", "way", "bits", "many", "passed"] → PySem.W.findIn K (.ref C) n = some none
def colF (g : V) (y : Wy) (xs : List Int) (z : Int) : List (Str × V) := [("guide", g), ("way", .str y.nm), ("bits", .str (S (bitsY y xs))), ("many", .int (xs.length : Nat)), ("passed", .int z)]
/-- a column -/
def ColO (K : PySem.W.Frag) (C : Addr) (H : Hp) (a : Addr) (y : Wy) (xs : List Int) : Prop := ∃ dx g z, H a = some (.ins C dx (colF g y xs z)) ∧ Gd K H y xs g
theorem ColO.same {K : PySem.W.Frag} {C : Addr} {H H' : Hp} {a : Addr} {y : Wy} {xs : List Int} (h : ColO K C H a y xs) (s : Same H H') : ColO K C H' a y xs := by
  obtain ⟨dx, g, z, h1, h2⟩ := h
  exact ⟨dx, g, z, s _ _ h1, h2.same s⟩
theorem Gd.put {K : PySem.W.Frag} {C dx dx' p : Addr} {fs fs' : List (Str × V)} {H : Hp} {xs : List Int} {g : V} {y : Wy} (h : Gd K H y xs g) (hp : H p = some (.ins C dx fs)) : Gd K (upd H p (.ins C dx' fs')) y xs g := by
  obtain ⟨q, e, h2⟩ := h
  have kt : KT H (upd H p (.ins C dx' fs')) := KT.put hp nfix_ins
  refine ⟨q, e, fun ne => ?_⟩
  have z := h2 ne
  cases y with
  | plain => exact sqT_kt kt z
  | book =>
    obtain ⟨l, h1, h3⟩ := z
    refine ⟨l, sqT_kt kt h1, ?_⟩
    have lp : l ≠ p := fun e => by
      subst e
      unfold NL at h3
      rw [hp] at h3
      cases h3
    unfold NL
    rw [upd_ne lp]
    exact h3
  | «by» W =>
    obtain ⟨ts, h1, h3⟩ := z
    have qp : q ≠ p := fun e => by
      subst e
      rw [hp] at h1
      cases h1
    exact ⟨ts, by rw [upd_ne qp]; exact h1, h3.kt kt⟩
theorem upd_com {H : Hp} {a b : Addr} {x y : HO} (h : b ≠ a) : upd (upd H a x) b y = upd (upd H b y) a x := by
  funext c
  by_cases e1 : c = b
  · subst e1
    rw [upd_same, upd_ne h, upd_same]
  · rw [upd_ne e1]
    by_cases e2 : c = a
    · subst e2
      rw [upd_same, upd_same]
    · rw [upd_ne e2, upd_ne e2, upd_ne e1]
section
variable {P : Program} {w : World} {K : PySem.W.Frag} {mg : Str → Option Value} {base : Heap} {f : Addr} {fd : FuncData} {k : Nat} {C : Addr}
def spCI (K : PySem.W.Frag) (C : Addr) : Sp := fun vs H Q _ => ∃ (p dx : Addr) (xs : List Int) (y : Wy), vs = [.ref p, .str y.nm, .str (S (bitsY y xs)), .int (xs.length : Nat)] ∧ H p = some (.ins C dx []) ∧ Lo 70 xs ∧ xs.length ≤ 300 ∧
  ∀ (g : V) (H' : Hp), H' p = some (.ins C dx (colF g y xs 0)) → Gd K H' y xs g → (∀ (b : Addr) (ys zs : List V), b ≠ p → H b ≠ none → H' b = some (.lst ys) → Gd K (upd H' b (.lst zs)) y xs g) → (∀ b o, b ≠ p → H b = some o → H' b = some o) → Q .non H'
theorem ok_ci (F : Fun K "__init__" "Column.__init__" sCI f fd) (T : TCol K C) (C_guide_of : Cal P w K mg base k "guide_of" ["way", "bits", "many"] (spGO K)) : FnOk P w K mg base CX0 (k + 1) f fd ["self", "way", "bits", "many"] (spCI K C) := by
  refine F.ok scCI (fun vs H Q E h => ?_) (fun cdv A outer s H vs Q E hr h => ?_)
  · obtain ⟨p, dx, xs, y, rfl, _⟩ := h
    rfl
  · obtain ⟨p, dx, xs, y, rfl, hp, lo, few, q⟩ := h
    refine ⟨_, pss_cons (ps_fld (pv 0) (pe_cal C_guide_of (hr.mono (by omega)) (by rfl) (pa_cons (pv 1) (pa_cons (pv 2) (pa_cons (pv 3) pa_nil)))) rfl)
      (pss_cons (ps_fld (pv 0) (pv 1) rfl)
      (pss_cons (ps_fld (pv 0) (pv 2) rfl)
      (pss_cons (ps_fld (pv 0) (pv 3) rfl)
      (pss_one (ps_fld (pv 0) pe_int rfl))))), ?_⟩
    refine ⟨_, rfl, _, rfl, _, rfl, xs, y, rfl, lo, few, fun g H1 s1 hg apt => ?_⟩
    refine ⟨_, rfl, p, C, dx, _, rfl, s1 _ _ hp, T.cl, T.no _ (by decide), (by show 0 < 1000; decide), ?_⟩
    refine ⟨_, rfl, _, rfl, p, C, dx, _, rfl, upd_same, T.cl, T.no _ (by decide), (by show 1 < 1000; decide), ?_⟩
    rw [upd_upd]
    refine ⟨_, rfl, _, rfl, p, C, dx, _, rfl, upd_same, T.cl, T.no _ (by decide), (by show 2 < 1000; decide), ?_⟩
    rw [upd_upd]
    refine ⟨_, rfl, _, rfl, p, C, dx, _, rfl, upd_same, T.cl, T.no _ (by decide), (by show 3 < 1000; decide), ?_⟩
    rw [upd_upd]
    refine ⟨_, rfl, p, C, dx, _, rfl, upd_same, T.cl, T.no _ (by decide), (by show 4 < 1000; decide), ?_⟩
    rw [upd_upd]
    exact q g _ upd_same (hg.put (s1 _ _ hp)) (fun b ys zs hb nb e => by
      rw [upd_ne hb] at e
      rw [upd_com hb]
      exact (apt b ys zs nb e).put (by rw [upd_ne hb.symm]; exact s1 _ _ hp)) fun b o hb e => by
      rw [upd_ne hb]
      exact s1 _ _ e
def spCL (K : PySem.W.Frag) (C : Addr) : Sp := fun vs H Q _ => ∃ (a : Addr) (y : Wy) (xs : List Int), vs = [.ref a] ∧ ColO K C H a y xs ∧ xs.length ≤ 300 ∧ Q (.int (xs.length : Nat)) H
theorem ok_cl (F : Fun K "__len__" "Column.__len__" sCL f fd) (T : TCol K C) (m_len : mg "len" = none) (m_range : mg "range" = none) : FnOk P w K mg base CX0 (k + 1) f fd ["self"] (spCL K C) := by
  refine F.ok scCL (fun vs H Q E h => ?_) (fun cdv A outer s H vs Q E hr h => ?_)
  · obtain ⟨a, y, xs, rfl, _⟩ := h
    rfl
  · obtain ⟨a, y, xs, rfl, ⟨dx, g, z, ha, _⟩, few, q⟩ := h
    refine ⟨_, pss_one (ps_ret (pe_lenR (by rfl) m_len (by rfl) m_range (pa_cons (pe_fld (pv 0) rfl) pa_nil))), ?_⟩
    exact ⟨_, rfl, a, C, dx, _, _, rfl, ha, T.cl, T.no _ (by decide), rfl, xs.length, rfl, by omega, q⟩
end
end Tg

namespace Tg
open PySem PySem.Spec PyProof.Rows L2
open SX (S)
/-- a part of numbers -/
def prt (xs : List Int) (s e : Nat) : List Int := (xs.drop s).take (e - s)
theorem prt_next {xs : List Int} {s p : Nat} {x : Int} (h : s ≤ p) (e : xs[p]? = some x) : prt xs s (p + 1) = prt xs s p ++ [x] := by
  unfold prt
  rw [show p + 1 - s = (p - s) + 1 by omega, List.take_add_one, List.getElem?_drop, show s + (p - s) = p by omega, e]
  rfl
theorem prt_none {xs : List Int} {s p : Nat} (h : p ≤ s) : prt xs s p = [] := by
  unfold prt
  rw [show p - s = 0 by omega, List.take_zero]
theorem prt_all (xs : List Int) : prt xs 0 xs.length = xs := by
  unfold prt
  rw [Nat.sub_zero, List.drop_zero, List.take_length]
theorem prt_len {xs : List Int} {s e : Nat} (h : e ≤ xs.length) : (prt xs s e).length = e - s := by
  unfold prt
  simp only [List.length_take, List.length_drop]
  omega
section
variable {P : Program} {w : World} {K : PySem.W.Frag} {mg : Str → Option Value} {base : Heap} {f : Addr} {fd : FuncData} {k : Nat} {C : Addr}
def spWI (K : PySem.W.Frag) (C : Addr) : Sp := fun vs H Q _ => ∃ (a : Addr) (W : Way) (xs : List Int) (s e : Nat), vs = [.ref a, .int (s : Nat), .int (e : Nat)] ∧ ColO K C H a (.by W) xs ∧ s < e ∧ e ≤ xs.length ∧ Lo 70 xs ∧ xs.length ≤ 300 ∧
  ∀ (t l : Addr) (z : Int) (H' : Hp), Same H H' → H l = none → H' t = some (.tup [.ref l, .int z]) → NL H' l (prt xs s e) → 0 ≤ z → z ≤ 31 → Q (.ref t) H'
theorem ok_wi {RD : Addr} {t32 : Tok} (F : Fun K "walked_in" "walked_in" sWI f fd) (T : TCol K C) (Z : Rds P w K mg base k RD) (g_READERS : mg "READERS" = some (.ref RD)) (g_SPAN : mg "SPAN" = some (.int 32 t32)) (m_range : mg "range" = none) : FnOk P w K mg base CX0 (k + 1) f fd ["column", "start", "end"] (spWI K C) := by
  refine F.ok scWI (fun vs H Q E h => ?_) (fun cdv A outer s H vs Q E hr h => ?_)
  · obtain ⟨a, W, xs, s, e, rfl, _⟩ := h
    rfl
  · obtain ⟨a, W, xs, b, e, rfl, ⟨dx, g, pz, ha, q0, rfl, gd⟩, be, en, lo, few, q⟩ := h
    have HR : ∀ g sp, (fun g => if g = Z.fn W then some (spRd K W) else none) g = some sp → Held P w K mg base k g sp := fun g sp e => by
      dsimp only at e
      split at e
      · rename_i eg
        subst eg
        cases e
        exact Z.ex W
      · cases e
    refine ⟨_, pss_cons (ps_set (i := 3) scWI.nd rfl (.inl rfl) (pe_ix ix_kdict (pe_glob (v := .ref RD) rfl g_READERS rfl) (pe_fld (pv 0) rfl) (fun _ _ => rfl)))
      (pss_cons (ps_set (i := 4) scWI.nd rfl (.inl rfl) (pe_ix ix_list (pe_fld (pv 0) rfl) (pe_op op_fdiv (pv 1) (pe_glob (v := .int 32) rfl g_SPAN ⟨_, rfl⟩)) (fun _ _ => rfl)))
      (pss_cons (ps_set (i := 5) scWI.nd rfl (.inl rfl) (pe_lst pa_nil))
      (pss_cons (ps_set (i := 6) scWI.nd rfl (.inl rfl) pe_int)
      (pss_cons (ps_for PassesOwn.never rfl (pi_range2 (by rfl) m_range (pa_cons (pe_op op_sub (pv 1) (pe_op op_mod (pv 1) (pe_glob (v := .int 32) rfl g_SPAN ⟨_, rfl⟩))) (pa_cons (pv 2) pa_nil))) (pg_name (i := 7) scWI.nd rfl (.inl rfl))
        (pss_cons (ps_set (i := 8) scWI.nd rfl (.inl rfl) (pe_ix ix_tup (pv 4) pe_int (fun _ _ => rfl)))
        (pss_cons (ps_set (i := 4) scWI.nd rfl (.inl rfl) (pe_callA (i := 3) HR (hr.mono (by omega)) rfl (.inl rfl) (pa_cons (pe_fld (pv 0) rfl) (pa_cons (pv 4) (pa_cons (pe_op op_sub (pe_fld (pv 0) rfl) (pv 7)) pa_nil)))))
        (pss_cons (ps_if (pt_cmpR op_ge (pv 7) (pv 1) (nomark _))
          (pss_one (ps_expr (pe_bm PySem.F.plainAttrs_list PySem.F.slot_list_append PySem.F.type_list_append mt_append (pv 5) (pa_cons (pe_ix ix_tup (pv 4) pe_int (fun _ _ => rfl)) pa_nil))))
          pss_nil)
        (pss_one (ps_if (PW.pt (pw_and (pt_cmpR op_lt (pv 7) (pv 1) (nomark _)) (pw_and1 (pt_cmpR op_gt (pe_ix ix_tup (pv 4) pe_int (fun _ _ => rfl)) (pv 8) (nomark _)))))
          (pss_one (ps_aug (i := 6) scWI.nd rfl (.inl rfl) pe_int ip_add))
          (pss_one (ps_if (PW.pt (pw_and (pt_cmpR op_eq (pv 7) (pv 1) (nomark _)) (pw_and (pt_cmpR op_eq (pe_ix ix_tup (pv 4) pe_int (fun _ _ => rfl)) (pv 8) (nomark _)) (pw_and1 (pt_cmpR op_gt (pv 6) pe_int (nomark _))))))
            (pss_one (ps_aug (i := 6) scWI.nd rfl (.inl rfl) pe_int ip_sub))
            pss_nil))))))))
      (pss_one (ps_ret (pe_tup (pa_cons (pv 5) (pa_cons (pv 6) pa_nil))))))))), ?_⟩
    have ne : xs ≠ [] := fun z => by
      subst z
      exact absurd en (by show ¬ e ≤ 0; omega)
    obtain ⟨ts, hq, mks⟩ := gd ne
    have eb : bitsY (.by W) xs = enc W xs := if_neg ne
    unfold colF at ha
    rw [eb] at ha
    obtain ⟨b0, hb0⟩ : ∃ b0, b0 = 32 * (b / 32) := ⟨_, rfl⟩
    have jt : b / 32 < ts.length := by
      rw [mks.1]
      omega
    obtain ⟨t, et⟩ : ∃ t, ts[b / 32]? = some t := ⟨_, List.getElem?_eq_getElem jt⟩
    obtain ⟨m, hm1, hm2⟩ := mks.2 _ t et
    refine ⟨_, rfl, a, C, dx, _, _, rfl, ha, T.cl, T.no _ (by decide), rfl, RD, (Wy.by W).nm, .ref (Z.fn W), rfl, rfl, Z.dct W, ?_⟩
    refine ⟨_, rfl, a, C, dx, _, _, rfl, ha, T.cl, T.no _ (by decide), rfl, _, rfl, _, _, rfl, rfl, ⟨by decide, by decide⟩, q0, _, _, .ref t, rfl, rfl, SqL.of hq, ?_, Nat.zero_le _, fun l nl => ?_⟩
    · exact atI_nat (j := b / 32) (by rw [List.getElem?_map, et]; rfl)
    have s1 := same_new (o := .lst []) nl
    have e0 : ((b : Nat) : Int) - ((b : Nat) : Int) % 32 = ((b0 : Nat) : Int) := by omega
    refine ⟨_, rfl, _, rfl, _, _, rfl, rfl, (by show (0 : Int) < 32; decide), _, _, rfl, rfl, _, rfl, _, _, rfl, ?_, ?_⟩
    · rw [e0]
      exact ⟨by omega, by omega, by omega, by omega⟩
    rw [e0, show (((e : Nat) : Int) - ((b0 : Nat) : Int)).toNat = e - b0 by omega]
    refine for_range (n := e - b0) (fun i σ Hc => ∃ (t : Addr) (m : Mrk) (z : Int) (z7 z8 : Option V), σ = [some (.ref a), some (.int (b : Nat)), some (.int (e : Nat)), some (.ref (Z.fn W)), some (.ref t), some (.ref l), some (.int z), z7, z8] ∧ Same H Hc ∧ NL Hc l (prt xs b (b0 + i)) ∧ SqT K Hc t (mkV m) ∧ MkA W xs (b0 + i) m ∧ 0 ≤ z ∧ z ≤ i ∧ z ≤ b - b0) ?_ ?_ ?_
    · refine ⟨t, m, 0, _, _, rfl, s1, ?_, sqT_kt (.of s1) hm1, ?_, Int.le_refl _, by omega, by omega⟩
      · rw [prt_none (by omega)]
        exact upd_same
      · rw [hb0]
        exact hm2
    · rintro i σ Hc hi ⟨t, m, z, z7, z8, rfl, sm, hl, ht, hm, z0, zi, zb⟩
      rw [show ((b0 : Nat) : Int) + ((i : Nat) : Int) = ((b0 + i : Nat) : Int) by omega]
      have hac := sm _ _ ha
      have hlen : (prt xs b (b0 + i)).length ≤ 300 := by
        rw [prt_len (by omega)]
        omega
      refine ⟨_, rfl, t, _, 0, .int (m.1 : Nat), rfl, rfl, ht, rfl, ?_⟩
      refine ⟨Z.fn W, _, rfl, if_pos rfl, _, rfl, a, C, dx, _, _, rfl, hac, T.cl, T.no _ (by decide), rfl, _, rfl, _, rfl, a, C, dx, _, _, rfl, hac, T.cl, T.no _ (by decide), rfl, _, rfl, _, _, rfl, rfl, ?_⟩
      dsimp only [tNil]
      refine ⟨t, xs, b0 + i, m, rfl, ht, hm, by omega, lo, few, fun t' m' H' s' ht' hm' ex le => ?_⟩
      have hl' : NL H' l (prt xs b (b0 + i)) := s' _ _ hl
      by_cases c1 : b ≤ b0 + i
      · refine ⟨_, rfl, _, rfl, _, _, rfl, rfl, true, congrArg V.bl (decide_eq_true (by omega)), if_t ?_⟩
        refine ⟨_, rfl, .inl ⟨rfl, _, SqL.of hl'⟩, _, rfl, t', _, 1, .int m'.2.1, rfl, rfl, SqT.of ht', rfl, l, _, _, rfl, rfl, hl', by rw [List.length_map]; exact small1000 (by omega), ?_⟩
        obtain ⟨H2, e2⟩ : ∃ H2, upd H' l (.lst ((prt xs b (b0 + i)).map V.int ++ [.int m'.2.1])) = H2 := ⟨_, rfl⟩
        have hl2 : NL H2 l (prt xs b (b0 + (i + 1))) := by
          unfold NL
          rw [← e2, upd_same, show b0 + (i + 1) = (b0 + i) + 1 by omega, prt_next c1 ex, List.map_append]
          rfl
        have sm2 : Same H H2 := by
          rw [← e2]
          exact same_put nl (sm.trans s')
        have ht2 : SqT K H2 t' (mkV m') := by
          rw [← e2]
          exact sqT_kt (KT.put hl' nfix_lst) (SqT.of ht')
        rw [e2]
        have fin : ∀ z' : Int, 0 ≤ z' → z' ≤ z → ∃ (t : Addr) (m : Mrk) (zz : Int) (z7 z8 : Option V), [some (V.ref a), some (.int (b : Nat)), some (.int (e : Nat)), some (.ref (Z.fn W)), some (.ref t'), some (.ref l), some (.int z'), some (.int (b0 + i : Nat)), some (.int (m.1 : Nat))] = [some (.ref a), some (.int (b : Nat)), some (.int (e : Nat)), some (.ref (Z.fn W)), some (.ref t), some (.ref l), some (.int zz), z7, z8] ∧ Same H H2 ∧ NL H2 l (prt xs b (b0 + (i + 1))) ∧ SqT K H2 t (mkV m) ∧ MkA W xs (b0 + (i + 1)) m ∧ 0 ≤ zz ∧ zz ≤ (i + 1 : Nat) ∧ zz ≤ b - b0 := fun z' h1 h2 =>
          ⟨t', m', z', _, _, rfl, sm2, hl2, ht2, hm', h1, by omega, by omega⟩
        refine ⟨_, rfl, _, rfl, _, _, rfl, rfl, false, congrArg V.bl (decide_eq_false (by omega)), if_f (if_f ?_)⟩
        refine ⟨_, rfl, _, rfl, rfl, _, rfl, ite2 (fun _ => ?_) (fun _ => if_f ⟨t', m', z, _, _, rfl, sm2, hl2, ht2, hm', by omega, by omega, by omega⟩)⟩
        refine ⟨_, rfl, t', _, 0, .int (m'.1 : Nat), rfl, rfl, ht2, rfl, _, rfl, rfl, _, rfl, ite2 (fun _ => ?_) (fun _ => if_f ⟨t', m', z, _, _, rfl, sm2, hl2, ht2, hm', by omega, by omega, by omega⟩)⟩
        refine ⟨_, rfl, _, _, rfl, rfl, _, rfl, ite2 (fun g => ?_) (fun _ => ⟨t', m', z, _, _, rfl, sm2, hl2, ht2, hm', by omega, by omega, by omega⟩)⟩
        have zp : z > 0 := of_decide_eq_true g
        exact ⟨_, rfl, _, _, rfl, rfl, ⟨t', m', z - 1, _, _, rfl, sm2, hl2, ht2, hm', by omega, by omega, by omega⟩⟩
      · refine ⟨_, rfl, _, rfl, _, _, rfl, rfl, false, congrArg V.bl (decide_eq_false (by omega)), if_f ?_⟩
        have hl2 : NL H' l (prt xs b (b0 + (i + 1))) := by
          rw [prt_none (by omega)] at hl' ⊢
          exact hl'
        have fin : ∀ z' : Int, 0 ≤ z' → z' ≤ z + 1 → ∃ (t : Addr) (m : Mrk) (zz : Int) (z7 z8 : Option V), [some (V.ref a), some (.int (b : Nat)), some (.int (e : Nat)), some (.ref (Z.fn W)), some (.ref t'), some (.ref l), some (.int z'), some (.int (b0 + i : Nat)), some (.int (m.1 : Nat))] = [some (.ref a), some (.int (b : Nat)), some (.int (e : Nat)), some (.ref (Z.fn W)), some (.ref t), some (.ref l), some (.int zz), z7, z8] ∧ Same H H' ∧ NL H' l (prt xs b (b0 + (i + 1))) ∧ SqT K H' t (mkV m) ∧ MkA W xs (b0 + (i + 1)) m ∧ 0 ≤ zz ∧ zz ≤ (i + 1 : Nat) ∧ zz ≤ b - b0 := fun z' h1 h2 =>
          ⟨t', m', z', _, _, rfl, sm.trans s', hl2, SqT.of ht', hm', h1, by omega, by omega⟩
        refine ⟨_, rfl, _, rfl, _, _, rfl, rfl, true, congrArg V.bl (decide_eq_true (by omega)), if_t ?_⟩
        refine ⟨_, rfl, t', _, 0, .int (m'.1 : Nat), rfl, rfl, SqT.of ht', rfl, _, rfl, _, _, rfl, rfl, _, rfl, ite2 (fun _ => ?_) (fun _ => ?_)⟩
        · exact ⟨_, rfl, _, _, rfl, rfl, ⟨t', m', z + 1, _, _, rfl, sm.trans s', hl2, SqT.of ht', hm', by omega, by omega, by omega⟩⟩
        · refine ⟨_, rfl, _, rfl, rfl, false, congrArg V.bl ?_, if_f (if_f ⟨t', m', z, _, _, rfl, sm.trans s', hl2, SqT.of ht', hm', by omega, by omega, by omega⟩)⟩
          rw [dec_int]
          exact decide_eq_false (p := _) (by omega)
    · rintro σ Hc ⟨t, m, z, z7, z8, rfl, sm, hl, ht, hm, z0, zi, zb⟩
      refine ⟨_, rfl, _, rfl, by show 2 ≤ sizeLine; decide, fun u nu => ?_⟩
      have s2 := same_new (o := .tup [.ref l, .int z]) nu
      refine q u l z _ (sm.trans s2) nl upd_same ?_ z0 (by omega)
      rw [show b0 + (e - b0) = e by omega] at hl
      exact s2 _ _ hl
end
end Tg

namespace Tg
open PySem PySem.Spec PyProof.Rows L2
open SX (S)
theorem flat3 (ls : List (List Nat)) {s e : Nat} (h : s ≤ e) : ls.flatten = (ls.take s).flatten ++ (((ls.drop s).take (e - s)).flatten ++ (ls.drop e).flatten) := by
  conv => lhs; rw [← List.take_append_drop s ls, List.flatten_append, ← List.take_append_drop (e - s) (ls.drop s), List.flatten_append, List.drop_drop, show s + (e - s) = e by omega]
theorem rc_part {hd : List Nat} {ls : List (List Nat)} {v s e : Nat} {H : Hp} {Q : VK} {E : XK} (each : ∀ c, c ∈ ls → c.length = v ∧ ∀ d, d ∈ c → IsBin d) (se : s ≤ e) (en : e ≤ ls.length) (v6 : v ≤ 600) (n2 : ls.length ≤ 360) (big : (hd ++ ls.flatten).length ≤ 60000)
    (q : ∀ (m : Addr) (H' : Hp), Same H H' → H m = none → H' m = some (.lst (((ls.drop s).take (e - s)).map fun c => V.int (binNum c : Nat))) → Q (.ref m) H') : spRC [.str (S (hd ++ ls.flatten)), .int (((hd.length : Nat) : Int) + ((s : Nat) : Int) * ((v : Nat) : Int)), .int (v : Nat), .int (((e : Nat) : Int) - ((s : Nat) : Int))] H Q E := by
  have e1 : hd ++ ls.flatten = (hd ++ (ls.take s).flatten) ++ (((ls.drop s).take (e - s)).flatten ++ (ls.drop e).flatten) := by
    rw [flat3 ls se, List.append_assoc]
  refine ⟨hd ++ (ls.take s).flatten, (ls.drop e).flatten, (ls.drop s).take (e - s), v, ?_, fun c hc => each c (List.mem_of_mem_drop (List.mem_of_mem_take hc)), v6, ?_, by rw [← e1]; exact big, q⟩
  · rw [← e1, List.length_append, flat_same (w := v) fun l h => (each l (List.mem_of_mem_take h)).1, List.length_take, List.length_take, List.length_drop, Nat.min_eq_left (by omega), Nat.min_eq_left (by omega), Int.natCast_add, Int.natCast_mul, Int.natCast_sub se]
  · rw [List.length_take, List.length_drop]
    omega
theorem part_P {xs : List Int} (ne : xs ≠ []) (s e : Nat) : (((plC xs).drop s).take (e - s)).map (fun c => V.int (binNum c : Nat)) = (prt xs s e).map fun x => V.int (x - mnI xs) := by
  unfold plC prt
  rw [← List.map_drop, ← List.map_take, List.map_map]
  refine List.map_congr_left fun x hx => ?_
  have hx' := List.mem_of_mem_drop (List.mem_of_mem_take hx)
  have h1 := (mnI_is ne).2 x hx'
  have h2 := (mxI_is ne).2 x hx'
  show V.int (binNum (bt (wdP xs) _) : Nat) = _
  rw [num_bt, Nat.mod_eq_of_lt, Int.toNat_of_nonneg (by omega)]
  exact Nat.lt_of_le_of_lt (show (x - mnI xs).toNat ≤ (mxI xs - mnI xs).toNat by omega) (lt_blen _)
theorem part_B {xs : List Int} (s e : Nat) : (((bkC xs).drop s).take (e - s)).map (fun c => V.int (binNum c : Nat)) = (prt xs s e).map fun x => V.int ((bookOf xs).idxOf x : Nat) := by
  have z := book_codes (xs := xs)
  unfold prt
  rw [List.map_take, List.map_take, List.map_drop, List.map_drop, z]
section
variable {P : Program} {w : World} {K : PySem.W.Frag} {mg : Str → Option Value} {base : Heap} {f : Addr} {fd : FuncData} {k : Nat} {C : Addr}
/-- whether a way is read from code to code -/
def Wy.walks : Wy → Bool
  | .by _ => true
  | _ => false
def spNI (K : PySem.W.Frag) (C : Addr) : Sp := fun vs H Q _ => ∃ (a : Addr) (y : Wy) (xs : List Int) (s e : Nat), vs = [.ref a, .int (s : Nat), .int (e : Nat)] ∧ ColO K C H a y xs ∧ s ≤ e ∧ e ≤ xs.length ∧ Lo 70 xs ∧ xs.length ≤ 300 ∧
  ∀ (t l : Addr) (z : Int) (H' : Hp), Same H H' → H l = none → H' t = some (.tup [.ref l, .int z]) → NL H' l (prt xs s e) → 0 ≤ z → z ≤ 31 → (y.walks = false → z = 0) → Q (.ref t) H'
theorem ok_ni {RD : Addr} (F : Fun K "numbers_in" "numbers_in" sNI f fd) (T : TCol K C) (has : ∀ y : Wy, KHas K w RD y.nm y.walks) (g_READERS : mg "READERS" = some (.ref RD)) (C_walked_in : Cal P w K mg base k "walked_in" ["column", "start", "end"] (spWI K C)) (C_read_codes : Cal P w K mg base k "read_codes" ["bits", "at", "width", "many"] spRC) : FnOk P w K mg base CX0 (k + 1) f fd ["column", "start", "end"] (spNI K C) := by
  refine F.ok scNI (fun vs H Q E h => ?_) (fun cdv A outer s H vs Q E hr h => ?_)
  · obtain ⟨a, y, xs, s, e, rfl, _⟩ := h
    rfl
  · obtain ⟨a, y, xs, b, e, rfl, ⟨dx, g, pz, ha, q0, rfl, gd⟩, be, en, lo, few, q⟩ := h
    refine ⟨_, pss_cons (ps_if (pt_cmpR op_eq (pv 1) (pv 2) (nomark _))
        (pss_one (ps_ret (pe_tup (pa_cons (pe_lst pa_nil) (pa_cons pe_int pa_nil)))))
        pss_nil)
      (pss_cons (ps_if (pt_cmpR op_khas (pe_fld (pv 0) rfl) (pe_glob (v := .ref RD) rfl g_READERS rfl) (by with_unfolding_all rfl))
        (pss_one (ps_ret (pe_cal C_walked_in (hr.mono (by omega)) (by rfl) (pa_cons (pv 0) (pa_cons (pv 1) (pa_cons (pv 2) pa_nil))))))
        pss_nil)
      (pss_cons (ps_asg (pe_fld (pv 0) rfl) (pg_tup rfl (pgs_cons (pg_name (i := 3) scNI.nd rfl (.inl rfl)) (pgs_cons (pg_name (i := 4) scNI.nd rfl (.inl rfl)) (pgs_cons (pg_name (i := 5) scNI.nd rfl (.inr rfl)) pgs_nil)))))
      (pss_cons (ps_set (i := 6) scNI.nd rfl (.inl rfl) (pe_cal C_read_codes (hr.mono (by omega)) (by rfl) (pa_cons (pe_fld (pv 0) rfl) (pa_cons (pe_op op_add (pv 3) (pe_op op_mul (pv 1) (pv 4))) (pa_cons (pv 4) (pa_cons (pe_op op_sub (pv 2) (pv 1)) pa_nil))))))
      (pss_cons (ps_if (pt_cmpR op_eq (pe_fld (pv 0) rfl) pe_str (nomark _))
        (pss_one (ps_ret (pe_tup (pa_cons (pe_lc (own := [("code", 7)]) (g := (gName 7)) (tt := tYes) rfl scNI.nd (pi_list (pv 6)) (blkOk_by (own := [("code", 7)]) (N := NNI) (sc := defScope sNI) (by decide +kernel)) (fun _ _ _ _ _ => (pg_name (i := 7) scNI.nd rfl (.inl rfl))) (fun _ _ _ _ _ => pts_nil) (fun _ _ _ _ _ => (pe_ix (r := rIxL K) ix_list (pv 5) (pv 7) (fun _ _ => rfl)))) (pa_cons pe_int pa_nil)))))
        pss_nil)
      (pss_one (ps_ret (pe_tup (pa_cons (pe_lc (own := [("code", 7)]) (g := (gName 7)) (tt := tYes) rfl scNI.nd (pi_list (pv 6)) (blkOk_by (own := [("code", 7)]) (N := NNI) (sc := defScope sNI) (by decide +kernel)) (fun _ _ _ _ _ => (pg_name (i := 7) scNI.nd rfl (.inl rfl))) (fun _ _ _ _ _ => pts_nil) (fun _ _ _ _ _ => (pe_op op_add (pv 5) (pv 7)))) (pa_cons pe_int pa_nil))))))))), ?_⟩
    by_cases c0 : b = e
    · refine ⟨_, rfl, _, rfl, rfl, true, congrArg V.bl (by rw [dec_int]; exact decide_eq_true (by omega)), if_t ⟨Nat.zero_le _, fun l nl => ⟨by show 2 ≤ sizeLine; decide, fun t nt => ?_⟩⟩⟩
      have s1 := same_new (o := .lst []) nl
      have s2 := same_new (o := .tup [.ref l, .int 0]) nt
      exact q t l 0 _ (s1.trans s2) nl upd_same (by rw [prt_none (by omega)]; exact s2 _ _ upd_same) (by decide) (by decide) fun _ => rfl
    refine ⟨_, rfl, _, rfl, rfl, false, congrArg V.bl (by rw [dec_int]; exact decide_eq_false (by omega)), if_f ?_⟩
    have ne : xs ≠ [] := fun z => by
      subst z
      exact absurd en (by show ¬ e ≤ 0; omega)
    have pos := List.length_pos_iff.mpr ne
    have gy := gd ne
    have eb : bitsY y xs = encY y xs := if_neg ne
    have ha0 := ha
    unfold colF at ha
    rw [eb] at ha
    refine ⟨_, rfl, a, C, dx, _, _, rfl, ha, T.cl, T.no _ (by decide), rfl, y.nm, RD, y.walks, rfl, rfl, has y, ?_⟩
    cases y with
    | «by» W =>
      refine ⟨true, rfl, if_t ?_⟩
      exact ⟨_, rfl, _, rfl, _, rfl, a, W, xs, b, e, rfl, ⟨dx, _, pz, ha0, q0, rfl, gd⟩, by omega, en, lo, few, fun t l z H' s' nl ht hl z0 z1 => q t l z H' s' nl ht hl z0 z1 fun w => nomatch w⟩
    | plain =>
      refine ⟨false, rfl, if_f ?_⟩
      obtain ⟨l1, l2, l3⟩ := encP_len pos few lo
      have sz : wdP xs * xs.length ≤ 71 * 300 := Nat.mul_le_mul l3 few
      have szb : b * wdP xs ≤ 300 * 71 := Nat.mul_le_mul (by omega) l3
      obtain ⟨hd, ehd⟩ : ∃ hd, hd = cd (mnI xs) ++ ownL (wdP xs) := ⟨_, rfl⟩
      have lh : hd.length = atP xs := by
        rw [ehd, List.length_append]
        rfl
      have ee : encY .plain xs = hd ++ (plC xs).flatten := by
        rw [ehd]
        rfl
      have lp : (plC xs).length = xs.length := by
        unfold plC
        rw [List.length_map]
      rw [ee] at ha
      have l1' : (hd ++ (plC xs).flatten).length = atP xs + wdP xs * xs.length := by
        rw [← ee]
        exact l1
      refine ⟨_, rfl, a, C, dx, _, _, rfl, ha, T.cl, T.no _ (by decide), rfl, q0, _, rfl, gy, rfl, _, _, rfl, _, _, rfl, _, _, rfl, rfl, ?_⟩
      refine ⟨_, rfl, a, C, dx, _, _, rfl, ha, T.cl, T.no _ (by decide), rfl, _, rfl, _, rfl, _, rfl, _, _, rfl, rfl, .inl ⟨by omega, by omega⟩, _, _, rfl, rfl, _, rfl, _, rfl, _, rfl, _, _, rfl, rfl, ?_⟩
      dsimp only [tNil]
      rw [← lh]
      refine rc_part (fun c hc => plC_in hc) be (by omega) (by omega) (by omega) (by omega) fun m H1 s1 nm hm => ?_
      rw [part_P ne] at hm
      refine ⟨_, rfl, a, C, dx, _, _, rfl, s1 _ _ ha, T.cl, T.no _ (by decide), rfl, rfl, false, rfl, if_f ?_⟩
      have ll := prt_len (s := b) en
      refine ⟨_, rfl, m, rfl, ⟨_, SqL.of hm⟩, fun D nD => lc_mapL (xs := (prt xs b e).map fun x => V.int (x - mnI xs)) ((prt xs b e).map V.int) (by simp) nD (SqL.of hm) (by rw [List.length_map]; exact small1000 (by omega)) (fun i x y Hc Q' hx hy sm q' => ?_) fun H6 s6 hD6 => ?_⟩
      · rw [List.getElem?_map] at hx hy
        obtain ⟨z, ez, rfl⟩ := Option.map_eq_some_iff.mp hx
        rw [ez] at hy
        cases hy
        refine ⟨rfl, _, rfl, _, rfl, _, _, rfl, rfl, ?_⟩
        dsimp only
        rw [show mnI xs + (z - mnI xs) = z by omega]
        exact q' Hc (Same.refl _)
      · refine ⟨by show 2 ≤ sizeLine; decide, fun t nt => ?_⟩
        have s7 := same_new (o := .tup [.ref D, .int 0]) nt
        exact q t D 0 _ ((s1.trans s6).trans s7) (s1.free nD) upd_same (s7 _ _ hD6) (by decide) (by decide) fun _ => rfl
    | book =>
      refine ⟨false, rfl, if_f ?_⟩
      obtain ⟨l1, l2, l3, bl, bp, blo, up⟩ := encB_len pos few lo
      obtain ⟨lb, gy1, gy2⟩ := gy
      have sz : wdB xs * xs.length ≤ 9 * 300 := Nat.mul_le_mul l3 few
      have szb : b * wdB xs ≤ 300 * 9 := Nat.mul_le_mul (by omega) l3
      obtain ⟨hd, ehd⟩ : ∃ hd, hd = ownL ((bookOf xs).length - 1) ++ cd ((bookOf xs).headD 0) ++ (gpC xs).flatten := ⟨_, rfl⟩
      have lh : hd.length = atB xs := by
        rw [ehd]
        rfl
      have ee : encY .book xs = hd ++ (bkC xs).flatten := by
        rw [ehd]
        rfl
      have lp : (bkC xs).length = xs.length := by
        unfold bkC
        rw [List.length_map]
      rw [ee] at ha
      have l1' : (hd ++ (bkC xs).flatten).length = atB xs + wdB xs * xs.length := by
        rw [← ee]
        exact l1
      refine ⟨_, rfl, a, C, dx, _, _, rfl, ha, T.cl, T.no _ (by decide), rfl, q0, _, rfl, gy1, rfl, _, _, rfl, _, _, rfl, _, _, rfl, rfl, ?_⟩
      refine ⟨_, rfl, a, C, dx, _, _, rfl, ha, T.cl, T.no _ (by decide), rfl, _, rfl, _, rfl, _, rfl, _, _, rfl, rfl, .inl ⟨by omega, by omega⟩, _, _, rfl, rfl, _, rfl, _, rfl, _, rfl, _, _, rfl, rfl, ?_⟩
      dsimp only [tNil]
      rw [← lh]
      refine rc_part (fun c hc => bkC_in hc) be (by omega) (by omega) (by omega) (by omega) fun m H1 s1 nm hm => ?_
      rw [part_B] at hm
      refine ⟨_, rfl, a, C, dx, _, _, rfl, s1 _ _ ha, T.cl, T.no _ (by decide), rfl, rfl, true, rfl, if_t ?_⟩
      have ll := prt_len (s := b) en
      refine ⟨_, rfl, m, rfl, ⟨_, SqL.of hm⟩, fun D nD => lc_mapL (xs := (prt xs b e).map fun x => V.int ((bookOf xs).idxOf x : Nat)) ((prt xs b e).map V.int) (by simp) nD (SqL.of hm) (by rw [List.length_map]; exact small1000 (by omega)) (fun i x y Hc Q' hx hy sm q' => ?_) fun H6 s6 hD6 => ?_⟩
      · rw [List.getElem?_map] at hx hy
        obtain ⟨z, ez, rfl⟩ := Option.map_eq_some_iff.mp hx
        rw [ez] at hy
        cases hy
        have zin : z ∈ xs := List.mem_of_mem_drop (List.mem_of_mem_take (List.mem_of_getElem? ez))
        have lt : (bookOf xs).idxOf z < (bookOf xs).length := List.idxOf_lt_length_of_mem (((book_is xs).2 z).mpr zin)
        refine ⟨rfl, _, rfl, _, rfl, lb, _, _, .int z, rfl, rfl, SqL.of (sm _ _ (s1 _ _ gy2)), atI_nat (j := (bookOf xs).idxOf z) ?_, q' Hc (Same.refl _)⟩
        rw [List.getElem?_map, List.getElem?_eq_getElem lt, List.getElem_idxOf lt]
        rfl
      · refine ⟨by show 2 ≤ sizeLine; decide, fun t nt => ?_⟩
        have s7 := same_new (o := .tup [.ref D, .int 0]) nt
        exact q t D 0 _ ((s1.trans s6).trans s7) (s1.free nD) upd_same (s7 _ _ hD6) (by decide) (by decide) fun _ => rfl
end
end Tg

namespace Tg
open PySem PySem.Spec PyProof.Rows L2 LamX
open SX (S)
theorem pe_dead {X : Cx} {e : Expr} : PE X e (fun _ _ _ => False) := ⟨fun _ _ _ _ _ _ h => h.elim⟩
/-- what isinstance asks of the class -/
structure TInC (K : PySem.W.Frag) (C : Addr) : Prop where
  cc : PySem.W.findIn K (.ref C) "__class__" = some (some (.builtin "object.__class__"))
  get : PySem.W.specialIn K (.builtin "object.__class__") "__get__" = some (some (.builtin "getset_descriptor.__get__"))
  takes : PySem.W.takesIn K (.builtin "object.__class__") = some true
  obj : PySem.W.mroIn K C (.type "object") = some true
  kit : PySem.W.kitOne K (.ref C) (.ref C) = some true
/-- whether columns are alike -/
def alk (y : Wy) (xs : List Int) (z : Wy) (ys : List Int) : Bool := decide (V.str y.nm = V.str z.nm) && (decide (V.str (S (bitsY y xs)) = V.str (S (bitsY z ys))) && decide (V.int (xs.length : Nat) = V.int (ys.length : Nat)))
/-- what the own == of a column says -/
def EqC (K : PySem.W.Frag) (C : Addr) (a : Addr) (v : V) (b : Bool) (H : Hp) : Prop :=
  (∃ (c : Addr) (y : Wy) (xs : List Int) (z : Wy) (ys : List Int), v = .ref c ∧ ColO K C H a y xs ∧ ColO K C H c z ys ∧ b = alk y xs z ys) ∨
  (∃ (y : Wy) (xs : List Int) (t : Value), ColO K C H a y xs ∧ TyX K H v t ∧ PySem.W.kitOne K t (.ref C) = some false ∧ b = false)
/-! ### the shortest way -/
def ways : List Wy := [.plain, .by .steps, .by .turns, .by .runs, .book]
def wayV : List V := ways.map fun y => V.str y.nm
def sizeAt (xs : List Int) (i : Nat) : Int := ((bitsY (ways.getD i .plain) xs).length : Nat)
def best (xs : List Int) : Wy := ways.getD (leastAt (sizeAt xs) 4) .plain
abbrev TT (PT : Addr) : List (Addr × Str) := [(PT, "pack.<locals>.<lambda>")]
theorem colO_ext {K : PySem.W.Frag} {C : Addr} {H H' : Hp} {a : Addr} {y : Wy} {xs : List Int} (s : ExtN H H') (h : ColO K C H a y xs) : ColO K C H' a y xs := by
  obtain ⟨dx, g, z, h1, q, eg, h2⟩ := h
  refine ⟨dx, g, z, s _ _ h1 (fun _ e => nomatch e), q, eg, fun ne => ?_⟩
  have h3 := h2 ne
  cases y with
  | plain => exact sqT_ext s h3
  | book =>
    obtain ⟨l, q1, q2⟩ := h3
    exact ⟨l, sqT_ext s q1, s _ _ q2 (fun _ e => nomatch e)⟩
  | «by» W =>
    obtain ⟨ts, q1, q2⟩ := h3
    exact ⟨ts, s _ _ q1 (fun _ e => nomatch e), q2.kt (ExtN.kt s)⟩
theorem nl_ext {H H' : Hp} {l : Addr} {xs : List Int} (s : ExtN H H') (h : NL H l xs) : NL H' l xs := s _ _ h (fun _ e => nomatch e)
theorem bits_len {y : Wy} {xs : List Int} (lo : Lo 70 xs) (few : xs.length ≤ 300) : (bitsY y xs).length ≤ 59000 := by
  by_cases c : xs = []
  · subst c
    exact Nat.zero_le _
  · have pos := List.length_pos_iff.mpr c
    have eb : bitsY y xs = encY y xs := if_neg c
    rw [eb]
    cases y with
    | plain =>
      obtain ⟨l1, l2, l3⟩ := encP_len pos few lo
      have sz : wdP xs * xs.length ≤ 71 * 300 := Nat.mul_le_mul l3 few
      show (encP xs).length ≤ _
      omega
    | book =>
      obtain ⟨l1, l2, l3, _⟩ := encB_len pos few lo
      have sz : wdB xs * xs.length ≤ 9 * 300 := Nat.mul_le_mul l3 few
      show (encB xs).length ≤ _
      omega
    | «by» W => exact Nat.le_trans (enc_short lo few) (by decide)
section
variable {P : Program} {w : World} {K : PySem.W.Frag} {mg : Str → Option Value} {base : Heap} {f : Addr} {fd : FuncData} {k : Nat} {C : Addr}
def spCU (K : PySem.W.Frag) (C : Addr) : Sp := fun vs H Q _ => ∃ (a : Addr) (y : Wy) (xs : List Int), vs = [.ref a] ∧ ColO K C H a y xs ∧ Lo 70 xs ∧ xs.length ≤ 300 ∧ ∀ (l : Addr) (H' : Hp), Same H H' → H l = none → NL H' l xs → Q (.ref l) H'
theorem ok_cu (F : Fun K "unpacked" "Column.unpacked" sCU f fd) (T : TCol K C) (C_numbers_in : Cal P w K mg base k "numbers_in" ["column", "start", "end"] (spNI K C)) : FnOk P w K mg base CX0 (k + 1) f fd ["self"] (spCU K C) := by
  refine F.ok scCU (fun vs H Q E h => ?_) (fun cdv A outer s H vs Q E hr h => ?_)
  · obtain ⟨a, y, xs, rfl, _⟩ := h
    rfl
  · obtain ⟨a, y, xs, rfl, ⟨dx, g, z, ha, gd⟩, lo, few, q⟩ := h
    refine ⟨_, pss_cons (ps_asg (pe_cal C_numbers_in (hr.mono (by omega)) (by rfl) (pa_cons (pv 0) (pa_cons pe_int (pa_cons (pe_fld (pv 0) rfl) pa_nil)))) (pg_tup rfl (pgs_cons (pg_name (i := 1) scCU.nd rfl (.inl rfl)) (pgs_cons (pg_name (i := 2) scCU.nd rfl (.inl rfl)) pgs_nil))))
      (pss_one (ps_ret (pv 1))), ?_⟩
    refine ⟨_, rfl, _, rfl, a, C, dx, _, _, rfl, ha, T.cl, T.no _ (by decide), rfl, a, y, xs, 0, xs.length, rfl, ⟨dx, g, z, ha, gd⟩, Nat.zero_le _, Nat.le_refl _, lo, few, fun t l p H' s' nl ht hl _ _ _ => ?_⟩
    refine ⟨t, _, rfl, SqT.of ht, rfl, _, _, rfl, _, _, rfl, rfl, _, rfl, q l H' s' nl ?_⟩
    rw [prt_all] at hl
    exact hl
theorem ok_ce (F : Fun K "__eq__" "Column.__eq__" sCE f fd) (T : TCol K C) (TI : TInC K C) (g_Column : mg "Column" = some (.ref C)) (m_isinstance : mg "isinstance" = none) : FnOk P w K mg base CX0 (k + 1) f fd ["self", "other"] (spEqB (EqC K C)) := by
  refine F.ok scCE (fun vs H Q E h => ?_) (fun cdv A outer s H vs Q E hr h => ?_)
  · obtain ⟨a, y, b, rfl, _⟩ := h
    rfl
  · obtain ⟨a, v, b, rfl, said, q⟩ := h
    refine ⟨_, pss_one (ps_ret (pe_and (pe_callB call_isi (by rfl) m_isinstance (by decide +kernel) (pa_cons (pv 1) (pa_cons (pe_glob (v := .ref C) rfl g_Column rfl) pa_nil))) (pe_and (pe_cmpR op_eq (pe_fld (pv 0) rfl) (pe_fld (pv 1) rfl) (nomark _)) (pe_and (pe_cmpR op_eq (pe_fld (pv 0) rfl) (pe_fld (pv 1) rfl) (nomark _)) (pe_one (pe_cmpR op_eq (pe_fld (pv 0) rfl) (pe_fld (pv 1) rfl) (nomark _))))))), ?_⟩
    rcases said with ⟨c, y, xs, z, ys, rfl, ⟨dA, gA, pA, eA, _⟩, ⟨dB, gB, pB, eB, _⟩, rfl⟩ | ⟨y, xs, t, _, ty, kt, rfl⟩
    · refine ⟨_, rfl, .ref c, .ref C, .ref C, .ref C, true, rfl, .own _, .base (.ins eB T.cl TI.cc TI.get TI.takes TI.obj), TI.kit, true, rfl, if_t ?_⟩
      refine ⟨_, rfl, a, C, dA, _, _, rfl, eA, T.cl, T.no _ (by decide), rfl, _, rfl, c, C, dB, _, _, rfl, eB, T.cl, T.no _ (by decide), rfl, rfl, _, rfl, ite2 (fun g1 => ?_) (fun g1 => ?_)⟩
      · refine ⟨_, rfl, a, C, dA, _, _, rfl, eA, T.cl, T.no _ (by decide), rfl, _, rfl, c, C, dB, _, _, rfl, eB, T.cl, T.no _ (by decide), rfl, rfl, _, rfl, ite2 (fun g2 => ?_) (fun g2 => ?_)⟩
        · refine ⟨_, rfl, a, C, dA, _, _, rfl, eA, T.cl, T.no _ (by decide), rfl, _, rfl, c, C, dB, _, _, rfl, eB, T.cl, T.no _ (by decide), rfl, rfl, ?_⟩
          have z := q H Ext.rfl'
          unfold alk at z
          rw [g1, g2, Bool.true_and, Bool.true_and] at z
          exact z
        · have z := q H Ext.rfl'
          unfold alk at z
          rw [Bool.eq_false_iff.mpr g2, Bool.false_and, Bool.and_false] at z
          exact z
      · have z := q H Ext.rfl'
        unfold alk at z
        rw [Bool.eq_false_iff.mpr g1, Bool.false_and] at z
        exact z
    · exact ⟨_, rfl, v, .ref C, t, .ref C, false, rfl, .own _, ty, kt, false, rfl, if_f (q H Ext.rfl')⟩
/-- new, or a table; there, and no table -/
def NewB (H : Hp) (a : Addr) : Prop := ∀ o, H a = some o → ∃ ps, o = .tbl ps
def OldB (H : Hp) (b : Addr) : Prop := ∃ o, H b = some o ∧ ∀ ps, o ≠ .tbl ps
theorem newB_of {H H1 : Hp} {a : Addr} (e : ExtN H H1) (n : H1 a = none) : NewB H a := fun o h => by
  cases o
  case tbl ps => exact ⟨ps, rfl⟩
  all_goals exact absurd (e _ _ h (fun _ z => nomatch z)) (by rw [n]; exact fun z => nomatch z)
theorem oldB_ne {H H1 : Hp} {b : Addr} (e : ExtN H H1) (h : OldB H b) : H1 b ≠ none := fun z => by
  obtain ⟨o, q, n⟩ := h
  rw [e _ _ q n] at z
  cases z
/-- a column whose last look passed z -/
def ColZ (K : PySem.W.Frag) (C : Addr) (H : Hp) (a : Addr) (y : Wy) (xs : List Int) (z : Int) : Prop := ∃ dx g, H a = some (.ins C dx (colF g y xs z)) ∧ Gd K H y xs g
/-- which way is meant by way= -/
def WayIs (w : V) (y : Wy) (xs : List Int) : Prop := w = .str y.nm ∨ (w = .non ∧ y = best xs)
def spPk (K : PySem.W.Frag) (C PT : Addr) : Sp := fun vs H Q _ => ∃ (l : Addr) (xs : List Int) (w : V) (y : Wy), vs = [.ref l, w] ∧ WayIs w y xs ∧ Tabs (TT PT) H ∧ NL H l xs ∧ Lo 70 xs ∧ xs.length ≤ 300 ∧
  ∀ (a : Addr) (H' : Hp), Grow (TT PT) H H' → NewB H a → ColZ K C H' a y xs 0 → (∀ (b : Addr) (ys zs : List V), OldB H b → H' b = some (.lst ys) → ColO K C (upd H' b (.lst zs)) a y xs) → Q (.ref a) H'
/-- the column made, of the way in chosen -/
def tCol (K : PySem.W.Frag) (C : Addr) : TE := fun σ H Q => ∃ (l : Addr) (xs : List Int) (w : V) (y : Wy), σ = [some (.ref l), some w, some (.str y.nm)] ∧ NL H l xs ∧ Lo 70 xs ∧ xs.length ≤ 300 ∧
  ∀ (a : Addr) (H' : Hp), Same H H' → H a = none → ColZ K C H' a y xs 0 → (∀ (b : Addr) (ys zs : List V), H b ≠ none → H' b = some (.lst ys) → ColO K C (upd H' b (.lst zs)) a y xs) → Q (.ref a) H'
theorem ok_pk {c PT WT : Addr} (F : FunC K "pack" "pack" sPk c f fd) (TB : TabB base mg c PT) (C_bits_by : Cal P w K mg base k "bits_by" ["numbers", "way"] spBB) (C_size_by : Cal P w K mg base k "size_by" ["numbers", "way"] spSB) (K_Column : CalC P w K mg base (k + 1) "Column" C ["self", "way", "bits", "many"] (spCI K C)) (g_WAYS : mg "WAYS" = some (.ref WT)) (kW : KTup K WT wayV) (m_len : mg "len" = none) (m_min : mg "min" = none) : FnOk P w K mg base CX0 (k + 3) f fd ["numbers", "way"] (spPk K C PT) := by
  refine F.ok scPk (fun vs H Q E h => ?_) (fun A outer s H vs Q E hr h => ?_)
  · obtain ⟨l, xs, v, y, rfl, _⟩ := h
    rfl
  · obtain ⟨l, xs, v, y, rfl, hw, tabs, hl, lo, few, q⟩ := h
    refine ⟨_, pss_cons (ps_set (i := 2) scPk.nd rfl (.inl rfl) (pe_ifExp (pt_cmpR op_isN (pv 1) pe_non (nomark _))
        (pe_minKey (T := TT PT) (c := c) (P := PT) (a := "told") (k := k + 1) (pe_glob (v := .ref WT) rfl g_WAYS rfl) (hr.mono (by omega)) TB rfl (List.mem_singleton.mpr rfl) (fun p hp _ => by rw [List.mem_singleton.mp hp]; rfl) rfl (by rfl) m_min (lam1_by (N := ["numbers", "way", "chosen"]) (sc := defScope sPk) (by decide +kernel))
          (fun A s' H' f c r => pe_cal C_size_by (r.deeper _) (by rfl) (pa_cons (pv 0) (pa_cons (pv 3) pa_nil))) (fun _ _ _ _ _ _ => rfl)) (pv 1)))
      (pss_one (ps_ret (pe_by (R := tCol K C) (pe_calC K_Column (hr.mono (by omega)) (by rfl) (pa_cons (pv 2) (pa_cons (pe_cal C_bits_by (hr.mono (by omega)) (by rfl) (pa_cons (pv 0) (pa_cons (pv 2) pa_nil))) (pa_cons (pe_callB call_len_seq (by rfl) m_len (by decide +kernel) (pa_cons (pv 0) pa_nil)) pa_nil)))) ?_))), ?_⟩
    · rintro σ H0 Q0 ⟨l, xs, w, y, rfl, hl, lo, few, q⟩
      refine ⟨_, rfl, _, rfl, _, rfl, l, xs, y, rfl, hl, lo, few, fun H1 s1 => ⟨_, rfl, l, _, rfl, .inl (SqL.of (s1 _ _ hl)), ?_⟩⟩
      intro a dx na nd da
      refine ⟨a, dx, xs, y, congrArg (fun n : Nat => [V.ref a, .str y.nm, .str (S (bitsY y xs)), .int (n : Nat)]) (List.length_map ..), upd_same, lo, few, fun g H2 h1 h2 h4 h3 => ⟨rfl, q a H2 (s1.trans fun b o e => ?_) (s1.free na) ⟨dx, g, h1, h2⟩ fun b ys zs nb e => ?_⟩⟩
      · refine h3 b o (ne_of_none e na) ?_
        rw [upd_ne (ne_of_none e na), upd_ne (ne_of_none e nd)]
        exact e
      · obtain ⟨o, eo⟩ : ∃ o, H1 b = some o := by
          cases hx : H0 b with
          | none => exact absurd hx nb
          | some o => exact ⟨o, s1 _ _ hx⟩
        have ba : b ≠ a := ne_of_none eo na
        have bd : b ≠ dx := ne_of_none eo nd
        exact ⟨dx, g, 0, by rw [upd_ne ba.symm]; exact h1, h4 b ys zs ba (by rw [upd_ne ba, upd_ne bd, eo]; exact fun z => nomatch z) e⟩
    · have rest : ∀ H1, Grow (TT PT) H H1 → tCol K C [some (.ref l), some v, some (.str y.nm)] H1 Q := fun H1 gr => by
        refine ⟨l, xs, v, y, rfl, nl_ext gr.ext hl, lo, few, fun a H' s' na col apart => q a H' (gr.same s') (newB_of gr.ext na) col fun b ys zs nb e => apart b ys zs (oldB_ne gr.ext nb) e⟩
      rcases hw with rfl | ⟨rfl, rfl⟩
      · exact ⟨_, rfl, rfl, false, rfl, if_f ⟨_, rfl, rest H (.of tabs (Same.refl _))⟩⟩
      · refine ⟨_, rfl, rfl, true, rfl, if_t ⟨WT, wayV, sizeAt xs, rfl, kW, by decide, tabs, fun H2 ext tabs2 => ⟨fun i x H3 Q3 hx s3 q3 => ?_, fun H3 x s3 hx => ?_⟩⟩⟩
        · obtain ⟨y, ey⟩ : ∃ y, ways[i]? = some y ∧ x = .str y.nm := by
            unfold wayV at hx
            rw [List.getElem?_map] at hx
            obtain ⟨y, q1, q2⟩ := Option.map_eq_some_iff.mp hx
            exact ⟨y, q1, q2.symm⟩
          obtain ⟨ey, rfl⟩ := ey
          refine ⟨_, rfl, _, rfl, l, xs, y, rfl, s3 _ _ (nl_ext ext hl), lo, few, Nat.le_trans (bits_len lo few) (by decide), fun H4 s4 => ?_⟩
          have e4 : sizeAt xs i = ((bitsY y xs).length : Nat) := by
            unfold sizeAt
            rw [List.getD_eq_getElem?_getD, ey]
            rfl
          rw [← e4]
          exact q3 H4 s4
        · have ex : x = .str (best xs).nm := by
            have lt : leastAt (sizeAt xs) 4 ≤ 4 := (leastAt_first _ 4).1
            unfold wayV at hx
            rw [List.getElem?_map] at hx
            obtain ⟨y, q1, q2⟩ := Option.map_eq_some_iff.mp hx
            have q1 : ways[leastAt (sizeAt xs) 4]? = some y := q1
            rw [← q2]
            unfold best
            rw [List.getD_eq_getElem?_getD, q1]
            rfl
          subst ex
          exact rest H3 ((Grow.mk ext tabs2).same s3)
end
end Tg

namespace Tg
open PySem PySem.Spec PyProof.Rows L2
open SX (S)
abbrev sMa : Stmt := topS 44
theorem scMa : FnScope ["_law_draws_here", "_law_pick"] ["_law_draws_here"] (defScope sMa) := ⟨rfl, rfl, rfl, by decide +kernel, rfl, by decide +kernel, by decide +kernel⟩
section
variable {P : Program} {w : World} {K : PySem.W.Frag} {mg : Str → Option Value} {base : Heap} {f : Addr} {fd : FuncData} {k : Nat}
def spMa : Sp := fun vs H Q _ => ∃ (p : Addr) (N : Nat), vs = [.ref p] ∧ Dr H p N ∧ N < 900000 ∧ ∀ (n : Nat) (H' : Hp), Kp p H H' → Dr H' p (N + 1) → n ≤ 66 → Q (.int (n : Nat)) H'
theorem ok_ma (F : Fun K "_law_many" "_law_many" sMa f fd) (L_next : Cal P w K mg base k "_law_next" ["_law_draws_here"] spNext) : FnOk P w K mg base CX0 (k + 1) f fd ["_law_draws_here"] spMa := by
  refine F.ok scMa (fun vs H Q E h => ?_) (fun cdv A outer s H vs Q E hr h => ?_)
  · obtain ⟨p, n, rfl, _⟩ := h
    rfl
  · obtain ⟨p, n, rfl, dr, n9, q⟩ := h
    refine ⟨_, pss_cons (ps_set (i := 1) scMa.nd rfl (.inl rfl) (pe_cal L_next (hr.mono (by omega)) (by rfl) (pa_cons (pv 0) pa_nil)))
      (pss_one (ps_ret (pe_ix ix_list (pe_lst (pa_cons (pe_op op_mod (pe_op op_fdiv (pv 1) pe_int) pe_int) (pa_cons (pe_op op_mod (pe_op op_fdiv (pv 1) pe_int) pe_int) (pa_cons (pe_op op_add pe_int (pe_op op_mod (pe_op op_fdiv (pv 1) pe_int) pe_int)) (pa_cons (pe_op op_add pe_int (pe_op op_mod (pe_op op_fdiv (pv 1) pe_int) pe_int)) pa_nil))))) (pe_op op_mod (pv 1) pe_int) (fun _ _ => rfl)))), ?_⟩
    refine ⟨_, rfl, p, n, rfl, dr, by omega, fun a H1 k1 d1 a0 a1 => ?_⟩
    refine ⟨_, rfl, _, _, rfl, rfl, ⟨by decide, by decide⟩, _, _, rfl, rfl, (by show (0 : Int) < 4; decide), _, rfl, _, _, rfl, rfl, ⟨by decide, by decide⟩, _, _, rfl, rfl, (by show (0 : Int) < 40; decide), _, rfl, _, _, rfl, rfl, ⟨by decide, by decide⟩, _, _, rfl, rfl, (by show (0 : Int) < 4; decide), _, _, rfl, rfl, _, rfl, _, _, rfl, rfl, ⟨by decide, by decide⟩, _, _, rfl, rfl, (by show (0 : Int) < 5; decide), _, _, rfl, rfl, (by show 4 ≤ sizeLine; decide), fun u nu => ?_⟩
    obtain ⟨mv, mm, me⟩ := atI_mem (xs := [a / 8 % 4, a / 8 % 40, 31 + a / 8 % 4, 62 + a / 8 % 5]) (i := a % 4) (by omega) (by show a % 4 < ((4 : Nat) : Int); omega)
    have mb : 0 ≤ mv ∧ mv ≤ 66 := by
      simp only [List.mem_cons, List.not_mem_nil, or_false] at mm
      omega
    have su := same_new (o := .lst [.int (a / 8 % 4), .int (a / 8 % 40), .int (31 + a / 8 % 4), .int (62 + a / 8 % 5)]) nu
    obtain ⟨j, rfl⟩ : ∃ j : Nat, mv = (j : Nat) := ⟨mv.toNat, by omega⟩
    exact ⟨_, rfl, _, _, rfl, rfl, (by show (0 : Int) < 4; decide), u, _, _, _, rfl, rfl, SqL.of upd_same, me, q j _ (k1.trans (Kp.of su)) (d1.same su) (by omega)⟩
theorem flat_ints (b : List Int) : (b.map V.int).all flatV = true := by
  rw [List.all_eq_true]
  intro v hv
  obtain ⟨z, _, rfl⟩ := List.mem_map.mp hv
  rfl
end
end Tg

namespace Tg
open PySem PySem.Spec PyProof.Rows L2
open SX (S)
abbrev sNs : Stmt := topS 45
theorem scNs : FnScope ["_law_draws_here", "_law_many_here", "_law_a_way", "_law_first", "_law_leap", "_law_told", "_law_k", "_law_pick", "_law_great"] ["_law_draws_here", "_law_many_here"] (defScope sNs) := ⟨rfl, rfl, rfl, by decide +kernel, rfl, by decide +kernel, by decide +kernel⟩
theorem dr_mono {H : Hp} {p : Addr} {n m : Nat} (d : Dr H p n) (h : n ≤ m) : Dr H p m := by
  obtain ⟨a, k, b, e, h1, h2⟩ := d
  exact ⟨a, k, b, e, h1, by omega⟩
theorem dr_put {H : Hp} {p l : Addr} {n : Nat} {o : HO} (d : Dr H p n) (h : l ≠ p) : Dr (upd H l o) p n := by
  obtain ⟨a, k, b, e, h1, h2⟩ := d
  exact ⟨a, k, b, by rw [upd_ne h.symm]; exact e, h1, h2⟩
/-- what stands behind i draws of numbers -/
def NsI (p l : Addr) (H0 : Hp) (N n : Nat) (way first leap : Int) (i : Nat) (σ : L2.St) (Hc : Hp) : Prop := ∃ (xs : List Int) (z6 z7 z8 : Option V), σ = [some (.ref p), some (.int (n : Nat)), some (.int way), some (.int first), some (.int leap), some (.ref l), z6, z7, z8] ∧
  Kp p H0 Hc ∧ Dr Hc p (N + 3 * i) ∧ NL Hc l xs ∧ xs.length = i ∧ Lo 69 xs ∧ (way = 5 → ∀ x, xs[0]? = some x → x.natAbs < 2 ^ 62)
theorem nsi_next {p l : Addr} {H0 Hc : Hp} {N n i : Nat} {way first leap v : Int} {xs : List Int} {z6 z7 z8 : Option V} (h1 : Kp p H0 Hc) (h0 : H0 l = none) (h2 : Dr Hc p (N + 3 * (i + 1))) (lp : l ≠ p) (h4 : xs.length = i) (h5 : Lo 69 xs) (h6 : way = 5 → ∀ x, xs[0]? = some x → x.natAbs < 2 ^ 62) (vb : v.natAbs < 2 ^ 69) (v5 : way = 5 → xs = [] → v.natAbs < 2 ^ 62) :
    NsI p l H0 N n way first leap (i + 1) [some (.ref p), some (.int (n : Nat)), some (.int way), some (.int first), some (.int leap), some (.ref l), z6, z7, z8] (upd Hc l (.lst (xs.map V.int ++ [.int v]))) := by
  refine ⟨xs ++ [v], z6, z7, z8, rfl, fun b o hb e => ?_, dr_put h2 lp, ?_, by rw [List.length_append, h4]; rfl, fun x hx => ?_, fun w x hx => ?_⟩
  · rw [upd_ne (ne_of_none e h0)]
    exact h1 b o hb e
  · unfold NL
    rw [upd_same, List.map_append]
    rfl
  · rcases List.mem_append.mp hx with z | z
    · exact h5 x z
    · cases List.mem_singleton.mp z
      exact vb
  · cases xs with
    | nil =>
      cases hx
      exact v5 w rfl
    | cons a r => exact h6 w x hx
section
variable {P : Program} {w : World} {K : PySem.W.Frag} {mg : Str → Option Value} {base : Heap} {f : Addr} {fd : FuncData} {k : Nat}
def spNs : Sp := fun vs H Q _ => ∃ (p : Addr) (N n : Nat), vs = [.ref p, .int (n : Nat)] ∧ Dr H p N ∧ N < 800000 ∧ n ≤ 300 ∧ ∀ (l : Addr) (xs : List Int) (H' : Hp), Kp p H H' → Dr H' p (N + 1000) → H l = none → NL H' l xs → xs.length = n → Lo 69 xs → Q (.ref l) H'
theorem ok_ns (F : Fun K "_law_numbers" "_law_numbers" sNs f fd) (L_next : Cal P w K mg base k "_law_next" ["_law_draws_here"] spNext) (L_number : Cal P w K mg base k "_law_number" ["_law_draws_here"] spNu) (m_range : mg "range" = none) : FnOk P w K mg base CX0 (k + 1) f fd ["_law_draws_here", "_law_many_here"] spNs := by
  refine F.ok scNs (fun vs H Q E h => ?_) (fun cdv A outer s H vs Q E hr h => ?_)
  · obtain ⟨p, N, n, rfl, _⟩ := h
    rfl
  · obtain ⟨p, N, n, rfl, dr, n8, few, q⟩ := h
    refine ⟨_, pss_cons (ps_set (i := 2) scNs.nd rfl (.inl rfl) (pe_op op_mod (pe_cal L_next (hr.mono (by omega)) (by rfl) (pa_cons (pv 0) pa_nil)) pe_int))
      (pss_cons (ps_par (i := 3) (j := 4) rfl scNs.nd rfl rfl (by decide) rfl rfl (pa_cons (pe_cal L_number (hr.mono (by omega)) (by rfl) (pa_cons (pv 0) pa_nil)) (pa_cons (pe_cal L_number (hr.mono (by omega)) (by rfl) (pa_cons (pv 0) pa_nil)) pa_nil)) rfl)
      (pss_cons (ps_set (i := 5) scNs.nd rfl (.inl rfl) (pe_lst pa_nil))
      (pss_cons (ps_for PassesOwn.never rfl (pi_range1 (by rfl) m_range (pa_cons (pv 1) pa_nil)) (pg_name (i := 6) scNs.nd rfl (.inl rfl))
        (pss_cons (ps_set (i := 7) scNs.nd rfl (.inl rfl) (pe_cal L_next (hr.mono (by omega)) (by rfl) (pa_cons (pv 0) pa_nil)))
        (pss_cons (ps_if (pt_cmpR op_eq (pv 2) pe_int (nomark _))
          (pss_cons (ps_set (i := 8) scNs.nd rfl (.inl rfl) (pe_op op_sub (pe_op op_sub (pe_op op_pow pe_int pe_int) pe_int) (pe_op op_fdiv (pv 7) pe_int)))
          (pss_one (ps_expr (pe_bm PySem.F.plainAttrs_list PySem.F.slot_list_append PySem.F.type_list_append mt_append (pv 5) (pa_cons (pe_ix ix_list (pe_lst (pa_cons (pe_cal L_number (hr.mono (by omega)) (by rfl) (pa_cons (pv 0) pa_nil)) (pa_cons (pv 8) (pa_cons (pe_op op_sub pe_int (pv 8)) pa_nil)))) (pe_ix ix_list (pe_lst (pa_cons pe_int (pa_cons pe_int (pa_cons pe_int (pa_cons pe_int (pa_cons pe_int (pa_cons pe_int pa_nil))))))) (pe_op op_mod (pv 7) pe_int) (fun _ _ => rfl)) (fun _ _ => rfl)) pa_nil)))))
          pss_nil)
        (pss_cons (ps_if (pt_cmpR op_eq (pv 2) pe_int (nomark _))
          (pss_one (ps_expr (pe_bm PySem.F.plainAttrs_list PySem.F.slot_list_append PySem.F.type_list_append mt_append (pv 5) (pa_cons (pe_op op_add (pe_op op_add (pv 3) (pe_op op_mul (pv 6) (pv 4))) (pe_op op_fdiv (pe_op op_mod (pv 7) pe_int) pe_int)) pa_nil))))
          pss_nil)
        (pss_cons (ps_if (pt_cmpR op_eq (pv 2) pe_int (nomark _))
          (pss_one (ps_expr (pe_bm PySem.F.plainAttrs_list PySem.F.slot_list_append PySem.F.type_list_append mt_append (pv 5) (pa_cons (pe_op op_add (pv 3) (pe_op op_mul (pe_op op_fdiv (pe_op op_mod (pv 7) pe_int) pe_int) (pv 4))) pa_nil))))
          pss_nil)
        (pss_cons (ps_if (pt_cmpR op_eq (pv 2) pe_int (nomark _))
          (pss_one (ps_expr (pe_bm PySem.F.plainAttrs_list PySem.F.slot_list_append PySem.F.type_list_append mt_append (pv 5) (pa_cons (pe_ix ix_list (pe_lst (pa_cons (pv 3) (pa_cons (pv 4) (pa_cons (pe_op op_add (pv 3) pe_int) (pa_cons pe_int pa_nil))))) (pe_op op_mod (pv 7) pe_int) (fun _ _ => rfl)) pa_nil))))
          pss_nil)
        (pss_cons (ps_if (pt_cmpR op_eq (pv 2) pe_int (nomark _))
          (pss_one (ps_expr (pe_bm PySem.F.plainAttrs_list PySem.F.slot_list_append PySem.F.type_list_append mt_append (pv 5) (pa_cons (pe_op op_add (pe_op op_add (pv 3) (pe_op op_mul (pe_op op_mul (pv 6) (pv 6)) (pe_op op_add pe_int (pe_op op_mod (pv 4) pe_int)))) (pe_op op_mod (pv 7) pe_int)) pa_nil))))
          pss_nil)
        (pss_one (ps_if (pt_cmpR op_eq (pv 2) pe_int (nomark _))
          (pss_one (ps_expr (pe_bm PySem.F.plainAttrs_list PySem.F.slot_list_append PySem.F.type_list_append mt_append (pv 5) (pa_cons (pe_op op_add (pe_ix ix_list (pe_op op_cat (pv 5) (pe_lst (pa_cons (pv 3) pa_nil))) pe_int (fun _ _ => rfl)) (pe_op op_mul (pe_op op_add (pe_op op_fdiv (pe_op op_mod (pv 7) pe_int) pe_int) (pe_op op_fdiv (pv 6) pe_int)) pe_int)) pa_nil))))
          pss_nil)))))))))
      (pss_one (ps_ret (pv 5)))))), ?_⟩
    refine ⟨_, rfl, p, N, rfl, dr, by omega, fun a H1 k1 d1 a0 a1 => ⟨_, _, rfl, rfl, (by show (0 : Int) < 6; decide), ?_⟩⟩
    refine ⟨_, rfl, p, N + 1, rfl, d1, by omega, fun first H2 k2 d2 fb => ⟨_, rfl, p, N + 3, rfl, d2, by omega, fun leap H3 k3 d3 lb => ?_⟩⟩
    refine ⟨_, _, rfl, Nat.zero_le _, fun l nl => ?_⟩
    obtain ⟨way, ew⟩ : ∃ way : Int, a % 6 = way := ⟨_, rfl⟩
    dsimp only
    rw [ew]
    have w0 : 0 ≤ way ∧ way < 6 := by omega
    have lp := d3.ne nl
    have k13 := (k1.trans k2).trans k3
    obtain ⟨H4, e4⟩ : ∃ H4, upd H3 l (.lst []) = H4 := ⟨_, rfl⟩
    have hl4 : NL H4 l [] := by
      rw [← e4]
      exact upd_same
    have d4 : Dr H4 p (N + 5) := by
      rw [← e4]
      exact dr_put (dr_mono d3 (by omega)) lp
    have k4 : Kp p H H4 := by
      rw [← e4]
      exact k13.trans (Kp.of (same_new nl))
    have nl0 : H l = none := by
      cases hx : H l with
      | none => rfl
      | some o =>
        rw [k13 l o lp hx] at nl
        cases nl
    rw [e4]
    refine ⟨_, rfl, _, rfl, by omega, by omega, for_range (n := n) (NsI p l H (N + 5) n way first leap) ⟨[], none, none, none, rfl, k4, d4, hl4, rfl, fun x hx => (by cases hx), fun _ x hx => (by cases hx)⟩ ?_ ?_⟩
    · rintro i σ Hc hi ⟨xs, z6, z7, z8, rfl, kc, dc, hl, xl, lo, o5⟩
      refine ⟨_, rfl, p, _, rfl, dc, by omega, fun pk Hd kd dd p0 p1 => ?_⟩
      have hld : NL Hd l xs := kd _ _ lp hl
      have kcd := kc.trans kd
      have lx : (xs.map V.int).length < sizeLine := by
        rw [List.length_map]
        exact small1000 (by omega)
      have dd3 : Dr Hd p (N + 5 + 3 * (i + 1)) := dr_mono dd (by omega)
      obtain rfl | rfl | rfl | rfl | rfl | rfl : way = 0 ∨ way = 1 ∨ way = 2 ∨ way = 3 ∨ way = 4 ∨ way = 5 := by omega
      · refine ⟨_, rfl, rfl, true, rfl, if_t ?_⟩
        refine ⟨_, _, rfl, rfl, ⟨by decide, by decide, by decide⟩, _, _, rfl, rfl, _, rfl, _, _, rfl, rfl, ⟨by decide, by decide⟩, _, _, rfl, rfl, ?_⟩
        refine ⟨_, rfl, .inl ⟨rfl, _, SqL.of hld⟩, _, rfl, p, _, rfl, dd, by omega, fun nu He ke de nb => ?_⟩
        have hle : NL He l xs := ke _ _ lp hld
        have e20 : (10 : Int) ^ Int.toNat 20 = 100000000000000000000 := by decide
        obtain ⟨gr, eg⟩ : ∃ gr : Int, (10 : Int) ^ Int.toNat 20 - 1 - pk / 3 = gr := ⟨_, rfl⟩
        dsimp only
        rw [eg]
        rw [e20] at eg
        refine ⟨_, rfl, _, rfl, _, _, rfl, rfl, (by show 3 ≤ sizeLine; decide), fun u nu1 => ?_⟩
        refine ⟨(by show 6 ≤ sizeLine; decide), fun u2 nu2 => ?_⟩
        have su := (same_new (o := .lst [.int nu, .int gr, .int (0 - gr)]) nu1)
        have su2 := (same_new (o := .lst [.int 0, .int 0, .int 0, .int 0, .int 1, .int 2]) nu2)
        obtain ⟨ix, im, ie⟩ := atI_mem (xs := [0, 0, 0, 0, 1, 2]) (i := pk % 6) (by omega) (by show pk % 6 < ((6 : Nat) : Int); omega)
        have ib : 0 ≤ ix ∧ ix < 3 := by
          simp only [List.mem_cons, List.not_mem_nil, or_false] at im
          omega
        obtain ⟨mv, mm, me⟩ := atI_mem (xs := [nu, gr, 0 - gr]) (i := ix) (by omega) (by show ix < ((3 : Nat) : Int); omega)
        have mb : mv.natAbs < 2 ^ 69 := by
          simp only [List.mem_cons, List.not_mem_nil, or_false] at mm
          omega
        have s2 := su.trans su2
        refine ⟨_, rfl, _, _, rfl, rfl, (by show (0 : Int) < 6; decide), u2, _, _, _, rfl, rfl, SqL.of upd_same, ie, u, _, _, _, rfl, rfl, SqL.of (su2 _ _ upd_same), me, l, _, _, rfl, rfl, s2 _ _ hle, lx, ?_⟩
        exact ⟨_, rfl, rfl, false, rfl, if_f ⟨_, rfl, rfl, false, rfl, if_f ⟨_, rfl, rfl, false, rfl, if_f ⟨_, rfl, rfl, false, rfl, if_f ⟨_, rfl, rfl, false, rfl, if_f (nsi_next ((kcd.trans ke).trans (Kp.of s2)) nl0 (dr_mono (de.same s2) (by omega)) lp xl lo o5 mb (fun w => absurd w (by decide)))⟩⟩⟩⟩⟩
      · refine ⟨_, rfl, rfl, false, rfl, if_f ⟨_, rfl, rfl, true, rfl, if_t ?_⟩⟩
        refine ⟨_, rfl, .inl ⟨rfl, _, SqL.of hld⟩, _, rfl, _, rfl, _, rfl, _, _, rfl, rfl, .inl ⟨by omega, by omega⟩, _, _, rfl, rfl, _, rfl, _, _, rfl, rfl, (by show (0 : Int) < 3; decide), _, _, rfl, rfl, ⟨by decide, by decide⟩, _, _, rfl, rfl, l, _, _, rfl, rfl, hld, lx, ?_⟩
        have kl : (((0 : Int) + (i : Nat)) * leap).natAbs < 2 ^ 52 * 300 := by
          rw [Int.natAbs_mul, Nat.mul_comm]
          exact Nat.lt_of_lt_of_le (Nat.mul_lt_mul_of_lt_of_le lb (show ((0 : Int) + (i : Nat)).natAbs ≤ 300 by omega) (by decide)) (Nat.le_refl _)
        exact ⟨_, rfl, rfl, false, rfl, if_f ⟨_, rfl, rfl, false, rfl, if_f ⟨_, rfl, rfl, false, rfl, if_f ⟨_, rfl, rfl, false, rfl, if_f (nsi_next kcd nl0 dd3 lp xl lo o5 (by omega) (fun w => absurd w (by decide)))⟩⟩⟩⟩
      · refine ⟨_, rfl, rfl, false, rfl, if_f ⟨_, rfl, rfl, false, rfl, if_f ⟨_, rfl, rfl, true, rfl, if_t ?_⟩⟩⟩
        refine ⟨_, rfl, .inl ⟨rfl, _, SqL.of hld⟩, _, rfl, _, rfl, _, _, rfl, rfl, (by show (0 : Int) < 7; decide), _, _, rfl, rfl, ⟨by decide, by decide⟩, _, rfl, _, _, rfl, rfl, .inl ⟨by omega, by omega⟩, _, _, rfl, rfl, l, _, _, rfl, rfl, hld, lx, ?_⟩
        have kl : (pk % 7 / 6 * leap).natAbs < 2 ^ 52 * 300 := by
          rw [Int.natAbs_mul, Nat.mul_comm]
          exact Nat.lt_of_lt_of_le (Nat.mul_lt_mul_of_lt_of_le lb (show (pk % 7 / 6).natAbs ≤ 300 by omega) (by decide)) (Nat.le_refl _)
        exact ⟨_, rfl, rfl, false, rfl, if_f ⟨_, rfl, rfl, false, rfl, if_f ⟨_, rfl, rfl, false, rfl, if_f (nsi_next kcd nl0 dd3 lp xl lo o5 (by omega) (fun w => absurd w (by decide)))⟩⟩⟩
      · refine ⟨_, rfl, rfl, false, rfl, if_f ⟨_, rfl, rfl, false, rfl, if_f ⟨_, rfl, rfl, false, rfl, if_f ⟨_, rfl, rfl, true, rfl, if_t ?_⟩⟩⟩⟩
        refine ⟨_, rfl, .inl ⟨rfl, _, SqL.of hld⟩, _, rfl, _, rfl, _, rfl, _, _, rfl, rfl, (by show 4 ≤ sizeLine; decide), fun u nu1 => ?_⟩
        obtain ⟨mv, mm, me⟩ := atI_mem (xs := [first, leap, first + 1, 0]) (i := pk % 4) (by omega) (by show pk % 4 < ((4 : Nat) : Int); omega)
        have mb : mv.natAbs < 2 ^ 69 := by
          simp only [List.mem_cons, List.not_mem_nil, or_false] at mm
          omega
        have su := (same_new (o := .lst [.int first, .int leap, .int (first + 1), .int 0]) nu1)
        refine ⟨_, rfl, _, _, rfl, rfl, (by show (0 : Int) < 4; decide), u, _, _, _, rfl, rfl, SqL.of upd_same, me, l, _, _, rfl, rfl, su _ _ hld, lx, ?_⟩
        exact ⟨_, rfl, rfl, false, rfl, if_f ⟨_, rfl, rfl, false, rfl, if_f (nsi_next (kcd.trans (Kp.of su)) nl0 (dd3.same su) lp xl lo o5 mb (fun w => absurd w (by decide)))⟩⟩
      · refine ⟨_, rfl, rfl, false, rfl, if_f ⟨_, rfl, rfl, false, rfl, if_f ⟨_, rfl, rfl, false, rfl, if_f ⟨_, rfl, rfl, false, rfl, if_f ⟨_, rfl, rfl, true, rfl, if_t ?_⟩⟩⟩⟩⟩
        have kk : (((0 : Int) + (i : Nat)) * ((0 : Int) + (i : Nat))).natAbs ≤ 300 * 300 := by
          rw [Int.natAbs_mul]
          exact Nat.mul_le_mul (by omega) (by omega)
        have kl : (((0 : Int) + (i : Nat)) * ((0 : Int) + (i : Nat)) * (1 + leap % 9)).natAbs ≤ 300 * 300 * 9 := by
          rw [Int.natAbs_mul]
          exact Nat.mul_le_mul kk (by omega)
        refine ⟨_, rfl, .inl ⟨rfl, _, SqL.of hld⟩, _, rfl, _, rfl, _, rfl, _, _, rfl, rfl, .inl ⟨by omega, by omega⟩, _, rfl, _, _, rfl, rfl, (by show (0 : Int) < 9; decide), _, _, rfl, rfl, _, _, rfl, rfl, .inr ⟨by omega, by omega⟩, _, _, rfl, rfl, _, rfl, _, _, rfl, rfl, (by show (0 : Int) < 2; decide), _, _, rfl, rfl, l, _, _, rfl, rfl, hld, lx, ?_⟩
        exact ⟨_, rfl, rfl, false, rfl, if_f (nsi_next kcd nl0 dd3 lp xl lo o5 (by omega) (fun w => absurd w (by decide)))⟩
      · refine ⟨_, rfl, rfl, false, rfl, if_f ⟨_, rfl, rfl, false, rfl, if_f ⟨_, rfl, rfl, false, rfl, if_f ⟨_, rfl, rfl, false, rfl, if_f ⟨_, rfl, rfl, false, rfl, if_f ⟨_, rfl, rfl, true, rfl, if_t ?_⟩⟩⟩⟩⟩⟩
        refine ⟨_, rfl, .inl ⟨rfl, _, SqL.of hld⟩, _, rfl, _, rfl, (by show 1 ≤ sizeLine; decide), fun u nu1 => ?_⟩
        have su := (same_new (o := .lst [.int first]) nu1)
        refine ⟨l, u, _, _, rfl, rfl, su _ _ hld, upd_same, (by rw [List.length_map]; exact Nat.le_of_lt (small1000 (show xs.length + 1 ≤ 1000 by omega))), fun u2 nu2 => ?_⟩
        have su2 := (same_new (o := .lst (xs.map V.int ++ [.int first])) nu2)
        obtain ⟨x0, ex0, bx0⟩ : ∃ x0 : Int, (xs.map V.int ++ [.int first])[0]? = some (.int x0) ∧ x0.natAbs < 2 ^ 62 := by
          cases xs with
          | nil => exact ⟨first, rfl, by omega⟩
          | cons a r => exact ⟨a, rfl, o5 rfl a rfl⟩
        have x0e : xs = [] → x0.natAbs < 2 ^ 52 := fun z => by
          subst z
          cases ex0
          exact fb
        have i8 : ((0 : Int) + (i : Nat)) / 8 ≤ 40 ∧ 0 ≤ ((0 : Int) + (i : Nat)) / 8 := by omega
        have s2 := su.trans su2
        refine ⟨u2, _, 0, .int x0, rfl, rfl, SqL.of upd_same, atI_nat (j := 0) ex0, _, rfl, _, _, rfl, rfl, (by show (0 : Int) < 9; decide), _, _, rfl, rfl, ⟨by decide, by decide⟩, _, rfl, _, _, rfl, rfl, ⟨by decide, by decide⟩, _, _, rfl, rfl, _, _, rfl, rfl, .inr ⟨by omega, by omega⟩, _, _, rfl, rfl, l, _, _, rfl, rfl, s2 _ _ hld, lx, ?_⟩
        exact (nsi_next (kcd.trans (Kp.of s2)) nl0 (dd3.same s2) lp xl lo o5 (by omega) (fun _ z => (by have := x0e z; omega)))
    · rintro σ Hc ⟨xs, z6, z7, z8, rfl, kc, dc, hl, xl, lo, _⟩
      exact ⟨_, rfl, q l xs Hc kc (dr_mono dc (by omega)) nl0 hl xl lo⟩
end
end Tg

namespace Tg
open PySem PySem.Spec PyProof.Rows L2 LamX
open SX (S)
section
variable (P : Program) (w : World) (K : PySem.W.Frag) (mg : Str → Option Value) (base : Heap)
/-- a def called with one value and keywords behind it -/
def CalN1 (k : Nat) (x : Str) (ps ks : List Str) (sp : Sp) : Prop := ∃ f fd, FnOk P w K mg base CX0 k f fd ps sp ∧ mg x = some (.ref f) ∧ PySem.W.keepIn K (.ref f) = true ∧ KBn K fd ps 1 ks (fun us ws => us ++ ws) (fun vs zs => vs ++ zs)
end
section
variable {X : Cx} {k : Nat} {ps ks : List Str} {sp : Sp} {x : Str} {e : Expr} {es : List Expr} {p pos : Pos} {kws : List Keyword} {t tk : TA}
theorem pe_calN1 (c : CalN1 X.prog X.w X.K X.mg X.base k x ps ks sp) (hr : Room k X.A) (gl : Gl X x) (ha : PA X (e :: es) t) (vals : PK X kws tk)
    (named : (backToKw pos (keywordEach kws X.env)).all (·.1.isSome) = true := by rfl) (names : (backToKw pos (keywordEach kws X.env)).filterMap (·.1) = ks := by rfl) (nodebug : (x == ("__debug__" : Str)) = false := by decide)
    (he : starEach (e :: es) X.env = (false, eval e X.env) :: starEach es X.env := by rfl) (nostar : ((backTo pos (starEach (e :: es) X.env)).any (·.1) || (backToKw pos (keywordEach kws X.env)).any (·.1.isNone)) = false := by rfl) :
    PE X (.Call (.Name x p) (e :: es) kws pos) (tCallN 1 ks.length sp (fun vs zs => vs ++ zs) E0 t tk) := by
  obtain ⟨f, fd, F, hm, hk, hb⟩ := c
  exact pe_callN F hr gl hm hk hb pass0 ha vals named names nodebug he nostar
end
section
variable (P : Program) (w : World) (K : PySem.W.Frag) (mg : Str → Option Value) (base : Heap)
/-- a def with defaults, called with the values ahead of them alone; dvs: the defaults -/
def CalD (k : Nat) (x : Str) (ps : List Str) (dvs : List V) (sp : Sp) : Prop := ∃ f fd ds, FnOk P w K mg base CX0 k f fd ps sp ∧ mg x = some (.ref f) ∧ PySem.W.keepIn K (.ref f) = true ∧ Vals dvs ds ∧ Binds K fd ps ds
end
section
variable {X : Cx} {k : Nat} {ps : List Str} {dvs : List V} {sp : Sp} {x : Str} {e : Expr} {es : List Expr} {p pos : Pos} {t : TA}
theorem pe_calD (c : CalD X.prog X.w X.K X.mg X.base k x ps dvs sp) (hr : Room k X.A) (gl : Gl X x) (ha : PA X (e :: es) t) (hdb : (x == ("__debug__" : Str)) = false := by decide)
    (one : starEach (e :: es) X.env = (false, eval e X.env) :: starEach es X.env := by rfl) (nostar : (backTo pos (starEach es X.env)).any (·.1) = false := by rfl) : PE X (.Call (.Name x p) (e :: es) [] pos) (tCall sp dvs E0 t) := by
  obtain ⟨f, fd, ds, F, hm, hk, hv, hb⟩ := c
  exact pe_call F hr gl hm hk hb hv pass0 ha hdb one nostar
end
theorem own_bin (n : Nat) : ∀ c, c ∈ ownL n → IsBin c := fun c hc => by
  rw [← own_is] at hc
  obtain h | h := List.mem_append.mp hc
  · exact .inl (List.eq_of_mem_replicate h)
  · exact bt_bin _ _ c h
theorem flat_bin {ls : List (List Nat)} (h : ∀ l, l ∈ ls → ∀ c, c ∈ l → IsBin c) : ∀ c, c ∈ ls.flatten → IsBin c := fun c hc => by
  obtain ⟨l, hl, hc⟩ := List.mem_flatten.mp hc
  exact h l hl c hc
theorem cds_bin (cs : List Int) : ∀ c, c ∈ cds cs → IsBin c := flat_bin fun l hl => by
  obtain ⟨x, _, rfl⟩ := List.mem_map.mp hl
  exact own_bin _
theorem bits_bin (y : Wy) (xs : List Int) : ∀ c, c ∈ bitsY y xs → IsBin c := by
  by_cases e : xs = []
  · subst e
    exact fun c hc => by cases hc
  · rw [show bitsY y xs = encY y xs from if_neg e]
    cases y with
    | plain =>
      intro c hc
      rcases List.mem_append.mp (show c ∈ encP xs from hc) with h | h
      · obtain h | h := List.mem_append.mp h
        · exact own_bin _ c h
        · exact own_bin _ c h
      · exact flat_bin (fun l hl => (plC_in hl).2) c h
    | book =>
      intro c hc
      rcases List.mem_append.mp (show c ∈ encB xs from hc) with h | h
      · obtain h | h := List.mem_append.mp h
        · obtain h | h := List.mem_append.mp h
          · exact own_bin _ c h
          · exact own_bin _ c h
        · refine flat_bin (fun l hl => ?_) c h
          obtain ⟨d, _, rfl⟩ := List.mem_map.mp hl
          exact own_bin _
      · exact flat_bin (fun l hl => (bkC_in hl).2) c h
    | «by» W =>
      cases W with
      | steps => exact cds_bin _
      | turns => exact cds_bin _
      | runs =>
        refine flat_bin fun l hl => ?_
        obtain ⟨r, _, rfl⟩ := List.mem_map.mp hl
        intro c hc
        obtain h | h := List.mem_append.mp hc
        · exact own_bin _ c h
        · exact own_bin _ c h
theorem str_bin {l : List Nat} (h : ∀ c, c ∈ l → IsBin c) : PyData.strOk (S l) = true := by
  unfold PyData.strOk
  simp only [← Array.all_toList, List.all_eq_true]
  intro c hc
  have := h c hc
  unfold IsBin at this
  exact decide_eq_true (p := _) (by omega)
theorem nm_ok (y : Wy) : PyData.strOk y.nm = true := by
  cases y with
  | plain => decide +kernel
  | book => decide +kernel
  | «by» W => cases W <;> decide +kernel
theorem shaped_B (y : Wy) (xs : List Int) (n : Int) : SeqAt.shaped (.tuple [.str y.nm, .str (S (bitsY y xs)), .int n]) = true := by
  have e : PyData.canLay0 (.tuple [.str y.nm, .str (S (bitsY y xs)), .int n]) = true := by
    show (PyData.strOk y.nm && (PyData.strOk (S (bitsY y xs)) && (true && true))) = true
    rw [nm_ok, str_bin (bits_bin y xs)]
    rfl
  unfold SeqAt.shaped
  rw [e]
  rfl
theorem ne_no {x : V} : (V.bl (!decide (x = x))) = V.bl false := congrArg V.bl (by rw [decide_eq_true rfl]; rfl)
theorem bool_dec {x y : V} {a b : Str} (hx : x = .str a) (hy : y = .str b) : (a == b) = decide (x = y) := by
  subst hx hy
  rw [Bool.eq_iff_iff]
  exact beq_iff_eq.trans (Iff.trans ⟨fun z => congrArg V.str z, fun z => V.str.inj z⟩ decide_eq_true_iff.symm)
theorem eqv_alk (y : Wy) (xs : List Int) (z : Wy) (ys : List Int) : PyData.eqv (.tuple [.str y.nm, .str (S (bitsY y xs)), .int (xs.length : Nat)]) (.tuple [.str z.nm, .str (S (bitsY z ys)), .int (ys.length : Nat)]) = alk y xs z ys := by
  show ((y.nm == z.nm) && ((S (bitsY y xs) == S (bitsY z ys)) && ((((xs.length : Nat) : Int) == ((ys.length : Nat) : Int)) && true))) = _
  unfold alk
  rw [bool_dec (a := y.nm) (b := z.nm) rfl rfl, bool_dec (a := S (bitsY y xs)) (b := S (bitsY z ys)) rfl rfl, dec_int, Bool.and_true]
section
variable {P : Program} {w : World} {K : PySem.W.Frag} {mg : Str → Option Value} {base : Heap} {f : Addr} {fd : FuncData} {k : Nat} {C fE WT : Addr} {fdE : FuncData}
/-- what is told of the class by the top, for == and != -/
structure EqFs (P : Program) (w : World) (K : PySem.W.Frag) (mg : Str → Option Value) (base : Heap) (C fE : Addr) (fdE : FuncData) (k : Nat) : Prop where
  FE : FnOk P w K mg base CX0 k fE fdE ["self", "other"] (spEqB (EqC K C))
  atE : PySem.W.findIn K (.ref C) "__eq__" = some (some (.ref fE))
  fnE : PySem.W.isFn K (.ref fE) = true
  hbE : Binds K fdE ["self", "other"] []
  NE : NeC K C fE
  nfC : PySem.W.notFirst K C (.ref C) = true
  nfL : PySem.W.notFirst K C (.type "list") = true
  nfS : PySem.W.notFirst K C (.type "str") = true
  kL : PySem.W.kitOne K (.type "list") (.ref C) = some false
  kS : PySem.W.kitOne K (.type "str") (.ref C) = some false
  kN : PySem.W.kitOne K (.type "NoneType") (.ref C) = some false
  noN : PySem.W.subIn K (.ref C) (.type "NoneType") = some false
  noL : PySem.W.subIn K (.ref C) (.type "list") = some false
/-- no numbers: the first way -/
theorem best_nil : best [] = .plain := by
  have h := (leastAt_first (sizeAt []) 4).2 0 (Nat.zero_le _)
  have z : ∀ i, sizeAt [] i = 0 := fun i => rfl
  have e : leastAt (sizeAt []) 4 = 0 := by
    rcases Nat.eq_zero_or_pos (leastAt (sizeAt []) 4) with c | c
    · exact c
    · have := h.2 c
      rw [z, z] at this
      omega
  unfold best
  rw [e]
  rfl
/-- the sizes by the ways -/
def szs (xs : List Int) : List Int := ways.map fun y => (((bitsY y xs).length : Nat) : Int)
theorem szs_at (xs : List Int) {i : Nat} (h : i ≤ 4) : (szs xs)[i]? = some (sizeAt xs i) := by
  unfold szs sizeAt
  rw [List.getElem?_map]
  match i, h with
  | 0, _ => rfl
  | 1, _ => rfl
  | 2, _ => rfl
  | 3, _ => rfl
  | 4, _ => rfl
/-- the first least of the sizes is that of the shortest way -/
theorem least_is {xs : List Int} {m : Int} (h1 : m ∈ szs xs) (h2 : ∀ x, x ∈ szs xs → m ≤ x) : m = sizeAt xs (leastAt (sizeAt xs) 4) ∧ m = ((bitsY (best xs) xs).length : Nat) := by
  obtain ⟨le, all⟩ := leastAt_first (sizeAt xs) 4
  have e1 : m = sizeAt xs (leastAt (sizeAt xs) 4) := by
    obtain ⟨i, hi, ei⟩ := List.mem_iff_getElem.mp h1
    have hi5 : i < 5 := hi
    have q := szs_at xs (i := i) (by omega)
    rw [List.getElem?_eq_getElem hi, ei] at q
    have a1 := (all i (by omega)).1
    have a2 := h2 _ (List.mem_of_getElem? (szs_at xs le))
    rw [← Option.some.inj q] at a1
    omega
  refine ⟨e1, e1.trans ?_⟩
  rfl
end
end Tg

namespace Tg
open PySem PySem.Spec PyProof.Rows L2 LamX
open SX (S)
/-! ### what stands while columns are asked and made -/
structure Std (C : Addr) (T : List (Addr × Str)) (H H' : Hp) : Prop where
  keep : ∀ b o, H b = some o → (∀ ps, o ≠ .tbl ps) → (∀ dx fs, o ≠ .ins C dx fs) → H' b = some o
  cols : ∀ a dx g y xs z, H a = some (.ins C dx (colF g y xs z)) → ∃ z', H' a = some (.ins C dx (colF g y xs z'))
  tabs : Tabs T H → Tabs T H'
section
variable {C : Addr} {T : List (Addr × Str)} {H H1 H2 H' : Hp} {K : PySem.W.Frag}
theorem Std.refl (H : Hp) : Std C T H H := ⟨fun _ _ h _ _ => h, fun _ _ _ _ _ z h => ⟨z, h⟩, id⟩
theorem Std.trans (a : Std C T H H1) (b : Std C T H1 H2) : Std C T H H2 :=
  ⟨fun c o h n1 n2 => b.keep c o (a.keep c o h n1 n2) n1 n2, fun c dx g y xs z h => let ⟨_, q⟩ := a.cols c dx g y xs z h; b.cols _ _ _ _ _ _ q, fun t => b.tabs (a.tabs t)⟩
theorem Std.same (s : Same H H') : Std C T H H' := ⟨fun c o h _ _ => s c o h, fun c _ _ _ _ z h => ⟨z, s c _ h⟩, fun t => t.ext s⟩
theorem Std.grow (s : Grow T H H') : Std C T H H' := ⟨fun c o h n _ => s.ext c o h n, fun c _ _ _ _ z h => ⟨z, s.ext c _ h (fun _ e => nomatch e)⟩, fun _ => s.tabs⟩
theorem Std.kt (s : Std C T H H') : KT H H' := fun a o f h => s.keep a o h (fix_tbl f) fun dx fs e => by
  rw [e] at f
  exact f
theorem Std.nl {l : Addr} {xs : List Int} (s : Std C T H H') (h : NL H l xs) : NL H' l xs := s.keep _ _ h (fun _ e => nomatch e) fun _ _ e => nomatch e
theorem Std.lst {l : Addr} {xs : List V} (s : Std C T H H') (h : H l = some (.lst xs)) : H' l = some (.lst xs) := s.keep _ _ h (fun _ e => nomatch e) fun _ _ e => nomatch e
theorem Std.sqT {l : Addr} {xs : List V} (s : Std C T H H') (h : SqT K H l xs) : SqT K H' l xs := sqT_kt s.kt h
theorem Std.gd {y : Wy} {xs : List Int} {g : V} (s : Std C T H H') (h : Gd K H y xs g) : Gd K H' y xs g := by
  obtain ⟨q, eg, h2⟩ := h
  refine ⟨q, eg, fun ne => ?_⟩
  have h3 := h2 ne
  cases y with
  | plain => exact s.sqT h3
  | book =>
    obtain ⟨l, q1, q2⟩ := h3
    exact ⟨l, s.sqT q1, s.nl q2⟩
  | «by» W =>
    obtain ⟨ts, q1, q2⟩ := h3
    exact ⟨ts, s.lst q1, q2.kt s.kt⟩
theorem Std.col {a : Addr} {y : Wy} {xs : List Int} (s : Std C T H H') (h : ColO K C H a y xs) : ColO K C H' a y xs := by
  obtain ⟨dx, g, z, h1, h2⟩ := h
  obtain ⟨z', h3⟩ := s.cols _ _ _ _ _ _ h1
  exact ⟨dx, g, z', h3, s.gd h2⟩
/-- a column's last look is another -/
theorem Std.put {a dx : Addr} {g : V} {y : Wy} {xs : List Int} {z z' : Int} (h : H a = some (.ins C dx (colF g y xs z))) : Std C T H (upd H a (.ins C dx (colF g y xs z'))) := by
  refine ⟨fun b o e n1 n2 => ?_, fun b dx2 g2 y2 xs2 z2 e => ?_, fun t => ?_⟩
  · rw [upd_ne (fun q => n2 _ _ (Option.some.inj (e.symm.trans (q ▸ h))))]
    exact e
  · by_cases q : b = a
    · subst q
      rw [h] at e
      injection e with e
      injection e with e1 e2 e3
      unfold colF at e3
      simp only [List.cons.injEq, Prod.mk.injEq, true_and, and_true] at e3
      obtain ⟨g1, g2', g3, g4, g5⟩ := e3
      refine ⟨z', ?_⟩
      rw [upd_same, e2]
      unfold colF
      rw [g1, g2', g3, g4]
    · exact ⟨z2, by rw [upd_ne q]; exact e⟩
  · exact tabs_kp (p := a) (o := .ins C dx (colF g y xs z)) (fun b o hb e => by rw [upd_ne hb]; exact e) h (fun _ e => nomatch e) (fun _ e => nomatch e) t
/-- a list that wasn't there ahead is written -/
theorem Std.setL {D : Addr} {zs ws : List V} (s : Std C T H H1) (n : H D = none) (h : H1 D = some (.lst zs)) : Std C T H (upd H1 D (.lst ws)) :=
  ⟨fun b u e n1 n2 => by rw [upd_ne (ne_of_none e n)]; exact s.keep b u e n1 n2, fun b dx g y xs z e => by rw [upd_ne (ne_of_none e n)]; exact s.cols b dx g y xs z e,
    fun t => tabs_kp (p := D) (o := .lst zs) (fun b o hb e => by rw [upd_ne hb]; exact e) h (fun _ e => nomatch e) (fun _ e => nomatch e) (s.tabs t)⟩
/-- a comprehension whose items ask columns -/
theorem lc_std {g : TG} {te : TE} {vs : List Nat} {σ : L2.St} {D : Addr} {Qd : Hp → Prop} {J : It} (n : Nat) (ys : List V) (ly : ys.length = n) (nD : H1 D = none) (small : n < sizeLine)
    (stop : ∀ Hc, Std C T H1 Hc → J.stop n Hc) (go : ∀ i Hc, i < n → Std C T H1 Hc → J.go i Hc) (calm : ∀ i x Hc Hn, J.yld i Hc x Hn → Hn = Hc)
    (hs : ∀ i x y Hc (Q : VK), i < n → ys[i]? = some y → Std C T H1 Hc → J.yld i Hc x Hc → (∀ H4, Std C T Hc H4 → Q y H4) → g x (wipe σ vs) Hc fun σ2 H2 => wipe σ2 vs = wipe σ vs ∧ te σ2 H2 Q)
    (hd : ∀ H', Std C T H1 H' → H' D = some (.lst ys) → Qd H') : Walked J (upd H1 D (.lst [])) (TurnL g te vs σ D) Qd := by
  refine ⟨fun i m Hc => m = n - i ∧ i ≤ n ∧ Std C T H1 Hc ∧ Hc D = some (.lst (ys.take i)), ⟨n, by omega, Nat.zero_le _, .same (same_new nD), upd_same⟩, ?_⟩
  rintro i m Hc ⟨rfl, hi, sm, hD⟩
  by_cases lt : i < n
  · refine .inr ⟨go i Hc lt sm, fun Hn => Std C T H1 Hn ∧ Hn D = some (.lst (ys.take (i + 1))), fun Hn h => ⟨n - (i + 1), by omega, rfl, lt, h.1, h.2⟩, fun x Hn yl => ?_⟩
    obtain rfl := calm i x Hc Hn yl
    obtain ⟨y, ey⟩ : ∃ y, ys[i]? = some y := ⟨_, List.getElem?_eq_getElem (by omega)⟩
    have z := hs i x y Hn (fun y H4 => Grows D (fun Hn => Std C T H1 Hn ∧ Hn D = some (.lst (ys.take (i + 1)))) y H4) lt ey sm yl fun H4 s4 => by
      have h4 := s4.lst hD
      refine ⟨ys.take i, h4, ?_, (sm.trans s4).setL nD h4, ?_⟩
      · rw [List.length_take]
        omega
      · rw [upd_same, List.take_add_one, ey]
        rfl
    refine cast (congrArg (g x (wipe σ vs) Hn) (funext fun σ2 => funext fun H2 => ?_)) z
    unfold tYes
    exact congrArg _ (if_pos rfl).symm
  · obtain rfl : i = n := by omega
    refine .inl ⟨stop Hc sm, hd Hc sm ?_⟩
    rw [hD, List.take_of_length_le (by omega)]
end
abbrev sCPt : Stmt := inCls (topS 36) 5
abbrev sCOn : Stmt := inCls (topS 36) 4
theorem scCPt : FnScope ["self", "start", "end", "numbers"] ["self", "start", "end"] (defScope sCPt) := ⟨rfl, rfl, rfl, by decide +kernel, rfl, by decide +kernel, by decide +kernel⟩
theorem scCOn : FnScope ["self", "place"] ["self", "place"] (defScope sCOn) := ⟨rfl, rfl, rfl, by decide +kernel, rfl, by decide +kernel, by decide +kernel⟩
section
variable {P : Program} {w : World} {K : PySem.W.Frag} {mg : Str → Option Value} {base : Heap} {f : Addr} {fd : FuncData} {k : Nat} {C : Addr} {T0 : List (Addr × Str)}
def spPt (K : PySem.W.Frag) (C : Addr) (T0 : List (Addr × Str)) : Sp := fun vs H Q _ => ∃ (a : Addr) (y : Wy) (xs : List Int) (s e : Nat), vs = [.ref a, .int (s : Nat), .int (e : Nat)] ∧ ColO K C H a y xs ∧ s ≤ e ∧ e ≤ xs.length ∧ Lo 70 xs ∧ xs.length ≤ 300 ∧
  ∀ (l : Addr) (H' : Hp), Std C T0 H H' → H l = none → NL H' l (prt xs s e) → (∃ dx g z, H' a = some (.ins C dx (colF g y xs z)) ∧ 0 ≤ z ∧ z ≤ 31 ∧ (y.walks = false → z = 0)) → Q (.ref l) H'
theorem ok_cpt (F : Fun K "part" "Column.part" sCPt f fd) (T : TCol K C) (C_numbers_in : Cal P w K mg base k "numbers_in" ["column", "start", "end"] (spNI K C)) : FnOk P w K mg base CX0 (k + 1) f fd ["self", "start", "end"] (spPt K C T0) := by
  refine F.ok scCPt (fun vs H Q E h => ?_) (fun cdv A outer s H vs Q E hr h => ?_)
  · obtain ⟨a, y, xs, s, e, rfl, _⟩ := h
    rfl
  · obtain ⟨a, y, xs, b, e, rfl, col, be, el, lo, few, q⟩ := h
    refine ⟨_, pss_cons (ps_if (pt_not (pt_chain op_le op_le pe_int (pv 1) (pe_fld (pv 0) rfl)))
        (pss_one ps_dead)
        pss_nil)
      (pss_cons (ps_if (pt_not (pt_chain op_le op_le (pv 1) (pv 2) (pe_fld (pv 0) rfl)))
        (pss_one ps_dead)
        pss_nil)
      (pss_cons (ps_asg (pe_cal C_numbers_in (hr.mono (by omega)) (by rfl) (pa_cons (pv 0) (pa_cons (pv 1) (pa_cons (pv 2) pa_nil)))) (pg_tup rfl (pgs_cons (pg_name (i := 3) scCPt.nd rfl (.inl rfl)) (pgs_cons (pg_fld (pv 0)) pgs_nil))))
      (pss_one (ps_ret (pv 3))))), ?_⟩
    obtain ⟨dx, g, z, ha, gd⟩ := id col
    refine ⟨_, rfl, _, _, rfl, rfl, true, congrArg V.bl (decide_eq_true (by omega)), if_t ⟨_, rfl, a, C, dx, _, _, rfl, ha, T.cl, T.no _ (by decide), rfl, _, _, rfl, rfl, true, congrArg V.bl (decide_eq_true (by omega)), if_f ?_⟩⟩
    refine ⟨_, rfl, _, rfl, _, _, rfl, rfl, true, congrArg V.bl (decide_eq_true (by omega)), if_t ⟨_, rfl, a, C, dx, _, _, rfl, ha, T.cl, T.no _ (by decide), rfl, _, _, rfl, rfl, true, congrArg V.bl (decide_eq_true (by omega)), if_f ?_⟩⟩
    refine ⟨_, rfl, _, rfl, _, rfl, a, y, xs, b, e, rfl, ⟨dx, g, z, ha, gd⟩, be, el, lo, few, fun t l p H1 s1 nl ht hl p0 p31 pw => ?_⟩
    have ha1 := s1 _ _ ha
    refine ⟨t, _, rfl, SqT.of ht, rfl, _, _, rfl, _, _, rfl, _, rfl, a, C, dx, _, rfl, ha1, T.cl, T.no _ (by decide), (by show 5 < 1000; decide), rfl, _, rfl, ?_⟩
    have la : l ≠ a := fun e => by
      unfold NL at hl
      rw [e, ha1] at hl
      cases hl
    refine q l _ ((Std.same s1).trans (Std.put (z' := p) ha1)) nl ?_ ⟨dx, g, p, upd_same, p0, p31, pw⟩
    unfold NL
    rw [upd_ne la]
    exact hl
theorem prt_one {xs : List Int} {i : Nat} {x : Int} (h : xs[i]? = some x) : prt xs i (i + 1) = [x] := by
  rw [prt_next (Nat.le_refl _) h, prt_none (Nat.le_refl _)]
  rfl
def spOn (K : PySem.W.Frag) (C : Addr) (T0 : List (Addr × Str)) : Sp := fun vs H Q _ => ∃ (a : Addr) (y : Wy) (xs : List Int) (i : Nat) (x : Int), vs = [.ref a, .int (i : Nat)] ∧ ColO K C H a y xs ∧ xs[i]? = some x ∧ Lo 70 xs ∧ xs.length ≤ 300 ∧
  ∀ H', Std C T0 H H' → (∃ dx g z, H' a = some (.ins C dx (colF g y xs z)) ∧ 0 ≤ z ∧ z ≤ 31 ∧ (y.walks = false → z = 0)) → Q (.int x) H'
theorem ok_con (F : Fun K "one" "Column.one" sCOn f fd) (T : TCol K C) (M_part : CalM P w K mg base k C "part" ["self", "start", "end"] (spPt K C T0)) : FnOk P w K mg base CX0 (k + 1) f fd ["self", "place"] (spOn K C T0) := by
  refine F.ok scCOn (fun vs H Q E h => ?_) (fun cdv A outer s H vs Q E hr h => ?_)
  · obtain ⟨a, y, xs, i, x, rfl, _⟩ := h
    rfl
  · obtain ⟨a, y, xs, i, x, rfl, col, ex, lo, few, q⟩ := h
    refine ⟨_, pss_cons (ps_if (pt_not (pt_chain op_le op_lt pe_int (pv 1) (pe_fld (pv 0) rfl)))
        (pss_one ps_dead)
        pss_nil)
      (pss_one (ps_ret (pe_ix ix_list (pe_calM (pv 0) T.cl M_part (hr.mono (by omega)) (pa_cons (pv 1) (pa_cons (pe_op op_add (pv 1) pe_int) pa_nil))) pe_int (fun _ _ => rfl)))), ?_⟩
    obtain ⟨dx, g, z, ha, gd⟩ := id col
    have lt := (List.getElem?_eq_some_iff.mp ex).1
    refine ⟨_, rfl, _, _, rfl, rfl, true, congrArg V.bl (decide_eq_true (by omega)), if_t ⟨_, rfl, a, C, dx, _, _, rfl, ha, T.cl, T.no _ (by decide), rfl, _, _, rfl, rfl, true, congrArg V.bl (decide_eq_true (by omega)), if_f ?_⟩⟩
    refine ⟨_, rfl, a, dx, _, rfl, ha, rfl, _, rfl, _, rfl, _, _, rfl, rfl, a, y, xs, i, i + 1, rfl, ⟨dx, g, z, ha, gd⟩, by omega, by omega, lo, few, fun l H1 s1 nl hl told => ?_⟩
    rw [prt_one ex] at hl
    exact ⟨l, _, _, _, rfl, rfl, SqL.of hl, atI_nat (j := 0) rfl, q H1 s1 told⟩
theorem cut_take (ns : List Int) (i : Nat) : cutV (ns.map V.int) none (some (i : Int)) = (ns.take i).map V.int := by
  unfold cutV
  have e : HT.sIx (ns.map V.int).length (ns.map V.int).length (some (i : Int)) = min i ns.length := by
    show (if (i : Int) < 0 then ((i : Int) + ((ns.map V.int).length : Nat)).toNat else min (i : Int).toNat (ns.map V.int).length) = _
    rw [if_neg (by omega), List.length_map]
    rfl
  rw [HT.sIx_none, e, List.drop_zero, Nat.sub_zero, List.map_take]
  rw [← List.length_map (f := V.int), List.take_eq_take_iff]
  omega
theorem cut_drop (ns : List Int) (i : Nat) : cutV (ns.map V.int) (some (i : Int)) none = (ns.drop i).map V.int := by
  unfold cutV
  have e : HT.sIx (ns.map V.int).length 0 (some (i : Int)) = min i ns.length := by
    show (if (i : Int) < 0 then ((i : Int) + ((ns.map V.int).length : Nat)).toNat else min (i : Int).toNat (ns.map V.int).length) = _
    rw [if_neg (by omega), List.length_map]
    rfl
  rw [HT.sIx_none, e, List.map_drop, List.length_map]
  rcases Nat.le_total i ns.length with c | c
  · rw [Nat.min_eq_left c]
    exact List.take_of_length_le (by rw [List.length_drop, List.length_map]; omega)
  · rw [Nat.min_eq_right c, Nat.sub_self, List.take_zero]
    exact (List.drop_eq_nil_of_le (by rw [List.length_map]; exact c)).symm
end
end Tg

namespace Tg
open PySem PySem.Spec PyProof.Rows L2 LamX
open SX (S)
/-! ### places, told or refused -/
abbrev sErP : Stmt := inCls (topS 3) 0
abbrev sClk : Stmt := inCls (topS 36) 6
theorem scErP : FnScope ["self", "at"] ["self", "at"] (defScope sErP) := ⟨rfl, rfl, rfl, by decide +kernel, rfl, by decide +kernel, by decide +kernel⟩
theorem scClk : FnScope ["self"] ["self"] (defScope sClk) := ⟨rfl, rfl, rfl, by decide +kernel, rfl, by decide +kernel, by decide +kernel⟩
abbrev bmIE : List Value := [.type "IndexError", .type "LookupError", .type "Exception", .type "BaseException", .type "object"]
section
variable (P : Program) (w : World) (K : PySem.W.Frag) (mg : Str → Option Value) (base : Heap)
/-- a method that may raise -/
def CalMR (k : Nat) (C : Addr) (m : Str) (ps : List Str) (sp : Sp) : Prop := ∃ f fd, FnOk P w K mg base (L2.CX P w) k f fd ps sp ∧ Meth K C m f ∧ Binds K fd ps []
/-- the error x over IndexError, made of one thing that is its field -/
def CalEI (k : Nat) (x : Str) (C : Addr) (fld : Str) : Prop := ∃ fI fdI, ExcA K C "IndexError.__new__" bmIE ∧ PySem.W.findIn K (.ref C) "__init__" = some (some (.ref fI)) ∧ PySem.W.typeIn K (.ref fI) = some (.type "function") ∧
  FnOk P w K mg base CX0 k fI fdI ["self", fld] (spErr C fld) ∧ Binds K fdI ["self", fld] [] ∧ mg x = some (.ref C)
end
section
variable {X : Cx} {E : XK} {k : Nat} {C : Addr} {m x fld : Str} {ps : List Str} {sp : Sp} {o e : Expr} {es : List Expr} {to ta : TE} {t : TA} {p pos apos : Pos} {W : WX}
theorem pm_errI (c : CalEI X.prog X.w X.K X.mg X.base k x C fld) (room : Room (k + 1) X.A) (gl : Gl X x) (he : PE X e ta) (nodebug : (x == ("__debug__" : Str)) = false := by decide)
    (star : starEach [e] X.env = (false, eval e X.env) :: starEach [] X.env := by rfl) : PMk X (.Call (.Name x p) [e] [] pos) (tMkO C (spErr C fld) [] (tCons ta tNil)) := by
  obtain ⟨fI, fdI, T, iC, tI, F, b, m⟩ := c
  exact pmk_any PySem.F.excBase_IndexError T iC tI F room b (fun _ _ _ _ _ _ _ z => z.elim) gl m (pa_cons he pa_nil star) nodebug star
theorem pe_calMR {pl : Sem Bool} (he : PE X o to) (cl : Cls X.K C) (c : CalMR X.prog X.w X.K X.mg X.base k C m ps sp) (hr : Room k X.A) (lets : Passes (L2.CX X.prog X.w) X E) (ha : PA X (e :: es) t)
    (star : starEach (e :: es) X.env = (false, eval e X.env) :: starEach es X.env := by rfl) (plain : (backTo pos (starEach es X.env)).any (·.1) = false := by rfl) (ht : eval (.Call (.Attribute o m apos) (e :: es) [] pos) X.env = (do let ov ← eval o X.env; standAt apos.atName; let (f, first) ← holding [ov] (getMethod ov m pl); callWith pos f first (backTo pos (starEach (e :: es) X.env)) (backToKw pos (keywordEach [] X.env))) := by rfl) :
    PE X (.Call (.Attribute o m apos) (e :: es) [] pos) (tMeth C m sp [] E to t) := by
  obtain ⟨f, fd, F, hm, hb⟩ := c
  exact pe_meth (pl := pl) he cl hm F hr hb .nil lets ha star plain ht
/-- a method that may raise, asked within a try -/
def tMethT (C : Addr) (m : Str) (sp : Sp) (W : WX) (to : TE) (t : TA) : TE := fun σ H Q => to σ H fun x H1 => ∃ a dx fs, x = .ref a ∧ H1 a = some (.ins C dx fs) ∧ fs.lookup m = none ∧ t σ H1 fun vs H2 => sp (x :: vs) H2 Q (WE W σ)
theorem pe_calMT {pl : Sem Bool} (he : PE X o to) (cl : Cls X.K C) (c : CalMR X.prog X.w X.K X.mg X.base k C m ps sp) (hr : Room k X.A) (tks : Takes X W) (ha : PA X (e :: es) t)
    (star : starEach (e :: es) X.env = (false, eval e X.env) :: starEach es X.env := by rfl) (plain : (backTo pos (starEach es X.env)).any (·.1) = false := by rfl) (ht : eval (.Call (.Attribute o m apos) (e :: es) [] pos) X.env = (do let ov ← eval o X.env; standAt apos.atName; let (f, first) ← holding [ov] (getMethod ov m pl); callWith pos f first (backTo pos (starEach (e :: es) X.env)) (backToKw pos (keywordEach [] X.env))) := by rfl) :
    PE X (.Call (.Attribute o m apos) (e :: es) [] pos) (tMethT C m sp W to t) := by
  obtain ⟨f, fd, F, hm, hb⟩ := c
  constructor
  intro pins s σ H Q I read
  refine PySem.W.methodCall_KW (pl := pl) (thn (he.run pins s σ H _ I read) fun u s1 z => ?_) ht
  obtain ⟨_, H1, J, ru, a, dx, fs, rfl, ea, none_, told⟩ := z
  cases ru
  refine getmeth_ok J ea cl hm none_ (PySem.W.callWith_K (first := [.ref a]) (h₀ := X.base) J.ok.mod.kin hm.kp (thn (ha.run pos pins s1 σ H1 _ J told) fun us s2 z => ?_) star plain)
  obtain ⟨vs, H2, J2, rel, said⟩ := z
  exact ⟨J2.kIn, run_fnS (us := .ref a :: us) (vs := .ref a :: vs) F hr hb (passAt tks σ) J2 (.cons rfl rel) said⟩
end
section
variable {P : Program} {w : World} {K : PySem.W.Frag} {mg : Str → Option Value} {base : Heap} {f : Addr} {fd : FuncData} {k : Nat} {C CP : Addr} {T0 : List (Addr × Str)}
theorem ok_errP (F : Fun K "__init__" "NoPlace.__init__" sErP f fd) (T : ExcA K CP "IndexError.__new__" bmIE) (hno : PySem.W.findIn K (.ref CP) "at" = some none) (mI : mg "IndexError" = none)
    (vI : PySem.W.findCls K (.type "IndexError") (.type "type") "__init__" = some (.val (.builtin "IndexError.__init__"))) : FnOk P w K mg base CX0 (k + 1) f fd ["self", "at"] (spErr CP "at") := by
  refine F.ok scErP (fun vs H Q E h => ?_) (fun cdv A outer s H vs Q E hr h => ?_)
  · obtain ⟨a, v, rfl, _⟩ := h
    rfl
  · obtain ⟨a, v, rfl, ha, q⟩ := h
    refine ⟨_, pss_cons (ps_expr (pe_iniIE (by rfl) mI vI (pa_cons (pv 0) (pa_cons pe_str pa_nil)))) (pss_one (ps_fst (newId := "IndexError.__new__") PySem.F.store_IndexError (pv 0) (pv 1))), ?_⟩
    exact ⟨_, rfl, a, CP, _, rfl, by show 1 ≤ 1000; decide, T, ha, _, rfl, _, rfl, a, CP, rfl, T, hno, ha, fun dx nd da => q dx nd da⟩
def spLkd (C : Addr) : Sp := fun vs H Q _ => ∃ (a dx : Addr) (g : V) (y : Wy) (xs : List Int) (z : Int), vs = [.ref a] ∧ H a = some (.ins C dx (colF g y xs z)) ∧ Q (.int z) H
theorem ok_clk (F : Fun K "looked" "Column.looked" sClk f fd) (T : TCol K C) : FnOk P w K mg base CX0 (k + 1) f fd ["self"] (spLkd C) := by
  refine F.ok scClk (fun vs H Q E h => ?_) (fun cdv A outer s H vs Q E hr h => ?_)
  · obtain ⟨a, dx, g, y, xs, z, rfl, _⟩ := h
    rfl
  · obtain ⟨a, dx, g, y, xs, z, rfl, ha, q⟩ := h
    exact ⟨_, pss_one (ps_ret (pe_fld (pv 0) rfl)), _, rfl, a, C, dx, _, _, rfl, ha, T.cl, T.no _ (by decide), rfl, q⟩
/-- the place that a part is refused at -/
def badP (n : Nat) (s e : Int) : Option Int := if 0 ≤ s ∧ s ≤ n then (if s ≤ e ∧ e ≤ n then none else some e) else some s
def badO (n : Nat) (s : Int) : Option Int := if 0 ≤ s ∧ s < n then none else some s
def NoPl (CP : Addr) (o : Option Int) (H : Hp) (E : XK) : Prop := ∀ i, o = some i → ∀ (d : Addr) (H' : Hp), Same H H' → H d = none → H' d = some (.xd [("at", .int i)]) → E (.ref CP) (some d) H'
def Lkd (C : Addr) (H : Hp) (a : Addr) (y : Wy) (xs : List Int) : Prop := ∃ dx g z, H a = some (.ins C dx (colF g y xs z)) ∧ 0 ≤ z ∧ z ≤ 31 ∧ (y.walks = false → z = 0)
def spPtX (K : PySem.W.Frag) (C CP : Addr) (T0 : List (Addr × Str)) : Sp := fun vs H Q E => ∃ (a : Addr) (y : Wy) (xs : List Int) (s e : Int), vs = [.ref a, .int s, .int e] ∧ ColO K C H a y xs ∧ Lo 70 xs ∧ xs.length ≤ 300 ∧ NoPl CP (badP xs.length s e) H E ∧
  (badP xs.length s e = none → ∀ (l : Addr) (H' : Hp), Std C T0 H H' → H l = none → NL H' l (prt xs s.toNat e.toNat) → Lkd C H' a y xs → Q (.ref l) H')
theorem ok_cptX (F : Fun K "part" "Column.part" sCPt f fd) (T : TCol K C) (C_numbers_in : Cal P w K mg base k "numbers_in" ["column", "start", "end"] (spNI K C)) (C_err : CalEI P w K mg base k "NoPlace" CP "at") : FnOk P w K mg base (L2.CX P w) (k + 2) f fd ["self", "start", "end"] (spPtX K C CP T0) := by
  refine F.okX scCPt (fun vs H Q E h => ?_) (fun cdv A outer s H vs Q E hr h => ?_)
  · obtain ⟨a, y, xs, s, e, rfl, _⟩ := h
    rfl
  · obtain ⟨a, y, xs, b, e, rfl, col, lo, few, no, q⟩ := h
    refine ⟨_, pss_cons (ps_if (pt_not (pt_chain op_le op_le pe_int (pv 1) (pe_fld (pv 0) rfl)))
        (pss_one (ps_raise rfl (takes_of rfl rfl rfl rfl) (pm_errI C_err (hr.mono (by omega)) (by rfl) (pv 1))))
        pss_nil)
      (pss_cons (ps_if (pt_not (pt_chain op_le op_le (pv 1) (pv 2) (pe_fld (pv 0) rfl)))
        (pss_one (ps_raise rfl (takes_of rfl rfl rfl rfl) (pm_errI C_err (hr.mono (by omega)) (by rfl) (pv 2))))
        pss_nil)
      (pss_cons (ps_asg (pe_cal C_numbers_in (hr.mono (by omega)) (by rfl) (pa_cons (pv 0) (pa_cons (pv 1) (pa_cons (pv 2) pa_nil)))) (pg_tup rfl (pgs_cons (pg_name (i := 3) scCPt.nd rfl (.inl rfl)) (pgs_cons (pg_fld (pv 0)) pgs_nil))))
      (pss_one (ps_ret (pv 3))))), ?_⟩
    obtain ⟨dx, g, z, ha, gd⟩ := id col
    by_cases c1 : 0 ≤ b
    · by_cases c2 : b ≤ xs.length
      · refine ⟨_, rfl, _, _, rfl, rfl, true, congrArg V.bl (decide_eq_true c1), if_t ⟨_, rfl, a, C, dx, _, _, rfl, ha, T.cl, T.no _ (by decide), rfl, _, _, rfl, rfl, true, congrArg V.bl (decide_eq_true (by omega)), if_f ?_⟩⟩
        by_cases c3 : b ≤ e
        · by_cases c4 : e ≤ xs.length
          · refine ⟨_, rfl, _, rfl, _, _, rfl, rfl, true, congrArg V.bl (decide_eq_true c3), if_t ⟨_, rfl, a, C, dx, _, _, rfl, ha, T.cl, T.no _ (by decide), rfl, _, _, rfl, rfl, true, congrArg V.bl (decide_eq_true (by omega)), if_f ?_⟩⟩
            have good : badP xs.length b e = none := by
              unfold badP
              rw [if_pos ⟨c1, c2⟩, if_pos ⟨c3, c4⟩]
            have eb : b = ((b.toNat : Nat) : Int) := by omega
            have ee : e = ((e.toNat : Nat) : Int) := by omega
            refine ⟨_, rfl, _, rfl, _, rfl, a, y, xs, b.toNat, e.toNat, (by rw [← eb, ← ee]; rfl), ⟨dx, g, z, ha, gd⟩, by omega, by omega, lo, few, fun t l p H1 s1 nl ht hl p0 p31 pw => ?_⟩
            have ha1 := s1 _ _ ha
            refine ⟨t, _, rfl, SqT.of ht, rfl, _, _, rfl, _, _, rfl, _, rfl, a, C, dx, _, rfl, ha1, T.cl, T.no _ (by decide), (by show 5 < 1000; decide), rfl, _, rfl, ?_⟩
            have la : l ≠ a := fun e => by
              unfold NL at hl
              rw [e, ha1] at hl
              cases hl
            refine q good l _ ((Std.same s1).trans (Std.put (z' := p) ha1)) nl ?_ ⟨dx, g, p, upd_same, p0, p31, pw⟩
            unfold NL
            rw [upd_ne la]
            exact hl
          · have hb : badP xs.length b e = some e := by
              unfold badP
              rw [if_pos ⟨c1, c2⟩, if_neg (fun z => c4 z.2)]
            exact ⟨_, rfl, _, rfl, _, _, rfl, rfl, true, congrArg V.bl (decide_eq_true c3), if_t ⟨_, rfl, a, C, dx, _, _, rfl, ha, T.cl, T.no _ (by decide), rfl, _, _, rfl, rfl, false, congrArg V.bl (decide_eq_false (by omega)), if_t (err_read ⟨_, rfl, fun d H' s' nd hd => no _ hb d H' s' nd hd⟩ fun {Q Q'} hq ⟨v, e, q⟩ => ⟨v, e, hq _ _ q⟩)⟩⟩
        · have hb : badP xs.length b e = some e := by
            unfold badP
            rw [if_pos ⟨c1, c2⟩, if_neg (fun z => c3 z.1)]
          exact ⟨_, rfl, _, rfl, _, _, rfl, rfl, false, congrArg V.bl (decide_eq_false c3), if_f ⟨false, rfl, if_t (err_read ⟨_, rfl, fun d H' s' nd hd => no _ hb d H' s' nd hd⟩ fun {Q Q'} hq ⟨v, e, q⟩ => ⟨v, e, hq _ _ q⟩)⟩⟩
      · have hb : badP xs.length b e = some b := by
          unfold badP
          rw [if_neg (fun z => c2 z.2)]
        exact ⟨_, rfl, _, _, rfl, rfl, true, congrArg V.bl (decide_eq_true c1), if_t ⟨_, rfl, a, C, dx, _, _, rfl, ha, T.cl, T.no _ (by decide), rfl, _, _, rfl, rfl, false, congrArg V.bl (decide_eq_false (by omega)), if_t (err_read ⟨_, rfl, fun d H' s' nd hd => no _ hb d H' s' nd hd⟩ fun {Q Q'} hq ⟨v, e, q⟩ => ⟨v, e, hq _ _ q⟩)⟩⟩
    · have hb : badP xs.length b e = some b := by
        unfold badP
        rw [if_neg (fun z => c1 z.1)]
      exact ⟨_, rfl, _, _, rfl, rfl, false, congrArg V.bl (decide_eq_false c1), if_f ⟨false, rfl, if_t (err_read ⟨_, rfl, fun d H' s' nd hd => no _ hb d H' s' nd hd⟩ fun {Q Q'} hq ⟨v, e, q⟩ => ⟨v, e, hq _ _ q⟩)⟩⟩
def spOnX (K : PySem.W.Frag) (C CP : Addr) (T0 : List (Addr × Str)) : Sp := fun vs H Q E => ∃ (a : Addr) (y : Wy) (xs : List Int) (s : Int), vs = [.ref a, .int s] ∧ ColO K C H a y xs ∧ Lo 70 xs ∧ xs.length ≤ 300 ∧ NoPl CP (badO xs.length s) H E ∧
  (badO xs.length s = none → ∀ (x : Int) (H' : Hp), xs[s.toNat]? = some x → Std C T0 H H' → Lkd C H' a y xs → Q (.int x) H')
theorem ok_conX (F : Fun K "one" "Column.one" sCOn f fd) (T : TCol K C) (M_part : CalMR P w K mg base (k + 1) C "part" ["self", "start", "end"] (spPtX K C CP T0)) (C_err : CalEI P w K mg base k "NoPlace" CP "at") : FnOk P w K mg base (L2.CX P w) (k + 2) f fd ["self", "place"] (spOnX K C CP T0) := by
  refine F.okX scCOn (fun vs H Q E h => ?_) (fun cdv A outer s H vs Q E hr h => ?_)
  · obtain ⟨a, y, xs, i, rfl, _⟩ := h
    rfl
  · obtain ⟨a, y, xs, i, rfl, col, lo, few, no, q⟩ := h
    refine ⟨_, pss_cons (ps_if (pt_not (pt_chain op_le op_lt pe_int (pv 1) (pe_fld (pv 0) rfl)))
        (pss_one (ps_raise rfl (takes_of rfl rfl rfl rfl) (pm_errI C_err (hr.mono (by omega)) (by rfl) (pv 1))))
        pss_nil)
      (pss_one (ps_ret (pe_ix ix_list (pe_calMR (E := E) (lets := passes_call (takes_of rfl rfl rfl rfl) (fun _ _ _ _ z => z)) (pv 0) T.cl M_part (hr.mono (by omega)) (pa_cons (pv 1) (pa_cons (pe_op op_add (pv 1) pe_int) pa_nil))) pe_int (fun _ _ => rfl)))), ?_⟩
    obtain ⟨dx, g, z, ha, gd⟩ := id col
    by_cases c1 : 0 ≤ i
    · by_cases c2 : i < xs.length
      · have good : badO xs.length i = none := by
          unfold badO
          rw [if_pos ⟨c1, c2⟩]
        have goodP : badP xs.length i (i + 1) = none := by
          unfold badP
          rw [if_pos ⟨c1, by omega⟩, if_pos ⟨by omega, by omega⟩]
        refine ⟨_, rfl, _, _, rfl, rfl, true, congrArg V.bl (decide_eq_true c1), if_t ⟨_, rfl, a, C, dx, _, _, rfl, ha, T.cl, T.no _ (by decide), rfl, _, _, rfl, rfl, true, congrArg V.bl (decide_eq_true c2), if_f ?_⟩⟩
        refine ⟨_, rfl, a, dx, _, rfl, ha, rfl, _, rfl, _, rfl, _, _, rfl, rfl, a, y, xs, i, i + 1, rfl, ⟨dx, g, z, ha, gd⟩, lo, few, (fun j hj => by rw [goodP] at hj; cases hj), fun _ l H1 s1 nl hl told => ?_⟩
        obtain ⟨x, ex⟩ : ∃ x, xs[i.toNat]? = some x := ⟨_, List.getElem?_eq_getElem (by omega)⟩
        have e1 : (i + 1).toNat = i.toNat + 1 := by omega
        rw [e1, prt_one ex] at hl
        exact ⟨l, _, _, _, rfl, rfl, SqL.of hl, atI_nat (j := 0) rfl, q good x H1 ex s1 told⟩
      · have hb : badO xs.length i = some i := by
          unfold badO
          rw [if_neg (fun z => c2 z.2)]
        exact ⟨_, rfl, _, _, rfl, rfl, true, congrArg V.bl (decide_eq_true c1), if_t ⟨_, rfl, a, C, dx, _, _, rfl, ha, T.cl, T.no _ (by decide), rfl, _, _, rfl, rfl, false, congrArg V.bl (decide_eq_false c2), if_t (err_read ⟨_, rfl, fun d H' s' nd hd => no _ hb d H' s' nd hd⟩ fun {Q Q'} hq ⟨v, e, q⟩ => ⟨v, e, hq _ _ q⟩)⟩⟩
    · have hb : badO xs.length i = some i := by
        unfold badO
        rw [if_neg (fun z => c1 z.1)]
      exact ⟨_, rfl, _, _, rfl, rfl, false, congrArg V.bl (decide_eq_false c1), if_f ⟨false, rfl, if_t (err_read ⟨_, rfl, fun d H' s' nd hd => no _ hb d H' s' nd hd⟩ fun {Q Q'} hq ⟨v, e, q⟩ => ⟨v, e, hq _ _ q⟩)⟩⟩
end
end Tg

namespace Tg
open PySem PySem.Spec PyProof.Rows L2 LamX
open SX (S)
/-! ### what a column is due to tell -/
abbrev sDu : Stmt := topS 47
abbrev sSp : Stmt := topS 48
abbrev sLk : Stmt := topS 49
abbrev NDu : List Str := ["_law_numbers_here", "_law_a_start", "_law_a_end"]
theorem scDu : FnScope NDu NDu (defScope sDu) := ⟨rfl, rfl, rfl, by decide +kernel, rfl, by decide +kernel, by decide +kernel⟩
theorem scSp : FnScope ["_law_draws_here", "_law_many_here", "_law_pick"] ["_law_draws_here", "_law_many_here"] (defScope sSp) := ⟨rfl, rfl, rfl, by decide +kernel, rfl, by decide +kernel, by decide +kernel⟩
theorem scLk : FnScope ["_law_column", "_law_numbers_here", "_law_a_way"] ["_law_column", "_law_numbers_here", "_law_a_way"] (defScope sLk) := ⟨rfl, rfl, rfl, by decide +kernel, rfl, by decide +kernel, by decide +kernel⟩
inductive Ans where
  | num (x : Int)
  | lst (xs : List Int)
  | no (i : Int)
/-- an end that may be missing -/
def oV : Option Int → V
  | none => .non
  | some e => .int e
def dueOf (xs : List Int) (s : Int) : Option Int → Ans
  | none => match badO xs.length s with
    | some i => .no i
    | none => .num (xs.getD s.toNat 0)
  | some e => match badP xs.length s e with
    | some i => .no i
    | none => .lst (prt xs s.toNat e.toNat)
theorem due_num {xs : List Int} {s x : Int} (h : badO xs.length s = none) (e : xs[s.toNat]? = some x) : dueOf xs s none = .num x := by
  unfold dueOf
  rw [h, List.getD_eq_getElem?_getD, e]
  rfl
theorem due_noO {xs : List Int} {s i : Int} (h : badO xs.length s = some i) : dueOf xs s none = .no i := by
  unfold dueOf
  rw [h]
theorem due_lst {xs : List Int} {s e : Int} (h : badP xs.length s e = none) : dueOf xs s (some e) = .lst (prt xs s.toNat e.toNat) := by
  simp only [dueOf, h]
theorem due_noP {xs : List Int} {s e i : Int} (h : badP xs.length s e = some i) : dueOf xs s (some e) = .no i := by
  simp only [dueOf, h]
/-- an answer stands at t, its list made behind H0 -/
def AnsT (K : PySem.W.Frag) (H0 H : Hp) (t : Addr) : Ans → Prop
  | .num x => SqT K H t [.str "told", .int x]
  | .lst ys => ∃ l, SqT K H t [.str "told", .ref l] ∧ NL H l ys ∧ H0 l = none ∧ ys.length ≤ 300
  | .no i => SqT K H t [.str "none", .int i]
def Ans.dat : Ans → PyData
  | .num x => .tuple [.str "told", .int x]
  | .lst ys => .tuple [.str "told", .list (ys.map PyData.int)]
  | .no i => .tuple [.str "none", .int i]
theorem ans_dp {K : PySem.W.Frag} {H0 H : Hp} {t : Addr} : ∀ {a : Ans}, AnsT K H0 H t a → Dp K H (.ref t) a.dat
  | .num _, h => .tup h (.cons (.str _) (.cons (.int _) .nil))
  | .no _, h => .tup h (.cons (.str _) (.cons (.int _) .nil))
  | .lst _, ⟨_, h, hl, _⟩ => .tup h (.cons (.str _) (.cons (dp_lst (SqL.of hl)) .nil))
theorem shaped_w {u : Str} {i : Int} (h : PyData.strOk u = true) : SeqAt.shaped (.tuple [.str u, .int i]) = true := by
  have e : PyData.canLay0 (.tuple [.str u, .int i]) = true := by
    show (PyData.strOk u && (true && true)) = true
    rw [h]
    rfl
  unfold SeqAt.shaped
  rw [e]
  rfl
theorem ans_shaped : ∀ a : Ans, SeqAt.shaped a.dat = true
  | .num _ => shaped_w (by decide +kernel)
  | .no _ => shaped_w (by decide +kernel)
  | .lst ys => by
    have e : PyData.canLay0 (.tuple [.str "told", .list (ys.map PyData.int)]) = true := by
      show (PyData.strOk "told" && (PyData.canLay0 (.list (ys.map PyData.int)) && true)) = true
      rw [show PyData.canLay0 (.list (ys.map PyData.int)) = true from lay_ints ys]
      decide +kernel
    have d : PyData.depth (.tuple [.str "told", .list (ys.map PyData.int)]) ≤ 64 := by
      simp [PyData.depth, PyData.depthAll, depth_ints]
    unfold SeqAt.shaped Ans.dat
    rw [e, decide_eq_true d]
    rfl
theorem ans_same {K : PySem.W.Frag} {H0 H H' : Hp} (s : Same H H') {t : Addr} : ∀ {a : Ans}, AnsT K H0 H t a → AnsT K H0 H' t a
  | .num _, h => sqT_same s h
  | .no _, h => sqT_same s h
  | .lst _, ⟨l, h, hl, n⟩ => ⟨l, sqT_same s h, s _ _ hl, n⟩
theorem cut_part (ns : List Int) {s e : Int} (h : badP ns.length s e = none) : cutV (ns.map V.int) (some s) (some e) = (prt ns s.toNat e.toNat).map V.int := by
  have b : 0 ≤ s ∧ s ≤ e ∧ e ≤ ns.length := by
    unfold badP at h
    split at h
    · split at h
      · omega
      · cases h
    · cases h
  obtain ⟨i, rfl⟩ : ∃ i : Nat, s = (i : Int) := ⟨s.toNat, by omega⟩
  obtain ⟨j, rfl⟩ : ∃ j : Nat, e = (j : Int) := ⟨e.toNat, by omega⟩
  unfold cutV prt
  rw [HT.sIx_nat, HT.sIx_nat, List.length_map, Nat.min_eq_left (by omega), Nat.min_eq_left (by omega), Int.toNat_natCast, Int.toNat_natCast, List.map_take, List.map_drop]
section
variable {P : Program} {w : World} {K : PySem.W.Frag} {mg : Str → Option Value} {base : Heap} {f : Addr} {fd : FuncData} {k : Nat} {C CP : Addr} {T0 : List (Addr × Str)}
def spDu (K : PySem.W.Frag) : Sp := fun vs H Q _ => ∃ (n : Addr) (xs : List Int) (s : Int) (o : Option Int), vs = [.ref n, .int s, oV o] ∧ NL H n xs ∧ xs.length ≤ 300 ∧ ∀ (t : Addr) (H' : Hp), Same H H' → AnsT K H H' t (dueOf xs s o) → Q (.ref t) H'
theorem ok_du (F : Fun K "_law_due" "_law_due" sDu f fd) (m_len : mg "len" = none) : FnOk P w K mg base CX0 (k + 1) f fd NDu (spDu K) := by
  refine F.ok scDu (fun vs H Q E h => ?_) (fun cdv A outer s H vs Q E hr h => ?_)
  · obtain ⟨n, xs, s, o, rfl, _⟩ := h
    rfl
  · obtain ⟨n, xs, b, o, rfl, hn, few, q⟩ := h
    refine ⟨_, pss_cons (ps_if (pt_cmpR op_isN (pv 2) pe_non (nomark _))
        (pss_cons (ps_if (PW.pt (pw_or (pt_cmpR op_lt (pv 1) pe_int (nomark _)) (pw_or1 (pt_cmpR op_ge (pv 1) (pe_callB call_len_seq (by rfl) m_len (by decide +kernel) (pa_cons (pv 0) pa_nil)) (nomark _)))))
          (pss_one (ps_ret (pe_tup (pa_cons pe_str (pa_cons (pv 1) pa_nil)))))
          pss_nil)
        (pss_one (ps_ret (pe_tup (pa_cons pe_str (pa_cons (pe_ix ix_list (pv 0) (pv 1) (fun _ _ => rfl)) pa_nil))))))
        pss_nil)
      (pss_cons (ps_if (PW.pt (pw_or (pt_cmpR op_lt (pv 1) pe_int (nomark _)) (pw_or1 (pt_cmpR op_gt (pv 1) (pe_callB call_len_seq (by rfl) m_len (by decide +kernel) (pa_cons (pv 0) pa_nil)) (nomark _)))))
        (pss_one (ps_ret (pe_tup (pa_cons pe_str (pa_cons (pv 1) pa_nil)))))
        pss_nil)
      (pss_cons (ps_if (PW.pt (pw_or (pt_cmpR op_lt (pv 2) (pv 1) (nomark _)) (pw_or1 (pt_cmpR op_gt (pv 2) (pe_callB call_len_seq (by rfl) m_len (by decide +kernel) (pa_cons (pv 0) pa_nil)) (nomark _)))))
        (pss_one (ps_ret (pe_tup (pa_cons pe_str (pa_cons (pv 2) pa_nil)))))
        pss_nil)
      (pss_one (ps_ret (pe_tup (pa_cons pe_str (pa_cons (pe_slice sl_list (pv 0) (po_some (pv 1)) (po_some (pv 2))) pa_nil))))))), ?_⟩
    have ln : ((List.map V.int xs).length : Int) = (xs.length : Nat) := by rw [List.length_map]
    have told : ∀ {v : V} {u : Str} {a : Ans}, dueOf xs b o = a → (∀ t, AnsT K H (upd H t (.tup [.str u, v])) t a) → ∀ t, H t = none → Q (.ref t) (upd H t (.tup [.str u, v])) := fun ea ha t nt => q t _ (same_new nt) (ea ▸ ha t)
    cases o with
    | none =>
      refine ⟨_, rfl, rfl, true, rfl, if_t ?_⟩
      by_cases c1 : b < 0
      · refine ⟨_, rfl, _, _, rfl, rfl, true, congrArg V.bl (decide_eq_true c1), if_t ⟨_, rfl, by show 2 ≤ sizeLine; decide, ?_⟩⟩
        refine told (due_noO (i := b) ?_) (fun t => SqT.of upd_same)
        unfold badO
        rw [if_neg (by omega)]
      · refine ⟨_, rfl, _, _, rfl, rfl, false, congrArg V.bl (decide_eq_false c1), if_f ⟨_, rfl, _, rfl, n, _, rfl, .inl (SqL.of hn), _, _, rfl, rfl, ?_⟩⟩
        by_cases c2 : b ≥ (xs.length : Nat)
        · refine ⟨true, congrArg V.bl (decide_eq_true (by rw [ln]; exact c2)), if_t ⟨_, rfl, by show 2 ≤ sizeLine; decide, ?_⟩⟩
          refine told (due_noO (i := b) ?_) (fun t => SqT.of upd_same)
          unfold badO
          rw [if_neg (by omega)]
        · obtain ⟨x, ex⟩ : ∃ x, xs[b.toNat]? = some x := ⟨_, List.getElem?_eq_getElem (by omega)⟩
          refine ⟨false, congrArg V.bl (decide_eq_false (by rw [ln]; exact c2)), if_f ⟨_, rfl, _, rfl, n, _, _, .int x, rfl, rfl, SqL.of hn, ?_, by show 2 ≤ sizeLine; decide, ?_⟩⟩
          · have eb : b = ((b.toNat : Nat) : Int) := by omega
            rw [eb]
            exact atI_nat (by rw [List.getElem?_map, ex]; rfl)
          · refine told (due_num ?_ ex) (fun t => SqT.of upd_same)
            unfold badO
            rw [if_pos (by omega)]
    | some e =>
      refine ⟨_, rfl, rfl, false, rfl, if_f ?_⟩
      by_cases c1 : b < 0
      · refine ⟨_, rfl, _, _, rfl, rfl, true, congrArg V.bl (decide_eq_true c1), if_t ⟨_, rfl, by show 2 ≤ sizeLine; decide, ?_⟩⟩
        refine told (due_noP (i := b) ?_) (fun t => SqT.of upd_same)
        unfold badP
        rw [if_neg (by omega)]
      · refine ⟨_, rfl, _, _, rfl, rfl, false, congrArg V.bl (decide_eq_false c1), if_f ⟨_, rfl, _, rfl, n, _, rfl, .inl (SqL.of hn), _, _, rfl, rfl, ?_⟩⟩
        by_cases c2 : b > (xs.length : Nat)
        · refine ⟨true, congrArg V.bl (decide_eq_true (by rw [ln]; exact c2)), if_t ⟨_, rfl, by show 2 ≤ sizeLine; decide, ?_⟩⟩
          refine told (due_noP (i := b) ?_) (fun t => SqT.of upd_same)
          unfold badP
          rw [if_neg (by omega)]
        · refine ⟨false, congrArg V.bl (decide_eq_false (by rw [ln]; exact c2)), if_f ?_⟩
          by_cases c3 : e < b
          · refine ⟨_, rfl, _, rfl, _, _, rfl, rfl, true, congrArg V.bl (decide_eq_true c3), if_t ⟨_, rfl, by show 2 ≤ sizeLine; decide, ?_⟩⟩
            refine told (due_noP (i := e) ?_) (fun t => SqT.of upd_same)
            unfold badP
            rw [if_pos (by omega), if_neg (by omega)]
          · refine ⟨_, rfl, _, rfl, _, _, rfl, rfl, false, congrArg V.bl (decide_eq_false c3), if_f ⟨_, rfl, _, rfl, n, _, rfl, .inl (SqL.of hn), _, _, rfl, rfl, ?_⟩⟩
            by_cases c4 : e > (xs.length : Nat)
            · refine ⟨true, congrArg V.bl (decide_eq_true (by rw [ln]; exact c4)), if_t ⟨_, rfl, by show 2 ≤ sizeLine; decide, ?_⟩⟩
              refine told (due_noP (i := e) ?_) (fun t => SqT.of upd_same)
              unfold badP
              rw [if_pos (by omega), if_neg (by omega)]
            · refine ⟨false, congrArg V.bl (decide_eq_false (by rw [ln]; exact c4)), if_f ?_⟩
              have good : badP xs.length b e = none := by
                unfold badP
                exact (if_pos ⟨by omega, by omega⟩).trans (if_pos ⟨by omega, by omega⟩)
              refine ⟨_, rfl, _, rfl, _, rfl, _, rfl, _, rfl, n, _, rfl, SqL.of hn, fun l nl => ⟨by show 2 ≤ sizeLine; decide, fun t nt => ?_⟩⟩
              refine q t _ ((same_new nl).trans (same_new nt)) ?_
              rw [due_lst good]
              refine ⟨l, SqT.of upd_same, ?_, nl, ?_⟩
              · unfold NL
                rw [upd_ne (ne_of_none upd_same nt), upd_same, cut_part xs good]
              · rw [prt_len (by omega)]
                omega
def spSp : Sp := fun vs H Q _ => ∃ (p : Addr) (N n : Nat), vs = [.ref p, .int (n : Nat)] ∧ Dr H p N ∧ N < 900000 ∧ n ≤ 300 ∧ ∀ (v : Int) (H' : Hp), Kp p H H' → Dr H' p (N + 1) → -1 ≤ v → v ≤ 400 → Q (.int v) H'
theorem ok_sp (F : Fun K "_law_spot" "_law_spot" sSp f fd) (L_next : Cal P w K mg base k "_law_next" ["_law_draws_here"] spNext) : FnOk P w K mg base CX0 (k + 1) f fd ["_law_draws_here", "_law_many_here"] spSp := by
  refine F.ok scSp (fun vs H Q E h => ?_) (fun cdv A outer s H vs Q E hr h => ?_)
  · obtain ⟨p, N, n, rfl, _⟩ := h
    rfl
  · obtain ⟨p, N, n, rfl, dr, n9, few, q⟩ := h
    refine ⟨_, pss_cons (ps_set (i := 2) scSp.nd rfl (.inl rfl) (pe_cal L_next (hr.mono (by omega)) (by rfl) (pa_cons (pv 0) pa_nil)))
      (pss_one (ps_ret (pe_ix ix_list (pe_lst (pa_cons (pe_op op_mod (pe_op op_fdiv (pv 2) pe_int) (pe_op op_add (pv 1) pe_int)) (pa_cons (pe_op op_mod (pe_op op_fdiv (pv 2) pe_int) (pe_op op_add (pv 1) pe_int)) (pa_cons pe_int (pa_cons (pv 1) (pa_cons (pe_op op_sub (pv 1) pe_int) (pa_cons (pe_op op_add (pv 1) pe_int) (pa_cons (pe_un un_neg pe_int) (pa_cons pe_int pa_nil))))))))) (pe_op op_mod (pv 2) pe_int) (fun _ _ => rfl)))), ?_⟩
    refine ⟨_, rfl, p, N, rfl, dr, by omega, fun a H1 k1 d1 a0 a1 => ?_⟩
    have m0 : (0 : Int) < (n : Nat) + 1 := by omega
    refine ⟨_, rfl, _, _, rfl, rfl, ⟨by decide, by decide⟩, _, rfl, _, _, rfl, rfl, _, _, rfl, rfl, m0, _, rfl, _, _, rfl, rfl, ⟨by decide, by decide⟩, _, rfl, _, _, rfl, rfl, _, _, rfl, rfl, m0, _, rfl, _, rfl, _, _, rfl, rfl, _, rfl, _, _, rfl, rfl, _, rfl, by show 8 ≤ sizeLine; decide, fun u nu => ?_⟩
    obtain ⟨v, mm, me⟩ := atI_mem (xs := [a / 8 % ((n : Nat) + 1), a / 8 % ((n : Nat) + 1), 0, (n : Nat), (n : Nat) - 1, (n : Nat) + 1, -1, 32]) (i := a % 8) (by omega) (by show a % 8 < ((8 : Nat) : Int); omega)
    have b1 := Int.emod_nonneg (a / 8) (show ((n : Nat) + 1 : Int) ≠ 0 by omega)
    have b2 := Int.emod_lt_of_pos (a / 8) m0
    have vb : -1 ≤ v ∧ v ≤ 400 := by
      simp only [List.mem_cons, List.not_mem_nil, or_false] at mm
      omega
    have su := same_new (o := .lst [.int (a / 8 % ((n : Nat) + 1)), .int (a / 8 % ((n : Nat) + 1)), .int 0, .int (n : Nat), .int ((n : Nat) - 1), .int ((n : Nat) + 1), .int (-1), .int 32]) nu
    exact ⟨_, rfl, _, _, rfl, rfl, (by show (0 : Int) < 8; decide), u, _, _, _, rfl, rfl, SqL.of upd_same, me, q v _ (k1.trans (Kp.of su)) (d1.same su) vb.1 vb.2⟩
def spLk (C : Addr) : Sp := fun vs H Q _ => ∃ (a dx : Addr) (v g : V) (y : Wy) (xs : List Int) (z : Int), vs = [.ref a, v, .str y.nm] ∧ H a = some (.ins C dx (colF g y xs z)) ∧ 0 ≤ z ∧ z ≤ 31 ∧ (y.walks = false → z = 0) ∧ ∀ H', Same H H' → Q (.bl true) H'
theorem ok_lk (F : Fun K "_law_looks_right" "_law_looks_right" sLk f fd) (T : TCol K C) (M_looked_0 : CalM P w K mg base k C "looked" ["self"] (spLkd C)) (m_isinstance : mg "isinstance" = none) (m_bool : mg "bool" = none) : FnOk P w K mg base CX0 (k + 1) f fd ["_law_column", "_law_numbers_here", "_law_a_way"] (spLk C) := by
  refine F.ok scLk (fun vs H Q E h => ?_) (fun cdv A outer s H vs Q E hr h => ?_)
  · obtain ⟨a, dx, v, g, y, xs, z, rfl, _⟩ := h
    rfl
  · obtain ⟨a, dx, v, g, y, xs, z, rfl, ha, z0, z31, zw, q⟩ := h
    refine ⟨_, pss_cons (ps_if (PW.pt (pw_or (pt_cmpR op_lt (pe_calM0 (pv 0) T.cl M_looked_0 (hr.mono (by omega))) pe_int (nomark _)) (pw_or (pt_cmpR op_gt (pe_calM0 (pv 0) T.cl M_looked_0 (hr.mono (by omega))) pe_int (nomark _)) (pw_or1 (pt_val (pe_callB call_isi (by rfl) m_isinstance (by decide +kernel) (pa_cons (pe_calM0 (pv 0) T.cl M_looked_0 (hr.mono (by omega))) (pa_cons (pe_bltn (v := .ty "bool") (by rfl) m_bool (by decide +kernel) rfl) pa_nil))))))))
        (pss_one (ps_ret pe_bl))
        pss_nil)
      (pss_one (ps_ret (pe_or (pe_cmpR op_notIn_seq (pv 2) (pe_lst (pa_cons pe_str (pa_cons pe_str pa_nil))) (by with_unfolding_all rfl)) (pe_one (pe_cmpR op_eq (pe_calM0 (pv 0) T.cl M_looked_0 (hr.mono (by omega))) pe_int (nomark _)))))), ?_⟩
    refine ⟨_, rfl, a, dx, _, rfl, ha, rfl, a, dx, g, y, xs, z, rfl, ha, _, _, rfl, rfl, false, congrArg V.bl (decide_eq_false (by omega)), if_f ?_⟩
    refine ⟨_, rfl, a, dx, _, rfl, ha, rfl, a, dx, g, y, xs, z, rfl, ha, _, _, rfl, rfl, false, congrArg V.bl (decide_eq_false (by omega)), if_f ?_⟩
    refine ⟨_, rfl, a, dx, _, rfl, ha, rfl, a, dx, g, y, xs, z, rfl, ha, _, _, _, _, false, rfl, .ty "bool", .base (.int _), rfl, false, rfl, if_f ?_⟩
    refine ⟨_, rfl, by show 2 ≤ sizeLine; decide, fun l nl => ⟨l, _, rfl, .inl (SqL.of upd_same), rfl, rfl, ?_⟩⟩
    cases y with
    | plain => exact ⟨false, by decide +kernel, if_f ⟨_, rfl, a, dx, _, rfl, same_new nl _ _ ha, rfl, a, dx, g, _, xs, z, rfl, same_new nl _ _ ha, rfl, by rw [zw rfl, decide_eq_true rfl]; exact q _ (same_new nl)⟩⟩
    | book => exact ⟨false, by decide +kernel, if_f ⟨_, rfl, a, dx, _, rfl, same_new nl _ _ ha, rfl, a, dx, g, _, xs, z, rfl, same_new nl _ _ ha, rfl, by rw [zw rfl, decide_eq_true rfl]; exact q _ (same_new nl)⟩⟩
    | «by» W => cases W <;> exact ⟨true, by decide +kernel, if_t (q _ (same_new nl))⟩
end
end Tg

namespace Tg
open PySem PySem.Spec PyProof.Rows L2 LamX
open SX (S)
/-! ### a column is asked, within a try -/
abbrev sAs : Stmt := topS 46
abbrev NAs : List Str := ["_law_column", "_law_a_start", "_law_a_end"]
theorem scAs : FnScope ["_law_column", "_law_a_start", "_law_a_end", "_law_kept", "_law_told", "e"] NAs (defScope sAs) := ⟨rfl, rfl, rfl, by decide +kernel, rfl, by decide +kernel, by decide +kernel⟩
/-- what the top says of NoPlace and of three other errors -/
structure PlF (K : PySem.W.Frag) (mg : Str → Option Value) (CP CG CN CS : Addr) : Prop where
  mP : mg "NoPlace" = some (.ref CP)
  mG : mg "Gone" = some (.ref CG)
  mN : mg "NoNumber" = some (.ref CN)
  mS : mg "NoSeries" = some (.ref CS)
  mi : mg "isinstance" = none
  mI : mg "IndexError" = none
  kI : PySem.W.kitOne K (.ref CP) (.type "IndexError") = some true
  kA : PySem.W.kitAny K (.ref CP) [.ref CG, .ref CN, .ref CS] = some false
  xc : ExcC K CP
  xf : XfC K CP
  no : PySem.W.findIn K (.ref CP) "at" = some none
  ex : PySem.W.exmOne K (.ref CP) (.ref CP) = some true
def Ans.tells : Ans → Bool
  | .no _ => false
  | _ => true
section
variable {P : Program} {w : World} {K : PySem.W.Frag} {mg : Str → Option Value} {base : Heap} {f : Addr} {fd : FuncData} {k : Nat} {C CP CG CN CS : Addr} {T0 : List (Addr × Str)}
def spAs (K : PySem.W.Frag) (C : Addr) (T0 : List (Addr × Str)) : Sp := fun vs H Q _ => ∃ (a : Addr) (y : Wy) (xs : List Int) (s : Int) (o : Option Int), vs = [.ref a, .int s, oV o] ∧ ColO K C H a y xs ∧ Lo 70 xs ∧ xs.length ≤ 300 ∧
  ∀ (t : Addr) (H' : Hp), Std C T0 H H' → AnsT K H H' t (dueOf xs s o) → ((dueOf xs s o).tells = true → Lkd C H' a y xs) → Q (.ref t) H'
theorem lkd_same {H H' : Hp} {a : Addr} {y : Wy} {xs : List Int} (s : Same H H') (h : Lkd C H a y xs) : Lkd C H' a y xs := by
  obtain ⟨dx, g, z, ha, r⟩ := h
  exact ⟨dx, g, z, s _ _ ha, r⟩
theorem ok_as (F : Fun K "_law_asked" "_law_asked" sAs f fd) (T : TCol K C) (Z : PlF K mg CP CG CN CS) (M_one : CalMR P w K mg base k C "one" ["self", "place"] (spOnX K C CP T0)) (M_part : CalMR P w K mg base k C "part" ["self", "start", "end"] (spPtX K C CP T0)) : FnOk P w K mg base CX0 (k + 1) f fd NAs (spAs K C T0) := by
  refine F.ok scAs (fun vs H Q E h => ?_) (fun cdv A outer s H vs Q E hr h => ?_)
  · obtain ⟨a, y, xs, s, o, rfl, _⟩ := h
    rfl
  · obtain ⟨a, y, xs, b, o, rfl, col, lo, few, q⟩ := h
    refine ⟨_, pss_cons (ps_set (i := 3) scAs.nd rfl (.inl rfl) pe_non) (pss_cons (ps_set (i := 4) scAs.nd rfl (.inl rfl) pe_non)
      (pss_cons (ps_try_keep (i := 5) (j := 3) rfl rfl rfl scAs.nd rfl rfl rfl rfl (tests_one ⟨by rfl, by decide, .inl Z.mP⟩)
        (fun W pn xe tk _ => pss_one (ps_if (pt_cmpR op_isN (pv 2) pe_non (nomark _))
          (pss_one (ps_set (i := 4) scAs.nd rfl (.inl rfl) (pe_calMT (pv 0) T.cl M_one hr tk (pa_cons (pv 1) pa_nil))))
          (pss_one (ps_set (i := 4) scAs.nd rfl (.inl rfl) (pe_calMT (pv 0) T.cl M_part hr tk (pa_cons (pv 1) (pa_cons (pv 2) pa_nil))))))))
      (pss_cons (ps_if (pt_cmpR op_isN (pv 3) pe_non (nomark _)) (pss_one (ps_ret (pe_tup (pa_cons pe_str (pa_cons (pv 4) pa_nil))))) pss_nil)
      (pss_cons (ps_if (PW.pt (pw_or (pt_not (pt_val (pe_callB call_isV (by rfl) Z.mi PyProof.Rows.boot_isinstance (pa_cons (pv 3) (pa_cons (pe_bltn (v := .ty "IndexError") (by rfl) Z.mI PyProof.Rows.Boot.«IndexError» rfl) pa_nil)))))
          (pw_or1 (pt_val (pe_callB call_isVT (by rfl) Z.mi PyProof.Rows.boot_isinstance (pa_cons (pv 3) (pa_cons (pe_tup (pa_cons (pe_glob (v := .ref CG) (by rfl) Z.mG rfl) (pa_cons (pe_glob (v := .ref CN) (by rfl) Z.mN rfl) (pa_cons (pe_glob (v := .ref CS) (by rfl) Z.mS rfl) pa_nil)))) pa_nil)))))))
        (pss_one (ps_ret (pe_tup (pa_cons pe_str (pa_cons pe_non pa_nil))))) pss_nil)
      (pss_one (ps_ret (pe_tup (pa_cons pe_str (pa_cons (pe_exf (pv 3)) pa_nil))))))))), ?_⟩
    obtain ⟨dx, g, z, ha, gd⟩ := id col
    cases o with
    | none =>
      refine ⟨_, rfl, rfl, true, rfl, if_t ⟨_, rfl, a, dx, _, rfl, ha, rfl, _, rfl, a, y, xs, b, rfl, col, lo, few, fun i hb d H' s' nd hd => ⟨Z.ex, fun e ne => ?_⟩, fun hb x H1 ex s1 lk => ?_⟩⟩
      · have sb : Same H' (upd H' e (ExV (.ref CP) (some d) e)) := same_new ne
        have hbb : (upd H' e (ExV (.ref CP) (some d) e)) e = some (ExV (.ref CP) (some d) e) := upd_same
        have hdd := sb _ _ hd
        refine ⟨_, rfl, rfl, false, rfl, if_f ?_⟩
        refine ⟨_, rfl, e, CP, d, _, .ty "IndexError", .type "IndexError", true, rfl, hbb, hdd, Z.xc, .ty _, Z.kI, true, rfl, if_f ?_⟩
        refine ⟨_, rfl, by show 3 ≤ sizeLine; decide, fun tp ntp => ?_⟩
        have st := same_new (o := .tup [.ref CG, .ref CN, .ref CS]) ntp
        refine ⟨e, CP, d, tp, _, _, _, false, rfl, st _ _ hbb, st _ _ hdd, Z.xc, upd_same, .cons (.own _) (.cons (.own _) (.cons (.own _) .nil)), Z.kA, false, rfl, if_f ?_⟩
        refine ⟨_, rfl, e, CP, d, _, .int i, rfl, st _ _ hbb, Z.xf, Z.no, st _ _ hdd, rfl, by show 2 ≤ sizeLine; decide, fun t nt => ?_⟩
        refine q t _ (.same (((s'.trans sb).trans st).trans (same_new nt))) ?_ ?_
        · rw [due_noO hb]
          exact SqT.of upd_same
        · rw [due_noO hb]
          exact fun z => nomatch z
      · refine ⟨_, rfl, rfl, true, rfl, if_t ⟨_, rfl, by show 2 ≤ sizeLine; decide, fun t nt => ?_⟩⟩
        refine q t _ (s1.trans (.same (same_new nt))) ?_ fun _ => lkd_same (same_new nt) lk
        rw [due_num hb ex]
        exact SqT.of upd_same
    | some e2 =>
      refine ⟨_, rfl, rfl, false, rfl, if_f ⟨_, rfl, a, dx, _, rfl, ha, rfl, _, rfl, _, rfl, a, y, xs, b, e2, rfl, col, lo, few, fun i hb d H' s' nd hd => ⟨Z.ex, fun e ne => ?_⟩, fun hb l H1 s1 nl hl lk => ?_⟩⟩
      · have sb : Same H' (upd H' e (ExV (.ref CP) (some d) e)) := same_new ne
        have hbb : (upd H' e (ExV (.ref CP) (some d) e)) e = some (ExV (.ref CP) (some d) e) := upd_same
        have hdd := sb _ _ hd
        refine ⟨_, rfl, rfl, false, rfl, if_f ?_⟩
        refine ⟨_, rfl, e, CP, d, _, .ty "IndexError", .type "IndexError", true, rfl, hbb, hdd, Z.xc, .ty _, Z.kI, true, rfl, if_f ?_⟩
        refine ⟨_, rfl, by show 3 ≤ sizeLine; decide, fun tp ntp => ?_⟩
        have st := same_new (o := .tup [.ref CG, .ref CN, .ref CS]) ntp
        refine ⟨e, CP, d, tp, _, _, _, false, rfl, st _ _ hbb, st _ _ hdd, Z.xc, upd_same, .cons (.own _) (.cons (.own _) (.cons (.own _) .nil)), Z.kA, false, rfl, if_f ?_⟩
        refine ⟨_, rfl, e, CP, d, _, .int i, rfl, st _ _ hbb, Z.xf, Z.no, st _ _ hdd, rfl, by show 2 ≤ sizeLine; decide, fun t nt => ?_⟩
        refine q t _ (.same (((s'.trans sb).trans st).trans (same_new nt))) ?_ ?_
        · rw [due_noP hb]
          exact SqT.of upd_same
        · rw [due_noP hb]
          exact fun z => nomatch z
      · refine ⟨_, rfl, rfl, true, rfl, if_t ⟨_, rfl, by show 2 ≤ sizeLine; decide, fun t nt => ?_⟩⟩
        refine q t _ (s1.trans (.same (same_new nt))) ?_ fun _ => lkd_same (same_new nt) lk
        rw [due_lst hb]
        refine ⟨l, SqT.of upd_same, same_new nt _ _ hl, nl, ?_⟩
        have bnd : e2 ≤ xs.length ∧ 0 ≤ e2 := by
          unfold badP at hb
          split at hb
          · split at hb
            · omega
            · cases hb
          · cases hb
        rw [prt_len (by omega)]
        omega
end
end Tg

namespace Tg
open PySem PySem.Spec PyProof.Rows L2 LamX
open SX (S)
/-! ### a column looked into, some draws beside it -/
abbrev sRt : Stmt := topS 50
abbrev NRt : List Str := ["_law_draws_here", "_law_numbers_here", "_law_column", "_law_k", "_law_a_start", "_law_a_end", "_law_end_asked", "_law_told"]
theorem scRt : FnScope NRt ["_law_draws_here", "_law_numbers_here", "_law_column"] (defScope sRt) := ⟨rfl, rfl, rfl, by decide +kernel, rfl, by decide +kernel, by decide +kernel⟩
def forBody : Stmt → List Stmt
  | .For (body := b) .. => b
  | _ => []
abbrev noStmt : Stmt := .Pass ⟨0, 0, 0, 0⟩
abbrev bRk : List Stmt := forBody ((defBody sRt).getD 1 noStmt)
abbrev bRi : List Stmt := forBody (bRk.getD 2 noStmt)
/-- what stands while draws are taken and columns asked and made -/
structure Kc (C : Addr) (T : List (Addr × Str)) (p : Addr) (H H' : Hp) : Prop where
  keep : ∀ b o, b ≠ p → H b = some o → (∀ ps, o ≠ .tbl ps) → (∀ dx fs, o ≠ .ins C dx fs) → H' b = some o
  tabs : Tabs T H → Tabs T H'
section
variable {C p : Addr} {T : List (Addr × Str)} {H H1 H2 H' : Hp} {K : PySem.W.Frag}
theorem Kc.refl (C : Addr) (T : List (Addr × Str)) (p : Addr) (H : Hp) : Kc C T p H H := ⟨fun _ _ _ h _ _ => h, id⟩
theorem Kc.trans (a : Kc C T p H H1) (b : Kc C T p H1 H2) : Kc C T p H H2 := ⟨fun c o n h n1 n2 => b.keep c o n (a.keep c o n h n1 n2) n1 n2, fun t => b.tabs (a.tabs t)⟩
theorem Kc.std (s : Std C T H H') : Kc C T p H H' := ⟨fun b o _ h n1 n2 => s.keep b o h n1 n2, s.tabs⟩
theorem Kc.kp {N : Nat} (d : Dr H p N) (k : Kp p H H') : Kc C T p H H' := by
  obtain ⟨_, _, _, h, _⟩ := d
  exact ⟨fun b o n e _ _ => k b o n e, tabs_kp k h (fun _ z => nomatch z) (fun _ z => nomatch z)⟩
theorem Kc.nl {l : Addr} {xs : List Int} (s : Kc C T p H H') (n : l ≠ p) (h : NL H l xs) : NL H' l xs := s.keep _ _ n h (fun _ z => nomatch z) fun _ _ z => nomatch z
theorem Std.dr {N : Nat} (s : Std C T H H') (d : Dr H p N) : Dr H' p N := by
  obtain ⟨a, k, b, h, r⟩ := d
  exact ⟨a, k, b, s.lst h, r⟩
/-- the draws' list changes on both sides alike -/
theorem Std.at {ws zs : List V} (s : Std C T H H') (h : H p = some (.lst ws)) : Std C T (upd H p (.lst zs)) (upd H' p (.lst zs)) := by
  have h' := s.lst h
  refine ⟨fun b o e n1 n2 => ?_, fun b dx g y xs z e => ?_, fun t => ?_⟩
  · by_cases q : b = p
    · subst q
      rw [upd_same] at e ⊢
      exact e
    · rw [upd_ne q] at e ⊢
      exact s.keep b o e n1 n2
  · by_cases q : b = p
    · subst q
      rw [upd_same] at e
      cases e
    · rw [upd_ne q] at e
      obtain ⟨z', r⟩ := s.cols b dx g y xs z e
      exact ⟨z', by rw [upd_ne q]; exact r⟩
  · have t1 : Tabs T H := tabs_kp (p := p) (o := .lst zs) (fun b o hb e => by rw [upd_ne hb] at e; exact e) upd_same (fun _ z => nomatch z) (fun _ z => nomatch z) t
    exact tabs_kp (p := p) (o := .lst ws) (fun b o hb e => by rw [upd_ne hb]; exact e) h' (fun _ z => nomatch z) (fun _ z => nomatch z) (s.tabs t1)
/-- a column that stands, whatever the draws' list holds -/
structure ColP (K : PySem.W.Frag) (C p : Addr) (H : Hp) (a : Addr) (y : Wy) (xs : List Int) : Prop where
  now : ColO K C H a y xs
  any : ∀ zs, ColO K C (upd H p (.lst zs)) a y xs
theorem ColP.std {a : Addr} {y : Wy} {xs : List Int} {N : Nat} (s : Std C T H H') (d : Dr H p N) (c : ColP K C p H a y xs) : ColP K C p H' a y xs := by
  obtain ⟨_, _, _, h, _⟩ := d
  exact ⟨s.col c.now, fun zs => (s.at h).col (c.any zs)⟩
theorem ColP.kp {a : Addr} {y : Wy} {xs : List Int} {N : Nat} (k : Kp p H H') (d : Dr H' p N) (c : ColP K C p H a y xs) : ColP K C p H' a y xs := by
  obtain ⟨d1, d2, d3, h, _⟩ := d
  have al : ∀ zs, ColO K C (upd H' p (.lst zs)) a y xs := fun zs => (c.any zs).same fun b o e => by
    by_cases q : b = p
    · subst q
      rw [upd_same] at e ⊢
      exact e
    · rw [upd_ne q] at e ⊢
      exact k b o q e
  refine ⟨?_, al⟩
  have z := al [.int d1, .int d2, .bl d3]
  rw [show upd H' p (.lst [.int d1, .int d2, .bl d3]) = H' from funext fun b => by
    by_cases q : b = p
    · subst q
      rw [upd_same]
      exact h.symm
    · exact upd_ne q] at z
  exact z
end
/-- all that the turns keep -/
structure RtI (K : PySem.W.Frag) (C : Addr) (T : List (Addr × Str)) (p l a : Addr) (y : Wy) (xs : List Int) (H0 H : Hp) (N : Nat) : Prop where
  kc : Kc C T p H0 H
  dr : Dr H p N
  col : ColP K C p H a y xs
  nums : NL H l xs
  ne : l ≠ p
section
variable {K : PySem.W.Frag} {C : Addr} {T : List (Addr × Str)} {p l a : Addr} {y : Wy} {xs : List Int} {H0 H H' : Hp} {N N' : Nat}
theorem RtI.std (s : Std C T H H') (i : RtI K C T p l a y xs H0 H N) : RtI K C T p l a y xs H0 H' N := ⟨i.kc.trans (.std s), s.dr i.dr, i.col.std s i.dr, s.nl i.nums, i.ne⟩
theorem RtI.kp (k : Kp p H H') (d : Dr H' p N') (i : RtI K C T p l a y xs H0 H N) : RtI K C T p l a y xs H0 H' N' := ⟨i.kc.trans (.kp i.dr k), d, i.col.kp k d, k _ _ i.ne i.nums, i.ne⟩
end
def Ans.isL : Ans → Bool
  | .lst _ => true
  | _ => false
theorem eqv_self {d : PyData} (h : SeqAt.shaped d = true) : PyData.eqv d d = true := SeqAt.eqv_refl _ (SeqAt.canLay_of_shaped h)
/-- an answer's two things -/
theorem ans_view {K : PySem.W.Frag} {H0 H : Hp} {t : Addr} : ∀ {an : Ans}, AnsT K H0 H t an → ∃ (u v : V) (tv : Value), SqT K H t [u, v] ∧ TyX K H v tv ∧ PySem.W.kitOne K tv (.type "bool") = some false ∧ PySem.W.kitOne K tv (.type "list") = some an.isL ∧ (∃ x, u = .str x ∧ decide (V.str x = .str (Str.ofString "told")) = an.tells) ∧
    (an.isL = true → ∃ (m : Addr) (ys : List Int), v = .ref m ∧ NL H m ys ∧ H0 m = none ∧ ys.length ≤ 300)
  | .num x, h => ⟨_, _, _, h, .base (.int x), rfl, rfl, ⟨_, rfl, decide_eq_true rfl⟩, fun z => nomatch z⟩
  | .no i, h => ⟨_, _, _, h, .base (.int i), rfl, rfl, ⟨_, rfl, decide_eq_false fun z => absurd (V.str.inj z) (by decide)⟩, fun z => nomatch z⟩
  | .lst ys, ⟨m, h, hm, n, few⟩ => ⟨_, _, _, h, .base (.lst hm), rfl, rfl, ⟨_, rfl, decide_eq_true rfl⟩, fun _ => ⟨m, ys, rfl, hm, n, few⟩⟩
section
variable {P : Program} {w : World} {K : PySem.W.Frag} {mg : Str → Option Value} {base : Heap} {f : Addr} {fd : FuncData} {k : Nat} {C CP : Addr} {T0 : List (Addr × Str)} {cdv : Value} {A : Around} {outer : List Env} {s : Shared} {Hs : Hp} {E : XK}
/-- from the row on that asks for a list -/
def RL (K : PySem.W.Frag) (C : Addr) (T0 : List (Addr × Str)) : TS := fun D σ H => ∃ (v0 v1 v2 v3 v4 v5 v6 : Option V) (t : Addr) (an : Ans) (H0 : Hp), σ = [v0, v1, v2, v3, v4, v5, v6, some (.ref t)] ∧ Std C T0 H0 H ∧ AnsT K H0 H t an ∧ ∀ H', Std C T0 H0 H' → D.nx [v0, v1, v2, v3, v4, v5, v6, some (.ref t)] H'
theorem rl_ (m_isinstance : mg "isinstance" = none) (m_list : mg "list" = none) : PSs (cxOf CX0 P w K mg base NRt "_law_right" (defScope sRt) f cdv A outer s Hs E).nox (bRi.drop 3) (RL K C T0) := by
  refine pss_by (pss_one (ps_if (pt_val (pe_callB call_isi (by rfl) m_isinstance (by decide +kernel) (pa_cons (pe_ix ix_tup (pv 7) pe_int (fun _ _ => rfl)) (pa_cons (pe_bltn (v := .ty "list") (by rfl) m_list (by decide +kernel) rfl) pa_nil))))
        (pss_one (ps_expr (pe_bm PySem.F.plainAttrs_list PySem.F.slot_list_append PySem.F.type_list_append mt_append (pe_ix ix_tup (pv 7) pe_int (fun _ _ => rfl)) (pa_cons pe_non pa_nil))))
        pss_nil)) ?_
  rintro D σ H ⟨v0, v1, v2, v3, v4, v5, v6, t, an, H0, rfl, st, ans, q⟩
  obtain ⟨u, v, tv, ht, ty, kb, kl, _, hl⟩ := ans_view ans
  refine ⟨_, rfl, t, _, _, v, rfl, rfl, ht, atI_nat (j := 1) rfl, v, .ty "list", tv, .type "list", an.isL, rfl, .ty _, ty, kl, an.isL, rfl, ?_⟩
  cases hb : an.isL with
  | false => exact if_f (q H st)
  | true =>
    obtain ⟨m, ys, rfl, hm, n0, few⟩ := hl hb
    refine if_t ⟨_, rfl, t, _, _, .ref m, rfl, rfl, ht, atI_nat (j := 1) rfl, .inl ⟨rfl, _, SqL.of hm⟩, m, _, .non, rfl, rfl, hm, by rw [List.length_map]; exact Nat.lt_of_le_of_lt few (by decide), ?_⟩
    exact q _ (st.setL n0 hm)
def RI (K : PySem.W.Frag) (C : Addr) (T0 : List (Addr × Str)) : TS := fun D σ H => ∃ (v0 v3 v7 : Option V) (l a : Addr) (y : Wy) (xs : List Int) (b e : Int) (o : Option Int), σ = [v0, some (.ref l), some (.ref a), v3, some (.int b), some (.int e), some (oV o), v7] ∧ ColO K C H a y xs ∧ NL H l xs ∧ Lo 70 xs ∧ xs.length ≤ 300 ∧
  ∀ (t : Addr) (H' : Hp), Std C T0 H H' → D.nx [v0, some (.ref l), some (.ref a), v3, some (.int b), some (.int e), some (oV o), some (.ref t)] H'
theorem ri_ (hr : Room k (A.deeper (envOfC "_law_right" (defScope sRt) s.heap.objs.size f cdv))) (T : TCol K C) (L_asked : Cal P w K mg base k "_law_asked" NAs (spAs K C T0)) (L_due : Cal P w K mg base k "_law_due" NDu (spDu K)) (L_looks_right : Cal P w K mg base k "_law_looks_right" ["_law_column", "_law_numbers_here", "_law_a_way"] (spLk C)) (m_isinstance : mg "isinstance" = none) (m_bool : mg "bool" = none)
    (tail : PSs (cxOf CX0 P w K mg base NRt "_law_right" (defScope sRt) f cdv A outer s Hs E).nox (bRi.drop 3) (RL K C T0)) : PSs (cxOf CX0 P w K mg base NRt "_law_right" (defScope sRt) f cdv A outer s Hs E).nox bRi (RI K C T0) := by
  have hu := hr.units
  refine pss_by (pss_cons (ps_set (i := 7) scRt.nd rfl (.inl rfl) (pe_cal L_asked (hr.mono (by omega)) (by rfl) (pa_cons (pv 2) (pa_cons (pv 4) (pa_cons (pv 6) pa_nil)))))
      (pss_cons (ps_if (PW.pt (pw_or (pt_cmpR (op_neD hu) (pv 7) (pe_cal L_due (hr.mono (by omega)) (by rfl) (pa_cons (pv 1) (pa_cons (pv 4) (pa_cons (pv 6) pa_nil)))) (nomark _)) (pw_or1 (pt_val (pe_callB call_isi (by rfl) m_isinstance (by decide +kernel) (pa_cons (pe_ix ix_tup (pv 7) pe_int (fun _ _ => rfl)) (pa_cons (pe_bltn (v := .ty "bool") (by rfl) m_bool (by decide +kernel) rfl) pa_nil)))))))
        (pss_one (ps_ret pe_bl))
        pss_nil)
      (pss_cons (ps_if (PW.pt (pw_and (pt_cmpR op_eq (pe_ix ix_tup (pv 7) pe_int (fun _ _ => rfl)) pe_str (nomark _)) (pw_and1 (pt_not (pt_val (pe_cal L_looks_right (hr.mono (by omega)) (by rfl) (pa_cons (pv 2) (pa_cons (pv 1) (pa_cons (pe_fld (pv 2) rfl) pa_nil)))))))))
        (pss_one (ps_ret pe_bl))
        pss_nil)
      tail))) ?_
  rintro D σ H ⟨v0, v3, v7, l, a, y, xs, b, e, o, rfl, col, hl, lo, few, q⟩
  refine ⟨_, rfl, _, rfl, _, rfl, a, y, xs, b, o, rfl, col, lo, few, fun t H1 s1 ans lk => ?_⟩
  have hl1 := s1.nl hl
  refine ⟨_, rfl, _, rfl, _, rfl, _, rfl, l, xs, b, o, rfl, hl1, few, fun t2 H2 s2 ans2 => ?_⟩
  have an2 := ans_same s2 ans
  obtain ⟨u, v, tv, ht, ty, kb, kl, ⟨x, rfl, ex⟩, _⟩ := ans_view an2
  refine ⟨_, _, ans_dp an2, ans_dp ans2, ans_shaped _, ans_shaped _, false, congrArg V.bl (by rw [eqv_self (ans_shaped _)]; rfl), if_f ?_⟩
  refine ⟨_, rfl, t, _, _, v, rfl, rfl, ht, atI_nat (j := 1) rfl, v, .ty "bool", tv, .type "bool", false, rfl, .ty _, ty, kb, false, rfl, if_f ?_⟩
  have st2 := s1.trans (.same s2)
  refine ⟨_, rfl, t, _, _, .str x, rfl, rfl, ht, atI_nat (j := 0) rfl, rfl, _, congrArg V.bl ex, ?_⟩
  cases hb : (dueOf xs b o).tells with
  | false => exact if_f ⟨_, _, _, _, _, _, _, t, _, H, rfl, st2, an2, fun H' s' => q t H' s'⟩
  | true =>
    obtain ⟨dx, g, z, ha, z0, z31, zw⟩ := lkd_same s2 (lk hb)
    refine if_t ⟨_, rfl, _, rfl, _, rfl, a, C, dx, _, _, rfl, ha, T.cl, T.no _ (by decide), rfl, a, dx, .ref l, g, y, xs, z, rfl, ha, z0, z31, zw, fun H3 s3 => ⟨true, rfl, if_f ?_⟩⟩
    exact ⟨_, _, _, _, _, _, _, t, _, H, rfl, st2.trans (.same s3), ans_same s3 an2, fun H' s' => q t H' s'⟩
end
end Tg

namespace Tg
open PySem PySem.Spec PyProof.Rows L2 LamX
open SX (S)
section
variable {P : Program} {w : World} {K : PySem.W.Frag} {mg : Str → Option Value} {base : Heap} {f : Addr} {fd : FuncData} {k : Nat} {C CP : Addr} {T0 : List (Addr × Str)} {cdv : Value} {A : Around} {outer : List Env} {s : Shared} {Hs : Hp} {E : XK}
/-- the ends chosen -/
def RM (K : PySem.W.Frag) (C : Addr) (T0 : List (Addr × Str)) : TS := fun D σ H => ∃ (v0 v3 v6 v7 : Option V) (l a : Addr) (y : Wy) (xs : List Int) (b e : Int), σ = [v0, some (.ref l), some (.ref a), v3, some (.int b), some (.int e), v6, v7] ∧ ColO K C H a y xs ∧ NL H l xs ∧ Lo 70 xs ∧ xs.length ≤ 300 ∧
  ∀ (z6 z7 : Option V) (H' : Hp), Std C T0 H H' → D.nx [v0, some (.ref l), some (.ref a), v3, some (.int b), some (.int e), z6, z7] H'
theorem rm_ (turn : PSs (cxOf CX0 P w K mg base NRt "_law_right" (defScope sRt) f cdv A outer s Hs E).nox bRi (RI K C T0)) : PSs (cxOf CX0 P w K mg base NRt "_law_right" (defScope sRt) f cdv A outer s Hs E).nox (bRk.drop 2) (RM K C T0) := by
  refine pss_by (pss_one (ps_for PassesOwn.never rfl (pi_list (pe_lst (pa_cons (pv 5) (pa_cons pe_non pa_nil)))) (pg_name (i := 6) scRt.nd rfl (.inl rfl)) turn)) ?_
  rintro D σ H ⟨v0, v3, v6, v7, l, a, y, xs, b, e, rfl, col, hl, lo, few, q⟩
  refine ⟨_, rfl, by show 2 ≤ sizeLine; decide, fun L nL => ⟨L, rfl, ⟨_, SqL.of upd_same⟩, ?_⟩⟩
  have sL := same_new (o := .lst [.int e, .non]) nL
  obtain ⟨HL, eL⟩ : ∃ HL, upd H L (.lst [.int e, .non]) = HL := ⟨_, rfl⟩
  have mL : HL L = some (.lst [.int e, .non]) := by
    rw [← eL]
    exact upd_same
  have stL : Std C T0 H HL := by
    rw [← eL]
    exact .same sL
  dsimp only
  rw [eL]
  refine for_list (K := K) (a := L) (xs := [.int e, .non]) (fun j σ Hd => ∃ z6 z7 : Option V, σ = [v0, some (.ref l), some (.ref a), v3, some (.int b), some (.int e), z6, z7] ∧ Std C T0 HL Hd) ⟨_, _, rfl, Std.refl _⟩ ?_ ?_ ?_
  · rintro j σ Hd _ ⟨_, _, _, h⟩
    exact SqL.of (h.lst mL)
  · rintro j v σ Hd hv ⟨z6, z7, rfl, sd⟩
    have td := stL.trans sd
    obtain ⟨o, rfl⟩ : ∃ o, v = oV o := by
      match j, hv with
      | 0, hv => exact ⟨some e, (Option.some.inj hv).symm⟩
      | 1, hv => exact ⟨none, (Option.some.inj hv).symm⟩
    exact ⟨_, _, _, l, a, y, xs, b, e, o, rfl, td.col col, td.nl hl, lo, few, fun t H' s' => ⟨_, _, rfl, sd.trans s'⟩⟩
  · rintro σ Hd ⟨z6, z7, rfl, sd⟩
    exact q _ _ Hd (stL.trans sd)
def RK (K : PySem.W.Frag) (C : Addr) (T0 : List (Addr × Str)) : TS := fun D σ H => ∃ (v4 v5 v6 v7 : Option V) (p l a : Addr) (y : Wy) (xs : List Int) (N : Nat) (kk : Int) (H0 : Hp), σ = [some (.ref p), some (.ref l), some (.ref a), some (.int kk), v4, v5, v6, v7] ∧ RtI K C T0 p l a y xs H0 H N ∧ N < 800000 ∧ Lo 70 xs ∧ xs.length ≤ 300 ∧
  ∀ (z4 z5 z6 z7 : Option V) (H' : Hp), RtI K C T0 p l a y xs H0 H' (N + 2) → D.nx [some (.ref p), some (.ref l), some (.ref a), some (.int kk), z4, z5, z6, z7] H'
theorem rk_ (hr : Room k (A.deeper (envOfC "_law_right" (defScope sRt) s.heap.objs.size f cdv))) (L_spot : Cal P w K mg base k "_law_spot" ["_law_draws_here", "_law_many_here"] spSp) (m_len : mg "len" = none) (m_min : mg "min" = none) (m_max : mg "max" = none)
    (tail : PSs (cxOf CX0 P w K mg base NRt "_law_right" (defScope sRt) f cdv A outer s Hs E).nox (bRk.drop 2) (RM K C T0)) : PSs (cxOf CX0 P w K mg base NRt "_law_right" (defScope sRt) f cdv A outer s Hs E).nox bRk (RK K C T0) := by
  refine pss_by (pss_cons (ps_par (i := 4) (j := 5) rfl scRt.nd rfl rfl (by decide) rfl rfl (pa_cons (pe_cal L_spot (hr.mono (by omega)) (by rfl) (pa_cons (pv 0) (pa_cons (pe_callB call_len_seq (by rfl) m_len (by decide +kernel) (pa_cons (pv 1) pa_nil)) pa_nil))) (pa_cons (pe_cal L_spot (hr.mono (by omega)) (by rfl) (pa_cons (pv 0) (pa_cons (pe_callB call_len_seq (by rfl) m_len (by decide +kernel) (pa_cons (pv 1) pa_nil)) pa_nil))) pa_nil)) rfl)
      (pss_cons (ps_if (pt_cmpR op_eq (pe_op op_mod (pv 3) pe_int) pe_int (nomark _))
        (pss_one (ps_par (i := 4) (j := 5) rfl scRt.nd rfl rfl (by decide) rfl rfl (pa_cons (pe_callB (call_min2 rfl) (by rfl) m_min (by decide +kernel) (pa_cons (pv 4) (pa_cons (pv 5) pa_nil))) (pa_cons (pe_callB (call_max2 rfl) (by rfl) m_max (by decide +kernel) (pa_cons (pv 4) (pa_cons (pv 5) pa_nil))) pa_nil)) rfl))
        pss_nil)
      tail)) ?_
  rintro D σ H ⟨v4, v5, v6, v7, p, l, a, y, xs, N, kk, H0, rfl, ri, n8, lo, few, q⟩
  refine ⟨_, rfl, _, rfl, l, _, rfl, .inl (SqL.of ri.nums), p, N, xs.length, congrArg (fun n : Nat => [V.ref p, .int (n : Nat)]) (List.length_map ..), ri.dr, by omega, few, fun b H1 k1 d1 _ _ => ?_⟩
  have r1 := ri.kp k1 d1
  refine ⟨_, rfl, _, rfl, l, _, rfl, .inl (SqL.of r1.nums), p, N + 1, xs.length, congrArg (fun n : Nat => [V.ref p, .int (n : Nat)]) (List.length_map ..), r1.dr, by omega, few, fun e H2 k2 d2 _ _ => ?_⟩
  have r2 := r1.kp k2 d2
  refine ⟨_, _, rfl, _, rfl, _, _, rfl, rfl, (by show (0 : Int) < 3; decide), rfl, _, rfl, ite2 (fun _ => ?_) (fun _ => ?_)⟩
  · refine ⟨_, rfl, _, rfl, _, _, rfl, _, rfl, _, rfl, _, _, rfl, _, _, rfl, ?_⟩
    exact ⟨_, _, _, _, l, a, y, xs, _, _, rfl, r2.col.now, r2.nums, lo, few, fun z6 z7 H' s' => q _ _ _ _ H' (r2.std s')⟩
  · exact ⟨_, _, _, _, l, a, y, xs, _, _, rfl, r2.col.now, r2.nums, lo, few, fun z6 z7 H' s' => q _ _ _ _ H' (r2.std s')⟩
def spRt (K : PySem.W.Frag) (C : Addr) (T0 : List (Addr × Str)) : Sp := fun vs H Q _ => ∃ (p l a : Addr) (y : Wy) (xs : List Int) (N : Nat), vs = [.ref p, .ref l, .ref a] ∧ Dr H p N ∧ N < 700000 ∧ ColZ K C H a y xs 0 ∧ (∀ zs, ColO K C (upd H p (.lst zs)) a y xs) ∧ NL H l xs ∧ l ≠ p ∧ Lo 70 xs ∧ xs.length ≤ 300 ∧
  ∀ H', Kc C T0 p H H' → Dr H' p (N + 16) → Q (.bl true) H'
theorem ok_right (F : Fun K "_law_right" "_law_right" sRt f fd) (T : TCol K C) (M_looked_0 : CalM P w K mg base k C "looked" ["self"] (spLkd C)) (M_unpacked_0 : CalM P w K mg base k C "unpacked" ["self"] (spCU K C)) (M_part_k : CalMK P w K mg base k C "part" ["self", "start", "end"] ["end", "start"] [1, 0] (spPt K C T0)) (m_len : mg "len" = none) (m_range : mg "range" = none)
    (turns : ∀ (cdv : Value) (A : Around) (outer : List Env) (s : Shared) (H : Hp) (E : XK), Room k (A.deeper (envOfC "_law_right" (defScope sRt) s.heap.objs.size f cdv)) → PSs (cxOf CX0 P w K mg base NRt "_law_right" (defScope sRt) f cdv A outer s H E).nox bRk (RK K C T0)) : FnOk P w K mg base CX0 (k + 1) f fd ["_law_draws_here", "_law_numbers_here", "_law_column"] (spRt K C T0) := by
  refine F.ok scRt (fun vs H Q E h => ?_) (fun cdv A outer s H vs Q E hr h => ?_)
  · obtain ⟨p, l, a, y, xs, N, rfl, _⟩ := h
    rfl
  · obtain ⟨p, l, a, y, xs, N, rfl, dr, n7, ⟨dx, g, ha, gd⟩, any, hl, lp, lo, few, q⟩ := h
    have hu := hr.units
    have turn := turns cdv A outer s H E hr
    refine ⟨_, pss_cons (ps_if (PW.pt (pw_or (pt_cmpR op_ne (pe_calM0 (pv 2) T.cl M_looked_0 (hr.mono (by omega))) pe_int (nomark _)) (pw_or1 (pt_cmpR (op_neD hu) (pe_calM0 (pv 2) T.cl M_unpacked_0 (hr.mono (by omega))) (pv 1) (nomark _)))))
        (pss_one (ps_ret pe_bl))
        pss_nil)
      (pss_cons (ps_for PassesOwn.never rfl (pi_range1 (by rfl) m_range (pa_cons pe_int pa_nil)) (pg_name (i := 3) scRt.nd rfl (.inl rfl)) turn)
      (pss_cons (ps_set (i := 7) scRt.nd rfl (.inl rfl) (pe_calM0 (pv 2) T.cl M_unpacked_0 (hr.mono (by omega))))
      (pss_cons (ps_expr (pe_bm PySem.F.plainAttrs_list PySem.F.slot_list_append PySem.F.type_list_append mt_append (pv 7) (pa_cons pe_non pa_nil)))
      (pss_one (ps_ret (pe_and (pe_cmpR (op_eqD hu) (pe_calM0 (pv 2) T.cl M_unpacked_0 (hr.mono (by omega))) (pv 1) (nomark _)) (pe_one (pe_cmpR (op_eqD hu) (pe_calMK (pv 2) T.cl M_part_k (hr.mono (by omega)) (pk_cons (pe_callB call_len_seq (by rfl) m_len (by decide +kernel) (pa_cons (pv 1) pa_nil)) (pk_cons pe_int pk_nil))) (pv 1) (nomark _))))))))), ?_⟩
    have same : ∀ {H1 : Hp} {m n : Addr}, NL H1 m xs → NL H1 n xs → ∃ d1 d2, Dp K H1 (.ref m) d1 ∧ Dp K H1 (.ref n) d2 ∧ SeqAt.shaped d1 = true ∧ SeqAt.shaped d2 = true ∧ PyData.eqv d1 d2 = true := fun h1 h2 => ⟨_, _, dp_lst (ns := xs) (SqL.of h1), dp_lst (ns := xs) (SqL.of h2), shaped_ints _, shaped_ints _, eqv_self (shaped_ints _)⟩
    refine ⟨_, rfl, a, dx, _, rfl, ha, rfl, a, dx, g, y, xs, 0, rfl, ha, rfl, false, congrArg V.bl (by rw [decide_eq_true rfl]; rfl), if_f ?_⟩
    refine ⟨_, rfl, a, dx, _, rfl, ha, rfl, a, y, xs, rfl, ⟨dx, g, 0, ha, gd⟩, lo, few, fun m H1 s1 nm hm => ?_⟩
    have ri : RtI K C T0 p l a y xs H H N := ⟨.refl _ _ _ _, dr, ⟨⟨dx, g, 0, ha, gd⟩, any⟩, hl, lp⟩
    have r1 := ri.std (.same s1)
    obtain ⟨u1, u2, p1, p2, p3, p4, p5⟩ := same hm r1.nums
    refine ⟨_, rfl, u1, u2, p1, p2, p3, p4, false, congrArg V.bl (by rw [p5]; rfl), if_f ?_⟩
    refine ⟨8, rfl, by decide, by decide, for_range (n := 8) (fun i σ Hc => ∃ z3 z4 z5 z6 z7 : Option V, σ = [some (.ref p), some (.ref l), some (.ref a), z3, z4, z5, z6, z7] ∧ RtI K C T0 p l a y xs H Hc (N + 2 * i)) ⟨_, _, _, _, _, rfl, r1⟩ ?_ ?_⟩
    · rintro i σ Hc hi ⟨z3, z4, z5, z6, z7, rfl, rc⟩
      exact ⟨_, _, _, _, p, l, a, y, xs, N + 2 * i, _, H, rfl, rc, by omega, lo, few, fun y4 y5 y6 y7 H' r' => ⟨_, _, _, _, _, rfl, r'⟩⟩
    · rintro σ Hc ⟨z3, z4, z5, z6, z7, rfl, rc⟩
      obtain ⟨d2, g2, x2, e2, _⟩ := id rc.col.now
      refine ⟨_, rfl, a, d2, _, rfl, e2, rfl, a, y, xs, rfl, rc.col.now, lo, few, fun m2 H2 s2 nm2 hm2 => ?_⟩
      refine ⟨_, rfl, .inl ⟨rfl, _, SqL.of hm2⟩, m2, _, .non, rfl, rfl, hm2, by rw [List.length_map]; exact Nat.lt_of_le_of_lt few (by decide), ?_⟩
      have r3 := rc.std ((Std.same s2).setL (ws := xs.map V.int ++ [.non]) nm2 hm2)
      obtain ⟨H3, e3⟩ : ∃ H3, upd H2 m2 (.lst (xs.map V.int ++ [.non])) = H3 := ⟨_, rfl⟩
      dsimp only
      rw [e3] at r3 ⊢
      obtain ⟨d3, g3, x3, h3, _⟩ := id r3.col.now
      refine ⟨_, rfl, a, d3, _, rfl, h3, rfl, a, y, xs, rfl, r3.col.now, lo, few, fun m4 H4 s4 nm4 hm4 => ?_⟩
      have r4 := r3.std (.same s4)
      obtain ⟨u1, u2, p1, p2, p3, p4, p5⟩ := same hm4 r4.nums
      refine ⟨_, rfl, u1, u2, p1, p2, p3, p4, true, congrArg V.bl p5, if_t ?_⟩
      obtain ⟨d4, g4, x4, h4, _⟩ := id r4.col.now
      refine ⟨_, rfl, a, d4, _, rfl, h4, rfl, _, rfl, l, _, rfl, .inl (SqL.of r4.nums), rfl, a, y, xs, 0, xs.length, ?_, r4.col.now, Nat.zero_le _, Nat.le_refl _, lo, few, fun m5 H5 s5 nm5 hm5 _ => ?_⟩
      · rw [List.length_map]
        rfl
      rw [prt_all] at hm5
      have r5 := r4.std s5
      obtain ⟨u1, u2, p1, p2, p3, p4, p5⟩ := same hm5 r5.nums
      refine ⟨_, rfl, u1, u2, p1, p2, p3, p4, ?_⟩
      rw [p5]
      exact q H5 r5.kc r5.dr
end
end Tg

namespace Tg
open PySem PySem.Spec PyProof.Rows L2 LamX
open SX (S)
abbrev sLaw : Stmt := topS 51
abbrev NLaw : List Str := ["_law_script", "_law_cell", "_law_draws_here", "_law_many_here", "_law_numbers_here", "_law_a_way"]
theorem scLaw : FnScope NLaw ["_law_script"] (defScope sLaw) := ⟨rfl, rfl, rfl, by decide +kernel, rfl, by decide +kernel, by decide +kernel⟩
abbrev bLaw : List Stmt := forBody ((defBody sLaw).getD 0 noStmt)
theorem cut_some (ns : List Int) (lo hi : Option Int) : ∃ ms : List Int, cutV (ns.map V.int) lo hi = ms.map V.int ∧ ms.length ≤ ns.length ∧ ∀ x, x ∈ ms → x ∈ ns := by
  unfold cutV
  refine ⟨(ns.drop (HT.sIx (ns.map V.int).length 0 lo)).take (HT.sIx (ns.map V.int).length (ns.map V.int).length hi - HT.sIx (ns.map V.int).length 0 lo), ?_, ?_, fun x hx => List.mem_of_mem_drop (List.mem_of_mem_take hx)⟩
  · rw [List.map_take, List.map_drop]
  · simp only [List.length_take, List.length_drop]
    omega
theorem eqv_nil : ∀ xs : List Int, PyData.eqv (.list (xs.map PyData.int)) (.list []) = decide (xs = [])
  | [] => rfl
  | _ :: _ => rfl
/-- what stands behind a cell -/
structure Kq (C : Addr) (T : List (Addr × Str)) (H H' : Hp) : Prop where
  keep : ∀ b o, H b = some o → (∀ ps, o ≠ .tbl ps) → (∀ dx fs, o ≠ .ins C dx fs) → H' b = some o
  tabs : Tabs T H → Tabs T H'
theorem Kq.refl (C : Addr) (T : List (Addr × Str)) (H : Hp) : Kq C T H H := ⟨fun _ _ h _ _ => h, id⟩
theorem Kq.trans {C : Addr} {T : List (Addr × Str)} {H H1 H2 : Hp} (a : Kq C T H H1) (b : Kq C T H1 H2) : Kq C T H H2 := ⟨fun c o h n1 n2 => b.keep c o (a.keep c o h n1 n2) n1 n2, fun t => b.tabs (a.tabs t)⟩
theorem Kq.of {C p : Addr} {T : List (Addr × Str)} {H H1 H2 : Hp} (n : H p = none) (s : Same H H1) (k : Kc C T p H1 H2) : Kq C T H H2 := ⟨fun b o h n1 n2 => k.keep b o (ne_of_none h n) (s b o h) n1 n2, fun t => k.tabs (t.ext s)⟩
section
variable {P : Program} {w : World} {K : PySem.W.Frag} {mg : Str → Option Value} {base : Heap} {f : Addr} {fd : FuncData} {k : Nat} {C WT PT : Addr} {cdv : Value} {A : Around} {outer : List Env} {s : Shared} {H0 : Hp} {E : XK}
def LB (C PT : Addr) : TS := fun D σ H => ∃ (v0 v2 v3 v4 v5 : Option V) (c : Int), σ = [v0, some (.int c), v2, v3, v4, v5] ∧ Tabs (TT PT) H ∧ ∀ (z2 z3 z4 z5 : Option V) (H' : Hp), Kq C (TT PT) H H' → D.nx [v0, some (.int c), z2, z3, z4, z5] H'
/-- what a column just made is asked with -/
theorem right_ready {H H1 : Hp} {p a : Addr} {xs : List Int} {y : Wy} {N : Nat} (d : Dr H p N) (gr : Grow (TT PT) H H1) (apart : ∀ (b : Addr) (ys zs : List V), OldB H b → H1 b = some (.lst ys) → ColO K C (upd H1 b (.lst zs)) a y xs) : Dr H1 p N ∧ ∀ zs, ColO K C (upd H1 p (.lst zs)) a y xs := by
  have d1 : Dr H1 p N := (Std.grow (C := C) gr).dr d
  refine ⟨d1, fun zs => ?_⟩
  obtain ⟨_, _, _, h, _⟩ := d
  obtain ⟨_, _, _, h1, _⟩ := d1
  exact apart p _ zs ⟨_, h, fun _ z => nomatch z⟩ h1
theorem lb_ (hr : Room (k + 2) (A.deeper (envOfC "law" (defScope sLaw) s.heap.objs.size f cdv))) (T : TCol K C) (L_draws : Cal P w K mg base k "_law_draws" ["_law_cell"] spDraws) (L_next : Cal P w K mg base k "_law_next" ["_law_draws_here"] spNext) (L_many : Cal P w K mg base k "_law_many" ["_law_draws_here"] spMa) (L_numbers : Cal P w K mg base k "_law_numbers" ["_law_draws_here", "_law_many_here"] spNs) (L_right : Cal P w K mg base (k + 2) "_law_right" ["_law_draws_here", "_law_numbers_here", "_law_column"] (spRt K C (TT PT)))
    (C_pack_d : CalD P w K mg base k "pack" ["numbers", "way"] [.non] (spPk K C PT)) (C_pack_n : CalN1 P w K mg base k "pack" ["numbers", "way"] ["way"] (spPk K C PT)) (M_one_k : CalMK P w K mg base k C "one" ["self", "place"] ["place"] [0] (spOn K C (TT PT))) (g_WAYS : mg "WAYS" = some (.ref WT)) (hW : ∀ H, SqT K H WT wayV) :
    PSs (cxOf CX0 P w K mg base NLaw "law" (defScope sLaw) f cdv A outer s H0 E).nox bLaw (LB C PT) := by
  have hu := hr.units
  refine pss_by (pss_cons (ps_set (i := 2) scLaw.nd rfl (.inl rfl) (pe_cal L_draws (hr.mono (by omega)) (by rfl) (pa_cons (pv 1) pa_nil)))
        (pss_cons (ps_set (i := 3) scLaw.nd rfl (.inl rfl) (pe_op op_mul (pe_cal L_many (hr.mono (by omega)) (by rfl) (pa_cons (pv 2) pa_nil)) (pe_ix ix_list (pe_lst (pa_cons pe_int (pa_cons pe_int (pa_cons pe_int (pa_cons pe_int (pa_cons pe_int (pa_cons pe_int (pa_cons pe_int (pa_cons pe_int pa_nil))))))))) (pe_op op_mod (pe_cal L_next (hr.mono (by omega)) (by rfl) (pa_cons (pv 2) pa_nil)) pe_int) (fun _ _ => rfl))))
        (pss_cons (ps_set (i := 4) scLaw.nd rfl (.inl rfl) (pe_cal L_numbers (hr.mono (by omega)) (by rfl) (pa_cons (pv 2) (pa_cons (pv 3) pa_nil))))
        (pss_cons (ps_for PassesOwn.never rfl (pi_tup (pe_glob (v := .ref WT) rfl g_WAYS rfl)) (pg_name (i := 5) scLaw.nd rfl (.inl rfl))
          (pss_one (ps_if (pt_not (pt_val (pe_cal L_right (hr.mono (by omega)) (by rfl) (pa_cons (pv 2) (pa_cons (pv 4) (pa_cons (pe_calN1 C_pack_n (hr.mono (by omega)) (by rfl) (pa_cons (pv 4) pa_nil) (pk_cons (pv 5) pk_nil)) pa_nil))))))
            (pss_one (ps_ret pe_bl))
            pss_nil)))
        (pss_cons (ps_if (pt_not (pt_val (pe_cal L_right (hr.mono (by omega)) (by rfl) (pa_cons (pv 2) (pa_cons (pv 4) (pa_cons (pe_calD C_pack_d (hr.mono (by omega)) (by rfl) (pa_cons (pv 4) pa_nil)) pa_nil))))))
          (pss_one (ps_ret pe_bl))
          pss_nil)
        (pss_one (ps_if (PW.pt (pw_and (pt_cmpR (op_neD hu) (pv 4) (pe_lst pa_nil) (nomark _)) (pw_and1 (pt_cmpR op_ne (pe_calMK (pe_calD C_pack_d (hr.mono (by omega)) (by rfl) (pa_cons (pv 4) pa_nil)) T.cl M_one_k (hr.mono (by omega)) (pk_cons pe_int pk_nil)) (pe_ix ix_list (pv 4) pe_int (fun _ _ => rfl)) (nomark _)))))
          (pss_one (ps_ret pe_bl))
          pss_nil))))))) ?_
  rintro D σ Hc ⟨v0, v2, v3, v4, v5, c, rfl, tabs, q⟩
  refine ⟨_, rfl, c, rfl, fun p da db np => ?_⟩
  have sp := same_new (o := .lst [.int da, .int 0, .bl db]) np
  have d0 : Dr (upd Hc p (.lst [.int da, .int 0, .bl db])) p 0 := ⟨da, 0, db, upd_same, by decide, by decide⟩
  refine ⟨_, rfl, p, 0, rfl, d0, by decide, fun n H5 k5 d5 n66 => ⟨by show 8 ≤ sizeLine; decide, fun u nu => ?_⟩⟩
  have su := same_new (o := .lst [.int 1, .int 1, .int 1, .int 1, .int 1, .int 1, .int 1, .int 4]) nu
  have up : u ≠ p := d5.ne nu
  refine ⟨_, rfl, p, 1, rfl, d5.same su, by decide, fun v H6 k6 d6 v0' _ => ?_⟩
  obtain ⟨m, mm, me⟩ := atI_mem (xs := [1, 1, 1, 1, 1, 1, 1, 4]) (i := v % 8) (by omega) (by show v % 8 < ((8 : Nat) : Int); omega)
  have mb : 1 ≤ m ∧ m ≤ 4 := by
    simp only [List.mem_cons, List.not_mem_nil, or_false] at mm
    omega
  obtain ⟨j, rfl⟩ : ∃ j : Nat, m = (j : Nat) := ⟨m.toNat, by omega⟩
  refine ⟨_, _, rfl, rfl, (by show (0 : Int) < 8; decide), u, _, _, _, rfl, rfl, SqL.of (k6 _ _ up upd_same), me, _, _, rfl, rfl, .inl ⟨by omega, by omega⟩, ?_⟩
  have nj : n * j ≤ 264 := Nat.mul_le_mul n66 (show j ≤ 4 by omega)
  refine ⟨_, rfl, _, rfl, p, 2, n * j, congrArg (fun i : Int => [V.ref p, .int i]) (Int.natCast_mul n j).symm, d6, by decide, by omega, fun l xs H7 k7 d7 nl hl lx lo' => ?_⟩
  have lo := lo'.mono (show 69 ≤ 70 by decide)
  have few : xs.length ≤ 300 := by omega
  have lp : l ≠ p := d6.ne nl
  have kq7 : Same Hc H7 := Kp.same sp np (((k5.trans (Kp.of su)).trans k6).trans k7)
  have tb7 := tabs.ext kq7
  refine ⟨WT, rfl, ⟨_, hW _⟩, for_tup (K := K) (a := WT) (xs := wayV) (fun i σ Hd => ∃ z5 : Option V, σ = [v0, some (.int c), some (.ref p), some (.int ((n : Nat) * (j : Nat) : Int)), some (.ref l), z5] ∧ Kc C (TT PT) p H7 Hd ∧ Dr Hd p (1002 + 16 * i)) ⟨_, rfl, .refl _ _ _ _, d7⟩ (fun _ _ Hd _ _ => hW Hd) ?_ ?_⟩
  · rintro i v σ Hd hv ⟨z5, rfl, kc, dd⟩
    have i5 : i < 5 := (List.getElem?_eq_some_iff.mp hv).1
    unfold wayV at hv
    rw [List.getElem?_map] at hv
    obtain ⟨y, _, rfl⟩ := Option.map_eq_some_iff.mp hv
    have hld := kc.nl lp hl
    refine ⟨_, rfl, _, rfl, _, rfl, _, rfl, rfl, rfl, l, xs, .str y.nm, y, rfl, .inl rfl, kc.tabs tb7, hld, lo, few, fun a H1 gr1 _ colz apart => ?_⟩
    obtain ⟨d1, any⟩ := right_ready dd gr1 apart
    refine ⟨p, l, a, y, xs, _, rfl, d1, by omega, colz, any, nl_ext gr1.ext hld, lp, lo, few, fun H2 kc2 d2 => ⟨true, rfl, if_f ⟨_, rfl, (kc.trans (.std (.grow gr1))).trans kc2, d2⟩⟩⟩
  · rintro σ Hd ⟨z5, rfl, kc, dd⟩
    have hld := kc.nl lp hl
    refine ⟨_, rfl, _, rfl, _, rfl, l, xs, .non, best xs, rfl, .inr ⟨rfl, rfl⟩, kc.tabs tb7, hld, lo, few, fun a H1 gr1 _ colz apart => ?_⟩
    obtain ⟨d1, any⟩ := right_ready dd gr1 apart
    refine ⟨p, l, a, best xs, xs, _, rfl, d1, by show 1002 + 16 * 5 < _; decide, colz, any, nl_ext gr1.ext hld, lp, lo, few, fun H2 kc2 d2 => ⟨true, rfl, if_f ?_⟩⟩
    have kc2 := (kc.trans (.std (.grow gr1))).trans kc2
    have hl2 := kc2.nl lp hl
    refine ⟨_, rfl, by show 0 ≤ sizeLine; decide, fun e ne => ?_⟩
    have se := same_new (o := .lst []) ne
    refine ⟨_, _, dp_lst (ns := xs) (SqL.of (se _ _ hl2)), dp_lst (ns := []) (SqL.of upd_same), shaped_ints _, shaped_ints _, !decide (xs = []), congrArg V.bl (congrArg (!·) (eqv_nil xs)), ?_⟩
    have kce : Kc C (TT PT) p H7 (upd H2 e (.lst [])) := kc2.trans (.std (.same se))
    obtain ⟨He, ee⟩ : ∃ He, upd H2 e (.lst []) = He := ⟨_, rfl⟩
    rw [ee] at kce ⊢
    cases xs with
    | nil => exact if_f (q _ _ _ _ He (.of np kq7 kce))
    | cons x r =>
      have hle := kce.nl lp hl
      refine if_t ⟨_, rfl, l, x :: r, .non, best (x :: r), rfl, .inr ⟨rfl, rfl⟩, kce.tabs tb7, hle, lo, few, fun a2 H3 gr3 _ colz3 _ => ?_⟩
      obtain ⟨dx, g, ha, gd⟩ := id colz3
      refine ⟨a2, dx, _, rfl, ha, rfl, rfl, a2, best (x :: r), x :: r, 0, x, rfl, ⟨dx, g, 0, ha, gd⟩, rfl, lo, few, fun H4 s4 _ => ?_⟩
      have t4 : Std C (TT PT) He H4 := (Std.grow gr3).trans s4
      refine ⟨_, rfl, l, _, _, .int x, rfl, rfl, SqL.of (t4.nl hle), atI_nat (j := 0) rfl, rfl, false, congrArg V.bl (by rw [decide_eq_true rfl]; rfl), if_f ?_⟩
      exact q _ _ _ _ H4 (.of np kq7 (kce.trans (.std t4)))
def spLaw (K : PySem.W.Frag) (PT : Addr) : Sp := fun vs H Q _ => ∃ (a : Addr) (ns : List Int), vs = [.ref a] ∧ SqL K H a (ns.map V.int) ∧ ns.length ≤ 63 ∧ Tabs (TT PT) H ∧ ∀ H', Q (.bl true) H'
theorem ok_law {f : Addr} {fd : FuncData} (F : Fun K "law" "law" sLaw f fd)
    (turn : ∀ (cdv : Value) (A : Around) (outer : List Env) (s : Shared) (H : Hp) (E : XK), Room (k + 2) (A.deeper (envOfC "law" (defScope sLaw) s.heap.objs.size f cdv)) → PSs (cxOf CX0 P w K mg base NLaw "law" (defScope sLaw) f cdv A outer s H E).nox bLaw (LB C PT)) : FnOk P w K mg base CX0 (k + 3) f fd ["_law_script"] (spLaw K PT) := by
  refine F.ok scLaw (fun vs H Q E h => ?_) (fun cdv A outer s H vs Q E hr h => ?_)
  · obtain ⟨a, ns, rfl, _⟩ := h
    rfl
  · obtain ⟨a, ns, rfl, hS, hlen, tabs, q⟩ := h
    refine ⟨_, pss_cons (ps_for PassesOwn.never rfl (pi_list (pe_op op_cat (pe_slice sl_list (pv 0) po_none (po_some pe_int)) (pe_lst (pa_cons pe_int pa_nil)))) (pg_name (i := 1) scLaw.nd rfl (.inl rfl)) (turn cdv A outer s H E hr)) (pss_one (ps_ret pe_bl)), ?_⟩
    obtain ⟨ms, em, lm, _⟩ := cut_some ns none (some 5)
    refine ⟨_, rfl, 5, rfl, a, _, rfl, hS, fun l1 n1 => ?_⟩
    rw [em]
    refine ⟨(by show 1 ≤ sizeLine; decide), fun l2 n2 => ?_⟩
    have s2 := same_new (o := .lst [.int 0]) n2
    refine ⟨l1, l2, _, _, rfl, rfl, s2 _ _ upd_same, upd_same, Nat.le_of_lt (small1000 (by rw [List.length_map]; show ms.length + 1 ≤ 1000; omega)), fun l3 n3 => ?_⟩
    have e3 : (ms.map V.int ++ [V.int 0]) = (ms ++ [0]).map V.int := by
      rw [List.map_append]
      rfl
    rw [e3]
    have s1 := same_new (o := .lst (ms.map V.int)) n1
    have s3 := same_new (o := .lst ((ms ++ [0]).map V.int)) n3
    obtain ⟨H3, eH3⟩ : ∃ H3, upd (upd (upd H l1 (.lst (ms.map V.int))) l2 (.lst [.int 0])) l3 (.lst ((ms ++ [0]).map V.int)) = H3 := ⟨_, rfl⟩
    have m3 : H3 l3 = some (.lst ((ms ++ [0]).map V.int)) := by
      rw [← eH3]
      exact upd_same
    have tb3 : Tabs (TT PT) H3 := by
      rw [← eH3]
      exact ((tabs.ext s1).ext s2).ext s3
    rw [eH3]
    refine ⟨l3, rfl, ⟨_, SqL.of m3⟩, for_list (K := K) (a := l3) (xs := (ms ++ [0]).map V.int) (fun i σ Hc => ∃ z1 z2 z3 z4 z5 : Option V, σ = [some (.ref a), z1, z2, z3, z4, z5] ∧ Kq C (TT PT) H3 Hc) ⟨none, none, none, none, none, rfl, .refl _ _ _⟩ ?_ ?_ ?_⟩
    · rintro i σ Hc _ ⟨_, _, _, _, _, _, h⟩
      exact SqL.of (h.keep _ _ m3 (fun _ z => nomatch z) fun _ _ z => nomatch z)
    · rintro i xv σ Hc hx ⟨z1, z2, z3, z4, z5, rfl, gr⟩
      obtain ⟨c, rfl⟩ : ∃ c : Int, xv = .int c := by
        rw [List.getElem?_map] at hx
        obtain ⟨c, _, e⟩ := Option.map_eq_some_iff.mp hx
        exact ⟨c, e.symm⟩
      exact ⟨_, z2, z3, z4, z5, c, rfl, gr.tabs tb3, fun y2 y3 y4 y5 H' g' => ⟨_, y2, y3, y4, y5, rfl, gr.trans g'⟩⟩
    · rintro σ Hc ⟨_, _, _, _, _, rfl, _⟩
      exact q Hc
end
end Tg

namespace Tg
open PySem PySem.Spec PyProof.Rows L2 LamX
theorem gd_at {vs : Array Value} {i : Nat} {v : Value} (h : vs[i]? = some v) : vs.getD i .none = v := by
  rw [Array.getD_eq_getD_getElem?, h]
  rfl
section
variable {K : PySem.W.Frag} {f : Addr} {fd : FuncData}
theorem kn_pk (F : Fun K "pack" "pack" sPk f fd) : KBn K fd ["numbers", "way"] 1 ["way"] (fun us ws => us ++ ws) (fun vs zs => vs ++ zs) := by
  obtain ⟨_, _, kV, doc, pm, an, cdv, ct, _, rfl, _, _⟩ := F.ex
  exact ⟨fun s us ws _ h0 h2 => match us, ws, h0, h2 with | [_], [_], _, _ => .of_eq rfl, fun r1 r2 => r1.append r2⟩
theorem kd_pk (F : FunD K "pack" "pack" (defArgs sPk) (defBody sPk) (defScope sPk) [] [("way", .non)] f fd) : ∃ ds, Vals [V.non] ds ∧ Binds K fd ["numbers", "way"] ds :=
  F.binds0 (ps := ["numbers", "way"]) 1 (fun z => nomatch z) rfl (fun D doc pm an cdv ct us ks h1 h2 => match us, ks, h1, h2 with | [_], [_], _, _ => ⟨_, _, _, _, _, _, rfl, rfl, rfl⟩)
theorem kn_pt (F : Fun K "part" "Column.part" sCPt f fd) : KBn K fd ["self", "start", "end"] 1 ["end", "start"] (fun us ws => us ++ prm [1, 0] ws) (fun vs zs => vs ++ prm [1, 0] zs) := by
  obtain ⟨_, _, kV, doc, pm, an, cdv, ct, _, rfl, _, _⟩ := F.ex
  exact ⟨fun s us ws _ h0 h2 => match us, ws, h0, h2 with | [_], [_, _], _, _ => .of_eq rfl, fun r1 r => r1.append (prm_rel r _)⟩
theorem kn_on (F : Fun K "one" "Column.one" sCOn f fd) : KBn K fd ["self", "place"] 1 ["place"] (fun us ws => us ++ prm [0] ws) (fun vs zs => vs ++ prm [0] zs) := by
  obtain ⟨_, _, kV, doc, pm, an, cdv, ct, _, rfl, _, _⟩ := F.ex
  exact ⟨fun s us ws _ h0 h2 => match us, ws, h0, h2 with | [_], [_], _, _ => .of_eq rfl, fun r1 r => r1.append (prm_rel r _)⟩
end
/-! ### what the top has written; the law's own head -/
set_option maxHeartbeats 0 in
theorem all_mk {l : PySem.W.OpenLaw} {w : World} {K : PySem.W.Frag} {h : Heap} {mg : Str → Option Value} {fa CP C1 CG CN CS f1 f2 f3 f4 f5 f6 f7 f8 f9 f10 f11 f12 f13 f14 f15 f16 f17 f18 f19 f20 f21 f22 f23 f24 f25 f26 f27 f28 f29 f30 f31 f32 f33 f34 f35 f36 f37 f38 f39 f40 f41 f42 f43 f44 : Addr} {nmCP qCP : Str} {NCP : Addr} {bsCP : List Value} {snCP : List Str} {subCP : List Value} {abCP : Bool} {colCP : Option Bool} {ddCP : Option Addr} {v0CP v1CP v2CP v3CP v5CP : Option Value} {tk32 : Tok} {WD RD BG WT : Addr} {esW esR : Array DictEntry} {nW nR nT nB : Nat} {cT cB : Value} {dT dB : Option Addr} {itT itB : Array Value} {sT sB : Array (Option Value)} {KD : Addr} {cc33 PT33 : Addr} {vv33 : Array Value} {dd33 : Option Addr} {sl_33 : Array (Option Value)} {fi33 : Str} {tf33 tg33 tx33 : Tok} {fl33 te33 : Int} {inF33 : Bool} (X : K.In h) (G : h.Ns mainGlobals mg) (hfa : mg "law" = some (.ref fa))
    {od1 an1 od2 an2 od3 an3 od4 an4 od5 an5 od6 an6 od7 an7 od8 an8 od9 an9 od10 an10 od11 an11 od12 an12 od13 an13 od14 an14 od15 an15 od16 an16 od17 an17 od18 an18 od19 an19 od20 an20 od21 an21 od22 an22 od23 an23 od24 an24 od25 an25 od26 an26 od27 an27 od28 an28 od29 an29 od30 an30 od31 an31 od32 an32 od33 an33 od34 an34 od35 an35 od36 an36 od37 an37 od38 an38 od39 an39 od40 an40 od41 an41 od42 an42 od43 an43 od44 an44 : Option Addr} {sl1 sl2 sl3 sl4 sl5 sl6 sl7 sl8 sl9 sl10 sl11 sl12 sl13 sl14 sl15 sl16 sl17 sl18 sl19 sl20 sl21 sl22 sl23 sl24 sl25 sl26 sl27 sl28 sl29 sl30 sl31 sl32 sl33 sl34 sl35 sl36 sl37 sl38 sl39 sl40 sl41 sl42 sl43 sl44 : Array (Option Value)} {oc1 kV1 dc1 pm1 cd1 ct1 oc2 kV2 dc2 pm2 cd2 ct2 oc3 kV3 dc3 pm3 cd3 ct3 oc4 kV4 dc4 pm4 cd4 ct4 oc5 kV5 dc5 pm5 cd5 ct5 oc6 kV6 dc6 pm6 cd6 ct6 oc7 kV7 dc7 pm7 cd7 ct7 oc8 kV8 dc8 pm8 cd8 ct8 oc9 kV9 dc9 pm9 cd9 ct9 oc10 kV10 dc10 pm10 cd10 ct10 oc11 kV11 dc11 pm11 cd11 ct11 oc12 kV12 dc12 pm12 cd12 ct12 oc13 kV13 dc13 pm13 cd13 ct13 oc14 kV14 dc14 pm14 cd14 ct14 oc15 kV15 dc15 pm15 cd15 ct15 oc16 kV16 dc16 pm16 cd16 ct16 oc17 kV17 dc17 pm17 cd17 ct17 oc18 kV18 dc18 pm18 cd18 ct18 oc19 kV19 dc19 pm19 cd19 ct19 oc20 kV20 dc20 pm20 cd20 ct20 oc21 kV21 dc21 pm21 cd21 ct21 oc22 kV22 dc22 pm22 cd22 ct22 oc23 kV23 dc23 pm23 cd23 ct23 oc24 kV24 dc24 pm24 cd24 ct24 oc25 kV25 dc25 pm25 cd25 ct25 oc26 kV26 dc26 pm26 cd26 ct26 oc27 kV27 dc27 pm27 cd27 ct27 oc28 kV28 dc28 pm28 cd28 ct28 oc29 kV29 dc29 pm29 cd29 ct29 oc30 kV30 dc30 pm30 cd30 ct30 oc31 kV31 dc31 pm31 cd31 ct31 oc32 kV32 dc32 pm32 cd32 ct32 oc33 dc33 pm33 ct33 oc34 kV34 dc34 pm34 cd34 ct34 oc35 kV35 dc35 pm35 cd35 ct35 oc36 kV36 dc36 pm36 cd36 ct36 oc37 kV37 dc37 pm37 cd37 ct37 oc38 kV38 dc38 pm38 cd38 ct38 oc39 kV39 dc39 pm39 cd39 ct39 oc40 kV40 dc40 pm40 cd40 ct40 oc41 kV41 dc41 pm41 cd41 ct41 oc42 kV42 dc42 pm42 cd42 ct42 oc43 kV43 dc43 pm43 cd43 ct43 oc44 kV44 dc44 pm44 cd44 ct44 : Value}
    (aCP : PySem.W.nsIn K mainGlobals "NoPlace" = some (some (.ref CP)))
    (xCP : K.lookup CP = some (excClassObj nmCP qCP CP NCP bsCP [.type "IndexError", .type "LookupError", .type "Exception", .type "BaseException", .type "object"] true snCP subCP abCP colCP ddCP v0CP v1CP v2CP v3CP v5CP "IndexError.__new__"))
    (saCP : PySem.W.findIn K (.ref CP) "__setattr__" = some (some (.builtin "object.__setattr__")))
    (gaCP : PySem.W.findIn K (.ref CP) "__getattribute__" = some (some (.builtin "BaseException.__getattribute__")))
    (ggCP : PySem.W.findIn K (.ref CP) "__getattr__" = some none)
    (noCP : PySem.W.findIn K (.ref CP) "at" = some none)
    (kcCP : PySem.W.keepIn K (.ref CP) = true)
    (ecCP : PySem.W.subIn K (.ref CP) (.type "BaseException") = some true)
    (tcCP : PySem.W.typeIn K (.ref CP) = some (.type "type"))
    (hcCP : PySem.W.hasDictIn K CP = true)
    (ccCP : PySem.W.findIn K (.ref CP) "__class__" = some (some (.builtin "object.__class__")))
    (moCP : PySem.W.mroIn K CP (.type "object") = some true)
    (xmCP : PySem.W.exmOne K (.ref CP) (.ref CP) = some true)
    (hnC : PySem.W.specialIn K (.builtin "object.__class__") "__get__" = some (some (.builtin "getset_descriptor.__get__")))
    (htC : PySem.W.takesIn K (.builtin "object.__class__") = some true)
    (vIndexError : PySem.W.findCls K (.type "IndexError") (.type "type") "__init__" = some (.val (.builtin "IndexError.__init__")))
    (aCG : PySem.W.nsIn K mainGlobals "Gone" = some (some (.ref CG)))
    (aCN : PySem.W.nsIn K mainGlobals "NoNumber" = some (some (.ref CN)))
    (aCS : PySem.W.nsIn K mainGlobals "NoSeries" = some (some (.ref CS)))
    (aC1 : PySem.W.nsIn K mainGlobals "Column" = some (some (.ref C1)))
    (pgC1 : PySem.W.plainGet K C1 Str.empty = true)
    (hdC1 : PySem.W.hasDictIn K C1 = true)
    (poC1 : PySem.W.plainOver K C1 = true)
    (saC1 : PySem.W.findIn K (.ref C1) "__setattr__" = some (some (.builtin "object.__setattr__")))
    (mkC1 : PySem.W.makesIn K C1 = true)
    (kcC1 : PySem.W.keepIn K (.ref C1) = true)
    (noC1_guide : PySem.W.findIn K (.ref C1) "guide" = some none)
    (noC1_way : PySem.W.findIn K (.ref C1) "way" = some none)
    (noC1_bits : PySem.W.findIn K (.ref C1) "bits" = some none)
    (noC1_many : PySem.W.findIn K (.ref C1) "many" = some none)
    (noC1_passed : PySem.W.findIn K (.ref C1) "passed" = some none)
    (a1 : PySem.W.findIn K (.ref CP) "__init__" = some (some (.ref f1)))
    (t1 : PySem.W.typeIn K (.ref f1) = some (.type "function"))
    (l1 : K.lookup f1 = some ⟨oc1, od1, .func (PySem.W.fnOf "__init__" "NoPlace.__init__" (defArgs sErP) (defBody sErP) (defScope sErP) .none kV1 dc1 pm1 an1 cd1 ct1), sl1⟩)
    (c1 : PySem.W.codeIn K cd1 "NoPlace.__init__" = true)
    (k1 : PySem.W.keepIn K (.ref f1) = true)
    (a2 : PySem.W.findIn K (.ref C1) "__init__" = some (some (.ref f2)))
    (i2 : PySem.W.isFn K (.ref f2) = true)
    (l2 : K.lookup f2 = some ⟨oc2, od2, .func (PySem.W.fnOf "__init__" "Column.__init__" (defArgs sCI) (defBody sCI) (defScope sCI) .none kV2 dc2 pm2 an2 cd2 ct2), sl2⟩)
    (c2 : PySem.W.codeIn K cd2 "Column.__init__" = true)
    (k2 : PySem.W.keepIn K (.ref f2) = true)
    (a3 : PySem.W.findIn K (.ref C1) "unpacked" = some (some (.ref f3)))
    (i3 : PySem.W.isFn K (.ref f3) = true)
    (l3 : K.lookup f3 = some ⟨oc3, od3, .func (PySem.W.fnOf "unpacked" "Column.unpacked" (defArgs sCU) (defBody sCU) (defScope sCU) .none kV3 dc3 pm3 an3 cd3 ct3), sl3⟩)
    (c3 : PySem.W.codeIn K cd3 "Column.unpacked" = true)
    (k3 : PySem.W.keepIn K (.ref f3) = true)
    (a4 : PySem.W.findIn K (.ref C1) "one" = some (some (.ref f4)))
    (i4 : PySem.W.isFn K (.ref f4) = true)
    (l4 : K.lookup f4 = some ⟨oc4, od4, .func (PySem.W.fnOf "one" "Column.one" (defArgs sCOn) (defBody sCOn) (defScope sCOn) .none kV4 dc4 pm4 an4 cd4 ct4), sl4⟩)
    (c4 : PySem.W.codeIn K cd4 "Column.one" = true)
    (k4 : PySem.W.keepIn K (.ref f4) = true)
    (a5 : PySem.W.findIn K (.ref C1) "part" = some (some (.ref f5)))
    (i5 : PySem.W.isFn K (.ref f5) = true)
    (l5 : K.lookup f5 = some ⟨oc5, od5, .func (PySem.W.fnOf "part" "Column.part" (defArgs sCPt) (defBody sCPt) (defScope sCPt) .none kV5 dc5 pm5 an5 cd5 ct5), sl5⟩)
    (c5 : PySem.W.codeIn K cd5 "Column.part" = true)
    (k5 : PySem.W.keepIn K (.ref f5) = true)
    (a6 : PySem.W.findIn K (.ref C1) "looked" = some (some (.ref f6)))
    (i6 : PySem.W.isFn K (.ref f6) = true)
    (l6 : K.lookup f6 = some ⟨oc6, od6, .func (PySem.W.fnOf "looked" "Column.looked" (defArgs sClk) (defBody sClk) (defScope sClk) .none kV6 dc6 pm6 an6 cd6 ct6), sl6⟩)
    (c6 : PySem.W.codeIn K cd6 "Column.looked" = true)
    (k6 : PySem.W.keepIn K (.ref f6) = true)
    (a7 : PySem.W.nsIn K mainGlobals "plain" = some (some (.ref f7)))
    (l7 : K.lookup f7 = some ⟨oc7, od7, .func (PySem.W.fnOf "plain" "plain" (defArgs sPl) (defBody sPl) (defScope sPl) .none kV7 dc7 pm7 an7 cd7 ct7), sl7⟩)
    (c7 : PySem.W.codeIn K cd7 "plain" = true)
    (k7 : PySem.W.keepIn K (.ref f7) = true)
    (a8 : PySem.W.nsIn K mainGlobals "turned" = some (some (.ref f8)))
    (l8 : K.lookup f8 = some ⟨oc8, od8, .func (PySem.W.fnOf "turned" "turned" (defArgs sTu) (defBody sTu) (defScope sTu) .none kV8 dc8 pm8 an8 cd8 ct8), sl8⟩)
    (c8 : PySem.W.codeIn K cd8 "turned" = true)
    (k8 : PySem.W.keepIn K (.ref f8) = true)
    (a9 : PySem.W.nsIn K mainGlobals "back" = some (some (.ref f9)))
    (l9 : K.lookup f9 = some ⟨oc9, od9, .func (PySem.W.fnOf "back" "back" (defArgs sBa) (defBody sBa) (defScope sBa) .none kV9 dc9 pm9 an9 cd9 ct9), sl9⟩)
    (c9 : PySem.W.codeIn K cd9 "back" = true)
    (k9 : PySem.W.keepIn K (.ref f9) = true)
    (a10 : PySem.W.nsIn K mainGlobals "own" = some (some (.ref f10)))
    (l10 : K.lookup f10 = some ⟨oc10, od10, .func (PySem.W.fnOf "own" "own" (defArgs sOw) (defBody sOw) (defScope sOw) .none kV10 dc10 pm10 an10 cd10 ct10), sl10⟩)
    (c10 : PySem.W.codeIn K cd10 "own" = true)
    (k10 : PySem.W.keepIn K (.ref f10) = true)
    (a11 : PySem.W.nsIn K mainGlobals "read_own" = some (some (.ref f11)))
    (l11 : K.lookup f11 = some ⟨oc11, od11, .func (PySem.W.fnOf "read_own" "read_own" (defArgs sRO) (defBody sRO) (defScope sRO) .none kV11 dc11 pm11 an11 cd11 ct11), sl11⟩)
    (c11 : PySem.W.codeIn K cd11 "read_own" = true)
    (k11 : PySem.W.keepIn K (.ref f11) = true)
    (a12 : PySem.W.nsIn K mainGlobals "own_codes" = some (some (.ref f12)))
    (l12 : K.lookup f12 = some ⟨oc12, od12, .func (PySem.W.fnOf "own_codes" "own_codes" (defArgs sOC) (defBody sOC) (defScope sOC) .none kV12 dc12 pm12 an12 cd12 ct12), sl12⟩)
    (c12 : PySem.W.codeIn K cd12 "own_codes" = true)
    (k12 : PySem.W.keepIn K (.ref f12) = true)
    (a13 : PySem.W.nsIn K mainGlobals "steps_of" = some (some (.ref f13)))
    (l13 : K.lookup f13 = some ⟨oc13, od13, .func (PySem.W.fnOf "steps_of" "steps_of" (defArgs sSO) (defBody sSO) (defScope sSO) .none kV13 dc13 pm13 an13 cd13 ct13), sl13⟩)
    (c13 : PySem.W.codeIn K cd13 "steps_of" = true)
    (k13 : PySem.W.keepIn K (.ref f13) = true)
    (a14 : PySem.W.nsIn K mainGlobals "runs_of" = some (some (.ref f14)))
    (l14 : K.lookup f14 = some ⟨oc14, od14, .func (PySem.W.fnOf "runs_of" "runs_of" (defArgs sRu) (defBody sRu) (defScope sRu) .none kV14 dc14 pm14 an14 cd14 ct14), sl14⟩)
    (c14 : PySem.W.codeIn K cd14 "runs_of" = true)
    (k14 : PySem.W.keepIn K (.ref f14) = true)
    (a15 : PySem.W.nsIn K mainGlobals "write_plain" = some (some (.ref f15)))
    (l15 : K.lookup f15 = some ⟨oc15, od15, .func (PySem.W.fnOf "write_plain" "write_plain" (defArgs sWP) (defBody sWP) (defScope sWP) .none kV15 dc15 pm15 an15 cd15 ct15), sl15⟩)
    (c15 : PySem.W.codeIn K cd15 "write_plain" = true)
    (k15 : PySem.W.keepIn K (.ref f15) = true)
    (a16 : PySem.W.nsIn K mainGlobals "write_steps" = some (some (.ref f16)))
    (l16 : K.lookup f16 = some ⟨oc16, od16, .func (PySem.W.fnOf "write_steps" "write_steps" (defArgs sWS) (defBody sWS) (defScope sWS) .none kV16 dc16 pm16 an16 cd16 ct16), sl16⟩)
    (c16 : PySem.W.codeIn K cd16 "write_steps" = true)
    (k16 : PySem.W.keepIn K (.ref f16) = true)
    (a17 : PySem.W.nsIn K mainGlobals "write_turns" = some (some (.ref f17)))
    (l17 : K.lookup f17 = some ⟨oc17, od17, .func (PySem.W.fnOf "write_turns" "write_turns" (defArgs sWT) (defBody sWT) (defScope sWT) .none kV17 dc17 pm17 an17 cd17 ct17), sl17⟩)
    (c17 : PySem.W.codeIn K cd17 "write_turns" = true)
    (k17 : PySem.W.keepIn K (.ref f17) = true)
    (a18 : PySem.W.nsIn K mainGlobals "write_runs" = some (some (.ref f18)))
    (l18 : K.lookup f18 = some ⟨oc18, od18, .func (PySem.W.fnOf "write_runs" "write_runs" (defArgs sWR) (defBody sWR) (defScope sWR) .none kV18 dc18 pm18 an18 cd18 ct18), sl18⟩)
    (c18 : PySem.W.codeIn K cd18 "write_runs" = true)
    (k18 : PySem.W.keepIn K (.ref f18) = true)
    (a19 : PySem.W.nsIn K mainGlobals "write_book" = some (some (.ref f19)))
    (l19 : K.lookup f19 = some ⟨oc19, od19, .func (PySem.W.fnOf "write_book" "write_book" (defArgs sWB) (defBody sWB) (defScope sWB) .none kV19 dc19 pm19 an19 cd19 ct19), sl19⟩)
    (c19 : PySem.W.codeIn K cd19 "write_book" = true)
    (k19 : PySem.W.keepIn K (.ref f19) = true)
    (a20 : PySem.W.nsIn K mainGlobals "bits_by" = some (some (.ref f20)))
    (l20 : K.lookup f20 = some ⟨oc20, od20, .func (PySem.W.fnOf "bits_by" "bits_by" (defArgs sBB) (defBody sBB) (defScope sBB) .none kV20 dc20 pm20 an20 cd20 ct20), sl20⟩)
    (c20 : PySem.W.codeIn K cd20 "bits_by" = true)
    (k20 : PySem.W.keepIn K (.ref f20) = true)
    (a21 : PySem.W.nsIn K mainGlobals "size_by" = some (some (.ref f21)))
    (l21 : K.lookup f21 = some ⟨oc21, od21, .func (PySem.W.fnOf "size_by" "size_by" (defArgs sSB) (defBody sSB) (defScope sSB) .none kV21 dc21 pm21 an21 cd21 ct21), sl21⟩)
    (c21 : PySem.W.codeIn K cd21 "size_by" = true)
    (k21 : PySem.W.keepIn K (.ref f21) = true)
    (a22 : PySem.W.nsIn K mainGlobals "read_step" = some (some (.ref f22)))
    (l22 : K.lookup f22 = some ⟨oc22, od22, .func (PySem.W.fnOf "read_step" "read_step" (defArgs sRS) (defBody sRS) (defScope sRS) .none kV22 dc22 pm22 an22 cd22 ct22), sl22⟩)
    (c22 : PySem.W.codeIn K cd22 "read_step" = true)
    (k22 : PySem.W.keepIn K (.ref f22) = true)
    (a23 : PySem.W.nsIn K mainGlobals "read_turn" = some (some (.ref f23)))
    (l23 : K.lookup f23 = some ⟨oc23, od23, .func (PySem.W.fnOf "read_turn" "read_turn" (defArgs sRT) (defBody sRT) (defScope sRT) .none kV23 dc23 pm23 an23 cd23 ct23), sl23⟩)
    (c23 : PySem.W.codeIn K cd23 "read_turn" = true)
    (k23 : PySem.W.keepIn K (.ref f23) = true)
    (a24 : PySem.W.nsIn K mainGlobals "read_run" = some (some (.ref f24)))
    (l24 : K.lookup f24 = some ⟨oc24, od24, .func (PySem.W.fnOf "read_run" "read_run" (defArgs sRR) (defBody sRR) (defScope sRR) .none kV24 dc24 pm24 an24 cd24 ct24), sl24⟩)
    (c24 : PySem.W.codeIn K cd24 "read_run" = true)
    (k24 : PySem.W.keepIn K (.ref f24) = true)
    (a25 : PySem.W.nsIn K mainGlobals "marks_by" = some (some (.ref f25)))
    (l25 : K.lookup f25 = some ⟨oc25, od25, .func (PySem.W.fnOf "marks_by" "marks_by" (defArgs sMB) (defBody sMB) (defScope sMB) .none kV25 dc25 pm25 an25 cd25 ct25), sl25⟩)
    (c25 : PySem.W.codeIn K cd25 "marks_by" = true)
    (k25 : PySem.W.keepIn K (.ref f25) = true)
    (a26 : PySem.W.nsIn K mainGlobals "check_codes" = some (some (.ref f26)))
    (l26 : K.lookup f26 = some ⟨oc26, od26, .func (PySem.W.fnOf "check_codes" "check_codes" (defArgs sCC) (defBody sCC) (defScope sCC) .none kV26 dc26 pm26 an26 cd26 ct26), sl26⟩)
    (c26 : PySem.W.codeIn K cd26 "check_codes" = true)
    (k26 : PySem.W.keepIn K (.ref f26) = true)
    (a27 : PySem.W.nsIn K mainGlobals "read_codes" = some (some (.ref f27)))
    (l27 : K.lookup f27 = some ⟨oc27, od27, .func (PySem.W.fnOf "read_codes" "read_codes" (defArgs sRC) (defBody sRC) (defScope sRC) .none kV27 dc27 pm27 an27 cd27 ct27), sl27⟩)
    (c27 : PySem.W.codeIn K cd27 "read_codes" = true)
    (k27 : PySem.W.keepIn K (.ref f27) = true)
    (a28 : PySem.W.nsIn K mainGlobals "plain_head" = some (some (.ref f28)))
    (l28 : K.lookup f28 = some ⟨oc28, od28, .func (PySem.W.fnOf "plain_head" "plain_head" (defArgs sPH) (defBody sPH) (defScope sPH) .none kV28 dc28 pm28 an28 cd28 ct28), sl28⟩)
    (c28 : PySem.W.codeIn K cd28 "plain_head" = true)
    (k28 : PySem.W.keepIn K (.ref f28) = true)
    (a29 : PySem.W.nsIn K mainGlobals "book_head" = some (some (.ref f29)))
    (l29 : K.lookup f29 = some ⟨oc29, od29, .func (PySem.W.fnOf "book_head" "book_head" (defArgs sBH) (defBody sBH) (defScope sBH) .none kV29 dc29 pm29 an29 cd29 ct29), sl29⟩)
    (c29 : PySem.W.codeIn K cd29 "book_head" = true)
    (k29 : PySem.W.keepIn K (.ref f29) = true)
    (a30 : PySem.W.nsIn K mainGlobals "guide_of" = some (some (.ref f30)))
    (l30 : K.lookup f30 = some ⟨oc30, od30, .func (PySem.W.fnOf "guide_of" "guide_of" (defArgs sGO) (defBody sGO) (defScope sGO) .none kV30 dc30 pm30 an30 cd30 ct30), sl30⟩)
    (c30 : PySem.W.codeIn K cd30 "guide_of" = true)
    (k30 : PySem.W.keepIn K (.ref f30) = true)
    (a31 : PySem.W.nsIn K mainGlobals "numbers_in" = some (some (.ref f31)))
    (l31 : K.lookup f31 = some ⟨oc31, od31, .func (PySem.W.fnOf "numbers_in" "numbers_in" (defArgs sNI) (defBody sNI) (defScope sNI) .none kV31 dc31 pm31 an31 cd31 ct31), sl31⟩)
    (c31 : PySem.W.codeIn K cd31 "numbers_in" = true)
    (k31 : PySem.W.keepIn K (.ref f31) = true)
    (a32 : PySem.W.nsIn K mainGlobals "walked_in" = some (some (.ref f32)))
    (l32 : K.lookup f32 = some ⟨oc32, od32, .func (PySem.W.fnOf "walked_in" "walked_in" (defArgs sWI) (defBody sWI) (defScope sWI) .none kV32 dc32 pm32 an32 cd32 ct32), sl32⟩)
    (c32 : PySem.W.codeIn K cd32 "walked_in" = true)
    (k32 : PySem.W.keepIn K (.ref f32) = true)
    (a33 : PySem.W.nsIn K mainGlobals "pack" = some (some (.ref f33)))
    (l33 : K.lookup f33 = some ⟨oc33, od33, .func (PySem.W.fnOf "pack" "pack" (defArgs sPk) (defBody sPk) (defScope sPk) .none (.ref KD) dc33 pm33 an33 (.ref cc33) ct33), sl33⟩)
    (d_way : PySem.W.nsIn K KD "way" = some (some .none))
    (lc33 : K.lookup cc33 = some ⟨.type "code", dd33, .fields vv33, sl_33⟩)
    (v11_33 : vv33[11]? = some (.ref PT33))
    (v18_33 : vv33.getD 18 .none = .str fi33 tf33)
    (v7_33 : vv33.getD 7 .none = .int fl33 tg33)
    (v9_33 : vv33.getD 9 .none = .bool inF33)
    (v10_33 : vv33.getD 10 .none = .int te33 tx33)
    (ne33 : cc33 ≠ PT33)
    (nP33 : K.lookup PT33 = none)
    (tb33 : h.get? PT33 = some { cls := .none, data := .fields #[] })
    (c33 : PySem.W.codeIn K (.ref cc33) "pack" = true)
    (k33 : PySem.W.keepIn K (.ref f33) = true)
    (a34 : PySem.W.nsIn K mainGlobals "_law_draws" = some (some (.ref f34)))
    (l34 : K.lookup f34 = some ⟨oc34, od34, .func (PySem.W.fnOf "_law_draws" "_law_draws" (defArgs sDraws) (defBody sDraws) (defScope sDraws) .none kV34 dc34 pm34 an34 cd34 ct34), sl34⟩)
    (c34 : PySem.W.codeIn K cd34 "_law_draws" = true)
    (k34 : PySem.W.keepIn K (.ref f34) = true)
    (a35 : PySem.W.nsIn K mainGlobals "_law_next" = some (some (.ref f35)))
    (l35 : K.lookup f35 = some ⟨oc35, od35, .func (PySem.W.fnOf "_law_next" "_law_next" (defArgs sNext) (defBody sNext) (defScope sNext) .none kV35 dc35 pm35 an35 cd35 ct35), sl35⟩)
    (c35 : PySem.W.codeIn K cd35 "_law_next" = true)
    (k35 : PySem.W.keepIn K (.ref f35) = true)
    (a36 : PySem.W.nsIn K mainGlobals "_law_number" = some (some (.ref f36)))
    (l36 : K.lookup f36 = some ⟨oc36, od36, .func (PySem.W.fnOf "_law_number" "_law_number" (defArgs sNu) (defBody sNu) (defScope sNu) .none kV36 dc36 pm36 an36 cd36 ct36), sl36⟩)
    (c36 : PySem.W.codeIn K cd36 "_law_number" = true)
    (k36 : PySem.W.keepIn K (.ref f36) = true)
    (a37 : PySem.W.nsIn K mainGlobals "_law_many" = some (some (.ref f37)))
    (l37 : K.lookup f37 = some ⟨oc37, od37, .func (PySem.W.fnOf "_law_many" "_law_many" (defArgs sMa) (defBody sMa) (defScope sMa) .none kV37 dc37 pm37 an37 cd37 ct37), sl37⟩)
    (c37 : PySem.W.codeIn K cd37 "_law_many" = true)
    (k37 : PySem.W.keepIn K (.ref f37) = true)
    (a38 : PySem.W.nsIn K mainGlobals "_law_numbers" = some (some (.ref f38)))
    (l38 : K.lookup f38 = some ⟨oc38, od38, .func (PySem.W.fnOf "_law_numbers" "_law_numbers" (defArgs sNs) (defBody sNs) (defScope sNs) .none kV38 dc38 pm38 an38 cd38 ct38), sl38⟩)
    (c38 : PySem.W.codeIn K cd38 "_law_numbers" = true)
    (k38 : PySem.W.keepIn K (.ref f38) = true)
    (a39 : PySem.W.nsIn K mainGlobals "_law_asked" = some (some (.ref f39)))
    (l39 : K.lookup f39 = some ⟨oc39, od39, .func (PySem.W.fnOf "_law_asked" "_law_asked" (defArgs sAs) (defBody sAs) (defScope sAs) .none kV39 dc39 pm39 an39 cd39 ct39), sl39⟩)
    (c39 : PySem.W.codeIn K cd39 "_law_asked" = true)
    (k39 : PySem.W.keepIn K (.ref f39) = true)
    (a40 : PySem.W.nsIn K mainGlobals "_law_due" = some (some (.ref f40)))
    (l40 : K.lookup f40 = some ⟨oc40, od40, .func (PySem.W.fnOf "_law_due" "_law_due" (defArgs sDu) (defBody sDu) (defScope sDu) .none kV40 dc40 pm40 an40 cd40 ct40), sl40⟩)
    (c40 : PySem.W.codeIn K cd40 "_law_due" = true)
    (k40 : PySem.W.keepIn K (.ref f40) = true)
    (a41 : PySem.W.nsIn K mainGlobals "_law_spot" = some (some (.ref f41)))
    (l41 : K.lookup f41 = some ⟨oc41, od41, .func (PySem.W.fnOf "_law_spot" "_law_spot" (defArgs sSp) (defBody sSp) (defScope sSp) .none kV41 dc41 pm41 an41 cd41 ct41), sl41⟩)
    (c41 : PySem.W.codeIn K cd41 "_law_spot" = true)
    (k41 : PySem.W.keepIn K (.ref f41) = true)
    (a42 : PySem.W.nsIn K mainGlobals "_law_looks_right" = some (some (.ref f42)))
    (l42 : K.lookup f42 = some ⟨oc42, od42, .func (PySem.W.fnOf "_law_looks_right" "_law_looks_right" (defArgs sLk) (defBody sLk) (defScope sLk) .none kV42 dc42 pm42 an42 cd42 ct42), sl42⟩)
    (c42 : PySem.W.codeIn K cd42 "_law_looks_right" = true)
    (k42 : PySem.W.keepIn K (.ref f42) = true)
    (a43 : PySem.W.nsIn K mainGlobals "_law_right" = some (some (.ref f43)))
    (l43 : K.lookup f43 = some ⟨oc43, od43, .func (PySem.W.fnOf "_law_right" "_law_right" (defArgs sRt) (defBody sRt) (defScope sRt) .none kV43 dc43 pm43 an43 cd43 ct43), sl43⟩)
    (c43 : PySem.W.codeIn K cd43 "_law_right" = true)
    (k43 : PySem.W.keepIn K (.ref f43) = true)
    (a44 : PySem.W.nsIn K mainGlobals "law" = some (some (.ref f44)))
    (l44 : K.lookup f44 = some ⟨oc44, od44, .func (PySem.W.fnOf "law" "law" (defArgs sLaw) (defBody sLaw) (defScope sLaw) .none kV44 dc44 pm44 an44 cd44 ct44), sl44⟩)
    (c44 : PySem.W.codeIn K cd44 "law" = true)
    (k44 : PySem.W.keepIn K (.ref f44) = true)
    (z_range : PySem.W.nsIn K mainGlobals "range" = some none)
    (z_len : PySem.W.nsIn K mainGlobals "len" = some none)
    (z_max : PySem.W.nsIn K mainGlobals "max" = some none)
    (z_min : PySem.W.nsIn K mainGlobals "min" = some none)
    (z_int : PySem.W.nsIn K mainGlobals "int" = some none)
    (z_list : PySem.W.nsIn K mainGlobals "list" = some none)
    (z_zip : PySem.W.nsIn K mainGlobals "zip" = some none)
    (z_sorted : PySem.W.nsIn K mainGlobals "sorted" = some none)
    (z_set : PySem.W.nsIn K mainGlobals "set" = some none)
    (z_enumerate : PySem.W.nsIn K mainGlobals "enumerate" = some none)
    (z_isinstance : PySem.W.nsIn K mainGlobals "isinstance" = some none)
    (z_bool : PySem.W.nsIn K mainGlobals "bool" = some none)
    (z_IndexError : PySem.W.nsIn K mainGlobals "IndexError" = some none)
    (v_SPAN : PySem.W.nsIn K mainGlobals "SPAN" = some (some (.int 32 tk32)))
    (v_WRITERS : PySem.W.nsIn K mainGlobals "WRITERS" = some (some (.ref WD)))
    (v_READERS : PySem.W.nsIn K mainGlobals "READERS" = some (some (.ref RD)))
    (v_BEGIN : PySem.W.nsIn K mainGlobals "BEGIN" = some (some (.ref BG)))
    (v_WAYS : PySem.W.nsIn K mainGlobals "WAYS" = some (some (.ref WT)))
    (lWD : K.lookup WD = some ⟨.type "dict", none, .dict esW nW, #[]⟩)
    (tWD : PySem.W.KeysLit w.params esW.toList)
    (lRD : K.lookup RD = some ⟨.type "dict", none, .dict esR nR, #[]⟩)
    (tRD : PySem.W.KeysLit w.params esR.toList)
    (sRD : (RD == sysModules) = false)
    (w_plain : PySem.W.nsIn K WD "plain" = some (some (.ref f15)))
    (w_steps : PySem.W.nsIn K WD "steps" = some (some (.ref f16)))
    (w_turns : PySem.W.nsIn K WD "turns" = some (some (.ref f17)))
    (w_runs : PySem.W.nsIn K WD "runs" = some (some (.ref f18)))
    (w_book : PySem.W.nsIn K WD "book" = some (some (.ref f19)))
    (r_steps : PySem.W.nsIn K RD "steps" = some (some (.ref f22)))
    (r_turns : PySem.W.nsIn K RD "turns" = some (some (.ref f23)))
    (r_runs : PySem.W.nsIn K RD "runs" = some (some (.ref f24)))
    (r_plain : PySem.W.nsIn K RD "plain" = some none)
    (r_book : PySem.W.nsIn K RD "book" = some none)
    (lT : K.lookup WT = some ⟨cT, dT, .seq itT nT, sT⟩)
    (cT_ : cT = .type "tuple")
    (nT_ : itT.size ≤ sizeLine)
    (vT : Vals wayV itT.toList)
    (lB : K.lookup BG = some ⟨cB, dB, .seq itB nB, sB⟩)
    (cB_ : cB = .type "tuple")
    (nB_ : itB.size ≤ sizeLine)
    (vB : Vals (mkV (0, 0, none)) itB.toList)
    (kitI : PySem.W.kitOne K (.ref CP) (.type "IndexError") = some true)
    (kitA : PySem.W.kitAny K (.ref CP) [.ref CG, .ref CN, .ref CS] = some false)
    : LamX.LawAtS l w K L2.CX0 11 63 "_law_script" mg fa h := by
  have e := hfa.symm.trans (PySem.W.mg_of X G a44)
  cases e
  have F1 := fun_mk (st := sErP) l1 c1 k1
  have F2 := fun_mk (st := sCI) l2 c2 k2
  have F3 := fun_mk (st := sCU) l3 c3 k3
  have F4 := fun_mk (st := sCOn) l4 c4 k4
  have F5 := fun_mk (st := sCPt) l5 c5 k5
  have F6 := fun_mk (st := sClk) l6 c6 k6
  have F7 := fun_mk (st := sPl) l7 c7 k7
  have F8 := fun_mk (st := sTu) l8 c8 k8
  have F9 := fun_mk (st := sBa) l9 c9 k9
  have F10 := fun_mk (st := sOw) l10 c10 k10
  have F11 := fun_mk (st := sRO) l11 c11 k11
  have F12 := fun_mk (st := sOC) l12 c12 k12
  have F13 := fun_mk (st := sSO) l13 c13 k13
  have F14 := fun_mk (st := sRu) l14 c14 k14
  have F15 := fun_mk (st := sWP) l15 c15 k15
  have F16 := fun_mk (st := sWS) l16 c16 k16
  have F17 := fun_mk (st := sWT) l17 c17 k17
  have F18 := fun_mk (st := sWR) l18 c18 k18
  have F19 := fun_mk (st := sWB) l19 c19 k19
  have F20 := fun_mk (st := sBB) l20 c20 k20
  have F21 := fun_mk (st := sSB) l21 c21 k21
  have F22 := fun_mk (st := sRS) l22 c22 k22
  have F23 := fun_mk (st := sRT) l23 c23 k23
  have F24 := fun_mk (st := sRR) l24 c24 k24
  have F25 := fun_mk (st := sMB) l25 c25 k25
  have F26 := fun_mk (st := sCC) l26 c26 k26
  have F27 := fun_mk (st := sRC) l27 c27 k27
  have F28 := fun_mk (st := sPH) l28 c28 k28
  have F29 := fun_mk (st := sBH) l29 c29 k29
  have F30 := fun_mk (st := sGO) l30 c30 k30
  have F31 := fun_mk (st := sNI) l31 c31 k31
  have F32 := fun_mk (st := sWI) l32 c32 k32
  have FC33 := func_mk (st := sPk) l33 c33 k33
  have F33 := FC33.fn
  have FD33 : FunD K "pack" "pack" (defArgs sPk) (defBody sPk) (defScope sPk) [] [("way", .non)] f33 _ := ⟨⟨oc33, od33, .none, .ref KD, dc33, pm33, an33, .ref cc33, ct33, sl33, rfl, l33, c33, .inl ⟨rfl, rfl⟩, .inr ⟨KD, rfl, fun q lack => by
    obtain rfl := List.mem_singleton.mp lack
    exact ⟨_, d_way, rfl⟩⟩⟩, k33⟩
  have F34 := fun_mk (st := sDraws) l34 c34 k34
  have F35 := fun_mk (st := sNext) l35 c35 k35
  have F36 := fun_mk (st := sNu) l36 c36 k36
  have F37 := fun_mk (st := sMa) l37 c37 k37
  have F38 := fun_mk (st := sNs) l38 c38 k38
  have F39 := fun_mk (st := sAs) l39 c39 k39
  have F40 := fun_mk (st := sDu) l40 c40 k40
  have F41 := fun_mk (st := sSp) l41 c41 k41
  have F42 := fun_mk (st := sLk) l42 c42 k42
  have F43 := fun_mk (st := sRt) l43 c43 k43
  have F44 := fun_mk (st := sLaw) l44 c44 k44
  have b1 := F1.binds (ps := ["self", "at"]) fun _ _ _ _ _ _ us hl => match us, hl with | [_, _], _ => rfl
  have b2 := F2.binds (ps := ["self", "way", "bits", "many"]) fun _ _ _ _ _ _ us hl => match us, hl with | [_, _, _, _], _ => rfl
  have b3 := F3.binds (ps := ["self"]) fun _ _ _ _ _ _ us hl => match us, hl with | [_], _ => rfl
  have b4 := F4.binds (ps := ["self", "place"]) fun _ _ _ _ _ _ us hl => match us, hl with | [_, _], _ => rfl
  have b5 := F5.binds (ps := ["self", "start", "end"]) fun _ _ _ _ _ _ us hl => match us, hl with | [_, _, _], _ => rfl
  have b6 := F6.binds (ps := ["self"]) fun _ _ _ _ _ _ us hl => match us, hl with | [_], _ => rfl
  have b7 := F7.binds (ps := ["number", "width"]) fun _ _ _ _ _ _ us hl => match us, hl with | [_, _], _ => rfl
  have b8 := F8.binds (ps := ["number"]) fun _ _ _ _ _ _ us hl => match us, hl with | [_], _ => rfl
  have b9 := F9.binds (ps := ["number"]) fun _ _ _ _ _ _ us hl => match us, hl with | [_], _ => rfl
  have b10 := F10.binds (ps := ["number"]) fun _ _ _ _ _ _ us hl => match us, hl with | [_], _ => rfl
  have b11 := F11.binds (ps := ["bits", "at"]) fun _ _ _ _ _ _ us hl => match us, hl with | [_, _], _ => rfl
  have b12 := F12.binds (ps := ["numbers"]) fun _ _ _ _ _ _ us hl => match us, hl with | [_], _ => rfl
  have b13 := F13.binds (ps := ["numbers"]) fun _ _ _ _ _ _ us hl => match us, hl with | [_], _ => rfl
  have b14 := F14.binds (ps := ["numbers"]) fun _ _ _ _ _ _ us hl => match us, hl with | [_], _ => rfl
  have b15 := F15.binds (ps := ["numbers"]) fun _ _ _ _ _ _ us hl => match us, hl with | [_], _ => rfl
  have b16 := F16.binds (ps := ["numbers"]) fun _ _ _ _ _ _ us hl => match us, hl with | [_], _ => rfl
  have b17 := F17.binds (ps := ["numbers"]) fun _ _ _ _ _ _ us hl => match us, hl with | [_], _ => rfl
  have b18 := F18.binds (ps := ["numbers"]) fun _ _ _ _ _ _ us hl => match us, hl with | [_], _ => rfl
  have b19 := F19.binds (ps := ["numbers"]) fun _ _ _ _ _ _ us hl => match us, hl with | [_], _ => rfl
  have b20 := F20.binds (ps := ["numbers", "way"]) fun _ _ _ _ _ _ us hl => match us, hl with | [_, _], _ => rfl
  have b21 := F21.binds (ps := ["numbers", "way"]) fun _ _ _ _ _ _ us hl => match us, hl with | [_, _], _ => rfl
  have b22 := F22.binds (ps := ["bits", "mark", "room"]) fun _ _ _ _ _ _ us hl => match us, hl with | [_, _, _], _ => rfl
  have b23 := F23.binds (ps := ["bits", "mark", "room"]) fun _ _ _ _ _ _ us hl => match us, hl with | [_, _, _], _ => rfl
  have b24 := F24.binds (ps := ["bits", "mark", "room"]) fun _ _ _ _ _ _ us hl => match us, hl with | [_, _, _], _ => rfl
  have b25 := F25.binds (ps := ["way", "bits", "many"]) fun _ _ _ _ _ _ us hl => match us, hl with | [_, _, _], _ => rfl
  have b26 := F26.binds (ps := ["bits", "at", "width", "many"]) fun _ _ _ _ _ _ us hl => match us, hl with | [_, _, _, _], _ => rfl
  have b27 := F27.binds (ps := ["bits", "at", "width", "many"]) fun _ _ _ _ _ _ us hl => match us, hl with | [_, _, _, _], _ => rfl
  have b28 := F28.binds (ps := ["bits", "many"]) fun _ _ _ _ _ _ us hl => match us, hl with | [_, _], _ => rfl
  have b29 := F29.binds (ps := ["bits", "many"]) fun _ _ _ _ _ _ us hl => match us, hl with | [_, _], _ => rfl
  have b30 := F30.binds (ps := ["way", "bits", "many"]) fun _ _ _ _ _ _ us hl => match us, hl with | [_, _, _], _ => rfl
  have b31 := F31.binds (ps := ["column", "start", "end"]) fun _ _ _ _ _ _ us hl => match us, hl with | [_, _, _], _ => rfl
  have b32 := F32.binds (ps := ["column", "start", "end"]) fun _ _ _ _ _ _ us hl => match us, hl with | [_, _, _], _ => rfl
  have b34 := F34.binds (ps := ["_law_cell"]) fun _ _ _ _ _ _ us hl => match us, hl with | [_], _ => rfl
  have b35 := F35.binds (ps := ["_law_draws_here"]) fun _ _ _ _ _ _ us hl => match us, hl with | [_], _ => rfl
  have b36 := F36.binds (ps := ["_law_draws_here"]) fun _ _ _ _ _ _ us hl => match us, hl with | [_], _ => rfl
  have b37 := F37.binds (ps := ["_law_draws_here"]) fun _ _ _ _ _ _ us hl => match us, hl with | [_], _ => rfl
  have b38 := F38.binds (ps := ["_law_draws_here", "_law_many_here"]) fun _ _ _ _ _ _ us hl => match us, hl with | [_, _], _ => rfl
  have b39 := F39.binds (ps := ["_law_column", "_law_a_start", "_law_a_end"]) fun _ _ _ _ _ _ us hl => match us, hl with | [_, _, _], _ => rfl
  have b40 := F40.binds (ps := ["_law_numbers_here", "_law_a_start", "_law_a_end"]) fun _ _ _ _ _ _ us hl => match us, hl with | [_, _, _], _ => rfl
  have b41 := F41.binds (ps := ["_law_draws_here", "_law_many_here"]) fun _ _ _ _ _ _ us hl => match us, hl with | [_, _], _ => rfl
  have b42 := F42.binds (ps := ["_law_column", "_law_numbers_here", "_law_a_way"]) fun _ _ _ _ _ _ us hl => match us, hl with | [_, _, _], _ => rfl
  have b43 := F43.binds (ps := ["_law_draws_here", "_law_numbers_here", "_law_column"]) fun _ _ _ _ _ _ us hl => match us, hl with | [_, _, _], _ => rfl
  have g7 := PySem.W.mg_of X G a7
  have g8 := PySem.W.mg_of X G a8
  have g9 := PySem.W.mg_of X G a9
  have g10 := PySem.W.mg_of X G a10
  have g11 := PySem.W.mg_of X G a11
  have g12 := PySem.W.mg_of X G a12
  have g13 := PySem.W.mg_of X G a13
  have g14 := PySem.W.mg_of X G a14
  have g15 := PySem.W.mg_of X G a15
  have g16 := PySem.W.mg_of X G a16
  have g17 := PySem.W.mg_of X G a17
  have g18 := PySem.W.mg_of X G a18
  have g19 := PySem.W.mg_of X G a19
  have g20 := PySem.W.mg_of X G a20
  have g21 := PySem.W.mg_of X G a21
  have g22 := PySem.W.mg_of X G a22
  have g23 := PySem.W.mg_of X G a23
  have g24 := PySem.W.mg_of X G a24
  have g25 := PySem.W.mg_of X G a25
  have g26 := PySem.W.mg_of X G a26
  have g27 := PySem.W.mg_of X G a27
  have g28 := PySem.W.mg_of X G a28
  have g29 := PySem.W.mg_of X G a29
  have g30 := PySem.W.mg_of X G a30
  have g31 := PySem.W.mg_of X G a31
  have g32 := PySem.W.mg_of X G a32
  have g33 := PySem.W.mg_of X G a33
  have g34 := PySem.W.mg_of X G a34
  have g35 := PySem.W.mg_of X G a35
  have g36 := PySem.W.mg_of X G a36
  have g37 := PySem.W.mg_of X G a37
  have g38 := PySem.W.mg_of X G a38
  have g39 := PySem.W.mg_of X G a39
  have g40 := PySem.W.mg_of X G a40
  have g41 := PySem.W.mg_of X G a41
  have g42 := PySem.W.mg_of X G a42
  have g43 := PySem.W.mg_of X G a43
  have gC1 := PySem.W.mg_of X G aC1
  have gCG := PySem.W.mg_of X G aCG
  have gCN := PySem.W.mg_of X G aCN
  have gCS := PySem.W.mg_of X G aCS
  have gCP := PySem.W.mg_of X G aCP
  have OCP : ExcA K CP "IndexError.__new__" [.type "IndexError", .type "LookupError", .type "Exception", .type "BaseException", .type "object"] := ⟨⟨nmCP, qCP, NCP, bsCP, _, snCP, subCP, abCP, colCP, ddCP, v0CP, v1CP, v2CP, v3CP, v5CP, xCP, by decide +kernel⟩, saCP, ecCP, tcCP, kcCP⟩
  have ECP : ExcC K CP := ⟨gaCP, ggCP, ecCP, hcCP, ccCP, hnC, htC, moCP⟩
  have XCP : XfC K CP := ⟨gaCP, ggCP, ecCP, hcCP⟩
  have m_range := PySem.W.mg_none_of X G z_range
  have m_len := PySem.W.mg_none_of X G z_len
  have m_max := PySem.W.mg_none_of X G z_max
  have m_min := PySem.W.mg_none_of X G z_min
  have m_int := PySem.W.mg_none_of X G z_int
  have m_list := PySem.W.mg_none_of X G z_list
  have m_zip := PySem.W.mg_none_of X G z_zip
  have m_sorted := PySem.W.mg_none_of X G z_sorted
  have m_set := PySem.W.mg_none_of X G z_set
  have m_enumerate := PySem.W.mg_none_of X G z_enumerate
  have m_isinstance := PySem.W.mg_none_of X G z_isinstance
  have m_bool := PySem.W.mg_none_of X G z_bool
  have m_IndexError := PySem.W.mg_none_of X G z_IndexError
  have g_SPAN := PySem.W.mg_of X G v_SPAN
  have g_WRITERS := PySem.W.mg_of X G v_WRITERS
  have g_READERS := PySem.W.mg_of X G v_READERS
  have g_BEGIN := PySem.W.mg_of X G v_BEGIN
  have g_WAYS := PySem.W.mg_of X G v_WAYS
  refine ⟨PySem.W.fnOf "law" "law" (defArgs sLaw) (defBody sLaw) (defScope sLaw) .none kV44 dc44 pm44 an44 cd44 ct44, [(cc33, PT33)], (spLaw K PT33), ?_, ?_, ?_, fun s v => .of_eq rfl, ?_, fun base _ _ TBs => ?_⟩
  · exact (fun p mem => by
      obtain rfl := List.mem_singleton.mp mem
      exact tb33)
  · exact (fun p mem => by
      obtain rfl := List.mem_singleton.mp mem
      exact nP33)
  · exact (fun p mem => by
      obtain rfl := List.mem_singleton.mp mem
      exact ⟨_, vv33, fi33, tf33, fl33, tg33, inF33, te33, tx33, X _ _ lc33, rfl, rfl, v11_33, gd_at v11_33, v18_33, v7_33, v9_33, v10_33, ne33⟩)
  · intro H a ns hl _ hP hS
    exact ⟨a, ns, rfl, hS, hl, (fun r hr => by rw [List.mem_singleton.mp hr]; exact LamX.TabS.nil (hP (cc33, PT33) (.head _))), fun _ => rfl⟩
  have TB33 := TBs (cc33, PT33) (.head _)
  have T : TCol K C1 := ⟨⟨pgC1, hdC1, poC1, saC1⟩, fun n hn => by
    simp only [List.mem_cons, List.not_mem_nil, or_false] at hn
    rcases hn with rfl | rfl | rfl | rfl | rfl
    · exact noC1_guide
    · exact noC1_way
    · exact noC1_bits
    · exact noC1_many
    · exact noC1_passed⟩
  have hW : ∀ H, SqT K H WT wayV := fun H => .inr ⟨_, itT, nT, lT, cT_, rfl, nT_, vT⟩
  have hB : ∀ H, SqT K H BG (mkV (0, 0, none)) := fun H => .inr ⟨_, itB, nB, lB, cB_, rfl, nB_, vB⟩
  have PL : ∀ j, Cal l.prog w K mg base (j + 1) "plain" ["number", "width"] spPl := fun j => ⟨f7, _, ok_pl F7, g7, k7, b7⟩
  have TU : ∀ j, Cal l.prog w K mg base (j + 1) "turned" ["number"] spTu := fun j => ⟨f8, _, ok_tu F8, g8, k8, b8⟩
  have BA : ∀ j, Cal l.prog w K mg base (j + 1) "back" ["number"] spBa := fun j => ⟨f9, _, ok_ba F9, g9, k9, b9⟩
  have OW : ∀ j, Cal l.prog w K mg base (j + 1) "own" ["number"] spOw := fun j => ⟨f10, _, ok_ow F10 m_len, g10, k10, b10⟩
  have RO : ∀ j, Cal l.prog w K mg base (j + 1) "read_own" ["bits", "at"] (spRO K) := fun j => ⟨f11, _, ok_ro F11 m_len m_int, g11, k11, b11⟩
  have OC : ∀ j, Cal l.prog w K mg base (j + 2) "own_codes" ["numbers"] (spTxt 80 360 cds) := fun j => ⟨f12, _, ok_oc (k := j + 1) F12 (OW j) (TU j), g12, k12, b12⟩
  have SO : ∀ j, Cal l.prog w K mg base (j + 1) "steps_of" ["numbers"] (spNew 80 360 stp) := fun j => ⟨f13, _, ok_so F13 m_zip, g13, k13, b13⟩
  have RU : ∀ j, Cal l.prog w K mg base (j + 1) "runs_of" ["numbers"] spRu := fun j => ⟨f14, _, ok_ru F14, g14, k14, b14⟩
  have XP : ∀ j, FnOk l.prog w K mg base CX0 (j + 3) f15 _ ["numbers"] (spWr encP) := fun j => ok_wp (k := j + 2) F15 (PL (j + 1)) (OW (j + 1)) (TU (j + 1)) m_min m_max
  have XS : ∀ j, FnOk l.prog w K mg base CX0 (j + 3) f16 _ ["numbers"] (spWr (enc .steps)) := fun j => ok_ws (k := j + 2) F16 (OC j) (SO (j + 1))
  have XT : ∀ j, FnOk l.prog w K mg base CX0 (j + 3) f17 _ ["numbers"] (spWr (enc .turns)) := fun j => ok_wt (k := j + 2) F17 (OC j) (SO (j + 1))
  have XR : ∀ j, FnOk l.prog w K mg base CX0 (j + 3) f18 _ ["numbers"] (spWr (enc .runs)) := fun j => ok_wr (k := j + 2) F18 (RU (j + 1)) (OW (j + 1)) (TU (j + 1))
  have XB : ∀ j, FnOk l.prog w K mg base CX0 (j + 3) f19 _ ["numbers"] (spWr encB) := fun j => ok_wb (k := j + 2) F19 (PL (j + 1)) (OW (j + 1)) (TU (j + 1)) m_sorted m_set m_enumerate m_len m_zip
  have WR : ∀ j, Wrs l.prog w K mg base (j + 3) WD := fun j => ⟨fun y => match y with | .plain => f15 | .by .steps => f16 | .by .turns => f17 | .by .runs => f18 | .book => f19,
    fun y => match y with | .plain => ⟨_, _, XP j, k15, b15⟩ | .by .steps => ⟨_, _, XS j, k16, b16⟩ | .by .turns => ⟨_, _, XT j, k17, b17⟩ | .by .runs => ⟨_, _, XR j, k18, b18⟩ | .book => ⟨_, _, XB j, k19, b19⟩,
    fun y => match y with | .plain => ⟨esW, nW, _, lWD, tWD, w_plain, rfl⟩ | .by .steps => ⟨esW, nW, _, lWD, tWD, w_steps, rfl⟩ | .by .turns => ⟨esW, nW, _, lWD, tWD, w_turns, rfl⟩ | .by .runs => ⟨esW, nW, _, lWD, tWD, w_runs, rfl⟩ | .book => ⟨esW, nW, _, lWD, tWD, w_book, rfl⟩⟩
  have BB : ∀ j, Cal l.prog w K mg base (j + 4) "bits_by" ["numbers", "way"] spBB := fun j => ⟨f20, _, ok_bb (k := j + 3) F20 (WR j) g_WRITERS m_list, g20, k20, b20⟩
  have SB : ∀ j, Cal l.prog w K mg base (j + 5) "size_by" ["numbers", "way"] spSB := fun j => ⟨f21, _, ok_sb (k := j + 4) F21 (BB j) m_len, g21, k21, b21⟩
  have YS : ∀ j, FnOk l.prog w K mg base CX0 (j + 2) f22 _ ["bits", "mark", "room"] (spRd K .steps) := fun j => ok_rs (k := j + 1) F22 (RO j) (BA j)
  have YT : ∀ j, FnOk l.prog w K mg base CX0 (j + 2) f23 _ ["bits", "mark", "room"] (spRd K .turns) := fun j => ok_rt (k := j + 1) F23 (RO j) (BA j)
  have YR : ∀ j, FnOk l.prog w K mg base CX0 (j + 2) f24 _ ["bits", "mark", "room"] (spRd K .runs) := fun j => ok_rr (k := j + 1) F24 (RO j) (BA j)
  have RDs : ∀ j, Rds l.prog w K mg base (j + 2) RD := fun j => ⟨fun W => match W with | .steps => f22 | .turns => f23 | .runs => f24,
    fun W => match W with | .steps => ⟨_, _, YS j, k22, b22⟩ | .turns => ⟨_, _, YT j, k23, b23⟩ | .runs => ⟨_, _, YR j, k24, b24⟩,
    fun W => match W with | .steps => ⟨esR, nR, _, lRD, tRD, r_steps, rfl⟩ | .turns => ⟨esR, nR, _, lRD, tRD, r_turns, rfl⟩ | .runs => ⟨esR, nR, _, lRD, tRD, r_runs, rfl⟩⟩
  have has : ∀ y : Wy, KHas K w RD y.nm y.walks := fun y => match y with | .plain => ⟨esR, nR, lRD, tRD, sRD, _, r_plain, rfl⟩ | .book => ⟨esR, nR, lRD, tRD, sRD, _, r_book, rfl⟩ | .by .steps => ⟨esR, nR, lRD, tRD, sRD, _, r_steps, rfl⟩ | .by .turns => ⟨esR, nR, lRD, tRD, sRD, _, r_turns, rfl⟩ | .by .runs => ⟨esR, nR, lRD, tRD, sRD, _, r_runs, rfl⟩
  have MB : ∀ j, Cal l.prog w K mg base (j + 3) "marks_by" ["way", "bits", "many"] (spMB K) := fun j => ⟨f25, _, ok_mb (k := j + 2) F25 (RDs j) g_READERS g_BEGIN hB g_SPAN m_range m_len, g25, k25, b25⟩
  have CC : ∀ j, Cal l.prog w K mg base (j + 1) "check_codes" ["bits", "at", "width", "many"] spCC := fun j => ⟨f26, _, ok_cc F26 m_len, g26, k26, b26⟩
  have RC : ∀ j, Cal l.prog w K mg base (j + 1) "read_codes" ["bits", "at", "width", "many"] spRC := fun j => ⟨f27, _, ok_rc F27 m_len m_min m_range m_int, g27, k27, b27⟩
  have PH : ∀ j, Cal l.prog w K mg base (j + 2) "plain_head" ["bits", "many"] spPH := fun j => ⟨f28, _, ok_ph (k := j + 1) F28 (RO j) (BA j) (CC j), g28, k28, b28⟩
  have BH : ∀ j, Cal l.prog w K mg base (j + 2) "book_head" ["bits", "many"] spBH := fun j => ⟨f29, _, ok_bh (k := j + 1) F29 (RO j) (BA j) (CC j) (RC j) m_len m_enumerate, g29, k29, b29⟩
  have GO : ∀ j, Cal l.prog w K mg base (j + 4) "guide_of" ["way", "bits", "many"] (spGO K) := fun j => ⟨f30, _, ok_go (k := j + 3) F30 (PH (j + 1)) (BH (j + 1)) (MB j), g30, k30, b30⟩
  have WI : ∀ j, Cal l.prog w K mg base (j + 3) "walked_in" ["column", "start", "end"] (spWI K C1) := fun j => ⟨f32, _, ok_wi (k := j + 2) F32 T (RDs j) g_READERS g_SPAN m_range, g32, k32, b32⟩
  have NI : ∀ j, Cal l.prog w K mg base (j + 4) "numbers_in" ["column", "start", "end"] (spNI K C1) := fun j => ⟨f31, _, ok_ni (k := j + 3) F31 T has g_READERS (WI j) (RC (j + 2)), g31, k31, b31⟩
  have KC : ∀ j, CalC l.prog w K mg base (j + 5) "Column" C1 ["self", "way", "bits", "many"] (spCI K C1) := fun j => ⟨f2, _, ok_ci (k := j + 4) F2 T (GO j), gC1, ⟨mkC1, a2, i2, kcC1⟩, b2⟩
  have CU : ∀ j, CalM l.prog w K mg base (j + 5) C1 "unpacked" ["self"] (spCU K C1) := fun j => ⟨f3, _, ok_cu (k := j + 4) F3 T (NI j), ⟨a3, i3, k3⟩, b3⟩
  have kW : KTup K WT wayV := ⟨_, itT, nT, lT, cT_, rfl, nT_, vT⟩
  have OP : ∀ j, FnOk l.prog w K mg base CX0 (j + 8) f33 _ ["numbers", "way"] (spPk K C1 PT33) := fun j => ok_pk (k := j + 5) FC33 TB33 (BB (j + 1)) (SB j) (KC (j + 1)) g_WAYS kW m_len m_min
  have PN : ∀ j, CalN1 l.prog w K mg base (j + 8) "pack" ["numbers", "way"] ["way"] (spPk K C1 PT33) := fun j => ⟨f33, _, OP j, g33, k33, kn_pk F33⟩
  obtain ⟨dsP, vP, bP⟩ := kd_pk FD33
  have PD : ∀ j, CalD l.prog w K mg base (j + 8) "pack" ["numbers", "way"] [.non] (spPk K C1 PT33) := fun j => ⟨f33, _, dsP, OP j, g33, k33, vP, bP⟩
  have CE : ∀ j, CalEI l.prog w K mg base (j + 1) "NoPlace" CP "at" := fun j => ⟨f1, _, OCP, a1, t1, ok_errP (k := j) F1 OCP noCP m_IndexError vIndexError, b1, gCP⟩
  have PF : PlF K mg CP CG CN CS := ⟨gCP, gCG, gCN, gCS, m_isinstance, m_IndexError, kitI, kitA, ECP, XCP, noCP, xmCP⟩
  have PQ : ∀ j, FnOk l.prog w K mg base CX0 (j + 5) f5 _ ["self", "start", "end"] (spPt K C1 (TT PT33)) := fun j => ok_cpt (k := j + 4) F5 T (NI j)
  have PK_ : ∀ j, CalMK l.prog w K mg base (j + 5) C1 "part" ["self", "start", "end"] ["end", "start"] [1, 0] (spPt K C1 (TT PT33)) := fun j => ⟨f5, _, PQ j, ⟨a5, i5, k5⟩, kn_pt F5⟩
  have ONK : ∀ j, CalMK l.prog w K mg base (j + 6) C1 "one" ["self", "place"] ["place"] [0] (spOn K C1 (TT PT33)) := fun j => ⟨f4, _, ok_con (k := j + 5) F4 T ⟨f5, _, PQ j, ⟨a5, i5, k5⟩, b5⟩, ⟨a4, i4, k4⟩, kn_on F4⟩
  have PX : ∀ j, CalMR l.prog w K mg base (j + 6) C1 "part" ["self", "start", "end"] (spPtX K C1 CP (TT PT33)) := fun j => ⟨f5, _, ok_cptX (k := j + 4) F5 T (NI j) (CE (j + 3)), ⟨a5, i5, k5⟩, b5⟩
  have OX : ∀ j, CalMR l.prog w K mg base (j + 7) C1 "one" ["self", "place"] (spOnX K C1 CP (TT PT33)) := fun j => ⟨f4, _, ok_conX (k := j + 5) F4 T (PX j) (CE (j + 4)), ⟨a4, i4, k4⟩, b4⟩
  have LKD : ∀ j, CalM l.prog w K mg base (j + 1) C1 "looked" ["self"] (spLkd C1) := fun j => ⟨f6, _, ok_clk F6 T, ⟨a6, i6, k6⟩, b6⟩
  have DR_ : ∀ j, Cal l.prog w K mg base (j + 1) "_law_draws" ["_law_cell"] spDraws := fun j => ⟨f34, _, ok_draws F34 m_range, g34, k34, b34⟩
  have NX : ∀ j, Cal l.prog w K mg base (j + 1) "_law_next" ["_law_draws_here"] spNext := fun j => ⟨f35, _, ok_next F35, g35, k35, b35⟩
  have NU : ∀ j, Cal l.prog w K mg base (j + 2) "_law_number" ["_law_draws_here"] spNu := fun j => ⟨f36, _, ok_nu (k := j + 1) F36 (NX j), g36, k36, b36⟩
  have MA : ∀ j, Cal l.prog w K mg base (j + 2) "_law_many" ["_law_draws_here"] spMa := fun j => ⟨f37, _, ok_ma (k := j + 1) F37 (NX j), g37, k37, b37⟩
  have NS : ∀ j, Cal l.prog w K mg base (j + 3) "_law_numbers" ["_law_draws_here", "_law_many_here"] spNs := fun j => ⟨f38, _, ok_ns (k := j + 2) F38 (NX (j + 1)) (NU j) m_range, g38, k38, b38⟩
  have AS_ : ∀ j, Cal l.prog w K mg base (j + 8) "_law_asked" ["_law_column", "_law_a_start", "_law_a_end"] (spAs K C1 (TT PT33)) := fun j => ⟨f39, _, ok_as (k := j + 7) F39 T PF (OX j) (PX (j + 1)), g39, k39, b39⟩
  have DU_ : ∀ j, Cal l.prog w K mg base (j + 1) "_law_due" ["_law_numbers_here", "_law_a_start", "_law_a_end"] (spDu K) := fun j => ⟨f40, _, ok_du F40 m_len, g40, k40, b40⟩
  have SP_ : ∀ j, Cal l.prog w K mg base (j + 2) "_law_spot" ["_law_draws_here", "_law_many_here"] spSp := fun j => ⟨f41, _, ok_sp (k := j + 1) F41 (NX j), g41, k41, b41⟩
  have LK_ : ∀ j, Cal l.prog w K mg base (j + 2) "_law_looks_right" ["_law_column", "_law_numbers_here", "_law_a_way"] (spLk C1) := fun j => ⟨f42, _, ok_lk (k := j + 1) F42 T (LKD j) m_isinstance m_bool, g42, k42, b42⟩
  have RT_ : Cal l.prog w K mg base 10 "_law_right" ["_law_draws_here", "_law_numbers_here", "_law_column"] (spRt K C1 (TT PT33)) := ⟨f43, _, ok_right (k := 9) F43 T (LKD 8) (CU 4) (PK_ 4) m_len m_range (fun cdv A outer s H E hr => rk_ hr (SP_ 7) m_len m_min m_max (rm_ (ri_ hr T (AS_ 1) (DU_ 8) (LK_ 7) m_isinstance m_bool (rl_ m_isinstance m_list)))), g43, k43, b43⟩
  exact ok_law (k := 8) F44 fun cdv A outer s H E hr => lb_ hr T (DR_ 7) (NX 7) (MA 6) (NS 5) RT_ (PD 0) (PN 0) (ONK 2) g_WAYS hW
end Tg
open PySem PySem.W PyProof.Rows
set_option maxRecDepth 100000 in
set_option maxHeartbeats 0 in
theorem PySem.Challenge.cw_timegranary_k23_columns_looked_into_holds : PySem.Challenge.rw_timegranary_k23_columns_looked_into.Holds := by
  w_on; o_law; k_head; (case hw => w_witness2)
  k_fill
  refine LamX.walk_ofTs (l := PySem.Challenge.rw_timegranary_k23_columns_looked_into) (n := 63) (k := 11) (x := "_law_script") (CX := fun _ => L2.CX0) rfl (by decide) rfl ⟨rfl, by decide, by decide⟩ (fun w h Y => PySem.W.km_in_of Y) ?F (fun _ _ _ _ _ h => h)
  case F =>
    intro w mg fa h Y KX G hmg
    refine' Tg.all_mk KX G hmg ?aCP ?xCP ?saCP ?gaCP ?ggCP ?noCP ?kcCP ?ecCP ?tcCP ?hcCP ?ccCP ?moCP ?xmCP ?hnC ?htC ?vIndexError ?aCG ?aCN ?aCS ?aC1 ?pgC1 ?hdC1 ?poC1 ?saC1 ?mkC1 ?kcC1 ?noC1_guide ?noC1_way ?noC1_bits ?noC1_many ?noC1_passed ?a1 ?t1 ?l1 ?c1 ?k1 ?a2 ?i2 ?l2 ?c2 ?k2 ?a3 ?i3 ?l3 ?c3 ?k3 ?a4 ?i4 ?l4 ?c4 ?k4 ?a5 ?i5 ?l5 ?c5 ?k5 ?a6 ?i6 ?l6 ?c6 ?k6 ?a7 ?l7 ?c7 ?k7 ?a8 ?l8 ?c8 ?k8 ?a9 ?l9 ?c9 ?k9 ?a10 ?l10 ?c10 ?k10 ?a11 ?l11 ?c11 ?k11 ?a12 ?l12 ?c12 ?k12 ?a13 ?l13 ?c13 ?k13 ?a14 ?l14 ?c14 ?k14 ?a15 ?l15 ?c15 ?k15 ?a16 ?l16 ?c16 ?k16 ?a17 ?l17 ?c17 ?k17 ?a18 ?l18 ?c18 ?k18 ?a19 ?l19 ?c19 ?k19 ?a20 ?l20 ?c20 ?k20 ?a21 ?l21 ?c21 ?k21 ?a22 ?l22 ?c22 ?k22 ?a23 ?l23 ?c23 ?k23 ?a24 ?l24 ?c24 ?k24 ?a25 ?l25 ?c25 ?k25 ?a26 ?l26 ?c26 ?k26 ?a27 ?l27 ?c27 ?k27 ?a28 ?l28 ?c28 ?k28 ?a29 ?l29 ?c29 ?k29 ?a30 ?l30 ?c30 ?k30 ?a31 ?l31 ?c31 ?k31 ?a32 ?l32 ?c32 ?k32 ?a33 ?l33 ?d_way ?lc33 ?v11_33 ?v18_33 ?v7_33 ?v9_33 ?v10_33 ?ne33 ?nP33 ?tb33 ?c33 ?k33 ?a34 ?l34 ?c34 ?k34 ?a35 ?l35 ?c35 ?k35 ?a36 ?l36 ?c36 ?k36 ?a37 ?l37 ?c37 ?k37 ?a38 ?l38 ?c38 ?k38 ?a39 ?l39 ?c39 ?k39 ?a40 ?l40 ?c40 ?k40 ?a41 ?l41 ?c41 ?k41 ?a42 ?l42 ?c42 ?k42 ?a43 ?l43 ?c43 ?k43 ?a44 ?l44 ?c44 ?k44 ?z_range ?z_len ?z_max ?z_min ?z_int ?z_list ?z_zip ?z_sorted ?z_set ?z_enumerate ?z_isinstance ?z_bool ?z_IndexError ?v_SPAN ?v_WRITERS ?v_READERS ?v_BEGIN ?v_WAYS ?lWD ?tWD ?lRD ?tRD ?sRD ?w_plain ?w_steps ?w_turns ?w_runs ?w_book ?r_steps ?r_turns ?r_runs ?r_plain ?r_book ?lT ?cT_ ?nT_ ?vT ?lB ?cB_ ?nB_ ?vB ?kitI ?kitA
    (case aCP => k_is); (case xCP => k_is); (case saCP => k_is); (case gaCP => k_is); (case ggCP => k_is); (case noCP => k_is)
    (case kcCP => k_is); (case ecCP => k_is); (case tcCP => k_is); (case hcCP => k_is); (case ccCP => k_is); (case moCP => k_is)
    (case xmCP => first | k_is | rfl); (case hnC => k_is); (case htC => k_is); (case vIndexError => first | k_is | rfl); (case aCG => k_is); (case aCN => k_is)
    (case aCS => k_is); (case aC1 => k_is); (case pgC1 => k_is); (case hdC1 => k_is); (case poC1 => k_is); (case saC1 => k_is)
    (case mkC1 => k_is); (case kcC1 => k_is); (case noC1_guide => k_is); (case noC1_way => k_is); (case noC1_bits => k_is); (case noC1_many => k_is)
    (case noC1_passed => k_is); (case a1 => k_is); (case t1 => k_is); (case l1 => k_is); (case c1 => k_is); (case k1 => k_is)
    (case a2 => k_is); (case i2 => k_is); (case l2 => k_is); (case c2 => k_is); (case k2 => k_is); (case a3 => k_is)
    (case i3 => k_is); (case l3 => k_is); (case c3 => k_is); (case k3 => k_is); (case a4 => k_is); (case i4 => k_is)
    (case l4 => k_is); (case c4 => k_is); (case k4 => k_is); (case a5 => k_is); (case i5 => k_is); (case l5 => k_is)
    (case c5 => k_is); (case k5 => k_is); (case a6 => k_is); (case i6 => k_is); (case l6 => k_is); (case c6 => k_is)
    (case k6 => k_is); (case a7 => k_is); (case l7 => k_is); (case c7 => k_is); (case k7 => k_is); (case a8 => k_is)
    (case l8 => k_is); (case c8 => k_is); (case k8 => k_is); (case a9 => k_is); (case l9 => k_is); (case c9 => k_is)
    (case k9 => k_is); (case a10 => k_is); (case l10 => k_is); (case c10 => k_is); (case k10 => k_is); (case a11 => k_is)
    (case l11 => k_is); (case c11 => k_is); (case k11 => k_is); (case a12 => k_is); (case l12 => k_is); (case c12 => k_is)
    (case k12 => k_is); (case a13 => k_is); (case l13 => k_is); (case c13 => k_is); (case k13 => k_is); (case a14 => k_is)
    (case l14 => k_is); (case c14 => k_is); (case k14 => k_is); (case a15 => k_is); (case l15 => k_is); (case c15 => k_is)
    (case k15 => k_is); (case a16 => k_is); (case l16 => k_is); (case c16 => k_is); (case k16 => k_is); (case a17 => k_is)
    (case l17 => k_is); (case c17 => k_is); (case k17 => k_is); (case a18 => k_is); (case l18 => k_is); (case c18 => k_is)
    (case k18 => k_is); (case a19 => k_is); (case l19 => k_is); (case c19 => k_is); (case k19 => k_is); (case a20 => k_is)
    (case l20 => k_is); (case c20 => k_is); (case k20 => k_is); (case a21 => k_is); (case l21 => k_is); (case c21 => k_is)
    (case k21 => k_is); (case a22 => k_is); (case l22 => k_is); (case c22 => k_is); (case k22 => k_is); (case a23 => k_is)
    (case l23 => k_is); (case c23 => k_is); (case k23 => k_is); (case a24 => k_is); (case l24 => k_is); (case c24 => k_is)
    (case k24 => k_is); (case a25 => k_is); (case l25 => k_is); (case c25 => k_is); (case k25 => k_is); (case a26 => k_is)
    (case l26 => k_is); (case c26 => k_is); (case k26 => k_is); (case a27 => k_is); (case l27 => k_is); (case c27 => k_is)
    (case k27 => k_is); (case a28 => k_is); (case l28 => k_is); (case c28 => k_is); (case k28 => k_is); (case a29 => k_is)
    (case l29 => k_is); (case c29 => k_is); (case k29 => k_is); (case a30 => k_is); (case l30 => k_is); (case c30 => k_is)
    (case k30 => k_is); (case a31 => k_is); (case l31 => k_is); (case c31 => k_is); (case k31 => k_is); (case a32 => k_is)
    (case l32 => k_is); (case c32 => k_is); (case k32 => k_is); (case a33 => k_is); (case l33 => k_is); (case d_way => k_is); (case lc33 => k_is); (case v11_33 => rfl); (case v18_33 => rfl); (case v7_33 => rfl); (case v9_33 => rfl); (case v10_33 => rfl); (case ne33 => decide); (case nP33 => first | k_is | rfl); (case tb33 => exact PySem.W.km_tabs_of Y _ (by decide)); (case c33 => k_is)
    (case k33 => k_is); (case a34 => k_is); (case l34 => k_is); (case c34 => k_is); (case k34 => k_is); (case a35 => k_is)
    (case l35 => k_is); (case c35 => k_is); (case k35 => k_is); (case a36 => k_is); (case l36 => k_is); (case c36 => k_is)
    (case k36 => k_is); (case a37 => k_is); (case l37 => k_is); (case c37 => k_is); (case k37 => k_is); (case a38 => k_is)
    (case l38 => k_is); (case c38 => k_is); (case k38 => k_is); (case a39 => k_is); (case l39 => k_is); (case c39 => k_is)
    (case k39 => k_is); (case a40 => k_is); (case l40 => k_is); (case c40 => k_is); (case k40 => k_is); (case a41 => k_is)
    (case l41 => k_is); (case c41 => k_is); (case k41 => k_is); (case a42 => k_is); (case l42 => k_is); (case c42 => k_is)
    (case k42 => k_is); (case a43 => k_is); (case l43 => k_is); (case c43 => k_is); (case k43 => k_is); (case a44 => k_is)
    (case l44 => k_is); (case c44 => k_is); (case k44 => k_is); (case z_range => k_is); (case z_len => k_is); (case z_max => k_is)
    (case z_min => k_is); (case z_int => k_is); (case z_list => k_is); (case z_zip => k_is); (case z_sorted => k_is); (case z_set => k_is)
    (case z_enumerate => k_is); (case z_isinstance => k_is); (case z_bool => k_is); (case z_IndexError => k_is); (case v_SPAN => k_is); (case v_WRITERS => k_is)
    (case v_READERS => k_is); (case v_BEGIN => k_is); (case v_WAYS => k_is); (case lWD => k_is); (case tWD => exact ⟨⟨_, _, rfl, rfl⟩, ⟨⟨_, _, rfl, rfl⟩, ⟨⟨_, _, rfl, rfl⟩, ⟨⟨_, _, rfl, rfl⟩, ⟨⟨_, _, rfl, rfl⟩, trivial⟩⟩⟩⟩⟩); (case lRD => k_is)
    (case tRD => exact ⟨⟨_, _, rfl, rfl⟩, ⟨⟨_, _, rfl, rfl⟩, ⟨⟨_, _, rfl, rfl⟩, trivial⟩⟩⟩); (case sRD => first | rfl | decide +kernel); (case w_plain => k_is); (case w_steps => k_is); (case w_turns => k_is); (case w_runs => k_is)
    (case w_book => k_is); (case r_steps => k_is); (case r_turns => k_is); (case r_runs => k_is); (case r_plain => k_is); (case r_book => k_is)
    (case lT => k_is); (case cT_ => rfl); (case nT_ => decide +kernel); (case vT => exact .cons ⟨_, rfl⟩ (.cons ⟨_, rfl⟩ (.cons ⟨_, rfl⟩ (.cons ⟨_, rfl⟩ (.cons ⟨_, rfl⟩ .nil))))); (case lB => k_is); (case cB_ => rfl)
    (case nB_ => decide +kernel); (case vB => exact .cons ⟨_, rfl⟩ (.cons ⟨_, rfl⟩ (.cons rfl .nil))); (case kitI => first | k_is | rfl); (case kitA => first | k_is | rfl)

