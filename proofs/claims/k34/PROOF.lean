import PyProof.Rows.All
import Wide.All
import OpenK.AllK
import Wide.FinOn
import HandS.ForMost
import HandS.Conv
import HandS.Wide
import HandS.IsInst
import HandS.Defaults
import HandS.Iter
import HandS.Walk
import HandS.FStr
import HandS.IntHex
import PyProof.FString3
import PyProof.Rows.StrIntSpec
import HandS.Codes
import HandS.StrMore
import PyProof.StrLawsFrom
import HandS.Dict
import HandS.More
import HandS.SortOrd
import HandS.SortInts
import KE.KDictSum
import PyProof.TupleOfSeq
import HandS.SetFor
import HandS.Strs
import HandS.DictComp
import HandS.Comp
import HandS.List
import KE.KRevSl
import HandS.Deep
import PyProof.Rows.RuleB_pow
import PySem.Challenge.RW_timegranary_k34_plans_of_least_cost
import HandS.WordsDict
import HandS.Style
import HandS.MakeKwOnly
set_option Elab.async false
set_option linter.all false
set_option maxRecDepth 100000
namespace Tg
open PySem PySem.Spec PyProof.Rows L2

/-! ### rules of my own: a call by keywords alone; list(range(a, b, c)) -/
section
variable {X : Cx} {CX : CXT} {k : Nat} {f : Addr} {fd : FuncData} {ps ks : List Str} {sp : Sp} {E : XK} {x : Str} {p pos : Pos} {kws : List Keyword} {tk : TA}
  {g : List Value → List Value → List Value} {gV : List V → List V → List V}
def tKw0 (n : Nat) (sp : Sp) (gV : List V → List V → List V) (E : XK) (tk : TA) : TE :=
  fun σ H Q => tk σ H fun zs H2 => zs.length = n ∧ sp (gV [] zs) H2 Q E
theorem pe_kw0 (F : FnOk X.prog X.w X.K X.mg X.base CX k f fd ps sp) (room : Room k X.A) (gl : Gl X x) (at_x : X.mg x = some (.ref f)) (kept : PySem.W.keepIn X.K (.ref f) = true) (binds : KBn X.K fd ps 0 ks g gV) (lets : Passes CX X E) (vals : PK X kws tk)
    (named : (backToKw pos (keywordEach kws X.env)).all (·.1.isSome) = true := by rfl) (names : (backToKw pos (keywordEach kws X.env)).filterMap (·.1) = ks := by rfl) (nodebug : (x == ("__debug__" : Str)) = false := by decide)
    (nostar : ((backTo pos (starEach [] X.env)).any (·.1) || (backToKw pos (keywordEach kws X.env)).any (·.1.isNone)) = false := by rfl) : PE X (.Call (.Name x p) [] kws pos) (tKw0 ks.length sp gV E tk) := by
  constructor
  intro pins s σ H Q I read
  refine wpAny_Call_Name_kw (ld_glob I gl at_x (PySem.W.callWith_KW0 (h₀ := X.base) I.ok.mod.kin kept named (thn (vals.run pos pins s σ H _ I read) fun ws s2 y => ?_) nostar) nodebug)
  obtain ⟨zs, H2, J, rel, many, h⟩ := y
  rw [names]
  exact ⟨J.kIn, run_fnN (us := []) (vs := []) F room binds lets J .nil rel rfl many h⟩
end

/-- two keywords, the second parameter's first -/
def sw2 {α : Type} : List α → List α
  | [y, x] => [x, y]
  | _ => []
/-- three keywords, the parameters' from the last on -/
def sw3 {α : Type} : List α → List α
  | [z, y, x] => [x, y, z]
  | _ => []
theorem sw2_rel : ∀ {zs : List V} {ws : List Value}, Vals zs ws → Vals (sw2 zs) (sw2 ws)
  | _, _, .nil => .nil
  | _, _, .cons _ .nil => .nil
  | _, _, .cons a (.cons b .nil) => .cons b (.cons a .nil)
  | _, _, .cons _ (.cons _ (.cons _ _)) => .nil
theorem sw3_rel : ∀ {zs : List V} {ws : List Value}, Vals zs ws → Vals (sw3 zs) (sw3 ws)
  | _, _, .nil => .nil
  | _, _, .cons _ .nil => .nil
  | _, _, .cons _ (.cons _ .nil) => .nil
  | _, _, .cons a (.cons b (.cons c .nil)) => .cons c (.cons b (.cons a .nil))
  | _, _, .cons _ (.cons _ (.cons _ (.cons _ _))) => .nil

section
variable {X : Cx} {a b c : Expr} {ta : TA}
def rg3 (a c : Int) (n : Nat) : List V := (List.range n).map fun i => V.int (a + (i : Nat) * c)
theorem rg3_length (a c : Int) (n : Nat) : (rg3 a c n).length = n := by
  simp [rg3]
def R3 (a b c : Int) (n : Nat) : Prop :=
  c ≠ 0 ∧ c.natAbs.log2 < 9000 ∧ Builtin.Range.small a b c = true ∧ Builtin.Range.rangeSize a b c = n ∧ n ≤ 2 ^ 24
def tLst3 (ta : TA) : TE := fun σ H Q => ta σ H fun vs H1 => ∃ (a b c : Int) (n : Nat), vs = [.int a, .int b, .int c] ∧ R3 a b c n ∧
  ∀ q, H1 q = none → Q (.ref q) (upd H1 q (.lst (rg3 a c n)))
theorem pe_lst3 {p p2 pos pos2 : Pos} (calm : X.calm = true) (gl : Gl X "list") (nl : X.mg "list" = none) (gr : Gl X "range") (nr : X.mg "range" = none) (args : PA X [a, b, c] ta)
    (one : starEach [a, b, c] X.env = (false, eval a X.env) :: starEach [b, c] X.env := by rfl) (nostar : (backTo pos2 (starEach [b, c] X.env)).any (·.1) = false := by rfl)
    (whole : starEach [.Call (.Name "range" p2) [a, b, c] [] pos2] X.env = (false, eval (.Call (.Name "range" p2) [a, b, c] [] pos2) X.env) :: starEach [] X.env := by rfl) :
    PE X (.Call (.Name "list" p) [.Call (.Name "range" p2) [a, b, c] [] pos2] [] pos) (tLst3 ta) := by
  constructor
  intro pins s σ H Q I read
  refine Call_ (ld_blt I gl nl boot_list (PyProof.Rows.callWith_type1 (args_cons (Call_ (ld_blt I gr nr boot_range (PyProof.Rows.callWith_type1 (thn (args.run pos2 pins s σ H _ I read) fun us s1 y => ?_) one nostar))) whole) whole))
  obtain ⟨zs, H1, J, rel, i, j, k, n, e, ⟨c0, c1, c2, c3, c4⟩, h⟩ := y
  subst e
  match us, rel with
  | [_, _, _], .cons ⟨t, ei⟩ (.cons ⟨u, ej⟩ (.cons ⟨v, ek⟩ .nil)) =>
    subst ei
    subst ej
    subst ek
    refine call_range_3 c0 (args_nil ?_) (.inl (PyProof.noPylong_of_log2 c1))
    obtain ⟨hx, ehx⟩ : ∃ hx, hx = s1.heap.push { cls := .type "range", data := .fields #[.int i t, .int j u, .int k v] } := ⟨_, rfl⟩
    have J2 : Inv X pins σ H1 { s1 with heap := hx } := by
      rw [ehx]
      exact J.kept (t' := s1.toks) fun _ _ z => Heap.get?_push_of_some _ z
    rw [← ehx]
    refine call_list_range (s := { s1 with heap := hx }) (n := n) (J2.ok.hd calm) (by rw [ehx]; exact IsRange.new ..) c2 c3 c4 fun h' tk acc cc kp made items => ?_
    have len : acc.toList.length = n := Array.length_toList.trans items.1
    have vals : Vals (rg3 i k n) acc.toList := by
      have z := vals_of_get acc.toList (fun m : Nat => V.int (i + m * k)) fun m w hw => by
        obtain ⟨tw, ew⟩ := items.2 m w (by rw [← hw, Array.getElem?_toList])
        exact ⟨tw, ew⟩
      rw [len] at z
      exact z
    refine ⟨.ref hx.objs.size, upd H1 hx.objs.size (.lst (rg3 i k n)), J2.laid kp (Nat.le_refl _) (show ObjOk X.prog X.w _ _ _ (.lst (rg3 i k n)) from ⟨?_, acc.toList, cc, vals, ?_⟩), rfl, h _ (J2.hok.fresh (Nat.le_refl _))⟩
    · rw [rg3_length, sizeLine_eq]
      omega
    · rw [Array.toArray_toList]
      exact made
end

/-! ### lists of ints, compared -/
theorem dp_ints {K : PySem.W.Frag} {H : Hp} : ∀ ns : List Int, DpAll K H (ns.map V.int) (ns.map PyData.int)
  | [] => .nil
  | n :: r => .cons (.int n) (dp_ints r)
theorem lay_ints : ∀ ns : List Int, PyData.canLayAll0 (ns.map PyData.int) = true
  | [] => rfl
  | n :: r => by
    show (true && PyData.canLayAll0 (r.map PyData.int)) = true
    rw [lay_ints r]
    rfl
theorem depth_ints : ∀ ns : List Int, PyData.depthAll (ns.map PyData.int) = 0
  | [] => rfl
  | n :: r => by
    show max 0 (PyData.depthAll (r.map PyData.int)) = 0
    rw [depth_ints r]
    rfl
theorem shaped_ints (ns : List Int) : SeqAt.shaped (.list (ns.map PyData.int)) = true := by
  unfold SeqAt.shaped
  have h1 : PyData.canLay0 (.list (ns.map PyData.int)) = true := lay_ints ns
  have h2 : PyData.depth (.list (ns.map PyData.int)) = 1 := by
    show PyData.depthAll (ns.map PyData.int) + 1 = 1
    rw [depth_ints]
  rw [h1, h2]
  rfl
theorem eqv_ints : ∀ ns : List Int, PyData.eqvAll (ns.map PyData.int) (ns.map PyData.int) = true
  | [] => rfl
  | n :: r => by
    show ((n == n) && PyData.eqvAll (r.map PyData.int) (r.map PyData.int)) = true
    rw [eqv_ints r, beq_self_eq_true]
    rfl
theorem dp_lst {K : PySem.W.Frag} {H : Hp} {a : Addr} {ns : List Int} (h : SqL K H a (ns.map V.int)) : Dp K H (.ref a) (.list (ns.map PyData.int)) := .lst h (dp_ints ns)
end Tg

namespace Tg
open PySem PySem.Spec PyProof.Rows L2
/-! ### defs, methods and classes as a caller needs them -/
section
variable (P : Program) (w : World) (K : PySem.W.Frag) (mg : Str → Option Value) (base : Heap)
/-- the def x is there, and keeps sp by level k -/
def Cal (k : Nat) (x : Str) (ps : List Str) (sp : Sp) : Prop := ∃ f fd, FnOk P w K mg base CX0 k f fd ps sp ∧ mg x = some (.ref f) ∧ PySem.W.keepIn K (.ref f) = true ∧ Binds K fd ps []
/-- the places that is tells, out of a list -/
def prm {α : Type} (is : List Nat) (zs : List α) : List α := is.filterMap fun i => zs[i]?
/-- the same with keywords alone, ks in this order; is: the places of the parameters among them -/
def CalK (k : Nat) (x : Str) (ps ks : List Str) (is : List Nat) (sp : Sp) : Prop := ∃ f fd, FnOk P w K mg base CX0 k f fd ps sp ∧ mg x = some (.ref f) ∧ PySem.W.keepIn K (.ref f) = true ∧ KBn K fd ps 0 ks (fun _ ws => prm is ws) (fun _ zs => prm is zs)
/-- a method of the class C -/
def CalM (k : Nat) (C : Addr) (m : Str) (ps : List Str) (sp : Sp) : Prop := ∃ f fd, FnOk P w K mg base CX0 k f fd ps sp ∧ Meth K C m f ∧ Binds K fd ps []
def CalMK (k : Nat) (C : Addr) (m : Str) (ps ks : List Str) (is : List Nat) (sp : Sp) : Prop := ∃ f fd, FnOk P w K mg base CX0 k f fd ps sp ∧ Meth K C m f ∧ KBn K fd ps 1 ks (fun us ws => us ++ prm is ws) (fun vs zs => vs ++ prm is zs)
/-- a class, by its __init__ -/
def CalC (k : Nat) (x : Str) (C : Addr) (ps : List Str) (sp : Sp) : Prop := ∃ f fd, FnOk P w K mg base CX0 k f fd ps sp ∧ mg x = some (.ref C) ∧ Mk K C f ∧ Binds K fd ps []
end
theorem vals_at : ∀ {zs : List V} {ws : List Value}, Vals zs ws → ∀ i : Nat, (zs[i]? = none ∧ ws[i]? = none) ∨ ∃ z w, zs[i]? = some z ∧ ws[i]? = some w ∧ RelV z w
  | _, _, .nil, i => .inl ⟨by simp, by simp⟩
  | _, _, .cons a b, i => by
    cases i with
    | zero => exact .inr ⟨_, _, rfl, rfl, a⟩
    | succ i => exact vals_at b i
theorem prm_rel {zs : List V} {ws : List Value} (h : Vals zs ws) : ∀ is : List Nat, Vals (prm is zs) (prm is ws)
  | [] => .nil
  | i :: r => by
    have ih := prm_rel h r
    unfold prm at ih ⊢
    rcases vals_at h i with ⟨h1, h2⟩ | ⟨z, w, h1, h2, h3⟩
    · rw [List.filterMap_cons_none h1, List.filterMap_cons_none h2]
      exact ih
    · rw [List.filterMap_cons_some h1, List.filterMap_cons_some h2]
      exact .cons h3 ih
section
variable {X : Cx} {k : Nat} {ps ks : List Str} {is : List Nat} {sp : Sp} {x m : Str} {C : Addr} {o e : Expr} {es : List Expr} {p pos apos : Pos} {kws : List Keyword} {ta t tk : TA} {to : TE}
theorem pe_cal (c : Cal X.prog X.w X.K X.mg X.base k x ps sp) (hr : Room k X.A) (gl : Gl X x) (ha : PA X (e :: es) t) (hdb : (x == ("__debug__" : Str)) = false := by decide)
    (he : starEach (e :: es) X.env = (false, eval e X.env) :: starEach es X.env := by rfl) (hpl : (backTo pos (starEach es X.env)).any (·.1) = false := by rfl) : PE X (.Call (.Name x p) (e :: es) [] pos) (tCall sp [] E0 t) := by
  obtain ⟨f, fd, F, hm, hk, hb⟩ := c
  exact pe_call F hr gl hm hk hb .nil pass0 ha hdb he hpl
theorem pe_calK (c : CalK X.prog X.w X.K X.mg X.base k x ps ks is sp) (hr : Room k X.A) (gl : Gl X x) (vals : PK X kws tk)
    (named : (backToKw pos (keywordEach kws X.env)).all (·.1.isSome) = true := by rfl) (names : (backToKw pos (keywordEach kws X.env)).filterMap (·.1) = ks := by rfl) (nodebug : (x == ("__debug__" : Str)) = false := by decide)
    (nostar : ((backTo pos (starEach [] X.env)).any (·.1) || (backToKw pos (keywordEach kws X.env)).any (·.1.isNone)) = false := by rfl) :
    PE X (.Call (.Name x p) [] kws pos) (tKw0 ks.length sp (fun _ zs => prm is zs) E0 tk) := by
  obtain ⟨f, fd, F, hm, hk, hb⟩ := c
  exact pe_kw0 F hr gl hm hk hb pass0 vals named names nodebug nostar
theorem pe_calM {pl : Sem Bool} (he : PE X o to) (cl : Cls X.K C) (c : CalM X.prog X.w X.K X.mg X.base k C m ps sp) (hr : Room k X.A) (ha : PA X (e :: es) t)
    (hst : starEach (e :: es) X.env = (false, eval e X.env) :: starEach es X.env := by rfl) (hpl : (backTo pos (starEach es X.env)).any (·.1) = false := by rfl) (ht : eval (.Call (.Attribute o m apos) (e :: es) [] pos) X.env = (do let ov ← eval o X.env; standAt apos.atName; let (f, first) ← holding [ov] (getMethod ov m pl); callWith pos f first (backTo pos (starEach (e :: es) X.env)) (backToKw pos (keywordEach [] X.env))) := by rfl) :
    PE X (.Call (.Attribute o m apos) (e :: es) [] pos) (tMeth C m sp [] E0 to t) := by
  obtain ⟨f, fd, F, hm, hb⟩ := c
  exact pe_meth (pl := pl) he cl hm F hr hb .nil pass0 ha hst hpl ht
theorem pe_calM0 {pl : Sem Bool} (he : PE X o to) (cl : Cls X.K C) (c : CalM X.prog X.w X.K X.mg X.base k C m ps sp) (hr : Room k X.A)
    (ht : eval (.Call (.Attribute o m apos) [] [] pos) X.env = (do let ov ← eval o X.env; standAt apos.atName; let (f, first) ← holding [ov] (getMethod ov m pl); callWith pos f first (backTo pos (starEach [] X.env)) (backToKw pos (keywordEach [] X.env))) := by rfl) :
    PE X (.Call (.Attribute o m apos) [] [] pos) (tMeth C m sp [] E0 to tNil) := by
  obtain ⟨f, fd, F, hm, hb⟩ := c
  exact pe_meth0 (pl := pl) he cl hm F hr hb .nil pass0 ht
/-- o.m(k = v, ..) -/
def tMethK (C : Addr) (m : Str) (n : Nat) (sp : Sp) (is : List Nat) (E : XK) (to : TE) (tk : TA) : TE := fun σ H Q => to σ H fun x H1 => ∃ a dx fs, x = .ref a ∧ H1 a = some (.ins C dx fs) ∧ fs.lookup m = none ∧ tk σ H1 fun zs H2 => zs.length = n ∧ sp (x :: prm is zs) H2 Q E
theorem pe_calMK {pl : Sem Bool} (he : PE X o to) (cl : Cls X.K C) (c : CalMK X.prog X.w X.K X.mg X.base k C m ps ks is sp) (hr : Room k X.A) (vals : PK X kws tk)
    (named : (backToKw pos (keywordEach kws X.env)).all (·.1.isSome) = true := by rfl) (names : (backToKw pos (keywordEach kws X.env)).filterMap (·.1) = ks := by rfl)
    (nostar : ((backTo pos (starEach [] X.env)).any (·.1) || (backToKw pos (keywordEach kws X.env)).any (·.1.isNone)) = false := by rfl)
    (ht : eval (.Call (.Attribute o m apos) [] kws pos) X.env = (do let ov ← eval o X.env; standAt apos.atName; let (f, first) ← holding [ov] (getMethod ov m pl); callWith pos f first (backTo pos (starEach [] X.env)) (backToKw pos (keywordEach kws X.env))) := by rfl) :
    PE X (.Call (.Attribute o m apos) [] kws pos) (tMethK C m ks.length sp is E0 to tk) := by
  obtain ⟨f, fd, F, hm, hb⟩ := c
  constructor
  intro pins s σ H Q I read
  refine PySem.W.methodCall_KW (pl := pl) (thn (he.run pins s σ H _ I read) fun u s1 ⟨x, H1, I1, rx, a, dx, fs, ex, ea, l, q⟩ => ?_) ht
  subst ex
  obtain rfl : u = .ref a := rx
  refine getmeth_ok I1 ea cl hm l ?_
  refine PySem.W.callWith_KW0 (first := [.ref a]) (h₀ := X.base) I.ok.mod.kin hm.kp named (thn (vals.run pos pins s1 σ H1 _ I1 q) fun ws s2 y => ?_) nostar
  obtain ⟨zs, H2, J, rel, many, h⟩ := y
  rw [names]
  exact ⟨J.kIn, run_fnN (E := E0) (us := [.ref a]) (vs := [.ref a]) F hr hb pass0 J (.cons rfl .nil) rel rfl many h⟩
theorem pe_calC0 (c : CalC X.prog X.w X.K X.mg X.base k x C ps sp) (hr : Room (k + 1) X.A) (gl : Gl X x) (hdb : (x == ("__debug__" : Str)) = false := by decide) : PE X (.Call (.Name x p) [] [] pos) (tMake C sp [] E0 tNil) := by
  obtain ⟨f, fd, F, hm, M, hb⟩ := c
  exact pe_make0 M F hr gl hm hb .nil pass0 hdb
theorem pe_calC (c : CalC X.prog X.w X.K X.mg X.base k x C ps sp) (hr : Room (k + 1) X.A) (gl : Gl X x) (ha : PA X (e :: es) t) (hdb : (x == ("__debug__" : Str)) = false := by decide)
    (he : starEach (e :: es) X.env = (false, eval e X.env) :: starEach es X.env := by rfl) (hpl : (backTo pos (starEach es X.env)).any (·.1) = false := by rfl) : PE X (.Call (.Name x p) (e :: es) [] pos) (tMake C sp [] E0 t) := by
  obtain ⟨f, fd, F, hm, M, hb⟩ := c
  exact pe_make M F hr gl hm hb .nil pass0 ha hdb he hpl
end
end Tg

namespace Tg
open PySem PySem.Spec PyProof.Rows L2
/-! ### the heap: what stands -/
/-- all but p stands as it stood -/
def Kp (p : Addr) (H H' : Hp) : Prop := ∀ b o, b ≠ p → H b = some o → H' b = some o
theorem Kp.refl (p : Addr) (H : Hp) : Kp p H H := fun _ _ _ h => h
theorem Kp.trans {p : Addr} {H H1 H2 : Hp} (a : Kp p H H1) (b : Kp p H1 H2) : Kp p H H2 := fun c o hc h => b c o hc (a c o hc h)
theorem Kp.of {p : Addr} {H H' : Hp} (s : Same H H') : Kp p H H' := fun c o _ h => s c o h
theorem Kp.put {p : Addr} {H : Hp} {o : HO} : Kp p H (upd H p o) := fun c u hc h => by
  rw [upd_ne hc]
  exact h
/-- what is new stays apart -/
theorem Kp.same {p : Addr} {H H1 H2 : Hp} (s : Same H H1) (n : H p = none) (k : Kp p H1 H2) : Same H H2 := fun b o h => k b o (ne_of_none h n) (s b o h)
theorem same_new {H : Hp} {p : Addr} {o : HO} (h : H p = none) : Same H (upd H p o) := fun b x e => by
  rw [upd_ne (ne_of_none e h)]
  exact e
theorem same_put {H H' : Hp} {D : Addr} {o : HO} (n : H D = none) (s : Same H H') : Same H (upd H' D o) := fun b x e => by
  rw [upd_ne (ne_of_none e n)]
  exact s _ _ e
/-- what can't be changed: tuples, and what is locked -/
def Fix : HO → Prop
  | .tup _ => True
  | .frz _ _ => True
  | _ => False
/-- all that can't be changed stands -/
def KT (H H' : Hp) : Prop := ∀ a o, Fix o → H a = some o → H' a = some o
theorem KT.refl (H : Hp) : KT H H := fun _ _ _ h => h
theorem KT.trans {H H1 H2 : Hp} (a : KT H H1) (b : KT H1 H2) : KT H H2 := fun c o f h => b c o f (a c o f h)
theorem KT.of {H H' : Hp} (s : Same H H') : KT H H' := fun c o _ h => s c o h
theorem KT.kp {p : Addr} {H H' : Hp} {o : HO} (k : Kp p H H') (h : H p = some o) (n : ¬ Fix o) : KT H H' := fun a u f e => k a u (fun z => n (by
  rw [z, h] at e
  cases e
  exact f)) e
theorem KT.put {p : Addr} {H : Hp} {o u : HO} (h : H p = some o) (n : ¬ Fix o) : KT H (upd H p u) := KT.kp Kp.put h n
theorem KT.new {p : Addr} {H : Hp} {u : HO} (h : H p = none) : KT H (upd H p u) := KT.of (same_new h)
theorem nfix_lst {xs : List V} : ¬ Fix (.lst xs) := fun z => z
theorem nfix_dK {xs : List (Key × V)} : ¬ Fix (.dK xs) := fun z => z
theorem nfix_ins {C dx : Addr} {fs : List (Str × V)} : ¬ Fix (.ins C dx fs) := fun z => z
/-! ### data -/
theorem rd_same {H H' : Hp} {a : Addr} {o : HO} (s : Same H H') (h : Rd H a o) : Rd H' a o := by
  rcases h with h | ⟨ob, h⟩
  · exact .inl (s _ _ h)
  · exact .inr ⟨ob, s _ _ h⟩
theorem sqL_same {K : PySem.W.Frag} {H H' : Hp} {a : Addr} {xs : List V} (s : Same H H') (h : SqL K H a xs) : SqL K H' a xs := h.imp (rd_same s) id
theorem sqT_same {K : PySem.W.Frag} {H H' : Hp} {a : Addr} {xs : List V} (s : Same H H') (h : SqT K H a xs) : SqT K H' a xs := h.imp (rd_same s) id
theorem sqT_kt {K : PySem.W.Frag} {H H' : Hp} {a : Addr} {xs : List V} (s : KT H H') (h : SqT K H a xs) : SqT K H' a xs := by
  refine h.imp (fun h => ?_) id
  rcases h with h | ⟨ob, h⟩
  · exact .inl (s _ _ trivial h)
  · exact .inr ⟨ob, s _ _ trivial h⟩
mutual
theorem dp_same {K : PySem.W.Frag} {H H' : Hp} (s : Same H H') : ∀ {x : V} {d : PyData}, Dp K H x d → Dp K H' x d
  | _, _, .non => .non
  | _, _, .bl b => .bl b
  | _, _, .int i => .int i
  | _, _, .str z => .str z
  | _, _, .lst a b => .lst (sqL_same s a) (dpAll_same s b)
  | _, _, .tup a b => .tup (sqT_same s a) (dpAll_same s b)
theorem dpAll_same {K : PySem.W.Frag} {H H' : Hp} (s : Same H H') : ∀ {xs : List V} {ds : List PyData}, DpAll K H xs ds → DpAll K H' xs ds
  | _, _, .nil => .nil
  | _, _, .cons a b => .cons (dp_same s a) (dpAll_same s b)
end
/-- no list and no dict in it -/
inductive TD : PyData → Prop
  | non : TD .none
  | bl (b : Bool) : TD (.bool b)
  | int (i : Int) : TD (.int i)
  | str (z : Str) : TD (.str z)
  | tup {ds : List PyData} : (∀ d, d ∈ ds → TD d) → TD (.tuple ds)
mutual
theorem dp_kt {K : PySem.W.Frag} {H H' : Hp} (s : KT H H') : ∀ {x : V} {d : PyData}, Dp K H x d → TD d → Dp K H' x d
  | _, _, .non, _ => .non
  | _, _, .bl b, _ => .bl b
  | _, _, .int i, _ => .int i
  | _, _, .str z, _ => .str z
  | _, _, .lst _ _, t => nomatch t
  | _, _, .tup a b, .tup t => .tup (sqT_kt s a) (dpAll_kt s b t)
theorem dpAll_kt {K : PySem.W.Frag} {H H' : Hp} (s : KT H H') : ∀ {xs : List V} {ds : List PyData}, DpAll K H xs ds → (∀ d, d ∈ ds → TD d) → DpAll K H' xs ds
  | _, _, .nil, _ => .nil
  | _, _, .cons a b, t => .cons (dp_kt s a (t _ List.mem_cons_self)) (dpAll_kt s b fun d hd => t d (List.mem_cons_of_mem _ hd))
end
theorem dpAll_len {K : PySem.W.Frag} {H : Hp} : ∀ {xs : List V} {ds : List PyData}, DpAll K H xs ds → xs.length = ds.length
  | _, _, .nil => rfl
  | _, _, .cons _ b => congrArg Nat.succ (dpAll_len b)
theorem dpAll_at {K : PySem.W.Frag} {H : Hp} : ∀ {xs : List V} {ds : List PyData}, DpAll K H xs ds → ∀ (i : Nat) (x : V), xs[i]? = some x → ∃ d, ds[i]? = some d ∧ Dp K H x d
  | _, _, .nil => fun i x h => by simp at h
  | _, _, .cons a b => fun i x h => by
    cases i with
    | zero =>
      simp only [Option.some.injEq, List.getElem?_cons_zero] at h
      subst h
      exact ⟨_, rfl, a⟩
    | succ i =>
      rw [List.getElem?_cons_succ] at h ⊢
      exact dpAll_at b i x h
theorem dpAll_tk {K : PySem.W.Frag} {H : Hp} : ∀ {xs : List V} {ds : List PyData}, DpAll K H xs ds → ∀ (i : Nat) (d : PyData), ds[i]? = some d → ∃ x, xs[i]? = some x ∧ Dp K H x d
  | _, _, .nil => fun i x h => by simp at h
  | _, _, .cons a b => fun i x h => by
    cases i with
    | zero =>
      simp only [Option.some.injEq, List.getElem?_cons_zero] at h
      subst h
      exact ⟨_, rfl, a⟩
    | succ i =>
      rw [List.getElem?_cons_succ] at h ⊢
      exact dpAll_tk b i x h
theorem dpAll_app {K : PySem.W.Frag} {H : Hp} : ∀ {xs ys : List V} {ds es : List PyData}, DpAll K H xs ds → DpAll K H ys es → DpAll K H (xs ++ ys) (ds ++ es)
  | _, _, _, _, .nil, h => h
  | _, _, _, _, .cons a b, h => .cons a (dpAll_app b h)
theorem dpAll_snoc {K : PySem.W.Frag} {H : Hp} {xs : List V} {ds : List PyData} {y : V} {e : PyData} (h : DpAll K H xs ds) (a : Dp K H y e) : DpAll K H (xs ++ [y]) (ds ++ [e]) := dpAll_app h (.cons a .nil)
/-- a list of data that can't be changed itself -/
def LD (K : PySem.W.Frag) (H : Hp) (a : Addr) (ds : List PyData) : Prop := ∃ xs, H a = some (.lst xs) ∧ DpAll K H xs ds
theorem LD.dp {K : PySem.W.Frag} {H : Hp} {a : Addr} {ds : List PyData} (h : LD K H a ds) : Dp K H (.ref a) (.list ds) := by
  obtain ⟨xs, h1, h2⟩ := h
  exact .lst (SqL.of h1) h2
theorem LD.same {K : PySem.W.Frag} {H H' : Hp} {a : Addr} {ds : List PyData} (s : Same H H') (h : LD K H a ds) : LD K H' a ds := by
  obtain ⟨xs, h1, h2⟩ := h
  exact ⟨xs, s _ _ h1, dpAll_same s h2⟩
/-- where the list itself stands and all tuples do -/
theorem LD.kt {K : PySem.W.Frag} {H H' : Hp} {a : Addr} {ds : List PyData} (s : KT H H') (e : ∀ o, H a = some o → H' a = some o) (t : ∀ d, d ∈ ds → TD d) (h : LD K H a ds) : LD K H' a ds := by
  obtain ⟨xs, h1, h2⟩ := h
  exact ⟨xs, e _ h1, dpAll_kt s h2 t⟩
theorem LD.kp {K : PySem.W.Frag} {H H' : Hp} {a p : Addr} {o : HO} {ds : List PyData} (k : Kp p H H') (hp : H p = some o) (n : ¬ Fix o) (ne : a ≠ p) (t : ∀ d, d ∈ ds → TD d) (h : LD K H a ds) : LD K H' a ds :=
  h.kt (KT.kp k hp n) (fun u e => k _ _ ne e) t
/-- one more at the end -/
theorem LD.snoc {K : PySem.W.Frag} {H H1 : Hp} {a : Addr} {xs : List V} {ds : List PyData} {y : V} {e : PyData} (k : KT H H1) (h1 : H1 a = some (.lst xs)) (hd : DpAll K H xs ds) (t : ∀ d, d ∈ ds → TD d) (hy : Dp K H1 y e) (te : TD e) :
    LD K (upd H1 a (.lst (xs ++ [y]))) a (ds ++ [e]) :=
  ⟨_, upd_same, dpAll_snoc (dpAll_kt (k.trans (KT.put h1 nfix_lst)) hd t) (dp_kt (KT.put h1 nfix_lst) hy te)⟩
theorem shaped_of {d : PyData} (h1 : d.canLay0 = true) (h2 : d.depth ≤ 64) : SeqAt.shaped d = true := by
  unfold SeqAt.shaped
  rw [h1, decide_eq_true h2]
  rfl
theorem if_f {A B : Prop} (h : B) : if false = true then A else B := by
  rw [if_neg (by decide)]
  exact h
theorem if_t {A B : Prop} (h : A) : if true = true then A else B := by
  rw [if_pos rfl]
  exact h
theorem atI_mem {xs : List Int} {i : Int} (h0 : 0 ≤ i) (h1 : i < xs.length) : ∃ v, v ∈ xs ∧ atI (xs.map V.int) i = some (.int v) := by
  have hn : i.toNat < xs.length := by omega
  obtain ⟨j, rfl⟩ : ∃ j : Nat, i = (j : Int) := ⟨i.toNat, by omega⟩
  have hj : j < xs.length := by omega
  refine ⟨xs[j], List.getElem_mem hj, atI_nat ?_⟩
  rw [List.getElem?_map, List.getElem?_eq_getElem hj]
  rfl
end Tg

namespace Tg
open PySem PySem.Spec PyProof.Rows L2
/-! ### a new thing that is only read from now on -/
section
variable {X : Cx} {e : Expr} {t : TE}
def tFrz (t : TE) : TE := fun σ H Q => t σ H fun x H1 => ∃ d u, x = .ref d ∧ H1 d = some u ∧ Mut (some u) ∧ ∀ od, Q x (upd H1 d (.frz od u))
theorem pe_frz (h : PE X e t) : PE X e (tFrz t) := by
  constructor
  intro pins s σ H Q I read
  refine thn (h.run pins s σ H _ I read) fun v s1 y => ?_
  obtain ⟨x, H1, J, r, d, u, ex, hd, mu, q⟩ := y
  obtain ⟨od, J2⟩ := J.lock hd mu
  exact ⟨x, _, J2, r, q od⟩
/-- a statement that is never reached -/
theorem ps_dead {st : Stmt} : PS X st (fun _ _ _ => False) := ⟨fun _ _ _ _ _ _ h => h.elim⟩
end
end Tg

/-! f'{n:b}' and int(text, 2) -/
namespace Tg
open PySem PySem.Spec PyProof.Rows L2
/-- the signs of a number by twos -/
def binC (n : Nat) : List Nat := (Nat.toDigits 2 n).map Char.toNat
def fB : Builtin.Float.FormatSpec := { fill := 32, align := 62, type := some 98 }
theorem parse_b : Builtin.Float.parseFormatSpec (Str.ofString "b").cps.toList "int" 62 = .ok fB := by with_unfolding_all rfl
theorem ret_to {M : Model} {A : Around} {txt T : Str} {Q : PySem.Fin → Shared → Prop} {E : Value → Shared → Prop} {s : Shared} (e : txt = T) (h : wpAny M A (retStr T) Q E s) : wpAny M A (retStr txt) Q E s := by
  rw [e]
  exact h
section
variable {prog : Program} {w : World} {A : Around} {E : Value → Shared → Prop} {s : Shared}
theorem field_b {a : Int} {t : Tok} {Q : Value → Shared → Prop} (a0 : 0 ≤ a) (fits : (binC a.natAbs).length ≤ sizeLine) (h : ∀ (u k : Nat), Q (.str ⟨(binC a.natAbs).toArray⟩ u) { s with toks := k }) : wpAny (model prog w) A (formatField (.int a t) "b") Q E s := by
  show wpAny _ _ (holding [.int a t] (pyFormat (.int a t) "b")) Q E s
  refine wpAny_holding ?_
  unfold pyFormat
  refine wpAny_bind (wpAny_mkStr ?_ (by decide +kernel))
  refine wpAny_bind (m := callSpecial? (.int a t) (Str.ofString "__format__") [.str "b" s.toks]) (wpAny_callSpecial?_slot (name := Str.ofString "__format__") (typeIs_int _ a t) PySem.F.slot_int_format ?_)
  refine wpAny_call (codeAny_call_builtin PySem.F.slot_int_format.plain PySem.F.entry_int_format (PySem.F.slot_int_format.check _ _ _ _ _ _ _ _ (typeIs_int _ a t) (PySem.F.args_int_format_2 _ _) ?_))
  have e1 : ((Str.ofString "b").length == 0) = false := by decide +kernel
  have e2 : (((Str.ofString "b").cps.toList.drop 1).any (· ≥ 128) || ((Str.ofString "b").cps.getD 0 0 ≥ 128 && !([60, 62, 61, 94] : List Nat).contains ((Str.ofString "b").cps.getD 1 0))) = false := by decide +kernel
  simp only [Builtin.«int.__format__», selfAndOne, noKeywords, Builtin.Int.intOfSelf, asInt?, asStr?, List.isEmpty_nil, if_true, pure_bind, bind_pure, bind_assoc, e1, e2, Bool.false_eq_true, if_false, show (Value.str (Str.ofString "b") s.toks == Value.none) = false from rfl]
  refine wpAny_bind (wpAny_typeNameOf (T := "str") (typeIs_str _ _ _) (by decide) fun _ => wpAny_bind (wpAny_typeNameOfCut_int ?_))
  simp only [parse_b]
  have t98 : fB.type.getD (if ((Str.ofString "b").cps.back? == some 0) = true then 0 else 100) = 98 := rfl
  simp only [t98]
  rw [if_pos (by decide)]
  have neg : decide (a < 0) = false := decide_eq_false (by omega)
  refine ret_to (T := ⟨(binC a.natAbs).toArray⟩) ?_ ?_
  · rw [neg]
    obtain ⟨ds, eds⟩ : ∃ ds, (Nat.toDigits 2 a.natAbs).map (fun c => (if ((98 : Nat) == 88) = true then c.toUpper else c).toNat) = ds := ⟨_, rfl⟩
    have eb : binC a.natAbs = ds := eds
    rw [eb]
    show PyProof.Rows.intField' fB false [] _ [] 4 = _
    rw [eds]
    unfold PyProof.Rows.intField' fB
    cases ds with
    | nil => rfl
    | cons d r =>
      have p0 : ((-1 : Int) - 0 - ((d :: r).length : Nat)).toNat = 0 := by omega
      simp [p0]
      omega
  · unfold retStr
    refine wpAny_bind (wpAny_mkStr (wpAny_pure ?_) ?_)
    · exact wpAny_bind (wpAny_isInstance (T := "str") (typeIs_str _ _ _) isSubtype_str_str (wpAny_pure (h _ _)))
    · exact fits
end
section
variable {X : Cx}
/-- {n:b} -/
def tFmtB (te : TE) : TE := fun σ H Q => te σ H fun x H1 => ∃ n : Nat, x = .int (n : Nat) ∧ (binC n).length ≤ sizeLine ∧ Q (.str (SX.S (binC n))) H1
theorem pe_fmtB {e spec : Expr} {te : TE} {pos : Pos} (he : PE X e te) (hs : PE X spec (tC (.str "b"))) : PE X (.FormattedValue e (-1) (some spec) pos) (tFmtB te) := by
  refine ⟨fun pins s σ H Q I h => ?_⟩
  refine wpAny_FormattedValue_spec (thn (he.run pins s σ H _ I h) fun v s1 ⟨x, H1, I1, r1, n, ex, fits, q⟩ => ?_)
  subst ex
  obtain ⟨t, rfl⟩ := r1
  refine thn (hs.run pins s1 σ H1 (fun y H2 => y = .str "b" ∧ H2 = H1) I1 ⟨rfl, rfl⟩) fun r s2 ⟨y, H2, I2, r2, ey, eH⟩ => ?_
  subst ey eH
  obtain ⟨u, rfl⟩ := r2
  refine ⟨_, u, rfl, field_b (by omega) (by rw [Int.natAbs_natCast]; exact fits) fun u k => ⟨.str (SX.S (binC n)), H2, I2.tok k, ⟨u, by rw [Int.natAbs_natCast]⟩, q⟩⟩
end
/-! ### int(text, 2) -/
def IsBin (c : Nat) : Prop := c = 48 ∨ c = 49
theorem IsBin.hex {c : Nat} (h : IsBin c) : Hx.IsHex c := .inl (by unfold IsBin at h; omega)
def binNum (l : List Nat) : Nat := l.foldl (fun a c => a * 2 + (c - 48)) 0
theorem bin_step {ds : Array Nat} {b : Bool} {c : Nat} (h : IsBin c) : PySem.NumText.step 2 (ds, b) c = some (ds.push (c - 48), true) := by
  have e : PySem.NumText.digit? c = some (c - 48) := by
    rw [Hx.digit_hex h.hex]
    unfold Hx.hv
    rw [if_pos (by unfold IsBin at h; omega)]
  have n95 : ¬ (c == 95) = true := by
    rw [beq_iff_eq]
    unfold IsBin at h
    omega
  unfold PySem.NumText.step
  rw [if_neg n95, e]
  exact if_pos (by unfold IsBin at h; omega)
theorem bin_fold : ∀ (cs : List Nat) (ds : Array Nat), (∀ c ∈ cs, IsBin c) → cs.foldlM (PySem.NumText.step 2) (ds, true) = some (cs.foldl (fun acc c => acc.push (c - 48)) ds, true)
  | [], _, _ => rfl
  | c :: cs, ds, h => by
    rw [List.foldlM_cons, bin_step (h c List.mem_cons_self)]
    exact bin_fold cs (ds.push (c - 48)) fun d hd => h d (List.mem_cons_of_mem _ hd)
theorem bin_digits {c : Nat} {cs : List Nat} (h : ∀ d ∈ c :: cs, IsBin d) : PySem.NumText.digits? 2 (c :: cs) = some ((c :: cs).foldl (fun acc c => acc.push (c - 48)) #[]) := by
  have z := bin_fold cs ((#[] : Array Nat).push (c - 48)) fun d hd => h d (List.mem_cons_of_mem _ hd)
  unfold PySem.NumText.digits?
  rw [List.foldlM_cons, bin_step (h c List.mem_cons_self)]
  show (cs.foldlM (PySem.NumText.step 2) ((#[] : Array Nat).push (c - 48), true)).bind _ = _
  rw [z]
  rfl
theorem bin_value : ∀ (cs : List Nat) (ds : Array Nat), (cs.foldl (fun acc c => acc.push (c - 48)) ds).foldl (fun acc d => acc * 2 + d) 0 = cs.foldl (fun a c => a * 2 + (c - 48)) (ds.foldl (fun acc d => acc * 2 + d) 0)
  | [], _ => rfl
  | c :: cs, ds => by
    rw [List.foldl_cons, bin_value cs (ds.push (c - 48)), List.foldl_cons, Array.foldl_push]
theorem bin_pref {cs : List Nat} (h : ∀ c ∈ cs, IsBin c) : PySem.NumText.prefix? cs = none := by
  match cs, h with
  | [], _ => rfl
  | [a], _ =>
    unfold PySem.NumText.prefix?
    split
    · rename_i e
      cases e
    · rfl
  | a :: c :: r, h =>
    have hc := h c (List.mem_cons_of_mem _ List.mem_cons_self)
    unfold IsBin at hc
    by_cases ha : a = 48
    · subst ha
      have n : ∀ k : Nat, 60 ≤ k → ¬ (c == k) = true := fun k hk z => by
        have := beq_iff_eq.mp z
        omega
      show (if (c == 120 || c == 88) = true then some 16 else if (c == 111 || c == 79) = true then some 8 else if (c == 98 || c == 66) = true then some 2 else none) = none
      have o : ∀ k l : Nat, 60 ≤ k → 60 ≤ l → ¬ (c == k || c == l) = true := fun k l hk hl z => (Bool.or_eq_true _ _ ▸ z).elim (n k hk) (n l hl)
      rw [if_neg (o _ _ (by decide) (by decide)), if_neg (o _ _ (by decide) (by decide)), if_neg (o _ _ (by decide) (by decide))]
    · unfold PySem.NumText.prefix?
      split
      · rename_i e
        exact (ha (List.cons.inj e).1).elim
      · rfl
theorem bin_based {cs : List Nat} (h : ∀ c ∈ cs, IsBin c) : PySem.NumText.based 2 cs = (2, false, cs) := by
  unfold PySem.NumText.based
  rw [bin_pref h]
  rfl
open PySem.NumText PySem.Calls in
theorem bin_read {cs : List Nat} (h : ∀ c ∈ cs, IsBin c) (ne : cs ≠ []) : (int_private% "readNumeral") 0 2 cs = (int_private% "Numeral.value") ((binNum cs : Nat) : Int) := by
  have hx : ∀ c ∈ cs, Hx.IsHex c := fun c hc => (h c hc).hex
  have hr : ∀ c ∈ cs.reverse, Hx.IsHex c := fun c hc => hx c (List.mem_reverse.mp hc)
  obtain ⟨c, r, rfl⟩ := List.exists_cons_of_ne_nil ne
  have dg := bin_digits h
  have vl := bin_value (c :: r) #[]
  refine (readNumeral_eq 0 2 (c :: r)).trans ?_
  rw [Hx.dropB hx, Hx.signH hx]
  show judge 0 false (based 2 (c :: r)).1 (based 2 (c :: r)).2.1 (digits? (based 2 (c :: r)).1 (((based 2 (c :: r)).2.2.reverse.dropWhile blank).reverse)) = _
  rw [bin_based h]
  show judge 0 false 2 false (digits? 2 (((c :: r).reverse.dropWhile blank).reverse)) = _
  rw [Hx.dropB hr, List.reverse_reverse, dg]
  show (int_private% "Numeral.value") ((((c :: r).foldl (fun acc c => acc.push (c - 48)) (#[] : Array Nat)).foldl (fun acc d => acc * 2 + d) 0 : Nat) : Int) = _
  rw [vl]
  rfl
set_option maxHeartbeats 4000000 in
open PySem.NumText PySem.Calls in
theorem gives_bin {x : Str} {u t : Tok} (hl : x.length ≤ 640) (h : ∀ c ∈ x.cps.toList, IsBin c) (ne : x.cps.toList ≠ []) : Gives (Builtin.«int.__new__» ⟨[.type "int", .str x u, .int 2 t], []⟩) (.int ((binNum x.cps.toList : Nat) : Int)) :=
  .of_wp fun M A E s Q hQ => by
    obtain ⟨heap, gens, drawn, toks, out⟩ := s
    have f1 := PySem.F.conv_sub_int
    have f2 := PySem.F.madeHere_int
    have strT : typeOf (.str x u) = pure (.type "str") := rfl
    obtain ⟨same1, same2⟩ := Hx.seen_hex fun c hc => (h c hc).hex
    have few : (numSeenOf x).length ≤ 640 := by
      rw [same2, Array.length_toList]
      exact hl
    have told : (int_private% "readNumeral") 0 2 (numSeenOf x) = (int_private% "Numeral.value") ((binNum x.cps.toList : Nat) : Int) := by
      rw [same2]
      exact bin_read h ne
    have whole : ((numSeenOf x).length == (numTextOf x).length) = true := by
      rw [same1, same2]
      exact beq_self_eq_true _
    have hk := Hx.Hid.mk (And.intro few (And.intro told whole))
    clear few told whole same1 same2 hl ne h
    repeat (any_goals (first
      | assumption
      | ((with_reducible show wpAny _ _ ((int_private% "intFromText") _ _ _) _ _ _); refine Hx.wp_textB hk.out.1 hk.out.2.1 hk.out.2.2 ?_)
      | wp_step))
    all_goals (try exact ⟨_, rfl, hQ⟩)
def rIntBin : List V → Hp → VK → Prop := fun xs H Q => ∃ l : List Nat, xs = [.str (SX.S l), .int 2] ∧ l ≠ [] ∧ l.length ≤ 640 ∧ (∀ c ∈ l, IsBin c) ∧ Q (.int ((binNum l : Nat) : Int)) H
theorem call_int_bin {X : Cx} : CallR X (.type "int") rIntBin := by
  rintro pins s σ H _ us Q I r ⟨l, rfl, ne, few, bin, q⟩
  obtain ⟨u, v, rfl, r1, r2⟩ := vals2 r
  obtain ⟨t1, rfl⟩ := r1
  obtain ⟨t2, rfl⟩ := r2
  have g := gives_bin (x := SX.S l) (u := t1) (t := t2) (by rw [SX.S_len]; exact few) bin ne
  exact callType_new PySem.F.called_int PySem.F.newNe_int (Hx.typeCall_int_2 _ _) (Hx.newCall_int_2 _ _) (fun obj => PySem.F.initArgs_range_2 obj _ _) PySem.F.entry_int_new g.meets (show (Made.int ((binNum l : Nat) : Int)).post _ s from ⟨rfl, .int ((binNum l : Nat) : Int), H, I.tok _, ⟨_, rfl⟩, q⟩)
end Tg

namespace Tg
open PySem PySem.Spec PyProof.Rows L2
/-! ### a sign many times -/
def rTimes (c : Nat) : R2 := fun x y H Q => ∃ n : Nat, x = .str (SX.S [c]) ∧ y = .int (n : Nat) ∧ n ≤ 1000 ∧ Q (.str (SX.S (List.replicate n c))) H
theorem op_times {X : Cx} {c : Nat} : OpR X (binaryOp .Mult) (rTimes c) := by
  rintro pins s σ H _ _ v u Q I rx ry ⟨n, rfl, rfl, few, q⟩
  obtain ⟨t, rfl⟩ := rx
  obtain ⟨t2, rfl⟩ := ry
  have l1 : (SX.S [c]).length = 1 := rfl
  have rep : ∀ (m : Nat) (acc : Array Nat), (List.replicate m (SX.S [c]).cps).foldl (· ++ ·) acc = acc ++ (List.replicate m c).toArray := fun m => by
    induction m with
    | zero =>
      intro acc
      show acc = acc ++ #[]
      simp
    | succ m ih =>
      intro acc
      rw [List.replicate_succ, List.foldl_cons, ih]
      apply Array.ext'
      simp [List.replicate_succ]
  refine PySem.P.mul_str ?_ (fun _ _ => ?_) (fun _ _ => ?_) ?_
  · rw [decide_eq_false (by omega), decide_eq_false (by omega)]
    rfl
  · rw [l1]
    intro z
    have : (1 : Int) ≤ (2 ^ 63 - 1) / (n : Int) := by
      by_cases n0 : n = 0
      · subst n0
        omega
      · exact (Int.le_ediv_iff_mul_le (by omega)).mpr (by omega)
    omega
  · rw [l1]
    unfold Builtin.Str.tooLong
    exact decide_eq_false (by rw [sizeLine_eq]; omega)
  · by_cases c0 : (n : Int) < 1
    · obtain rfl : n = 0 := by omega
      rw [if_pos c0]
      exact ⟨by decide, .str (SX.S []), H, I.tok _, ⟨_, rfl⟩, q⟩
    · rw [if_neg c0]
      by_cases c1 : ((n : Int) == 1 || (SX.S [c]).length == 0) = true
      · rw [if_pos c1]
        have n1 : n = 1 := by
          rw [l1] at c1
          have : ((n : Int) == 1) = true := by
            cases e : (n : Int) == 1 with
            | true => rfl
            | false =>
              rw [e] at c1
              cases c1
          have := beq_iff_eq.mp this
          omega
        subst n1
        exact ⟨.str (SX.S [c]), H, I, ⟨t, rfl⟩, q⟩
      · rw [if_neg c1]
        have e : (List.replicate (n : Int).toNat (SX.S [c]).cps).foldl (· ++ ·) #[] = (List.replicate n c).toArray := by
          rw [show (n : Int).toNat = n from rfl, rep]
          simp
        rw [e]
        refine ⟨?_, .str (SX.S (List.replicate n c)), H, I.tok _, ⟨_, rfl⟩, q⟩
        rw [SX.S_len, List.length_replicate, sizeLine_eq]
        omega
end Tg

namespace Tg
open PySem PySem.Spec PyProof.Rows L2
/-! ### numbers by twos -/
/-- the last w signs of n by twos -/
def bt : Nat → Nat → List Nat
  | 0, _ => []
  | w + 1, n => bt w (n / 2) ++ [48 + n % 2]
theorem bt_len : ∀ w n, (bt w n).length = w
  | 0, _ => rfl
  | w + 1, n => by
    show (bt w (n / 2) ++ [48 + n % 2]).length = w + 1
    rw [List.length_append, bt_len w]
    rfl
theorem bt_bin : ∀ w n c, c ∈ bt w n → IsBin c
  | 0, _, _, h => nomatch h
  | w + 1, n, c, h => by
    rcases List.mem_append.mp (show c ∈ bt w (n / 2) ++ [48 + n % 2] from h) with h | h
    · exact bt_bin w _ c h
    · rw [List.mem_singleton.mp h]
      unfold IsBin
      omega
theorem num_snoc (l : List Nat) (c : Nat) : binNum (l ++ [c]) = binNum l * 2 + (c - 48) := by
  unfold binNum
  rw [List.foldl_append]
  rfl
theorem num_bt : ∀ w n, binNum (bt w n) = n % 2 ^ w
  | 0, n => by
    show 0 = n % 1
    omega
  | w + 1, n => by
    show binNum (bt w (n / 2) ++ [48 + n % 2]) = _
    rw [num_snoc, num_bt w, Nat.pow_succ, Nat.mul_comm (2 ^ w) 2, Nat.mod_mul]
    omega
theorem bt_split (d : Nat) : ∀ w n, bt (d + w) n = bt d (n / 2 ^ w) ++ bt w n
  | 0, n => by
    rw [Nat.pow_zero]
    rw [Nat.div_one]
    exact (List.append_nil _).symm
  | w + 1, n => by
    show bt (d + w) (n / 2) ++ [48 + n % 2] = _ ++ (bt w (n / 2) ++ [48 + n % 2])
    rw [bt_split d w (n / 2), Nat.div_div_eq_div_mul, Nat.mul_comm 2, ← Nat.pow_succ, List.append_assoc]
theorem bt_zero : ∀ d, bt d 0 = List.replicate d 48
  | 0 => rfl
  | d + 1 => by
    show bt d (0 / 2) ++ [48 + 0 % 2] = _
    rw [Nat.zero_div, bt_zero d, List.replicate_succ']
/-- how many signs n has by twos -/
def blen (n : Nat) : Nat := if n = 0 then 0 else n.log2 + 1
theorem blen_pos {n : Nat} (h : 0 < n) : blen n = n.log2 + 1 := if_neg (by omega)
theorem blen_half {n : Nat} (h : 0 < n) : blen n = blen (n / 2) + 1 := by
  rw [blen_pos h, Nat.log2_def]
  by_cases c : 2 ≤ n
  · rw [if_pos c, blen_pos (show 0 < n / 2 by omega)]
  · rw [if_neg c, show n / 2 = 0 by omega]
    rfl
theorem lt_blen (n : Nat) : n < 2 ^ blen n := by
  by_cases h : n = 0
  · subst h
    decide
  · rw [blen_pos (by omega)]
    exact Nat.lt_log2_self
theorem bin_zero : binC 0 = [48] := by
  unfold binC
  rw [Nat.toDigits_zero]
  rfl
theorem bin_digit {n : Nat} : (n % 2).digitChar.toNat = 48 + n % 2 := by
  rcases Nat.mod_two_eq_zero_or_one n with e | e <;> rw [e] <;> rfl
theorem bin_is {n : Nat} : 0 < n → binC n = bt (blen n) n := by
  refine Nat.strongRecOn n fun n ih h => ?_
  · skip
    rw [blen_half h]
    show binC n = bt (blen (n / 2)) (n / 2) ++ [48 + n % 2]
    unfold binC
    by_cases c : 2 ≤ n
    · rw [Nat.toDigits_of_base_le (by decide) c, List.map_append, ← ih (n / 2) (by omega) (by omega)]
      show _ ++ [(n % 2).digitChar.toNat] = _
      rw [bin_digit]
      rfl
    · have : n = 1 := by omega
      subst this
      rfl
theorem bt_pad {w n : Nat} (h : blen n ≤ w) : bt w n = List.replicate (w - blen n) 48 ++ bt (blen n) n := by
  have e := bt_split (w - blen n) (blen n) n
  rw [show w - blen n + blen n = w by omega, Nat.div_eq_of_lt (lt_blen n), bt_zero] at e
  exact e
/-- a number's own code -/
def ownL (n : Nat) : List Nat := List.replicate (n + 1).log2 48 ++ 49 :: bt (n + 1).log2 (n + 1)
theorem own_is (n : Nat) : List.replicate (blen (n + 1) - 1) 48 ++ bt (blen (n + 1)) (n + 1) = ownL n := by
  have b := blen_pos (Nat.succ_pos n)
  have one : (n + 1) / 2 ^ (n + 1).log2 = 1 := by
    have h1 := Nat.log2_self_le (n := n + 1) (by omega)
    have h2 := Nat.lt_log2_self (n := n + 1)
    refine Nat.div_eq_of_lt_le (by rw [Nat.one_mul]; exact h1) ?_
    rw [Nat.pow_succ] at h2
    omega
  have e := bt_split 1 (n + 1).log2 (n + 1)
  rw [one] at e
  unfold ownL
  rw [b, Nat.add_sub_cancel, Nat.add_comm _ 1, e]
  rfl
theorem own_len (n : Nat) : (ownL n).length = 2 * (n + 1).log2 + 1 := by
  unfold ownL
  rw [List.length_append, List.length_replicate, List.length_cons, bt_len]
  omega
theorem own_lo {n v : Nat} (h : v < (n + 1).log2) : (ownL n)[v]? = some 48 := by
  unfold ownL
  rw [List.getElem?_append_left (by rw [List.length_replicate]; exact h), List.getElem?_replicate, if_pos h]
theorem own_one (n : Nat) : (ownL n)[(n + 1).log2]? = some 49 := by
  unfold ownL
  rw [List.getElem?_append_right (by rw [List.length_replicate]; exact Nat.le_refl _), List.length_replicate, Nat.sub_self]
  rfl
theorem own_tail (n : Nat) : (ownL n).drop (n + 1).log2 = bt (blen (n + 1)) (n + 1) := by
  rw [← own_is, List.drop_append_of_le_length (by rw [List.length_replicate, blen_pos (show 0 < n + 1 by omega)]; omega), List.drop_of_length_le (by rw [List.length_replicate, blen_pos (show 0 < n + 1 by omega)]; omega)]
  rfl
theorem own_num (n : Nat) : binNum (bt (blen (n + 1)) (n + 1)) = n + 1 := by
  rw [num_bt, Nat.mod_eq_of_lt (lt_blen _)]
/-! ### find -/
theorem from_nat (m a : Nat) : fromIndex m (a : Int) = a := by
  unfold fromIndex
  rw [if_neg (by omega)]
  omega
theorem getD_S (l : List Nat) (v : Nat) : (SX.S l).cps.getD v 0 = l.getD v 0 := by
  show l.toArray.getD v 0 = l.getD v 0
  rw [Array.getD_eq_getD_getElem?, List.getElem?_toArray, List.getD_eq_getElem?_getD]
theorem find_at {l : List Nat} {a j : Nat} (hj : l[j]? = some 49) (aj : a ≤ j) (no : ∀ v, a ≤ v → v < j → l[v]? ≠ some 49) : Txt.find3 (SX.S l) ⟨#[49]⟩ (a : Int) = (j : Nat) := by
  have lj := (List.getElem?_eq_some_iff.mp hj).1
  have gj : l.getD j 0 = 49 := by rw [List.getD_eq_getElem?_getD, hj]; rfl
  rcases StrLaws.find3_spec (SX.S l) 49 (a : Int) with ⟨_, h⟩ | ⟨k, e, h1, h2, h3, h4⟩
  · rw [from_nat, SX.S_len] at h
    exact absurd (by rw [getD_S]; exact gj) (h j aj lj)
  · rw [from_nat] at h1 h4
    rw [SX.S_len] at h2
    rw [getD_S] at h3
    rw [e]
    rcases Nat.lt_trichotomy k j with lt | rfl | gt
    · refine absurd ?_ (no k h1 lt)
      rw [List.getElem?_eq_getElem h2]
      rw [List.getD_eq_getElem?_getD, List.getElem?_eq_getElem h2] at h3
      exact congrArg some h3
    · rfl
    · exact absurd (by rw [getD_S]; exact gj) (h4 j aj gt)
theorem find_no {l : List Nat} {a : Nat} (no : ∀ v, a ≤ v → l[v]? ≠ some 49) : Txt.find3 (SX.S l) ⟨#[49]⟩ (a : Int) = -1 := by
  rcases StrLaws.find3_spec (SX.S l) 49 (a : Int) with ⟨e, _⟩ | ⟨k, e, h1, h2, h3, _⟩
  · exact e
  · rw [from_nat] at h1
    rw [SX.S_len] at h2
    rw [getD_S, List.getD_eq_getElem?_getD, List.getElem?_eq_getElem h2] at h3
    exact absurd (by rw [List.getElem?_eq_getElem h2]; exact congrArg some h3) (no k h1)
/-! ### zfill -/
theorem zfill_is {l : List Nat} {w : Nat} (bin : ∀ c ∈ l, IsBin c) : Txt.zfill (SX.S l) (w : Int) = SX.S (List.replicate (w - l.length) 48 ++ l) := by
  unfold Txt.zfill
  by_cases c : (w : Int) ≤ (SX.S l).length
  · rw [if_pos c]
    rw [SX.S_len] at c
    rw [show w - l.length = 0 by omega]
    rfl
  · rw [if_neg c, SX.S_len]
    have e : zfilled (SX.S l) ((w : Int).toNat - l.length) = Builtin.Str.padded (SX.S l) ((w : Int).toNat - l.length) 0 48 := by
      unfold zfilled
      cases l with
      | nil => rfl
      | cons d r =>
        have := bin d List.mem_cons_self
        unfold IsBin at this
        rcases this with rfl | rfl <;> rfl
    rw [e]
    unfold Builtin.Str.padded
    rw [show (w : Int).toNat = w from rfl]
    show (⟨Array.replicate (w - l.length) 48 ++ l.toArray ++ Array.replicate 0 48⟩ : Str) = ⟨(List.replicate (w - l.length) 48 ++ l).toArray⟩
    congr 1
    apply Array.ext'
    simp
end Tg

namespace Tg
/-! ### columns: numbers turned, codes, gaps, runs -/
def tn (n : Int) : Int := if 0 ≤ n then 2 * n else -2 * n - 1
def bk (m : Int) : Int := if m % 2 = 0 then m / 2 else -(m / 2) - 1
theorem bk_tn (n : Int) : bk (tn n) = n := by
  unfold tn bk
  split
  · rw [if_pos (by omega)]
    omega
  · rw [if_neg (by omega)]
    omega
def tN (n : Int) : Nat := (tn n).toNat
theorem tn_nat (n : Int) : tn n = (tN n : Nat) := by
  unfold tN
  unfold tn
  split <;> omega
theorem tN_lt {n : Int} {b : Nat} (h : n.natAbs < 2 ^ b) : tN n < 2 ^ (b + 1) := by
  unfold tN tn
  rw [Nat.pow_succ]
  split <;> omega
theorem tN_inj {a b : Int} (h : tN a = tN b) : a = b := by
  have e : tn a = tn b := by rw [tn_nat, tn_nat, h]
  rw [← bk_tn a, ← bk_tn b, e]
def cd (n : Int) : List Nat := ownL (tN n)
def cds (xs : List Int) : List Nat := (xs.map cd).flatten
theorem cds_app (a b : List Int) : cds (a ++ b) = cds a ++ cds b := by
  unfold cds
  rw [List.map_append, List.flatten_append]
theorem cds_cons (a : Int) (b : List Int) : cds (a :: b) = cd a ++ cds b := rfl
/-- the code at the i-th place -/
theorem cds_at {cs : List Int} {i : Nat} {c : Int} (h : cs[i]? = some c) : cds cs = cds (cs.take i) ++ (cd c ++ cds (cs.drop (i + 1))) := by
  obtain ⟨lt, e⟩ := List.getElem?_eq_some_iff.mp h
  have z : cs = cs.take i ++ c :: cs.drop (i + 1) := by
    rw [← e, List.getElem_cons_drop, List.take_append_drop]
  calc cds cs = cds (cs.take i ++ c :: cs.drop (i + 1)) := by rw [← z]
    _ = _ := by rw [cds_app, cds_cons]
theorem cds_next {cs : List Int} {i : Nat} {c : Int} (h : cs[i]? = some c) : (cds (cs.take (i + 1))).length = (cds (cs.take i)).length + (cd c).length := by
  rw [List.take_add_one, h, Option.toList_some, cds_app, List.length_append]
  congr 1
  unfold cds
  simp
def difs : List Int → List Int
  | a :: b :: r => (b - a) :: difs (b :: r)
  | _ => []
theorem difs_len : ∀ xs : List Int, (difs xs).length = xs.length - 1
  | [] => rfl
  | [_] => rfl
  | a :: b :: r => by
    have := difs_len (b :: r)
    show (difs (b :: r)).length + 1 = _
    rw [this]
    rfl
theorem difs_at : ∀ (xs : List Int) (i : Nat) (a b : Int), xs[i]? = some a → xs[i + 1]? = some b → (difs xs)[i]? = some (b - a)
  | [], _, _, _, h, _ => by simp at h
  | [_], 0, _, _, _, h => by simp at h
  | [_], _ + 1, _, _, h, _ => by simp at h
  | x :: y :: r, 0, a, b, h1, h2 => by
    cases h1
    cases h2
    rfl
  | x :: y :: r, i + 1, a, b, h1, h2 => difs_at (y :: r) i a b h1 h2
def stp (xs : List Int) : List Int := xs.take 1 ++ difs xs
theorem stp_len (xs : List Int) : (stp xs).length = xs.length := by
  unfold stp
  rw [List.length_append, List.length_take, difs_len]
  omega
theorem stp_0 {xs : List Int} {a : Int} (h : xs[0]? = some a) : (stp xs)[0]? = some a := by
  cases xs with
  | nil => simp at h
  | cons x r =>
    cases h
    rfl
theorem stp_at {xs : List Int} {i : Nat} {a b : Int} (h1 : xs[i]? = some a) (h2 : xs[i + 1]? = some b) : (stp xs)[i + 1]? = some (b - a) := by
  unfold stp
  have := (List.getElem?_eq_some_iff.mp h1).1
  rw [List.getElem?_append_right (by rw [List.length_take]; omega), List.length_take, show i + 1 - min 1 xs.length = i by omega]
  exact difs_at xs i a b h1 h2
/-- the codes of turns -/
def trn (xs : List Int) : List Int := xs.take 1 ++ stp (difs xs)
theorem trn_len (xs : List Int) : (trn xs).length = xs.length := by
  unfold trn
  rw [List.length_append, List.length_take, stp_len, difs_len]
  omega
theorem trn_0 {xs : List Int} {a : Int} (h : xs[0]? = some a) : (trn xs)[0]? = some a := by
  cases xs with
  | nil => simp at h
  | cons x r =>
    cases h
    rfl
theorem trn_1 {xs : List Int} {a b : Int} (h1 : xs[0]? = some a) (h2 : xs[1]? = some b) : (trn xs)[1]? = some (b - a) := by
  unfold trn
  have := (List.getElem?_eq_some_iff.mp h1).1
  rw [List.getElem?_append_right (by rw [List.length_take]; omega), List.length_take, show 1 - min 1 xs.length = 0 by omega]
  exact stp_0 (difs_at xs 0 a b h1 h2)
theorem trn_at {xs : List Int} {i : Nat} {a b c : Int} (h1 : xs[i]? = some a) (h2 : xs[i + 1]? = some b) (h3 : xs[i + 2]? = some c) : (trn xs)[i + 2]? = some ((c - b) - (b - a)) := by
  unfold trn
  have := (List.getElem?_eq_some_iff.mp h1).1
  rw [List.getElem?_append_right (by rw [List.length_take]; omega), List.length_take, show i + 2 - min 1 xs.length = i + 1 by omega]
  exact stp_at (difs_at xs i a b h1 h2) (difs_at xs (i + 1) b c h2 h3)
/-! runs -/
abbrev Run := Int × Nat
def rnA (rs : List Run) (x : Int) : List Run := match rs.getLast? with
  | some (y, n) => if y = x then rs.dropLast ++ [(y, n + 1)] else rs ++ [(x, 1)]
  | none => [(x, 1)]
def rn (xs : List Int) : List Run := xs.foldl rnA []
theorem rn_snoc (xs : List Int) (x : Int) : rn (xs ++ [x]) = rnA (rn xs) x := by
  unfold rn
  rw [List.foldl_append]
  rfl
def unr (rs : List Run) : List Int := (rs.map fun r => List.replicate r.2 r.1).flatten
theorem unr_app (a b : List Run) : unr (a ++ b) = unr a ++ unr b := by
  unfold unr
  rw [List.map_append, List.flatten_append]
theorem unr_one (r : Run) : unr [r] = List.replicate r.2 r.1 := by
  unfold unr
  simp
theorem last_split {α : Type} {l : List α} {a : α} (h : l.getLast? = some a) : l = l.dropLast ++ [a] := by
  have ne : l ≠ [] := fun z => by
    rw [z] at h
    cases h
  rw [List.getLast?_eq_some_getLast ne] at h
  cases h
  exact (List.dropLast_concat_getLast ne).symm
theorem rnA_un (rs : List Run) (x : Int) : unr (rnA rs x) = unr rs ++ [x] := by
  unfold rnA
  split
  · rename_i y n h
    split
    · rename_i e
      have z := last_split h
      rw [unr_app, unr_one]
      conv => rhs; rw [z, unr_app, unr_one]
      show _ ++ List.replicate (n + 1) y = _ ++ List.replicate n y ++ [x]
      rw [List.replicate_succ', e, List.append_assoc]
    · rw [unr_app, unr_one]
      rfl
  · rename_i h
    rw [List.getLast?_eq_none_iff.mp h, unr_one]
    rfl
theorem rnA_pos {rs : List Run} (h : ∀ r, r ∈ rs → 1 ≤ r.2) (x : Int) : ∀ r, r ∈ rnA rs x → 1 ≤ r.2 := by
  unfold rnA
  split
  · split
    · intro r hr
      rcases List.mem_append.mp hr with old | new
      · exact h r ((List.dropLast_sublist _).subset old)
      · rw [List.mem_singleton.mp new]
        exact Nat.le_add_left _ _
    · intro r hr
      rcases List.mem_append.mp hr with old | new
      · exact h r old
      · rw [List.mem_singleton.mp new]
        exact Nat.le_refl 1
  · intro r hr
    rw [List.mem_singleton.mp hr]
    exact Nat.le_refl 1
theorem rn_all : ∀ xs : List Int, unr (rn xs) = xs ∧ ∀ r, r ∈ rn xs → 1 ≤ r.2 := by
  have go : ∀ (ys : List Int) (rs : List Run) (done : List Int), unr rs = done → (∀ r, r ∈ rs → 1 ≤ r.2) → unr (ys.foldl rnA rs) = done ++ ys ∧ ∀ r, r ∈ ys.foldl rnA rs → 1 ≤ r.2 := by
    intro ys
    induction ys with
    | nil => exact fun rs done h1 h2 => ⟨by rw [List.append_nil]; exact h1, h2⟩
    | cons y ys ih =>
      intro rs done h1 h2
      have z := ih (rnA rs y) (done ++ [y]) (by rw [rnA_un, h1]) (rnA_pos h2 y)
      rw [List.append_assoc] at z
      exact z
  exact fun xs => go xs [] [] rfl (fun r hr => nomatch hr)
def rcd (r : Run) : List Nat := cd r.1 ++ ownL (r.2 - 1)
def rcds (rs : List Run) : List Nat := (rs.map rcd).flatten
theorem rcds_app (a b : List Run) : rcds (a ++ b) = rcds a ++ rcds b := by
  unfold rcds
  rw [List.map_append, List.flatten_append]
theorem rcds_one (r : Run) : rcds [r] = rcd r := by
  unfold rcds
  simp
/-! ### ways that are read from code to code -/
inductive Way where
  | steps
  | turns
  | runs
/-- a mark: the place of the next code, the number ahead, what is kept beside -/
abbrev Mrk := Nat × Int × Option Int
def enc : Way → List Int → List Nat
  | .steps, xs => cds (stp xs)
  | .turns, xs => cds (trn xs)
  | .runs, xs => rcds (rn xs)
def ahd (xs : List Int) (i : Nat) : Int := if i = 0 then 0 else xs.getD (i - 1) 0
theorem ahd_next {xs : List Int} {i : Nat} {a : Int} (h : xs[i]? = some a) : ahd xs (i + 1) = a := by
  unfold ahd
  rw [if_neg (by omega), Nat.add_sub_cancel, List.getD_eq_getElem?_getD, h]
  rfl
def bsd (xs : List Int) (i : Nat) : Option Int := if i = 0 then none else if i = 1 then some 0 else some (ahd xs i - ahd xs (i - 1))
/-- the mark behind i numbers -/
def MkA : Way → List Int → Nat → Mrk → Prop
  | .steps, xs, i, m => m = ((cds ((stp xs).take i)).length, ahd xs i, none)
  | .turns, xs, i, m => m = ((cds ((trn xs).take i)).length, ahd xs i, bsd xs i)
  | .runs, xs, i, m => (i = 0 ∧ m = (0, 0, none)) ∨ ∃ (pre suf : List Run) (r : Run) (o : Nat), rn xs = pre ++ r :: suf ∧ 1 ≤ o ∧ o ≤ r.2 ∧ i = (unr pre).length + o ∧ m = ((rcds (pre ++ [r])).length, r.1, some ((r.2 - o : Nat) : Int))
theorem mk_begin (W : Way) (xs : List Int) : MkA W xs 0 (0, 0, none) := by
  cases W with
  | steps => rfl
  | turns => rfl
  | runs => exact .inl ⟨rfl, rfl⟩
theorem mk_end {W : Way} {xs : List Int} {m : Mrk} (h : MkA W xs xs.length m) : m.1 = (enc W xs).length := by
  cases W with
  | steps =>
    rw [show m = _ from h, ← stp_len, List.take_length]
    rfl
  | turns =>
    rw [show m = _ from h, ← trn_len, List.take_length]
    rfl
  | runs =>
    obtain ⟨u, pos⟩ := rn_all xs
    rcases h with ⟨e, rfl⟩ | ⟨pre, suf, r, o, er, o1, o2, ei, rfl⟩
    · rw [List.length_eq_zero_iff.mp e]
      rfl
    · have l : (unr (rn xs)).length = xs.length := by rw [u]
      rw [er, show pre ++ r :: suf = pre ++ [r] ++ suf by simp, unr_app, unr_app, unr_one, List.length_append, List.length_append, List.length_replicate] at l
      have z : suf = [] := by
        cases suf with
        | nil => rfl
        | cons q s =>
          have p := pos q (by rw [er]; simp)
          rw [show q :: s = [q] ++ s from rfl, unr_app, unr_one, List.length_append, List.length_replicate] at l
          omega
      subst z
      show (rcds (pre ++ [r])).length = (rcds (rn xs)).length
      rw [er]
end Tg

namespace Tg
/-! ### the least, the greatest, the numbers in order -/
def mnI : List Int → Int
  | [] => 0
  | [x] => x
  | x :: y :: r => min x (mnI (y :: r))
def mxI : List Int → Int
  | [] => 0
  | [x] => x
  | x :: y :: r => max x (mxI (y :: r))
theorem mnI_is : ∀ {xs : List Int}, xs ≠ [] → mnI xs ∈ xs ∧ ∀ x, x ∈ xs → mnI xs ≤ x
  | [], h => absurd rfl h
  | [x], _ => ⟨.head _, fun y hy => by rw [List.mem_singleton.mp hy]; exact Int.le_refl _⟩
  | x :: y :: r, _ => by
    obtain ⟨h1, h2⟩ := mnI_is (xs := y :: r) (fun z => nomatch z)
    show min x (mnI (y :: r)) ∈ _ ∧ _
    refine ⟨?_, fun z hz => ?_⟩
    · by_cases c : x ≤ mnI (y :: r)
      · rw [Int.min_eq_left c]
        exact .head _
      · rw [Int.min_eq_right (by omega)]
        exact .tail _ h1
    · show min x (mnI (y :: r)) ≤ z
      obtain rfl | hz := List.mem_cons.mp hz
      · omega
      · have := h2 z hz
        omega
theorem mxI_is : ∀ {xs : List Int}, xs ≠ [] → mxI xs ∈ xs ∧ ∀ x, x ∈ xs → x ≤ mxI xs
  | [], h => absurd rfl h
  | [x], _ => ⟨.head _, fun y hy => by rw [List.mem_singleton.mp hy]; exact Int.le_refl _⟩
  | x :: y :: r, _ => by
    obtain ⟨h1, h2⟩ := mxI_is (xs := y :: r) (fun z => nomatch z)
    show max x (mxI (y :: r)) ∈ _ ∧ _
    refine ⟨?_, fun z hz => ?_⟩
    · by_cases c : mxI (y :: r) ≤ x
      · rw [Int.max_eq_left c]
        exact .head _
      · rw [Int.max_eq_right (by omega)]
        exact .tail _ h1
    · show z ≤ max x (mxI (y :: r))
      obtain rfl | hz := List.mem_cons.mp hz
      · omega
      · have := h2 z hz
        omega
theorem mn_of {xs : List Int} {m : Int} (h1 : m ∈ xs) (h2 : ∀ x, x ∈ xs → m ≤ x) : m = mnI xs := by
  obtain ⟨h3, h4⟩ := mnI_is (List.ne_nil_of_mem h1)
  exact Int.le_antisymm (h2 _ h3) (h4 _ h1)
theorem mx_of {xs : List Int} {m : Int} (h1 : m ∈ xs) (h2 : ∀ x, x ∈ xs → x ≤ m) : m = mxI xs := by
  obtain ⟨h3, h4⟩ := mxI_is (List.ne_nil_of_mem h1)
  exact Int.le_antisymm (h4 _ h1) (h2 _ h3)
def insU (x : Int) : List Int → List Int
  | [] => [x]
  | y :: r => if x < y then x :: y :: r else if x = y then y :: r else y :: insU x r
def bookOf (xs : List Int) : List Int := xs.foldr insU []
theorem insU_mem (x z : Int) : ∀ l : List Int, z ∈ insU x l ↔ z = x ∨ z ∈ l
  | [] => by simp [insU]
  | y :: r => by
    unfold insU
    split
    · simp
    · split
      · rename_i e
        subst e
        simp
      · rw [List.mem_cons, insU_mem x z r, List.mem_cons]
        constructor
        · rintro (h | h | h)
          · exact .inr (.inl h)
          · exact .inl h
          · exact .inr (.inr h)
        · rintro (h | h | h)
          · exact .inr (.inl h)
          · exact .inl h
          · exact .inr (.inr h)
theorem insU_up (x : Int) : ∀ l : List Int, l.Pairwise (· < ·) → (insU x l).Pairwise (· < ·)
  | [], _ => List.pairwise_singleton _ _
  | y :: r, h => by
    have hp := List.pairwise_cons.mp h
    unfold insU
    split
    · rename_i lt
      refine List.pairwise_cons.mpr ⟨fun z hz => ?_, h⟩
      obtain rfl | hz := List.mem_cons.mp hz
      · exact lt
      · exact Int.lt_trans lt (hp.1 z hz)
    · split
      · exact h
      · refine List.pairwise_cons.mpr ⟨fun z hz => ?_, insU_up x r hp.2⟩
        rcases (insU_mem x z r).mp hz with rfl | hz
        · omega
        · exact hp.1 z hz
theorem book_is : ∀ xs : List Int, (bookOf xs).Pairwise (· < ·) ∧ ∀ z, z ∈ bookOf xs ↔ z ∈ xs
  | [] => ⟨List.Pairwise.nil, fun z => Iff.rfl⟩
  | x :: r => by
    obtain ⟨h1, h2⟩ := book_is r
    refine ⟨insU_up x _ h1, fun z => ?_⟩
    show z ∈ insU x (bookOf r) ↔ _
    rw [insU_mem, h2, List.mem_cons]
theorem up_unique : ∀ {a b : List Int}, a.Pairwise (· < ·) → b.Pairwise (· < ·) → (∀ k, k ∈ a ↔ k ∈ b) → a = b
  | [], [], _, _, _ => rfl
  | [], y :: b, _, _, h => nomatch (h y).mpr (.head _)
  | x :: a, [], _, _, h => nomatch (h x).mp (.head _)
  | x :: a, y :: b, h1, h2, h => by
    have p1 := List.pairwise_cons.mp h1
    have p2 := List.pairwise_cons.mp h2
    have e : x = y := by
      have k1 := (h x).mp (.head _)
      have k2 := (h y).mpr (.head _)
      rcases List.mem_cons.mp k1 with e | k1
      · exact e
      · rcases List.mem_cons.mp k2 with e | k2
        · exact e.symm
        · have a1 := p2.1 x k1
          have a2 := p1.1 y k2
          omega
    subst e
    congr 1
    refine up_unique p1.2 p2.2 fun k => ⟨fun hk => ?_, fun hk => ?_⟩
    · rcases List.mem_cons.mp ((h k).mp (.tail _ hk)) with e | z
      · have := p1.1 k hk
        omega
      · exact z
    · rcases List.mem_cons.mp ((h k).mpr (.tail _ hk)) with e | z
      · have := p2.1 k hk
        omega
      · exact z
theorem book_of {xs b : List Int} (h1 : b.Pairwise (· < ·)) (h2 : ∀ k, k ∈ b ↔ k ∈ xs) : b = bookOf xs :=
  up_unique h1 (book_is xs).1 fun k => (h2 k).trans ((book_is xs).2 k).symm
theorem up_nodup {b : List Int} (h : b.Pairwise (· < ·)) : b.Nodup := h.imp fun lt e => by omega
theorem book_len (xs : List Int) : (bookOf xs).length ≤ xs.length := by
  have one : ∀ x l, (insU x l).length ≤ l.length + 1 := fun x l => by
    induction l with
    | nil => exact Nat.le_refl _
    | cons y r ih =>
      unfold insU
      split
      · exact Nat.le_refl _
      · split
        · exact Nat.le_succ _
        · exact Nat.succ_le_succ ih
  induction xs with
  | nil => exact Nat.le_refl _
  | cons x r ih =>
    have := one x (bookOf r)
    show (insU x (bookOf r)).length ≤ r.length + 1
    omega
theorem book_ne {xs : List Int} (h : 0 < xs.length) : 0 < (bookOf xs).length := by
  cases xs with
  | nil => cases h
  | cons x r => exact List.length_pos_of_mem ((book_is (x :: r)).2 x |>.mpr (.head _))
/-! ### how many signs by twos -/
theorem blen_le {n w : Nat} (h : n < 2 ^ w) : blen n ≤ w := by
  unfold blen
  split
  · exact Nat.zero_le _
  · rename_i c
    exact (Nat.log2_lt c).mpr h
theorem blen_mono {n m : Nat} (h : n ≤ m) : blen n ≤ blen m := blen_le (Nat.lt_of_le_of_lt h (lt_blen m))
/-! ### the two ways that stand by places -/
def wdP (xs : List Int) : Nat := blen (mxI xs - mnI xs).toNat
def plC (xs : List Int) : List (List Nat) := xs.map fun x => bt (wdP xs) (x - mnI xs).toNat
def encP (xs : List Int) : List Nat := cd (mnI xs) ++ ownL (wdP xs) ++ (plC xs).flatten
def wdB (xs : List Int) : Nat := blen ((bookOf xs).length - 1)
def gpC (xs : List Int) : List (List Nat) := (difs (bookOf xs)).map fun d => ownL (d - 1).toNat
def bkC (xs : List Int) : List (List Nat) := xs.map fun x => bt (wdB xs) ((bookOf xs).idxOf x)
def encB (xs : List Int) : List Nat := ownL ((bookOf xs).length - 1) ++ cd ((bookOf xs).headD 0) ++ (gpC xs).flatten ++ (bkC xs).flatten
theorem flat_same {ls : List (List Nat)} {w : Nat} (h : ∀ l, l ∈ ls → l.length = w) : ls.flatten.length = ls.length * w := by
  induction ls with
  | nil => exact (Nat.zero_mul w).symm
  | cons l r ih =>
    rw [List.flatten_cons, List.length_append, h l (.head _), ih fun y hy => h y (.tail _ hy), List.length_cons, Nat.succ_mul, Nat.add_comm]
end Tg

set_option maxHeartbeats 1000000
namespace Tg
open PySem PySem.Spec PyProof.Rows L2
/-! ### lists or tuples; sorted of a tuple of ints, of a dict by ints -/
section
variable {X : Cx}
/-- a list or a tuple -/
def SqA (K : PySem.W.Frag) (H : Hp) (a : Addr) (xs : List V) : Prop := SqL K H a xs ∨ SqT K H a xs
def iSeq (K : PySem.W.Frag) (tl : TE) : TI := fun σ H R => tl σ H fun x H1 => ∃ a, x = .ref a ∧ (((∃ xs, SqL K H1 a xs) ∧ R (Itl K a) H1) ∨ ((∃ xs, SqT K H1 a xs) ∧ R (Itt K a) H1))
theorem pi_seq {tg l : Expr} {tl : TE} (hl : PE X l tl) : PI X tg l (iSeq X.K tl) := by
  refine ⟨fun pins s σ H R I want => thn (hl.run pins s σ H _ I want) fun v s1 ⟨x, H1, I1, r1, told⟩ => ?_⟩
  obtain ⟨a, rfl, q⟩ := told
  cases r1
  rcases q with ⟨⟨xs, hq⟩, q⟩ | ⟨⟨xs, hq⟩, q⟩
  · obtain ⟨its, rv, at_, hz⟩ := I1.list hq
    refine wpAny_pyIter_list at_.isList ⟨s1.heap.objs.size, [s1.heap.objs.size], _, _, H1, rfl, I1.kept (t' := s1.toks) fun b o e => Heap.get?_push_of_some _ e, turn_list a _, ⟨_, Heap.get?_push_size _ rfl, rfl, rfl⟩, fun b hb => ?_, q⟩
    rw [List.mem_singleton.mp hb]
    exact I1.fpOk Nat.le.refl (I1.hok.fresh Nat.le.refl)
  · obtain ⟨its, rv, at_, hz⟩ := I1.tuple hq
    refine wpAny_pyIter_tuple (show s1.heap.IsTuple a its.toArray from at_) ⟨s1.heap.objs.size, [s1.heap.objs.size], _, _, H1, rfl, I1.kept (t' := s1.toks) fun b o e => Heap.get?_push_of_some _ e, turn_tuple a _, ⟨_, Heap.get?_push_size _ rfl, rfl, rfl⟩, fun b hb => ?_, q⟩
    rw [List.mem_singleton.mp hb]
    exact I1.fpOk Nat.le.refl (I1.hok.fresh Nat.le.refl)
/-- sorted of what is walked to ints -/
theorem sorted_of {pins : List (Addr × Obj)} {σ : L2.St} {H : Hp} {s : Shared} {a : Addr} {ns : List Int} {Q : VK} (I : Inv X pins σ H s) (few : ns.length ≤ sizeLine)
    (col : ∀ (R : List Value → Shared → Prop) (E : Value → Shared → Prop), (∀ (h' : Heap) (tk : Nat) (vs : List Value), (∀ b o, s.heap.get? b = some o → h'.get? b = some o) → IntsAre vs ns → R vs { s with heap := h', toks := tk }) → wpAny (model X.prog X.w) X.A.in1 (collect (.ref a)) R E s)
    (q : ∀ (ns' : List Int) (p : Addr), ns'.Perm ns → ns'.Pairwise (· ≤ ·) → H p = none → Q (.ref p) (upd H p (.lst (ns'.map V.int)))) :
    wpAny (model X.prog X.w) X.A (call (.builtin "sorted") [.ref a]) (EP X pins σ Q) X.xe s := by
  apply Calls.call_function_entry kind_sorted plain_sorted entry_sorted (args_sorted1 _)
  unfold Builtin.«sorted»
  refine wpAny_bind (m := checkCount "sorted" 1 1 _) (wpAny_pure (wpAny_bind (col _ _ fun h' tk vs kept are => ?_)))
  have I1 : Inv X pins σ H { s with heap := h', toks := tk } := I.kept kept
  have many : vs.length = ns.length := by
    have z := congrArg List.length (SrtO.iv_ints are)
    rw [List.length_map] at z
    exact z
  have room : vs.length ≤ sizeLine := many ▸ few
  refine wpAny_bind (wpAny_newList ?_ room)
  have new : (h'.push (seqObj "list" vs.toArray 0)).get? h'.objs.size = some (seqObj "list" vs.toArray 0) := Heap.get?_push_size _ rfl
  show wpAny _ _ _ _ _ { s with heap := h'.push (seqObj "list" vs.toArray 0), toks := tk }
  refine wpAny_bind (wpAny_holding (wpAny_call_entry slot_list_sort ⟨_, new, rfl⟩ entry_list_sort ?_ (args_list_sort _)))
  refine SrtO.list_sort_ord (s := { s with heap := h'.push (seqObj "list" vs.toArray 0), toks := tk }) SrtO.swo_int new room (SrtO.ints_sortable are) fun out up stable => ⟨_, rfl, ?_⟩
  have ⟨a1, a2, a3⟩ := SrtO.ints_out are up stable
  have ⟨c, hc⟩ := sortedHeap_at (vs := vs) (out := out.toArray) new
  have len : ((out.map SrtO.iv).map V.int).length ≤ sizeLine := by
    rw [List.length_map, a2.length_eq]
    exact few
  refine wpAny_pure ⟨_, rfl, .ref h'.objs.size, upd H h'.objs.size (.lst ((out.map SrtO.iv).map V.int)), I1.laid (t' := tk) (fun b u e => ?_) (Nat.le_refl _) (show ObjOk X.prog X.w _ _ _ (.lst ((out.map SrtO.iv).map V.int)) from ⟨len, out, c, vals_of_ints a1, hc⟩), rfl, q _ _ a2 a3 (I1.hok.fresh (Nat.le_refl _))⟩
  have lt : b < h'.objs.size := Heap.lt_size e
  rw [sortedHeap_old (Nat.ne_of_lt lt) (by rw [size_push']; exact Nat.lt_succ_of_lt lt)]
  refine Heap.get?_push_of_some _ ?_
  exact e
/-- sorted of a list or a tuple of ints -/
def rSortedA (K : PySem.W.Frag) : List V → Hp → VK → Prop := fun vs H Q => ∃ (a : Addr) (ns : List Int), vs = [V.ref a] ∧ SqA K H a (ns.map V.int) ∧
  ∀ (ms : List Int) (l : Addr), ms.Perm ns → ms.Pairwise (· ≤ ·) → H l = none → Q (.ref l) (upd H l (.lst (ms.map V.int)))
theorem cr_sortedA : CallR X (.builtin "sorted") (rSortedA X.K) := by
  rintro pins s σ H vs us Q I r ⟨a, ns, rfl, hs, q⟩
  rcases hs with hs | hs
  · exact cr_sortedI pins s σ H _ us Q I r ⟨a, ns, rfl, hs, q⟩
  · rw [Vals.ref1 r]
    obtain ⟨its, rv, at_, hz⟩ := I.tuple hs
    have few : ns.length ≤ sizeLine := by
      rw [List.length_map] at hz
      exact hz
    obtain ⟨o, ho, hc, n, hd⟩ := at_
    refine sorted_of I few (fun R E told => ?_) q
    refine wpAny_collect_seq a (.inr rfl) ho hc hd (fun h' kept => ?_) (by rw [List.size_toArray, ← rv.length, List.length_map]; exact few)
    exact told h' s.toks its kept rv.ints
/-- sorted of a dict whose keys are ints: its keys -/
def rSortedDI : List V → Hp → VK → Prop := fun vs H Q => ∃ (a : Addr) (kvs : List (Key × V)) (ks : List Int), vs = [V.ref a] ∧ Rd H a (.dK kvs) ∧ kvs.map (·.1) = ks.map Sum.inl ∧
  ∀ (ns' : List Int) (p : Addr), ns'.Perm ks → ns'.Pairwise (· ≤ ·) → H p = none → Q (.ref p) (upd H p (.lst (ns'.map V.int)))
theorem cr_sortedDI (calm : X.calm = true) : CallR X (.builtin "sorted") rSortedDI := by
  rintro pins s σ H vs us Q I r ⟨a, kvs, ks, rfl, hd, hks, q⟩
  rw [Vals.ref1 r]
  obtain ⟨z, lo, ws, rel, dd⟩ := dk_rd I.hok hd
  obtain ⟨ep, hat⟩ := dd.dictAt
  have hkeys : ws.map (·.1) = ks.map Sum.inl := rel.keys.symm.trans hks
  have hl : ws.length = ks.length := by
    have many := congrArg List.length hkeys
    simpa only [List.length_map] using many
  have kl : kvs.length = ks.length := by
    have many := congrArg List.length hks
    simpa only [List.length_map] using many
  refine sorted_of I (kl ▸ z) (fun R E told => ?_) q
  refine PySem.W.kdu_collect (A := X.A.in1) (PySem.W.kdl_dict (knd := mixKind X.prog X.w) (kvs := ws) (ep := ep) lo) (I.ok.hd calm) hat (by rw [hl, ← kl]; exact z) fun h' tk acc hk hacc => ?_
  refine told h' tk acc.toList hk ?_
  have size : acc.toList.length = ks.length := by rw [Array.length_toList, hacc.1, hl]
  have rv : Vals (ks.map V.int) acc.toList := vals_of_at (by rw [List.length_map, size]) fun j x u hx hu => by
    obtain ⟨k, y, e1, e2⟩ := hacc.2 j u (by rw [← hu, Array.getElem?_toList])
    have e3 : (ws.map (·.1))[j]? = some k := by
      rw [List.getElem?_map, e1]
      rfl
    rw [List.getElem?_map] at hx
    simp only [hkeys, List.getElem?_map] at e3
    obtain ⟨n, en, rfl⟩ := Option.map_eq_some_iff.mp hx
    rw [en] at e3
    have e4 : Sum.inl n = k := Option.some.inj e3
    subst e4
    exact keyIs_rel (k := .inl n) (v := u) e2
  exact rv.ints
end
/-! ### walking a list or a tuple -/
section
variable {K : PySem.W.Frag} {a : Addr} {xs : List V} {H H' : Hp}
theorem sqL_at (k : ∀ o, H a = some o → H' a = some o) (h : SqL K H a xs) : SqL K H' a xs := h.imp (fun r => r.imp (k _) fun ⟨o, e⟩ => ⟨o, k _ e⟩) id
theorem sqT_at (k : ∀ o, H a = some o → H' a = some o) (h : SqT K H a xs) : SqT K H' a xs := h.imp (fun r => r.imp (k _) fun ⟨o, e⟩ => ⟨o, k _ e⟩) id
theorem sqA_at (k : ∀ o, H a = some o → H' a = some o) (h : SqA K H a xs) : SqA K H' a xs := h.imp (sqL_at k) (sqT_at k)
/-- all rounds of a loop over J -/
abbrev Rounds (J : It) (g : TG) (tb : TS) (D : Ends) (σ : L2.St) (H : Hp) : Prop :=
  ∃ W : Nat → Nat → L2.St → Hp → Prop, (∃ m, W 0 m σ H) ∧ ∀ i m σ1 H1, W i m σ1 H1 → (J.stop i H1 ∧ D.nx σ1 H1) ∨
    (J.go i H1 ∧ ∃ N : L2.St → Hp → Prop, (∀ σ2 H2, N σ2 H2 → ∃ m2, m2 < m ∧ W (i + 1) m2 σ2 H2) ∧ ∀ x H2, J.yld i H1 x H2 → g x σ1 H2 fun σ3 H3 => tb { D with nx := N, ct := N, bk := D.nx } σ3 H3)
theorem for_seq {Hb : Hp} {g : TG} {tb : TS} {D : Ends} {σ : L2.St} (sq : SqA K Hb a xs) (Pv : Nat → L2.St → Hp → Prop) (first : Pv 0 σ H) (keep : ∀ i σ1 H1, Pv i σ1 H1 → ∀ o, Hb a = some o → H1 a = some o)
    (round : ∀ i x σ1 H1, xs[i]? = some x → Pv i σ1 H1 → g x σ1 H1 fun σ2 H2 => tb { D with nx := Pv (i + 1), ct := Pv (i + 1), bk := D.nx } σ2 H2) (last : ∀ σ1 H1, Pv xs.length σ1 H1 → D.nx σ1 H1) :
    ((∃ ys, SqL K H a ys) ∧ Rounds (Itl K a) g tb D σ H) ∨ ((∃ ys, SqT K H a ys) ∧ Rounds (Itt K a) g tb D σ H) :=
  sq.imp (fun h => ⟨⟨_, sqL_at (keep 0 σ H first) h⟩, for_list Pv first (fun i σ1 H1 _ p => sqL_at (keep i σ1 H1 p) h) round last⟩) fun h => ⟨⟨_, sqT_at (keep 0 σ H first) h⟩, for_tup Pv first (fun i σ1 H1 _ p => sqT_at (keep i σ1 H1 p) h) round last⟩
abbrev RoundsL (J : It) (g : TG) (tt : TT) (te : TE) (vs : List Nat) (σ : L2.St) (H : Hp) (D : Addr) (Qd : Hp → Prop) : Prop :=
  ∃ W : Nat → Nat → Hp → Prop, (∃ m, W 0 m (upd H D (.lst []))) ∧ ∀ i m H1, W i m H1 → (J.stop i H1 ∧ Qd H1) ∨
    (J.go i H1 ∧ ∃ Nx : Hp → Prop, (∀ H2, Nx H2 → ∃ m2, m2 < m ∧ W (i + 1) m2 H2) ∧ ∀ x H2, J.yld i H1 x H2 → g x (wipe σ vs) H2 fun σ3 H3 => wipe σ3 vs = wipe σ vs ∧ tt σ3 H3 fun b H4 =>
      if b = true then te σ3 H4 fun y H5 => ∃ acc, H5 D = some (.lst acc) ∧ acc.length < sizeLine ∧ Nx (upd H5 D (.lst (acc ++ [y]))) else Nx H4)
theorem lc_seq {g : TG} {tt : TT} {te : TE} {vs : List Nat} {σ : L2.St} {Qd : Addr → Hp → Prop} (sq : SqA K H a xs) (Pv : Addr → Nat → Hp → Prop) (first : ∀ D, H D = none → Pv D 0 (upd H D (.lst []))) (keep : ∀ D i H1, H D = none → Pv D i H1 → ∀ o, H a = some o → H1 a = some o)
    (round : ∀ D (i : Nat) (x : V) H1, H D = none → xs[i]? = some x → Pv D i H1 → g x (wipe σ vs) H1 fun σ2 H2 => wipe σ2 vs = wipe σ vs ∧ tt σ2 H2 fun b H3 =>
      if b = true then te σ2 H3 fun y H4 => ∃ acc, H4 D = some (.lst acc) ∧ acc.length < sizeLine ∧ Pv D (i + 1) (upd H4 D (.lst (acc ++ [y]))) else Pv D (i + 1) H3) (last : ∀ D H1, H D = none → Pv D xs.length H1 → Qd D H1) :
    ((∃ ys, SqL K H a ys) ∧ ∀ D, H D = none → RoundsL (Itl K a) g tt te vs σ H D (Qd D)) ∨ ((∃ ys, SqT K H a ys) ∧ ∀ D, H D = none → RoundsL (Itt K a) g tt te vs σ H D (Qd D)) :=
  sq.imp (fun h => ⟨⟨_, h⟩, fun D nD => lc_list (Pv D) (first D nD) (fun i H1 _ p => sqL_at (keep D i H1 nD p) h) (fun i x H1 e p => round D i x H1 nD e p) fun H1 p => last D H1 nD p⟩)
    fun h => ⟨⟨_, h⟩, fun D nD => lc_tup (Pv D) (first D nD) (fun i H1 _ p => sqT_at (keep D i H1 nD p) h) (fun i x H1 e p => round D i x H1 nD e p) fun H1 p => last D H1 nD p⟩
/-- {k: v for x in xs} of a list -/
theorem dc_lst {g : TG} {tt : TT} {tk tv : TE} {vs : List Nat} {σ : L2.St} {H1 : Hp} {D : Addr} {Qd : Hp → Prop} (Pv : Nat → Hp → Prop) (first : Pv 0 (upd H1 D (.dK []))) (keep : ∀ i H2, Pv i H2 → SqL K H2 a xs)
    (round : ∀ i x H2, xs[i]? = some x → Pv i H2 → g x (wipe σ vs) H2 fun σ2 H3 => wipe σ2 vs = wipe σ vs ∧ tt σ2 H3 fun b H4 =>
      if b = true then tk σ2 H4 fun y H5 => tv σ2 H5 fun z H6 => ∃ kvs k, y = kV k ∧ H6 D = some (.dK kvs) ∧ kvs.length < sizeLine ∧ Pv (i + 1) (upd H6 D (.dK (putK kvs k z))) else Pv (i + 1) H4) (last : ∀ H2, Pv xs.length H2 → Qd H2) :
    ∃ W : Nat → Nat → Hp → Prop, (∃ m, W 0 m (upd H1 D (.dK []))) ∧ ∀ i m H2, W i m H2 →
      ((Itl K a).stop i H2 ∧ Qd H2) ∨ ((Itl K a).go i H2 ∧ ∃ Nx : Hp → Prop, (∀ H3, Nx H3 → ∃ m2, m2 < m ∧ W (i + 1) m2 H3) ∧ ∀ x H3, (Itl K a).yld i H2 x H3 → g x (wipe σ vs) H3 fun σ2 H4 => wipe σ2 vs = wipe σ vs ∧ tt σ2 H4 fun b H5 =>
        if b = true then tk σ2 H5 fun y H6 => tv σ2 H6 fun z H7 => ∃ kvs k, y = kV k ∧ H7 D = some (.dK kvs) ∧ kvs.length < sizeLine ∧ Nx (upd H7 D (.dK (putK kvs k z))) else Nx H5) := by
  refine ⟨fun i m H2 => m = xs.length - i ∧ i ≤ xs.length ∧ Pv i H2, ⟨xs.length, by omega, Nat.zero_le _, first⟩, ?_⟩
  rintro i m H2 ⟨rfl, hi, p⟩
  have q := keep i H2 p
  by_cases lt : i < xs.length
  · refine .inr ⟨⟨xs, xs[i], q, List.getElem?_eq_getElem lt⟩, Pv (i + 1), fun H3 p3 => ⟨xs.length - (i + 1), by omega, rfl, lt, p3⟩, fun x H3 y => ?_⟩
    obtain ⟨rfl, y⟩ := y
    exact round i x H3 (y xs q) p
  · obtain rfl : i = xs.length := by omega
    exact .inl ⟨⟨xs, q, Nat.le_refl _⟩, last H2 p⟩
end
end Tg

namespace Tg
open PySem L2
/-! ### rows: time, number, worth or none -/
abbrev Rw := Int × Int × Option Int
def Lt (x y : Rw) : Prop := x.1 < y.1 ∨ (x.1 = y.1 ∧ x.2.1 < y.2.1)
def Srt (rs : List Rw) : Prop := rs.Pairwise Lt
theorem Lt.irr (x : Rw) : ¬ Lt x x := fun h => by
  rcases h with h | h
  · omega
  · omega
theorem Srt.sub {rs : List Rw} (h : Srt rs) (p : Rw → Bool) : Srt (rs.filter p) := List.Pairwise.filter p h
/-- r is the last row of its time with a number up to n -/
def IsLast (rs : List Rw) (n : Int) (r : Rw) : Prop := r ∈ rs ∧ r.2.1 ≤ n ∧ ∀ q, q ∈ rs → q.1 = r.1 → q.2.1 ≤ n → q.2.1 ≤ r.2.1
theorem srt_tri {rs : List Rw} (h : Srt rs) {a b : Rw} (ha : a ∈ rs) (hb : b ∈ rs) : a = b ∨ Lt a b ∨ Lt b a := by
  induction rs with
  | nil => cases ha
  | cons x r ih =>
    have ⟨h1, h2⟩ := List.pairwise_cons.mp (show (x :: r).Pairwise Lt from h)
    rcases List.mem_cons.mp ha with e1 | a1
    · rcases List.mem_cons.mp hb with e2 | b1
      · exact .inl (e1.trans e2.symm)
      · rw [e1]
        exact .inr (.inl (h1 b b1))
    · rcases List.mem_cons.mp hb with e2 | b1
      · rw [e2]
        exact .inr (.inr (h1 a a1))
      · exact ih h2 a1 b1
theorem srt_same {rs : List Rw} (h : Srt rs) {a b : Rw} (ha : a ∈ rs) (hb : b ∈ rs) (e1 : a.1 = b.1) (e2 : a.2.1 = b.2.1) : a = b := by
  rcases srt_tri h ha hb with e | (e | e) | (e | e)
  · exact e
  · omega
  · omega
  · omega
  · omega
theorem last_uniq {rs : List Rw} (h : Srt rs) {n : Int} {a b : Rw} (ha : IsLast rs n a) (hb : IsLast rs n b) (e : a.1 = b.1) : a = b := by
  have h1 := ha.2.2 b hb.1 e.symm hb.2.1
  have h2 := hb.2.2 a ha.1 e ha.2.1
  exact srt_same h ha.1 hb.1 e (by omega)
theorem Srt.nodup {rs : List Rw} (h : Srt rs) : rs.Nodup := by
  unfold List.Nodup
  refine List.Pairwise.imp (fun {a b} (l : Lt a b) => ?_) h
  intro e
  rw [← e] at l
  exact Lt.irr a l
/-! ### tables by times -/
def putL {α : Type} (m : List (Int × α)) (t : Int) (a : α) : List (Int × α) := if (m.any fun p => decide (p.1 = t)) = true then m.map (fun p => if p.1 = t then (p.1, a) else p) else m ++ [(t, a)]
theorem mem_putL {α : Type} {m : List (Int × α)} {t : Int} {a : α} {p : Int × α} : p ∈ putL m t a ↔ p = (t, a) ∨ (p ∈ m ∧ ¬ p.1 = t) := by
  unfold putL
  by_cases c : (m.any fun p => decide (p.1 = t)) = true
  · rw [if_pos c]
    obtain ⟨q, hq, eq⟩ := List.any_eq_true.mp c
    have eq := of_decide_eq_true eq
    constructor
    · intro h
      obtain ⟨x, hx, e⟩ := List.mem_map.mp h
      by_cases d : x.1 = t
      · rw [if_pos d, d] at e
        exact .inl e.symm
      · rw [if_neg d] at e
        subst e
        exact .inr ⟨hx, d⟩
    · rintro (rfl | ⟨h1, h2⟩)
      · exact List.mem_map.mpr ⟨q, hq, by rw [if_pos eq, eq]⟩
      · exact List.mem_map.mpr ⟨p, h1, by rw [if_neg h2]⟩
  · rw [if_neg c]
    constructor
    · intro there
      rcases List.mem_append.mp there with old | new
      · exact .inr ⟨old, fun z => c (List.any_eq_true.mpr ⟨p, old, decide_eq_true z⟩)⟩
      · exact .inl (List.mem_singleton.mp new)
    · rintro (rfl | ⟨h1, h2⟩)
      · exact List.mem_append_right _ (List.mem_singleton.mpr rfl)
      · exact List.mem_append_left _ h1
theorem putL_keys {α : Type} {m : List (Int × α)} {t : Int} {a : α} (h : m.Pairwise fun x y => x.1 < y.1) (le : ∀ p, p ∈ m → p.1 ≤ t) : (putL m t a).Pairwise fun x y => x.1 < y.1 := by
  unfold putL
  by_cases c : (m.any fun p => decide (p.1 = t)) = true
  · rw [if_pos c, List.pairwise_map]
    refine h.imp fun {x y} l => ?_
    by_cases d : x.1 = t
    · by_cases e : y.1 = t
      · rw [if_pos d, if_pos e]
        exact l
      · rw [if_pos d, if_neg e]
        exact l
    · by_cases e : y.1 = t
      · rw [if_neg d, if_pos e]
        exact l
      · rw [if_neg d, if_neg e]
        exact l
  · rw [if_neg c, List.pairwise_append]
    refine ⟨h, List.pairwise_singleton _ _, fun x hx y hy => ?_⟩
    rw [List.mem_singleton.mp hy]
    have h1 := le x hx
    have h2 : ¬ x.1 = t := fun z => c (List.any_eq_true.mpr ⟨x, hx, decide_eq_true z⟩)
    show x.1 < t
    omega
theorem putL_len {α : Type} {m : List (Int × α)} {t : Int} {a : α} : (putL m t a).length ≤ m.length + 1 := by
  unfold putL
  split
  · rw [List.length_map]
    omega
  · rw [List.length_append]
    exact Nat.le_refl _
/-- of each time the last row up to a number -/
def lwR (rs : List Rw) (n : Int) : List (Int × Rw) := rs.foldl (fun m r => if r.2.1 ≤ n then putL m r.1 r else m) []
theorem lwR_snoc (rs : List Rw) (n : Int) (r : Rw) : lwR (rs ++ [r]) n = if r.2.1 ≤ n then putL (lwR rs n) r.1 r else lwR rs n := by
  unfold lwR
  rw [List.foldl_append]
  rfl
theorem lwR_len (rs : List Rw) (n : Int) : (lwR rs n).length ≤ rs.length := by
  obtain ⟨k, hk⟩ : ∃ k, rs.length = k := ⟨_, rfl⟩
  induction k generalizing rs with
  | zero =>
    rw [List.length_eq_zero_iff.mp hk]
    exact Nat.le_refl _
  | succ k ih =>
    rcases List.eq_nil_or_concat rs with rfl | ⟨q, x, e⟩
    · exact Nat.zero_le _
    · rw [List.concat_eq_append] at e
      subst e
      rw [List.length_append] at hk ⊢
      have i1 := ih q (by simp at hk; exact hk)
      rw [lwR_snoc]
      have := putL_len (m := lwR q n) (t := x.1) (a := x)
      show _ ≤ q.length + 1
      split <;> omega
theorem lwR_is {n : Int} (rs : List Rw) (h : Srt rs) : ((lwR rs n).Pairwise fun x y => x.1 < y.1) ∧ ∀ p : Int × Rw, p ∈ lwR rs n ↔ p.1 = p.2.1 ∧ IsLast rs n p.2 := by
  obtain ⟨k, hk⟩ : ∃ k, rs.length = k := ⟨_, rfl⟩
  induction k generalizing rs with
  | zero =>
    rw [List.length_eq_zero_iff.mp hk]
    exact ⟨.nil, fun p => ⟨(fun z => absurd z List.not_mem_nil), (fun z => absurd z.2.1 List.not_mem_nil)⟩⟩
  | succ k ih =>
    rcases List.eq_nil_or_concat rs with rfl | ⟨q, x, e⟩
    · exact ⟨.nil, fun p => ⟨(fun z => absurd z List.not_mem_nil), (fun z => absurd z.2.1 List.not_mem_nil)⟩⟩
    · rw [List.concat_eq_append] at e
      subst e
      rw [List.length_append] at hk
      obtain ⟨h1, _, h3⟩ := List.pairwise_append.mp h
      have hx : ∀ y, y ∈ q → Lt y x := fun y hy => h3 y hy x (List.mem_singleton.mpr rfl)
      obtain ⟨i1, i2⟩ := ih q h1 (by simp at hk; exact hk)
      rw [lwR_snoc]
      by_cases c : x.2.1 ≤ n
      · rw [if_pos c]
        constructor
        · refine putL_keys i1 fun p hp => ?_
          obtain ⟨e1, e2⟩ := (i2 p).mp hp
          rcases hx p.2 e2.1 with l | l <;> omega
        · intro p
          rw [mem_putL]
          constructor
          · rintro (rfl | ⟨h4, h5⟩)
            · refine ⟨rfl, List.mem_append_right _ (List.mem_singleton.mpr rfl), c, fun y hy e4 _ => ?_⟩
              rcases List.mem_append.mp hy with h | h
              · rcases hx y h with l | l
                · have e4' : y.1 = x.1 := e4
                  omega
                · show y.2.1 ≤ x.2.1
                  omega
              · rw [List.mem_singleton.mp h]
                exact Int.le_refl _
            · obtain ⟨e1, e2, e3, e4⟩ := (i2 p).mp h4
              refine ⟨e1, List.mem_append_left _ e2, e3, fun y hy e5 e6 => ?_⟩
              rcases List.mem_append.mp hy with h | h
              · exact e4 y h e5 e6
              · rw [List.mem_singleton.mp h] at e5
                omega
          · rintro ⟨e1, e2, e3, e4⟩
            rcases List.mem_append.mp e2 with h | h
            · by_cases d : p.1 = x.1
              · exfalso
                have := e4 x (List.mem_append_right _ (List.mem_singleton.mpr rfl)) (by omega) c
                rcases hx p.2 h with l | l <;> omega
              · exact .inr ⟨(i2 p).mpr ⟨e1, h, e3, fun y hy => e4 y (List.mem_append_left _ hy)⟩, d⟩
            · left
              have e := List.mem_singleton.mp h
              obtain ⟨p1, p2⟩ := p
              have e' : p2 = x := e
              rw [e'] at e1 ⊢
              exact congrArg (fun z => (z, x)) e1
      · rw [if_neg c]
        refine ⟨i1, fun p => ?_⟩
        rw [i2 p]
        constructor
        · rintro ⟨e1, e2, e3, e4⟩
          refine ⟨e1, List.mem_append_left _ e2, e3, fun y hy e5 e6 => ?_⟩
          rcases List.mem_append.mp hy with h | h
          · exact e4 y h e5 e6
          · rw [List.mem_singleton.mp h] at e6
            exact absurd e6 c
        · rintro ⟨e1, e2, e3, e4⟩
          rcases List.mem_append.mp e2 with h | h
          · exact ⟨e1, h, e3, fun y hy => e4 y (List.mem_append_left _ hy)⟩
          · rw [List.mem_singleton.mp h] at e3
            exact absurd e3 c
/-- there is a last one -/
theorem last_of {rs : List Rw} (h : Srt rs) {n t : Int} {l : Rw} (e : (rs.filter fun q => decide (q.1 = t ∧ q.2.1 ≤ n)).getLast? = some l) : IsLast rs n l ∧ l.1 = t := by
  have ml := List.mem_of_getLast? e
  obtain ⟨m1, m2⟩ := List.mem_filter.mp ml
  obtain ⟨m3, m4⟩ := of_decide_eq_true m2
  refine ⟨⟨m1, m4, fun q hq e1 e2 => ?_⟩, m3⟩
  have mq : q ∈ rs.filter fun q => decide (q.1 = t ∧ q.2.1 ≤ n) := List.mem_filter.mpr ⟨hq, decide_eq_true ⟨by omega, e2⟩⟩
  have hs := h.sub fun q => decide (q.1 = t ∧ q.2.1 ≤ n)
  revert e mq hs
  generalize rs.filter (fun q => decide (q.1 = t ∧ q.2.1 ≤ n)) = fs
  intro e mq hs
  rcases List.eq_nil_or_concat fs with rfl | ⟨g, x, eg⟩
  · cases mq
  · rw [List.concat_eq_append] at eg
    subst eg
    rw [List.getLast?_concat] at e
    cases e
    rcases List.mem_append.mp mq with hg | hg
    · rcases (List.pairwise_append.mp hs).2.2 q hg l (List.mem_singleton.mpr rfl) with z | z <;> omega
    · rw [List.mem_singleton.mp hg]
      exact Int.le_refl _
theorem last_there {rs : List Rw} (h : Srt rs) {n : Int} {r : Rw} (hr : r ∈ rs) (hn : r.2.1 ≤ n) : ∃ l, IsLast rs n l ∧ l.1 = r.1 := by
  cases e : (rs.filter fun q => decide (q.1 = r.1 ∧ q.2.1 ≤ n)).getLast? with
  | some l => exact ⟨l, last_of h e⟩
  | none =>
    rw [List.getLast?_eq_none_iff] at e
    have : r ∈ rs.filter fun q => decide (q.1 = r.1 ∧ q.2.1 ≤ n) := List.mem_filter.mpr ⟨hr, decide_eq_true ⟨rfl, hn⟩⟩
    rw [e] at this
    cases this
/-! ### rising lists are told by their members -/
theorem ext_sorted {α : Type} {lt : α → α → Prop} (irr : ∀ a, ¬ lt a a) (tr : ∀ a b c, lt a b → lt b c → lt a c) : ∀ {xs ys : List α}, xs.Pairwise lt → ys.Pairwise lt → (∀ a, a ∈ xs ↔ a ∈ ys) → xs = ys
  | [], [], _, _, _ => rfl
  | [], y :: ys, _, _, h => nomatch (h y).mpr List.mem_cons_self
  | x :: xs, [], _, _, h => nomatch (h x).mp List.mem_cons_self
  | x :: xs, y :: ys, h1, h2, h => by
    obtain ⟨a1, a2⟩ := List.pairwise_cons.mp h1
    obtain ⟨b1, b2⟩ := List.pairwise_cons.mp h2
    have e : x = y := by
      rcases List.mem_cons.mp ((h x).mp List.mem_cons_self) with z | z
      · exact z
      · rcases List.mem_cons.mp ((h y).mpr List.mem_cons_self) with u | u
        · exact u.symm
        · exact absurd (tr _ _ _ (a1 y u) (b1 x z)) (irr x)
    subst e
    refine congrArg (x :: ·) (ext_sorted irr tr a2 b2 fun a => ?_)
    constructor
    · intro ha
      rcases List.mem_cons.mp ((h a).mp (List.mem_cons_of_mem _ ha)) with z | z
      · rw [z] at ha
        exact absurd (a1 x ha) (irr x)
      · exact z
    · intro ha
      rcases List.mem_cons.mp ((h a).mpr (List.mem_cons_of_mem _ ha)) with z | z
      · rw [z] at ha
        exact absurd (b1 x ha) (irr x)
      · exact z
/-! ### what is known -/
def kn (rs : List Rw) (n : Int) : List (Int × Int) := (lwR rs n).filterMap fun p => p.2.2.2.map fun w => (p.1, w)
theorem mem_kn {rs : List Rw} (h : Srt rs) {n : Int} {x : Int × Int} : x ∈ kn rs n ↔ ∃ r, IsLast rs n r ∧ r.1 = x.1 ∧ r.2.2 = some x.2 := by
  unfold kn
  rw [List.mem_filterMap]
  constructor
  · rintro ⟨p, hp, e⟩
    obtain ⟨e1, e2⟩ := ((lwR_is rs h).2 p).mp hp
    obtain ⟨w, e3, rfl⟩ := Option.map_eq_some_iff.mp e
    exact ⟨p.2, e2, e1.symm, e3⟩
  · rintro ⟨r, h1, h2, h3⟩
    refine ⟨(r.1, r), ((lwR_is rs h).2 _).mpr ⟨rfl, h1⟩, ?_⟩
    rw [h3, h2]
    rfl
theorem kn_srt {rs : List Rw} (h : Srt rs) (n : Int) : (kn rs n).Pairwise fun x y => x.1 < y.1 := by
  unfold kn
  rw [List.pairwise_filterMap]
  refine (lwR_is rs h).1.imp fun {a b} l x hx y hy => ?_
  obtain ⟨w, _, rfl⟩ := Option.map_eq_some_iff.mp hx
  obtain ⟨u, _, rfl⟩ := Option.map_eq_some_iff.mp hy
  exact l
theorem kn_len (rs : List Rw) (n : Int) : (kn rs n).length ≤ rs.length := Nat.le_trans (List.length_filterMap_le _ _) (lwR_len rs n)
theorem kn_ext {rs qs : List Rw} (h1 : Srt rs) (h2 : Srt qs) {n m : Int} (h : ∀ r, r.2.2 ≠ none → (IsLast rs n r ↔ IsLast qs m r)) : kn rs n = kn qs m := by
  refine ext_sorted (lt := fun x y => x.1 < y.1) (fun a => Int.lt_irrefl _) (fun a b c => Int.lt_trans) (kn_srt h1 n) (kn_srt h2 m) fun x => ?_
  rw [mem_kn h1, mem_kn h2]
  constructor
  · rintro ⟨r, a, b, c⟩
    exact ⟨r, (h r (by rw [c]; simp)).mp a, b, c⟩
  · rintro ⟨r, a, b, c⟩
    exact ⟨r, (h r (by rw [c]; simp)).mpr a, b, c⟩
/-! ### what is needed -/
instance (rs : List Rw) (n : Int) (r : Rw) : Decidable (IsLast rs n r) := by
  unfold IsLast
  exact inferInstance
def Need (rs : List Rw) (n : Int) (r : Rw) : Prop := n < r.2.1 ∨ (IsLast rs n r ∧ ¬ r.2.2 = none)
instance (rs : List Rw) (n : Int) (r : Rw) : Decidable (Need rs n r) := by
  unfold Need
  exact inferInstance
def fl (rs : List Rw) (n : Int) (r : Rw) : Bool := decide (Need rs n r)
def thin (rs : List Rw) (n : Int) : List Rw := rs.filter (fl rs n)
def ndl (rs : List Rw) (n : Int) : List Rw := rs.filter fun r => !fl rs n r
theorem thin_known {rs : List Rw} (h : Srt rs) {n m : Int} (le : n ≤ m) : kn (thin rs n) m = kn rs m := by
  refine kn_ext (h.sub _) h fun r hr => ?_
  constructor
  · rintro ⟨a1, a2, a3⟩
    obtain ⟨b1, b2⟩ := List.mem_filter.mp a1
    have b3 : Need rs n r := of_decide_eq_true b2
    refine ⟨b1, a2, fun q hq e1 e2 => ?_⟩
    by_cases c : n < q.2.1
    · exact a3 q (List.mem_filter.mpr ⟨hq, decide_eq_true (.inl c)⟩) e1 e2
    · rcases b3 with z | z
      · omega
      · exact z.1.2.2 q hq e1 (by omega)
  · rintro ⟨a1, a2, a3⟩
    refine ⟨List.mem_filter.mpr ⟨a1, decide_eq_true ?_⟩, a2, fun q hq e1 e2 => a3 q (List.mem_filter.mp hq).1 e1 e2⟩
    by_cases c : n < r.2.1
    · exact .inl c
    · exact .inr ⟨⟨a1, by omega, fun q hq e1 e2 => a3 q hq e1 (by omega)⟩, hr⟩
/-- a row left out is missed -/
theorem missed {rs : List Rw} (h : Srt rs) {n : Int} {row : Rw} (hm : row ∈ thin rs n) (hw : ¬ row.2.2 = none) {b : Int} (eb : b = max n row.2.1)
    (he : (((thin rs n).filter fun q => !decide (q = row)).filter fun q => decide (q.1 = row.1 ∧ q.2.1 ≤ b)).getLast?.map (·.2.2) ≠ some row.2.2) :
    kn ((thin rs n).filter fun q => !decide (q = row)) b ≠ kn (thin rs n) b := fun z => by
  have hl : Srt (thin rs n) := h.sub _
  have hf : Srt ((thin rs n).filter fun q => !decide (q = row)) := hl.sub _
  obtain ⟨w, ew⟩ : ∃ w, row.2.2 = some w := by
    cases e : row.2.2 with
    | none => exact absurd e hw
    | some w => exact ⟨w, rfl⟩
  have last : IsLast (thin rs n) b row := by
    refine ⟨hm, by omega, fun q hq e1 e2 => ?_⟩
    obtain ⟨m1, m2⟩ := List.mem_filter.mp hm
    have nd : Need rs n row := of_decide_eq_true m2
    rcases nd with c | c
    · omega
    · have := c.1.2.1
      exact c.1.2.2 q (List.mem_filter.mp hq).1 e1 (by omega)
  have m1 : (row.1, w) ∈ kn (thin rs n) b := (mem_kn hl).mpr ⟨row, last, rfl, ew⟩
  rw [← z, mem_kn hf] at m1
  obtain ⟨r, r1, r2, r3⟩ := m1
  cases e : (((thin rs n).filter fun q => !decide (q = row)).filter fun q => decide (q.1 = row.1 ∧ q.2.1 ≤ b)).getLast? with
  | none =>
    rw [List.getLast?_eq_none_iff] at e
    have : r ∈ ((thin rs n).filter fun q => !decide (q = row)).filter fun q => decide (q.1 = row.1 ∧ q.2.1 ≤ b) := List.mem_filter.mpr ⟨r1.1, decide_eq_true ⟨r2, r1.2.1⟩⟩
    rw [e] at this
    cases this
  | some l =>
    obtain ⟨l1, l2⟩ := last_of hf e
    have el := last_uniq hf r1 l1 (by rw [l2]; exact r2)
    refine he ?_
    rw [e, ← el, ew]
    exact congrArg some r3
/-! ### the tables as dicts -/
def lwV (f : Rw → V) (rs : List Rw) (n : Int) : List (Key × V) := rs.foldl (fun m r => if r.2.1 ≤ n then putK m (Sum.inl r.1) (f r) else m) []
theorem lwV_snoc (f : Rw → V) (rs : List Rw) (n : Int) (r : Rw) : lwV f (rs ++ [r]) n = if r.2.1 ≤ n then putK (lwV f rs n) (Sum.inl r.1) (f r) else lwV f rs n := by
  unfold lwV
  rw [List.foldl_append]
  rfl
theorem putK_map (f : Rw → V) (m : List (Int × Rw)) (t : Int) (r : Rw) : putK (m.map fun p => ((Sum.inl p.1 : Key), f p.2)) (Sum.inl t) (f r) = (putL m t r).map fun p => ((Sum.inl p.1 : Key), f p.2) := by
  unfold putK putL
  have e : ((m.map fun p => ((Sum.inl p.1 : Key), f p.2)).any fun kv => decide (kv.1 = Sum.inl t)) = m.any fun p => decide (p.1 = t) := by
    rw [List.any_map]
    refine List.any_congr rfl fun p => ?_
    simp only [Function.comp_apply, Sum.inl.injEq]
  rw [e]
  by_cases c : (m.any fun p => decide (p.1 = t)) = true
  · rw [if_pos c, if_pos c, List.map_map, List.map_map]
    refine List.map_congr_left fun p _ => ?_
    simp only [Function.comp_apply]
    by_cases d : p.1 = t
    · rw [if_pos (congrArg Sum.inl d), if_pos d]
    · rw [if_neg (fun z => d (Sum.inl.inj z)), if_neg d]
  · rw [if_neg c, if_neg c, List.map_append]
    rfl
theorem lwV_eq (f : Rw → V) (rs : List Rw) (n : Int) : lwV f rs n = (lwR rs n).map fun p => ((Sum.inl p.1 : Key), f p.2) := by
  obtain ⟨k, hk⟩ : ∃ k, rs.length = k := ⟨_, rfl⟩
  induction k generalizing rs with
  | zero =>
    rw [List.length_eq_zero_iff.mp hk]
    rfl
  | succ k ih =>
    rcases List.eq_nil_or_concat rs with rfl | ⟨q, x, e⟩
    · rfl
    · rw [List.concat_eq_append] at e
      subst e
      rw [List.length_append] at hk
      have i1 := ih q (by simp at hk; exact hk)
      rw [lwV_snoc, lwR_snoc, i1]
      by_cases c : x.2.1 ≤ n
      · rw [if_pos c, if_pos c, putK_map]
      · rw [if_neg c, if_neg c]
theorem lwV_len (f : Rw → V) (rs : List Rw) (n : Int) : (lwV f rs n).length ≤ rs.length := by
  rw [lwV_eq, List.length_map]
  exact lwR_len rs n
theorem valV_of {f : Rw → V} : ∀ {m : List (Int × Rw)} {p : Int × Rw}, (m.Pairwise fun x y => x.1 < y.1) → p ∈ m → valV (m.map fun p => ((Sum.inl p.1 : Key), f p.2)) (Sum.inl p.1) = some (f p.2)
  | [], p, _, h => nomatch h
  | q :: m, p, .cons h1 h2, there => by
    rcases List.mem_cons.mp there with rfl | h
    · exact valV_pos rfl
    · rw [List.map_cons, valV_neg (fun z => by
        have := h1 p h
        have : q.1 = p.1 := Sum.inl.inj z
        omega)]
      exact valV_of h2 h
theorem lwV_last {f : Rw → V} {rs : List Rw} (h : Srt rs) {n : Int} {r : Rw} (hl : IsLast rs n r) : valV (lwV f rs n) (Sum.inl r.1 : Key) = some (f r) := by
  rw [lwV_eq]
  exact valV_of (p := (r.1, r)) (lwR_is rs h).1 (((lwR_is rs h).2 _).mpr ⟨rfl, hl⟩)
/-- the values of a list of unlike rows, as a function -/
theorem val_fun : ∀ (rs : List Rw) (xs : List V), rs.Nodup → ∃ f : Rw → V, ∀ (i : Nat) (r : Rw) (v : V), rs[i]? = some r → xs[i]? = some v → f r = v
  | [], xs, _ => ⟨fun _ => .non, fun i r v h => by simp at h⟩
  | r0 :: rs, [], _ => ⟨fun _ => .non, fun i r v _ h => by simp at h⟩
  | r0 :: rs, x :: xs, nd => by
    have n1 := (List.nodup_cons.mp nd).1
    obtain ⟨f, hf⟩ := val_fun rs xs (List.nodup_cons.mp nd).2
    refine ⟨fun r => if r = r0 then x else f r, fun i r v h1 h2 => ?_⟩
    cases i with
    | zero =>
      simp only [List.getElem?_cons_zero, Option.some.injEq] at h1 h2
      show (if r = r0 then x else f r) = v
      rw [if_pos h1.symm, h2]
    | succ i =>
      rw [List.getElem?_cons_succ] at h1 h2
      have ne : ¬ r = r0 := fun z => n1 (z ▸ List.mem_of_getElem? h1)
      show (if r = r0 then x else f r) = v
      rw [if_neg ne]
      exact hf i r v h1 h2
end Tg

namespace Tg
open PySem PySem.Spec PyProof.Rows L2
/-! ### rows and points as data -/
def dw : Option Int → PyData
  | none => .none
  | some i => .int i
def vw : Option Int → V
  | none => .non
  | some i => .int i
theorem dp_vw {K : PySem.W.Frag} {H : Hp} : ∀ o : Option Int, Dp K H (vw o) (dw o)
  | none => .non
  | some i => .int i
theorem dp_dw {K : PySem.W.Frag} {H : Hp} {v : V} : ∀ {o : Option Int}, Dp K H v (dw o) → v = vw o
  | none, h => by
    cases h
    rfl
  | some i, h => by
    cases h
    rfl
theorem vw_non (o : Option Int) : decide (vw o = .non) = o.isNone := by
  cases o with
  | none => rfl
  | some i => rfl
theorem td_dw : ∀ o : Option Int, TD (dw o)
  | none => .non
  | some i => .int i
theorem eq_dw (a b : Option Int) : PyData.eqv (dw a) (dw b) = decide (a = b) := by
  cases a with
  | none =>
    cases b with
    | none => rfl
    | some j => rfl
  | some i =>
    cases b with
    | none => rfl
    | some j =>
      show (i == j) = _
      by_cases c : i = j
      · rw [c, beq_self_eq_true, decide_eq_true rfl]
      · rw [beq_eq_false_iff_ne.mpr c, decide_eq_false fun z => c (Option.some.inj z)]
def rd (r : Rw) : PyData := .tuple [.int r.1, .int r.2.1, dw r.2.2]
def pd (x : Int × Int) : PyData := .tuple [.int x.1, .int x.2]
theorem td_rd (r : Rw) : TD (rd r) := .tup fun d hd => by
  simp only [List.mem_cons, List.not_mem_nil, or_false] at hd
  rcases hd with rfl | rfl | rfl
  · exact .int _
  · exact .int _
  · exact td_dw _
theorem td_rds (rs : List Rw) : ∀ d, d ∈ rs.map rd → TD d := fun d hd => by
  obtain ⟨x, _, rfl⟩ := List.mem_map.mp hd
  exact td_rd x
theorem td_pd (x : Int × Int) : TD (pd x) := .tup fun d hd => by
  simp only [List.mem_cons, List.not_mem_nil, or_false] at hd
  rcases hd with rfl | rfl
  · exact .int _
  · exact .int _
theorem td_pds (ps : List (Int × Int)) : ∀ d, d ∈ ps.map pd → TD d := fun d hd => by
  obtain ⟨x, _, rfl⟩ := List.mem_map.mp hd
  exact td_pd x
theorem dp_rd {K : PySem.W.Frag} {H : Hp} {v : V} {r : Rw} (h : Dp K H v (rd r)) : ∃ a, v = .ref a ∧ SqT K H a [.int r.1, .int r.2.1, vw r.2.2] := by
  cases h with
  | tup a b =>
    cases b with
    | cons h1 b =>
      cases b with
      | cons h2 b =>
        cases b with
        | cons h3 b =>
          cases b
          cases h1
          cases h2
          rw [dp_dw h3] at a
          exact ⟨_, rfl, a⟩
theorem rd_new {K : PySem.W.Frag} {H : Hp} {a : Addr} {r : Rw} (h : SqT K H a [.int r.1, .int r.2.1, vw r.2.2]) : Dp K H (.ref a) (rd r) := .tup h (.cons (.int _) (.cons (.int _) (.cons (dp_vw _) .nil)))
theorem pd_new {K : PySem.W.Frag} {H : Hp} {a : Addr} {x : Int × Int} (h : H a = some (.tup [.int x.1, .int x.2])) : Dp K H (.ref a) (pd x) := .tup (SqT.of h) (.cons (.int _) (.cons (.int _) .nil))
theorem lay_dw : ∀ o : Option Int, (dw o).canLay0 = true
  | none => rfl
  | some i => rfl
theorem dep_dw : ∀ o : Option Int, (dw o).depth = 0
  | none => rfl
  | some i => rfl
theorem lay_rd (r : Rw) : (rd r).canLay0 = true := by
  show (true && (true && ((dw r.2.2).canLay0 && true))) = true
  rw [lay_dw]
  rfl
theorem dep_rd (r : Rw) : (rd r).depth = 1 := by
  show max 0 (max 0 (max (dw r.2.2).depth 0)) + 1 = 1
  rw [dep_dw]
  rfl
theorem eq_rd (a b : Rw) : PyData.eqv (rd a) (rd b) = decide (a = b) := by
  show ((a.1 == b.1) && ((a.2.1 == b.2.1) && (PyData.eqv (dw a.2.2) (dw b.2.2) && true))) = _
  rw [eq_dw]
  by_cases c : a = b
  · subst c
    rw [beq_self_eq_true, beq_self_eq_true, decide_eq_true rfl, decide_eq_true rfl]
    rfl
  · rw [decide_eq_false c]
    by_cases c1 : a.1 = b.1
    · by_cases c2 : a.2.1 = b.2.1
      · by_cases c3 : a.2.2 = b.2.2
        · exact absurd (Prod.ext c1 (Prod.ext c2 c3)) c
        · rw [decide_eq_false c3]
          simp
      · rw [beq_eq_false_iff_ne.mpr c2]
        simp
    · rw [beq_eq_false_iff_ne.mpr c1]
      rfl
/-- lists of things of such a form -/
theorem form_all {α : Type} {f : α → PyData} (h1 : ∀ x, (f x).canLay0 = true) (h2 : ∀ x, (f x).depth ≤ 1) (h3 : ∀ x, PyData.eqv (f x) (f x) = true) (xs : List α) :
    PyData.canLayAll0 (xs.map f) = true ∧ PyData.depthAll (xs.map f) ≤ 1 ∧ PyData.eqvAll (xs.map f) (xs.map f) = true := by
  induction xs with
  | nil => exact ⟨rfl, Nat.zero_le _, rfl⟩
  | cons x r ih =>
    obtain ⟨i1, i2, i3⟩ := ih
    refine ⟨?_, ?_, ?_⟩
    · show ((f x).canLay0 && PyData.canLayAll0 (r.map f)) = true
      rw [h1, i1]
      rfl
    · show max (f x).depth (PyData.depthAll (r.map f)) ≤ 1
      have := h2 x
      omega
    · show (PyData.eqv (f x) (f x) && PyData.eqvAll (r.map f) (r.map f)) = true
      rw [h3, i3]
      rfl
theorem form_list {α : Type} {f : α → PyData} (h1 : ∀ x, (f x).canLay0 = true) (h2 : ∀ x, (f x).depth ≤ 1) (h3 : ∀ x, PyData.eqv (f x) (f x) = true) (xs : List α) : SeqAt.shaped (.list (xs.map f)) = true ∧ PyData.eqv (.list (xs.map f)) (.list (xs.map f)) = true := by
  obtain ⟨a, b, c⟩ := form_all h1 h2 h3 xs
  refine ⟨shaped_of a ?_, c⟩
  show PyData.depthAll (xs.map f) + 1 ≤ 64
  omega
theorem ref_rd (r : Rw) : PyData.eqv (rd r) (rd r) = true := by
  rw [eq_rd]
  exact decide_eq_true rfl
theorem rds_form (rs : List Rw) : SeqAt.shaped (.list (rs.map rd)) = true ∧ PyData.eqv (.list (rs.map rd)) (.list (rs.map rd)) = true := form_list lay_rd (fun r => Nat.le_of_eq (dep_rd r)) ref_rd rs
theorem ref_pd (x : Int × Int) : PyData.eqv (pd x) (pd x) = true := by
  show ((x.1 == x.1) && ((x.2 == x.2) && true)) = true
  rw [beq_self_eq_true, beq_self_eq_true]
  rfl
theorem pds_form (ps : List (Int × Int)) : SeqAt.shaped (.list (ps.map pd)) = true ∧ PyData.eqv (.list (ps.map pd)) (.list (ps.map pd)) = true := form_list (f := pd) (fun _ => rfl) (fun _ => Nat.le_refl 1) ref_pd ps
theorem sh_rd (r : Rw) : SeqAt.shaped (rd r) = true := shaped_of (lay_rd r) (by rw [dep_rd]; decide)
theorem dl_at {α : Type} {f : α → PyData} {K : PySem.W.Frag} {H : Hp} {xs : List V} {ps : List α} (h : DpAll K H xs (ps.map f)) {i : Nat} {v : V} (e : xs[i]? = some v) : ∃ x, ps[i]? = some x ∧ Dp K H v (f x) := by
  obtain ⟨d, h1, h2⟩ := dpAll_at h i v e
  rw [List.getElem?_map] at h1
  obtain ⟨x, h3, rfl⟩ := Option.map_eq_some_iff.mp h1
  exact ⟨x, h3, h2⟩
theorem dl_get {α : Type} {f : α → PyData} {K : PySem.W.Frag} {H : Hp} {xs : List V} {ps : List α} (h : DpAll K H xs (ps.map f)) {i : Nat} {x : α} (e : ps[i]? = some x) : ∃ v, xs[i]? = some v ∧ Dp K H v (f x) := dpAll_tk h i (f x) (by rw [List.getElem?_map, e]; rfl)
theorem dl_len {α : Type} {f : α → PyData} {K : PySem.W.Frag} {H : Hp} {xs : List V} {ps : List α} (h : DpAll K H xs (ps.map f)) : xs.length = ps.length := by
  have := dpAll_len h
  rw [List.length_map] at this
  exact this
theorem nodup_len {α : Type} [DecidableEq α] : ∀ {rs L : List α}, rs.Nodup → (∀ r, r ∈ rs → r ∈ L) → rs.length ≤ L.length
  | [], L, _, _ => Nat.zero_le _
  | r :: rs, L, nd, h => by
    have n1 := (List.nodup_cons.mp nd).1
    have n2 := (List.nodup_cons.mp nd).2
    have hr : r ∈ L := h r List.mem_cons_self
    have i := nodup_len (rs := rs) (L := L.erase r) n2 fun q hq => (List.mem_erase_of_ne (fun z : q = r => n1 (by rw [← z]; exact hq))).mpr (h q (List.mem_cons_of_mem _ hq))
    rw [List.length_erase_of_mem hr] at i
    have := List.length_pos_of_mem hr
    show rs.length + 1 ≤ L.length
    omega
theorem take_snoc {α : Type} {L : List α} {i : Nat} {x : α} (h : L[i]? = some x) : L.take (i + 1) = L.take i ++ [x] := by
  rw [List.take_add_one, h]
  rfl
end Tg

namespace Tg
open PySem PySem.Spec PyProof.Rows L2
/-! ### set(xs), xs a list of ints; sorted of it -/
section
variable {w : World} {P : Program} {s : Shared} {A : Around} {E : Value → Shared → Prop}
/-- a set without members, as it is laid -/
def emp (w : World) : Obj := { cls := .type "set", dict := none, data := .set #[] 0 (.fresh 0 0 (!w.params.followText "set-order")) }
/-- what has to come of it -/
def Came (w : World) (s : Shared) (ns : List Int) (h' : Heap) (c : Nat) : Prop := SetR w h' s.heap.objs.size (fun j => decide (j ∈ ns)) c ∧ c ≤ ns.length ∧ ∀ b o, s.heap.get? b = some o → h'.get? b = some o
theorem isl_plain {l : Addr} {items : Array Value} {hp : Heap} (h : hp.IsList l items) : ∃ o, hp.get? l = some o ∧ o.cls = .type "list" ∧ ∃ n, o.data = .seq items n := by
  exact h
set_option maxHeartbeats 3200000 in
theorem call_setL {l : Addr} {items : Array Value} (ns : List Int) {Q : Value → Shared → Prop} (calm : A.handled = none) (hl : s.heap.IsList l items) (are : IntsAre items.toList ns) (few : ns.length + 1 < scanBound)
    (out : ∀ (h' : Heap) (tk c : Nat), Came w s ns h' c → Q (.ref s.heap.objs.size) { s with heap := h', toks := tk }) : wpAny (model P w) A (call (.type "set") [.ref l]) Q E s := by
  have many : items.size = ns.length := by
    have z := IntsAre.length are
    rwa [Array.length_toList] at z
  obtain ⟨cc, rest, line⟩ := F.called_set.mro
  have f1 := F.called_set.made
  have f2 := F.called_set.sub
  refine wpAny_call (codeAny_of_tree (show wpAny _ _ (callAny (.type "set") _) _ _ _ from wpAny_pure ⟨Code.quiet_builtin _ (by decide +kernel), codeAny_builtin F.entry_type_call ?_⟩))
  rw [Around.under_plain (weight_type_call_type "set" [.ref l] []) rfl]; have f3 := F.called_set.notType
  have f4 := F.called_set.canCreate
  have f5 := F.typeCall_set_1 (.ref l); repeat (any_goals (first | assumption | wp_step))
  refine codeAny_mono (code_set_led1 (.ref l) (E := E) (Q₁ := fun obj s₁ => obj = .ref s.heap.objs.size ∧ s₁ = { s with heap := s.heap.push (emp w) }) ⟨rfl, rfl⟩) fun r s₁ hr => ?_
  match r, hr with
  | .error e, hr => exact hr
  | .ok .next, hr => exact hr.elim
  | .ok .brk, hr => exact hr.elim
  | .ok .cont, hr => exact hr.elim
  | .ok (.ret obj), ⟨eo, es⟩ =>
    subst eo
    subst es
    have at0 : (s.heap.push (emp w)).get? s.heap.objs.size = some (emp w) := Heap.get?_push_size _ rfl
    have ty0 : Shared.TypeIs { s with heap := s.heap.push (emp w) } (.ref s.heap.objs.size) "set" := ⟨_, at0, rfl⟩
    have f6 := F.called_set.init.lookup
    have f7 := F.called_set.init.bind (.ref s.heap.objs.size); repeat (any_goals (first | assumption | wp_step))
    refine codeAny_mono (codeAny_call_builtin (R := wants (fun r s₂ => r = .none ∧ ∃ h' tk c, s₂ = { s with heap := h', toks := tk } ∧ Came w s ns h' c) E) F.called_set.init.plain F.entry_set_init (check_set_init_1 ty0 ?_)) fun r₂ s₂ hr₂ => ?_
    · obtain ⟨⟨ocls, odict, odata, oslots⟩, hol, hcl, nl, hdl⟩ := isl_plain hl
      simp only at hcl hdl
      subst hcl
      subst hdl
      have below : l < s.heap.objs.size := Heap.lt_size hol
      have at1 : (s.heap.push (emp w)).get? l = some { cls := .type "list", dict := odict, data := .seq items nl, slots := oslots } := Heap.get?_push_of_some _ hol
      have g1 := F.sub_list_set
      have g2 := F.sub_list_frozenset
      have g3 : (Value.type "list" == Value.type "dict") = false := by decide
      have hl1 : (s.heap.push (emp w)).IsList l items := hl.push _
      unfold Builtin.«set.__init__» noKeywords Builtin.Frozenset.updateFrom; generalize hPI : pyIter = PI
      wp_walk
      subst hPI
      refine wpAny_pyIter_list hl1 (wpAny_bind (wpAny_runValue ?_))
      have hh3 : A.in1.in1.in1.handled = none := by simp [calm]
      have apart : l ≠ (s.heap.push (emp w)).objs.size := by
        rw [Heap.size_push]
        exact Nat.ne_of_lt (Nat.lt_succ_of_lt below)
      have off : s.heap.objs.size ∉ [(s.heap.push (emp w)).objs.size, l] := by
        rw [Heap.size_push]
        simp only [List.mem_cons, List.mem_singleton, List.not_mem_nil, or_false, not_or]
        exact ⟨Nat.ne_of_lt (Nat.lt_succ_self _), Nat.ne_of_gt below⟩
      have vals : ∀ (i : Nat) (v : Value), items[i]? = some v → ∃ k t, ns[i]? = some k ∧ v = .int k t := fun i v hv => by
        have hi : i < ns.length := many ▸ (Array.getElem?_eq_some_iff.mp hv).1
        obtain ⟨t, e⟩ := PyProof.Rows.IntsAre.int_at are i v (by rw [Array.getElem?_toList]; exact hv)
        rw [List.getD_eq_getElem?_getD, List.getElem?_eq_getElem hi] at e
        exact ⟨ns[i], t, List.getElem?_eq_getElem hi, e⟩
      refine set_update_ints ((Walks.list hh3 _ l apart items).toS) s.heap.objs.size off ns many few vals (items.size - 0) 0 _ (by omega) (Nat.zero_le _) ⟨⟨_, Heap.get?_push_size _ rfl, rfl, rfl⟩, hl1.push _⟩ ?_ ?_
      · exact ⟨0, Nat.le_refl 0, setR_new_at (Heap.get?_push_of_some _ at0)⟩
      · intro s' c' hm hc' hS'
        obtain ⟨h', g2', d', tk', os'⟩ := s'
        obtain rfl : g2' = s.gens := hm.gens
        obtain rfl : d' = s.drawn := hm.drawn
        obtain rfl : os' = s.os := hm.os
        show wpAny _ _ _ _ _ _
        refine wpAny_pure (show wpAny _ _ (ret Value.none) _ _ _ from wpAny_pure ⟨rfl, h', tk', c', rfl, hS', many ▸ hc', fun b o e => ?_⟩)
        have lt := Heap.lt_size e
        refine hm.heap b o ?_ (Heap.get?_push_of_some _ (Heap.get?_push_of_some _ e))
        simp only [List.mem_cons, List.mem_singleton, List.not_mem_nil, or_false, not_or]
        rw [Heap.size_push]
        exact ⟨Nat.ne_of_lt lt, Nat.ne_of_lt (Nat.lt_succ_of_lt lt)⟩
    · match r₂, hr₂ with
      | .error e, hr₂ => exact hr₂
      | .ok .next, hr₂ => exact hr₂.elim
      | .ok .brk, hr₂ => exact hr₂.elim
      | .ok .cont, hr₂ => exact hr₂.elim
      | .ok (.ret r), ⟨e1, h', tk, c', e2, come⟩ =>
        subst e1
        subst e2; repeat (any_goals (first | assumption | wp_step))
        exact out _ _ _ come
end
section
variable {X : Cx}
theorem few_of : ∀ {rs L : List Int}, rs.Nodup → (∀ r, r ∈ rs → r ∈ L) → rs.length ≤ L.length
  | [], L, _, _ => Nat.zero_le _
  | r :: rs, L, nd, h => by
    have n1 := (List.nodup_cons.mp nd).1
    have hr : r ∈ L := h r List.mem_cons_self
    have i := few_of (rs := rs) (L := L.erase r) (List.nodup_cons.mp nd).2 fun q hq => (List.mem_erase_of_ne (fun z : q = r => n1 (by rw [← z]; exact hq))).mpr (h q (List.mem_cons_of_mem _ hq))
    rw [List.length_erase_of_mem hr] at i
    have := List.length_pos_of_mem hr
    show rs.length + 1 ≤ L.length
    omega
/-- a set has no more members than any list that has them -/
theorem setR_few {w : World} {h : Heap} {a : Addr} {S : Int → Bool} {n : Nat} (R : SetR w h a S n) {L : List Int} (all : ∀ k, S k = true → k ∈ L) : n ≤ L.length := by
  obtain ⟨o, es, ep, t, _, _, _, _, nd, mem, _, _, size, _⟩ := R
  have z := few_of nd fun r hr => all r ((mem r).mpr hr)
  rw [List.length_map, Array.length_toList, size] at z
  exact z
/-- set(xs) -/
def rSetL (K : PySem.W.Frag) (w : World) : List V → Hp → VK → Prop := fun vs H Q => ∃ (l : Addr) (ns : List Int), vs = [V.ref l] ∧ SqL K H l (ns.map V.int) ∧ ns.length ≤ 1000 ∧ ∀ (a : Addr) (c : Nat), H a = none → (∀ L : List Int, (∀ k, k ∈ ns → k ∈ L) → c ≤ L.length) → Q (.ref a) (upd H a (SetO w a (fun j => decide (j ∈ ns)) c))
theorem cr_setL (hc : X.calm = true) : CallR X (.type "set") (rSetL X.K X.w) := by
  intro pins s σ H vs us Q I r want
  obtain ⟨l, ns, rfl, hl, few, q⟩ := want
  rw [Vals.ref1 r]
  obtain ⟨its, rv, isl, _⟩ := I.list hl
  refine call_setL ns (I.ok.hd hc) isl.isList ?_ (by unfold scanBound; omega) fun h' tk c come => ?_
  · exact intsAre_of rv
  · obtain ⟨R, le, kp⟩ := come
    exact ⟨.ref s.heap.objs.size, _, I.laid (t' := tk) kp (Nat.le_refl _) (setO_new R), rfl, q _ c (I.hok.fresh (Nat.le_refl _)) fun L hL => setR_few R fun k hk => hL k (of_decide_eq_true hk)⟩
end
end Tg

namespace Tg
open PySem PySem.Spec PyProof.Rows L2
/-! ### sorted of a set of numbers, however many (the library's own rule ends at 63) -/
/-- a set's members, handed out in some order: whole numbers, the set's keys -/
theorem keys_out {es : Array (Int × Value)} {vs : List Value} (good : ∀ e ∈ es.toList, GoodE e) (pm : vs.Perm (es.toList.map (·.2))) :
    IntsAre vs (vs.map Builtin.Re.reRawOf) ∧ (vs.map Builtin.Re.reRawOf).Perm (es.toList.map keyOf) := by
  refine ⟨ints_of vs fun v hv => ?_, ?_⟩
  · have there := pm.mem_iff.mp hv
    rw [List.mem_map] at there
    obtain ⟨e, he, rfl⟩ := there
    have ⟨k, tk, h1, _⟩ := good e he
    exact ⟨k, tk, h1⟩
  · exact List.map_map (f := (·.2)) (g := Builtin.Re.reRawOf) (l := es.toList) ▸ pm.map Builtin.Re.reRawOf
/-- the rising list of just the n numbers of S -/
def Rising (S : Int → Bool) (n : Nat) (ns : List Int) : Prop := ns.Pairwise (· < ·) ∧ (∀ k : Int, k ∈ ns ↔ S k = true) ∧ ns.length = n
/-- what stood before a list was made and sorted stands behind it -/
theorem sorted_keeps {h : Heap} {o u : Obj} {vs : List Value} {out : Array Value} {b : Addr} (q : h.get? b = some u) : (sortedHeap (h.push o) h.objs.size vs out).get? b = some u := by
  have lt := Heap.lt_size q
  exact (sortedHeap_old (Nat.ne_of_lt lt) (size_push' h o ▸ Nat.lt_succ_of_lt lt)).trans (Heap.get?_push_of_some o q)
section
variable {P : Program} {w : World} {A : Around} {s : Shared} {E : Value → Shared → Prop} {a : Addr}
theorem sorted_setA {S : Int → Bool} {n : Nat} {Q : Value → Shared → Prop} (R : SetR w s.heap a S n) (free : A.handled = none) (few : n ≤ sizeLine)
    (told : ∀ s' p (out : List Value) (c : Nat) (ns : List Int), (∀ b o, s.heap.get? b = some o → s'.heap.get? b = some o) → s'.gens = s.gens → s'.os = s.os → s.heap.objs.size ≤ p →
      s'.heap.get? p = some (seqObj "list" out.toArray c) → IntsAre out ns → Rising S n ns → Q (.ref p) s') : wpAny (model P w) A (call (.builtin "sorted") [.ref a]) Q E s := by
  have ⟨o, es, ep, tbl, at_a, exact_set, dat, good, once, mem, bound, fits, count, ris, led⟩ := R
  apply Calls.call_function_entry kind_sorted plain_sorted entry_sorted (args_sorted1 _)
  unfold Builtin.«sorted»
  apply wpAny_bind
  apply wpAny_pure
  apply wpAny_bind
  apply collect_set (A := A.in1) free ⟨o, at_a, exact_set.1, dat⟩ fits bound ris led
  intro s1 vs kept more gens1 os1 pm
  obtain ⟨are, perm⟩ := keys_out good pm
  have many : vs.length = n := by
    have := pm.length_eq
    rw [List.length_map] at this
    exact this.trans (Array.length_toList.trans count)
  have room : vs.length ≤ sizeLine := many ▸ few
  have at_l := Heap.get?_push_size s1.heap (o := seqObj "list" vs.toArray 0) rfl
  apply wpAny_bind
  refine wpAny_newList (hsz := room) (wpAny_bind (wpAny_holding (wpAny_call_entry slot_list_sort ⟨_, at_l, rfl⟩ entry_list_sort ?_ (args_list_sort _))))
  refine SrtO.list_sort_ord SrtO.swo_int at_l room (SrtO.ints_sortable are) fun out up stable => ⟨_, rfl, ?_⟩
  have ⟨a1, a2, a3⟩ := SrtO.ints_out are up stable
  have pn := a2.trans perm
  have ⟨c, hc⟩ := sortedHeap_at (out := out.toArray) at_l
  refine wpAny_pure ⟨_, rfl, told _ s1.heap.objs.size out c _ (fun b u e => ?_) gens1 os1 more hc a1 ⟨lt_of_le_nodup _ a3 (pn.nodup_iff.mpr once), fun k => pn.mem_iff.trans (mem k).symm, ?_⟩⟩
  · exact sorted_keeps (kept b u e)
  · rw [pn.length_eq, List.length_map]
    exact Array.length_toList.trans count
end
def rSortedSetA (w : World) : List V → Hp → VK → Prop := fun vs H Q => ∃ (a : Addr) (S : Int → Bool) (n : Nat), vs = [V.ref a] ∧ H a = some (SetO w a S n) ∧ n ≤ sizeLine ∧
  ∀ ns p, Rising S n ns → H p = none → Q (.ref p) (upd H p (.lst (ns.map V.int)))
theorem cr_sortedSetA {X : Cx} (calm : X.calm = true) : CallR X (.builtin "sorted") (rSortedSetA X.w) := by
  rintro pins s σ H vs us Q I rel ⟨a, S, n, rfl, ha, few, q⟩
  rw [Vals.ref1 rel]
  refine sorted_setA (setO_get I ha) (I.ok.hd calm) few fun s' p out c ns k g o hp hg hi up => ?_
  have len : (ns.map V.int).length ≤ sizeLine := by
    rw [List.length_map, up.2.2]
    exact few
  have new := I.hok.fresh hp
  have J := I.call' (s' := s') (ch := []) (H' := upd H p (.lst (ns.map V.int))) o (Un.laid k hp new) (I.hok.laid k hp ⟨len, out, c, vals_of_ints hi, hg⟩) (g.symm ▸ I.bare) (fun _ z => nomatch z)
  exact ⟨.ref p, _, J, rfl, q ns p up new⟩
end Tg

namespace Tg
open PySem PySem.Spec PyProof.Rows L2
/-! ### a comprehension without a test whose items are known beforehand -/
/-- the new list at D takes y -/
abbrev Grows (D : Addr) (Nx : Hp → Prop) (y : V) (H : Hp) : Prop := ∃ acc, H D = some (.lst acc) ∧ acc.length < sizeLine ∧ Nx (upd H D (.lst (acc ++ [y])))
/-- the new dict at D takes y: z -/
abbrev Holds2 (D : Addr) (Nx : Hp → Prop) (y z : V) (H : Hp) : Prop := ∃ kvs k, y = kV k ∧ H D = some (.dK kvs) ∧ kvs.length < sizeLine ∧ Nx (upd H D (.dK (putK kvs k z)))
/-- a turn that takes x in, and goes on by fin -/
abbrev Turn1 (g : TG) (vs : List Nat) (σ : L2.St) (fin : L2.St → Hp → Prop) (Nx : Hp → Prop) (x : V) (H' : Hp) : Prop :=
  g x (wipe σ vs) H' fun σ2 H2 => wipe σ2 vs = wipe σ vs ∧ tYes σ2 H2 fun b H3 => if b = true then fin σ2 H3 else Nx H3
abbrev TurnL (g : TG) (te : TE) (vs : List Nat) (σ : L2.St) (D : Addr) (Nx : Hp → Prop) : V → Hp → Prop := Turn1 g vs σ (fun σ2 H3 => te σ2 H3 fun y H4 => Grows D Nx y H4) Nx
abbrev TurnD (g : TG) (tk tv : TE) (vs : List Nat) (σ : L2.St) (D : Addr) (Nx : Hp → Prop) : V → Hp → Prop := Turn1 g vs σ (fun σ2 H3 => tk σ2 H3 fun y H4 => tv σ2 H4 fun z H5 => Holds2 D Nx y z H5) Nx
/-- a walk of J from Z on, each turn by turn, what is wanted behind it Qd -/
abbrev Walked (J : It) (Z : Hp) (turn : (Hp → Prop) → V → Hp → Prop) (Qd : Hp → Prop) : Prop :=
  ∃ Wk : Nat → Nat → Hp → Prop, (∃ m, Wk 0 m Z) ∧ ∀ (i m : Nat) (Hc : Hp), Wk i m Hc →
    (J.stop i Hc ∧ Qd Hc) ∨ (J.go i Hc ∧ ∃ Nx : Hp → Prop, (∀ Hn, Nx Hn → ∃ m', m' < m ∧ Wk (i + 1) m' Hn) ∧ ∀ x Hn, J.yld i Hc x Hn → turn Nx x Hn)
section
variable {K : PySem.W.Frag} {g : TG} {te : TE} {vs : List Nat} {σ : L2.St} {H1 : Hp} {D : Addr} {Qd : Hp → Prop} {J : It}
/-- the walk J, of n turns; x: what it hands out at i (behind it the heap is told by R) -/
theorem lc_walk (n : Nat) (ys : List V) (ly : ys.length = n) (nD : H1 D = none) (small : n < sizeLine)
    (stop : ∀ Hc, Same H1 Hc → J.stop n Hc) (go : ∀ i Hc, i < n → Same H1 Hc → J.go i Hc)
    (hs : ∀ i x y Hc H' (Q : VK), i < n → ys[i]? = some y → Same H1 Hc → J.yld i Hc x H' → (∀ H4, Same H' H4 → Q y H4) → g x (wipe σ vs) H' fun σ2 H2 => wipe σ2 vs = wipe σ vs ∧ te σ2 H2 Q)
    (grow : ∀ i x Hc H', i < n → Same H1 Hc → J.yld i Hc x H' → Same Hc H')
    (hd : ∀ H', Same H1 H' → H' D = some (.lst ys) → Qd H') :
    Walked J (upd H1 D (.lst [])) (TurnL g te vs σ D) Qd := by
  refine ⟨fun i m H => m = n - i ∧ i ≤ n ∧ Same H1 H ∧ H D = some (.lst (ys.take i)), ⟨n, by omega, Nat.zero_le _, fun b o e => ?_, upd_same⟩, ?_⟩
  · rw [upd_ne (ne_of_none e nD)]
    exact e
  rintro i m H ⟨rfl, hi, sm, hD⟩
  by_cases lt : i < n
  · refine .inr ⟨go i H lt sm, fun H' => Same H1 H' ∧ H' D = some (.lst (ys.take (i + 1))), fun H' h => ⟨n - (i + 1), by omega, rfl, lt, h.1, h.2⟩, fun x H' yl => ?_⟩
    obtain ⟨y, ey⟩ : ∃ y, ys[i]? = some y := ⟨_, List.getElem?_eq_getElem (by omega)⟩
    have s2 := grow i x H H' lt sm yl
    have z := hs i x y H H' (fun y H4 => Grows D (fun H' => Same H1 H' ∧ H' D = some (.lst (ys.take (i + 1)))) y H4) lt ey sm yl fun H4 s4 => by
      refine ⟨ys.take i, s4 _ _ (s2 _ _ hD), ?_, fun b o e => ?_, ?_⟩
      · rw [List.length_take]
        omega
      · rw [upd_ne (ne_of_none e nD)]
        exact s4 _ _ (s2 _ _ (sm _ _ e))
      · rw [upd_same, List.take_add_one, ey]
        rfl
    refine cast (congrArg (g x (wipe σ vs) H') (funext fun σ2 => funext fun H2 => ?_)) z
    unfold tYes
    exact congrArg _ (if_pos rfl).symm
  · obtain rfl : i = n := by omega
    refine .inl ⟨stop H sm, hd H sm ?_⟩
    rw [hD, List.take_of_length_le (by omega)]
/-- [.. for x in xs] -/
theorem lc_mapL {a : Addr} {xs : List V} (ys : List V) (ly : ys.length = xs.length) (nD : H1 D = none) (hx : SqL K H1 a xs) (small : xs.length < sizeLine)
    (hs : ∀ (i : Nat) (x y : V) (Hc : Hp) (Q : VK), xs[i]? = some x → ys[i]? = some y → Same H1 Hc → (∀ H4, Same Hc H4 → Q y H4) → g x (wipe σ vs) Hc fun σ2 H2 => wipe σ2 vs = wipe σ vs ∧ te σ2 H2 Q)
    (hd : ∀ H', Same H1 H' → H' D = some (.lst ys) → Qd H') :
    Walked (Itl K a) (upd H1 D (.lst [])) (TurnL g te vs σ D) Qd :=
  lc_walk (J := Itl K a) xs.length ys ly nD small (fun Hc sm => ⟨xs, sm.seq hx, Nat.le_refl _⟩) (fun i Hc lt sm => ⟨xs, xs[i], sm.seq hx, List.getElem?_eq_getElem lt⟩)
    (fun i x y Hc H' Q lt ey sm yl q => by
      obtain ⟨rfl, h⟩ := yl
      exact hs i x y _ Q (h xs (sm.seq hx)) ey sm q) (fun i x Hc H' _ _ yl => by rw [yl.1]; exact Same.refl _) hd
/-- [.. for x, y in zip(xs, ys)] -/
theorem lc_mapZ {a b : Addr} {xs zs : List V} (ys : List V) (n : Nat) (en : n = min xs.length zs.length) (ly : ys.length = n) (nD : H1 D = none) (hx : SqL K H1 a xs) (hz : SqL K H1 b zs) (small : n < sizeLine)
    (hs : ∀ (i : Nat) (x z y : V) (T : Addr) (Hc : Hp) (Q : VK), xs[i]? = some x → zs[i]? = some z → ys[i]? = some y → Same H1 Hc → Hc T = some (.tup [x, z]) → (∀ H4, Same Hc H4 → Q y H4) → g (.ref T) (wipe σ vs) Hc fun σ2 H2 => wipe σ2 vs = wipe σ vs ∧ te σ2 H2 Q)
    (hd : ∀ H', Same H1 H' → H' D = some (.lst ys) → Qd H') :
    Walked (Itz K a b) (upd H1 D (.lst [])) (TurnL g te vs σ D) Qd :=
  lc_walk (J := Itz K a b) n ys ly nD small (fun Hc sm => ⟨xs, zs, sm.seq hx, sm.seq hz, by omega⟩) (fun i Hc lt sm => ⟨xs, zs, xs[i]'(by omega), zs[i]'(by omega), sm.seq hx, sm.seq hz, List.getElem?_eq_getElem (by omega), List.getElem?_eq_getElem (by omega)⟩)
    (fun i x y Hc H' Q lt ey sm yl q => by
      obtain ⟨T, u, v, rfl, nT, rfl, h1, h2⟩ := yl
      exact hs i u v y T _ Q (h1 xs (sm.seq hx)) (h2 zs (sm.seq hz)) ey (sm.trans (fun b o e => by rw [upd_ne (ne_of_none e nT)]; exact e)) upd_same q)
    (fun i x Hc H' _ _ yl => by
      obtain ⟨T, u, v, rfl, nT, rfl, _, _⟩ := yl
      exact fun b o e => by rw [upd_ne (ne_of_none e nT)]; exact e) hd
/-- [.. for i in range(lo, ..)] -/
theorem lc_mapR {lo : Int} {n : Nat} (ys : List V) (ly : ys.length = n) (nD : H1 D = none) (small : n < sizeLine)
    (hs : ∀ (i : Nat) (y : V) (Hc : Hp) (Q : VK), i < n → ys[i]? = some y → Same H1 Hc → (∀ H4, Same Hc H4 → Q y H4) → g (.int (lo + i)) (wipe σ vs) Hc fun σ2 H2 => wipe σ2 vs = wipe σ vs ∧ te σ2 H2 Q)
    (hd : ∀ H', Same H1 H' → H' D = some (.lst ys) → Qd H') :
    Walked (Itr lo n) (upd H1 D (.lst [])) (TurnL g te vs σ D) Qd :=
  lc_walk (J := Itr lo n) n ys ly nD small (fun Hc sm => Nat.le_refl _) (fun i Hc lt sm => lt)
    (fun i x y Hc H' Q lt ey sm yl q => by
      obtain ⟨rfl, rfl⟩ := yl
      exact hs i y _ Q lt ey sm q) (fun i x Hc H' _ _ yl => by rw [yl.1]; exact Same.refl _) hd
/-- [.. for i in range(lo, .., c)] -/
theorem lc_mapC {lo c : Int} {n : Nat} (ys : List V) (ly : ys.length = n) (nD : H1 D = none) (small : n < sizeLine)
    (hs : ∀ (i : Nat) (y : V) (Hc : Hp) (Q : VK), i < n → ys[i]? = some y → Same H1 Hc → (∀ H4, Same Hc H4 → Q y H4) → g (.int (lo + (i : Nat) * c)) (wipe σ vs) Hc fun σ2 H2 => wipe σ2 vs = wipe σ vs ∧ te σ2 H2 Q)
    (hd : ∀ H', Same H1 H' → H' D = some (.lst ys) → Qd H') :
    Walked (Itc lo c n) (upd H1 D (.lst [])) (TurnL g te vs σ D) Qd :=
  lc_walk (J := Itc lo c n) n ys ly nD small (fun Hc sm => Nat.le_refl _) (fun i Hc lt sm => lt)
    (fun i x y Hc H' Q lt ey sm yl q => by
      obtain ⟨rfl, rfl⟩ := yl
      exact hs i y _ Q lt ey sm q) (fun i x Hc H' _ _ yl => by rw [yl.1]; exact Same.refl _) hd
/-! ### a dict comprehension whose entries are known, each key once -/
theorem putK_new {kvs : List (Key × V)} {k : Key} {z : V} (h : k ∉ kvs.map (·.1)) : putK kvs k z = kvs ++ [(k, z)] := by
  have new : (kvs.any fun y => decide (y.1 = k)) = false := by
    rw [List.any_eq_false]
    intro y hy e
    exact h (List.mem_map.mpr ⟨y, hy, of_decide_eq_true e⟩)
  unfold putK
  rw [new, if_neg (by decide)]
theorem dc_walk {tk tv : TE} (n : Nat) (es : List (Key × V)) (le : es.length = n) (nd : (es.map (·.1)).Nodup) (nD : H1 D = none) (small : n < sizeLine)
    (stop : ∀ Hc, Same H1 Hc → J.stop n Hc) (go : ∀ i Hc, i < n → Same H1 Hc → J.go i Hc)
    (hs : ∀ i x k y Hc H' (Q : VK), i < n → es[i]? = some (k, y) → Same H1 Hc → J.yld i Hc x H' → (∀ H4, Same H' H4 → Q y H4) → g x (wipe σ vs) H' fun σ2 H2 => wipe σ2 vs = wipe σ vs ∧ tk σ2 H2 fun u H3 => tv σ2 H3 fun v H4 => u = kV k ∧ v = y ∧ Same H' H4)
    (mono : ∀ σ2 H2 (A B : V → V → Hp → Prop), (∀ u v H', A u v H' → B u v H') → (tk σ2 H2 fun u H3 => tv σ2 H3 fun v H4 => A u v H4) → tk σ2 H2 fun u H3 => tv σ2 H3 fun v H4 => B u v H4)
    (gm : ∀ x σ2 H2 (A B : L2.St → Hp → Prop), (∀ σ3 H3, A σ3 H3 → B σ3 H3) → g x σ2 H2 A → g x σ2 H2 B)
    (grow : ∀ i x Hc H', i < n → Same H1 Hc → J.yld i Hc x H' → Same Hc H')
    (hd : ∀ H', Same H1 H' → H' D = some (.dK es) → Qd H') :
    Walked J (upd H1 D (.dK [])) (TurnD g tk tv vs σ D) Qd := by
  refine ⟨fun i m H => m = n - i ∧ i ≤ n ∧ Same H1 H ∧ H D = some (.dK (es.take i)), ⟨n, by omega, Nat.zero_le _, fun b o e => ?_, upd_same⟩, ?_⟩
  · rw [upd_ne (ne_of_none e nD)]
    exact e
  rintro i m H ⟨rfl, hi, sm, hD⟩
  by_cases lt : i < n
  · refine .inr ⟨go i H lt sm, fun H' => Same H1 H' ∧ H' D = some (.dK (es.take (i + 1))), fun H' h => ⟨n - (i + 1), by omega, rfl, lt, h.1, h.2⟩, fun x H' yl => ?_⟩
    obtain ⟨⟨k, y⟩, ey⟩ : ∃ y, es[i]? = some y := ⟨_, List.getElem?_eq_getElem (by omega)⟩
    have s2 := grow i x H H' lt sm yl
    have z := hs i x k y H H' (fun _ _ => True) lt ey sm yl fun _ _ => trivial
    refine gm _ _ _ _ _ (fun σ2 H2 h => ⟨h.1, ?_⟩) z
    unfold tYes
    dsimp only
    rw [if_pos rfl]
    refine mono _ _ _ _ (fun u v H4 h => ?_) h.2
    obtain ⟨rfl, rfl, s4⟩ := h
    refine ⟨es.take i, k, rfl, s4 _ _ (s2 _ _ hD), ?_, fun b o e => ?_, ?_⟩
    · rw [List.length_take]
      omega
    · rw [upd_ne (ne_of_none e nD)]
      exact s4 _ _ (s2 _ _ (sm _ _ e))
    · rw [upd_same, putK_new, List.take_add_one, ey]
      · rfl
      · intro hk
        rw [List.map_take] at hk
        obtain ⟨j, hj, ej⟩ := List.mem_iff_getElem.mp hk
        rw [List.length_take] at hj
        rw [List.getElem_take] at ej
        have e1 : (es.map (·.1))[j]? = some k := by rw [List.getElem?_eq_getElem (by omega), ej]
        have e2 : (es.map (·.1))[i]? = some k := by rw [List.getElem?_map, ey]; rfl
        have := (List.getElem?_inj (by omega) nd).mp (e1.trans e2.symm)
        omega
  · obtain rfl : i = n := by omega
    refine .inl ⟨stop H sm, hd H sm ?_⟩
    rw [hD, List.take_of_length_le (by omega)]
end
end Tg

namespace Tg
open PySem PySem.Spec PyProof.Rows L2
/-! ### rules whose reading names K, said for a comprehension -/
theorem call_lenK {X : Cx} {K : PySem.W.Frag} (hK : X.K = K := by rfl) : CallR X (.builtin "len") (fun xs H Q => ∃ p ys, xs = [V.ref p] ∧ (SqL K H p ys ∨ SqT K H p ys) ∧ Q (V.int (ys.length : Nat)) H) := by
  subst hK
  exact call_len_seq
theorem mt_indexK {X : Cx} {K : PySem.W.Frag} (hK : X.K = K := by rfl) : MtR X "list.index" (rIndex K) := by
  subst hK
  exact mt_index
/-- a rule over X.K is one over K -/
theorem pe_overK {X : Cx} {K : PySem.W.Frag} {e : Expr} (t : PySem.W.Frag → TE) (h : PE X e (t X.K)) (hK : X.K = K := by rfl) : PE X e (t K) := hK ▸ h
theorem yes_i {σ : L2.St} {H : Hp} {Q : Bool → Hp → Prop} (h : Q true H) : tYes σ H Q := h
end Tg

set_option maxHeartbeats 1000000
namespace Tg
open PySem PySem.Spec PyProof.Rows L2
/-! ### {(a, b): v for .. in ..}: a new dict whose keys are tuples -/
section
variable {X : Cx}
/-- one more key -/
theorem put_tup {pins : List (Addr × Obj)} {σ : L2.St} {H : Hp} {s : Shared} {E : Value → Shared → Prop} {D b : Addr} {kvs : List (List Key × V)} {k : List Key} {v : V} {r : Value} {Q : Unit → Shared → Prop} (room : X.A.units + 1 < cLine) (I : Inv X pins σ H s)
    (at_D : H D = some (.dT kvs)) (few : kvs.length < sizeLine) (at_b : H b = some (.tup (k.map kV))) (rel_v : RelV v r) (go : ∀ s', Inv X pins σ (upd H D (.dT (putK kvs k v))) s' → Q () s') : wpAny (model X.prog X.w) X.A (dictSet D (.ref b) r) Q E s := by
  obtain ⟨z, low, xs, rel, dd⟩ := dt_of I.hok at_D
  have many : (putK kvs k v).length ≤ sizeLine := Nat.le_trans (length_putK kvs k v) few
  have some_room : (tupleKind (mixKind X.prog X.w)).room X.A := by
    show X.A.units < cLine
    omega
  refine wpAny_dictSet_heap some_room (key_of I.hok at_b) dd (fun h1 dd1 same => go _ ?_) (by rw [← Paired.length rel]; exact z)
  obtain ⟨ob, es, ep, g1, g2, g3, g4, _, g5⟩ := dd1
  refine d_write I (by rw [at_D]; exact True.intro) same ⟨ob, g1⟩ ⟨many, low, _, (rel.put k at_b rel_v).keeps fun c ys at_c => ?_, ob, es, ep, g1, g2, g3, g4, g5⟩
  rw [upd_ne (ne_of at_c at_D (fun z => nomatch z))]
  exact at_c
/-- what one turn has to lead to: Nx of the heap behind it -/
def TurnT (g : TG) (tt : TT) (tk tv : TE) (vs : List Nat) (σ : L2.St) (D : Addr) (Nx : Hp → Prop) (x : V) (Hx : Hp) : Prop :=
  g x (wipe σ vs) Hx fun σ2 H2 => wipe σ2 vs = wipe σ vs ∧ tt σ2 H2 fun b H3 => if b = true then tk σ2 H3 fun y H4 => tv σ2 H4 fun z H5 =>
    ∃ kvs k c, y = .ref c ∧ H5 c = some (.tup (k.map kV)) ∧ H5 D = some (.dT kvs) ∧ kvs.length < sizeLine ∧ Nx (upd H5 D (.dT (putK kvs k z))) else Nx H3
/-- the turns, by a measure that falls -/
def TurnsT (J : It) (g : TG) (tt : TT) (tk tv : TE) (vs : List Nat) (σ : L2.St) (D : Addr) (H0 : Hp) (Qd : Hp → Prop) : Prop := ∃ W : Nat → Nat → Hp → Prop, (∃ m, W 0 m (upd H0 D (.dT []))) ∧
  ∀ i m Hi, W i m Hi → (J.stop i Hi ∧ Qd Hi) ∨ (J.go i Hi ∧ ∃ Nx : Hp → Prop, (∀ Hn, Nx Hn → ∃ fewer, fewer < m ∧ W (i + 1) fewer Hn) ∧ ∀ x Hx, J.yld i Hi x Hx → TurnT g tt tk tv vs σ D Nx x Hx)
def tDcT (wi : TI) (g : TG) (tt : TT) (tk tv : TE) (vs : List Nat) : TE := fun σ H Q => wi σ H fun J H1 => ∀ D, H1 D = none → TurnsT J g tt tk tv vs σ D H1 fun Hn => Q (.ref D) Hn
theorem pe_dcT {kx vx tg iter : Expr} {ifs : List Expr} {scope : Scope} {own : List (Str × Nat)} {pos : Pos} {wi : TI} {g : TG} {tt : TT} {tk tv : TE} (calm : X.calm = true) (names : X.N.Nodup) (room : X.A.units + 1 < cLine) (over : PI X tg iter wi) (blk : BlkOk X.N X.env.scope scope own)
    (goal : ∀ (s : Shared) (H : Hp) (C : Addr) (cl : List (Str × Addr)) (fp : List Addr), PG (X.blk s H scope (compEnvC scope cl C X.env) fp) tg g) (tests : ∀ (s : Shared) (H : Hp) (C : Addr) (cl : List (Str × Addr)) (fp : List Addr), PTs (X.blk s H scope (compEnvC scope cl C X.env) fp) ifs tt)
    (key : ∀ (s : Shared) (H : Hp) (C : Addr) (cl : List (Str × Addr)) (fp : List Addr), PE (X.blk s H scope (compEnvC scope cl C X.env) fp) kx tk)
    (val : ∀ (s : Shared) (H : Hp) (C : Addr) (cl : List (Str × Addr)) (fp : List Addr), PE (X.blk s H scope (compEnvC scope cl C X.env) fp) vx tv) (noset : ∀ x, foldedSetIterable iter X.env x = pure x := by intro _; rfl) :
    PE X (.DictComp kx vx [⟨tg, iter, ifs, 0⟩] scope pos) (tDcT wi g tt tk tv (own.map (·.2))) := by
  constructor
  intro pins s σ H Q I read
  rw [arm_eval_DictComp]
  have caught : ∀ y ∈ scope.names, y.2 = .free → ∃ c, X.env.cells.lookup y.1 = some c := fun y at_y is_free => (blk.free y at_y is_free).elim (fun z => I.ok.has _ (.inl z)) (fun z => I.ok.has _ (.inr z))
  refine wpAny_comprehension_free (use := none) rfl noset (closure_ok caught) blk.kind (fun y at_y e => by rw [blk.uniq y at_y, e]) (thn (over.run pins s σ H _ I read) fun _ s1 come => thn come fun _ s2 walked => ?_)
  obtain ⟨it, fp, tn, J, H1, rfl, I1, T, at0, free1, turns⟩ := walked
  refine wpAny_newObj_type ?dict
  refine newEnv_comp ?_
  -- the new dict, at D
  obtain ⟨D, eD⟩ : ∃ D, s2.heap.objs.size = D := ⟨_, rfl⟩
  rw [eD]
  have newD : H1 D = none := I1.hok.fresh (Nat.le_of_eq eD)
  obtain ⟨W, ⟨m0, begun⟩, turn⟩ := turns D newD
  obtain ⟨H2, eH2⟩ : ∃ H2, upd H1 D (.dT []) = H2 := ⟨_, rfl⟩
  obtain ⟨s3, e3⟩ : ∃ s3 : Shared, { s2 with heap := s2.heap.push { cls := .type "dict", data := .dict #[] } } = s3 := ⟨_, rfl⟩
  have heap3 : s3.heap = s2.heap.push { cls := .type "dict", data := .dict #[] } := by rw [← e3]
  have I2 : Inv X pins σ H2 s3 := by
    rw [← e3, ← eH2]
    exact I1.laid (t' := s2.toks) (fun b o e => Heap.get?_push_of_some _ e) (Nat.le_of_eq eD) (by rw [← eD]; exact dt_empty s2.heap I1.big)
  have below : ∀ b, b ∈ fp → b < s2.heap.objs.size := fun b m => (T.obj _ _ at0 b m).elim fun o z => Heap.lt_size z.1
  have free2 : ∀ b ∈ fp, FpOk X pins H2 b ∧ b < s3.heap.objs.size := fun b m => by
    have lt := below b m
    have ne : b ≠ D := by
      rw [← eD]
      exact Nat.ne_of_lt lt
    obtain ⟨f0, f1⟩ := free1 b m
    refine ⟨⟨?_, f1⟩, ?_⟩
    · rw [← eH2, upd_ne ne]
      exact f0
    · rw [heap3, Heap.size_push]
      exact Nat.lt_succ_of_lt lt
  have at0' : tn 0 s3.heap := T.keep _ _ _ at0 fun b _ o e => by
    rw [heap3]
    exact Heap.get?_push_of_some (h := s2.heap) _ e
  have I3 := block_start I2 blk names free2
  have pg := goal s3 H2 s3.heap.objs.size (cellsFrom (s3.heap.objs.size + 1) scope.names (cloFrom X.env.cells scope.names [])) fp
  have pt := tests s3 H2 s3.heap.objs.size (cellsFrom (s3.heap.objs.size + 1) scope.names (cloFrom X.env.cells scope.names [])) fp
  have pk := key s3 H2 s3.heap.objs.size (cellsFrom (s3.heap.objs.size + 1) scope.names (cloFrom X.env.cells scope.names [])) fp
  have pe := val s3 H2 s3.heap.objs.size (cellsFrom (s3.heap.objs.size + 1) scope.names (cloFrom X.env.cells scope.names [])) fp
  rw [eH2] at begun
  show codeAny _ _ (.compStart (.DictComp kx vx [⟨tg, iter, ifs, 0⟩] scope pos) 0 (.ref it) (.ref D) (compEnvC scope (cellsFrom ({ s2 with heap := s2.heap.push { cls := .type "dict", data := .dict #[] } } : Shared).heap.objs.size.succ scope.names (cloFrom X.env.cells scope.names [])) ({ s2 with heap := s2.heap.push { cls := .type "dict", data := .dict #[] } } : Shared).heap.objs.size X.env)) _ { ({ s2 with heap := s2.heap.push { cls := .type "dict", data := .dict #[] } } : Shared) with heap := pushCells (({ s2 with heap := s2.heap.push { cls := .type "dict", data := .dict #[] } } : Shared).heap.push { cls := .type "dict", data := .dict #[] }) scope.names }
  rw [e3]
  obtain ⟨ce, ece⟩ : ∃ ce, compEnvC scope (cellsFrom (s3.heap.objs.size + 1) scope.names (cloFrom X.env.cells scope.names [])) s3.heap.objs.size X.env = ce := ⟨_, rfl⟩
  have own_loc : ce.locals = s3.heap.objs.size := by
    rw [← ece]
    rfl
  rw [ece] at I3 pg pt pk pe
  show codeAny _ _ (.compStart (.DictComp kx vx [⟨tg, iter, ifs, 0⟩] scope pos) 0 (.ref it) (.ref D) (compEnvC scope (cellsFrom (s3.heap.objs.size + 1) scope.names (cloFrom X.env.cells scope.names [])) s3.heap.objs.size X.env)) _ _
  rw [ece]
  obtain ⟨s4, e4⟩ : ∃ s4 : Shared, { s3 with heap := pushCells (s3.heap.push { cls := .type "dict", data := .dict #[] }) scope.names } = s4 := ⟨_, rfl⟩
  rw [e4] at I3
  rw [e4]
  have at4 : tn 0 s4.heap := T.keep _ _ _ at0' fun b _ o e => by
    rw [← e4]
    exact pushCells_keeps _ _ _ _ (Heap.get?_push_of_some _ e)
  have none2 : ∀ b ∈ fp, H2 b = none := fun b m => (free2 b m).1.1
  have held : ∀ {σ' : L2.St} {H' : Hp} {s' : Shared}, Inv (X.blk s3 H2 scope ce fp) [] σ' H' s' → (∀ b ∈ fp, H' b = none) → ∀ b ∈ fp, FpOk (X.blk s3 H2 scope ce fp) [] H' b := fun I' no b m =>
    ⟨no b m, (I'.ok.exf b m).1, I'.ok.exfs b m, .inl m, fun x c e => (I'.ok.exf b m).2 x c e, fun p mp => absurd (show p ∈ ([] : List (Addr × Obj)) ++ [] from mp) List.not_mem_nil⟩
  suffices loop : codeAny (model X.prog X.w) X.A (.compLoop (.DictComp kx vx [⟨tg, iter, ifs, 0⟩] scope pos) 0 (.ref it) (.ref D) ce) (compPost (model X.prog X.w) X.A X.xe none (EP X pins σ Q) (.ref D) s3.heap.objs.size) s4 from codeAny_compStart_dict loop (T.self X.A 0 _ _ _ at4 loop)
  refine compLoop_anyD (fun n s' => ∃ i H', Inv (X.blk s3 H2 scope ce fp) [] (wipe σ (own.map (·.2))) H' s' ∧ tn i s'.heap ∧ (∀ b ∈ fp, H' b = none) ∧ W i n H') ?_ m0 ⟨0, H2, I3, at4, none2, begun⟩
  rintro n s5 ⟨i, H5, I5, at5, none5, w5⟩
  rcases turn i n H5 w5 with ⟨ends, told⟩ | ⟨goes, Nx, next, body⟩
  · -- no item is left
    refine thnF (T.done (X.blk s3 H2 scope ce fp) rfl rfl rfl calm i [] s5 _ H5 (fun _ _ => False) I5 (held I5 none5) at5 ends) fun r s6 come => ?_
    obtain ⟨rfl, I6⟩ := come
    have home : Inv X pins σ H5 s6 := I2.call' (ch := fp) I6.os I6.base I6.hok I6.bare fun b m => by
      obtain ⟨_, f1, _, f3, f4, f5⟩ := (free2 b m).1
      exact ⟨f3, f1, f4, f5⟩
    have noC : H5 s3.heap.objs.size = none := by
      rw [← own_loc]
      exact I6.free
    obtain ⟨mm, ns, _⟩ := I6.loc
    have ns' : s6.heap.Ns s3.heap.objs.size mm := by
      rw [← own_loc]
      exact ns
    obtain ⟨c0, c1, c2, c3, c4, c5⟩ := I2.fpOk (Nat.le_refl s3.heap.objs.size) noC
    exact ⟨mm, ns', fun h6 sb => ⟨.ref D, H5, home.turned (t' := s6.toks) (fun b o hb e => (sb.2 b hb).trans e) c0 c1 c3 c4 c5, rfl, told⟩⟩
  · -- a next item
    refine thnF (T.item (X.blk s3 H2 scope ce fp) rfl rfl rfl calm i [] s5 _ H5 (fun _ _ => False) I5 (held I5 none5) at5 goes) fun r s6 come => ?_
    obtain ⟨u, rfl, come⟩ := come
    refine thnF come fun _ s7 come => ?_
    obtain ⟨x, H7, I7, rel7, yld7, at7, none7⟩ := come
    have P7 := I7.pinned (held I7 none7) (T.obj _ _ at7)
    refine thnF (pg.run _ s7 _ H7 x u _ P7 rel7 (body x H7 yld7)) fun _ s8 come => ?_
    obtain ⟨σ8, H8, I8, kept8, q8⟩ := come
    refine thnF (pt.run _ s8 σ8 H8 _ I8 q8) fun b s9 come => ?_
    obtain ⟨H9, I9, q9⟩ := come
    have again : ∀ {s' : Shared} {H' : Hp}, Inv (X.blk s3 H2 scope ce fp) ([] ++ pinsAt fp s7.heap) σ8 H' s' → Nx H' → ∃ m, m < n ∧ ∃ i H', Inv (X.blk s3 H2 scope ce fp) [] (wipe σ (own.map (·.2))) H' s' ∧ tn i s'.heap ∧ (∀ b ∈ fp, H' b = none) ∧ W i m H' := fun {s' H'} I' nx => by
      obtain ⟨m', lt, w'⟩ := next H' nx
      have stays : ∀ c ∈ fp, ∀ o, s7.heap.get? c = some o → s'.heap.get? c = some o ∧ H' c = none := fun c mc o e => by
        obtain ⟨y1, y2, _⟩ := I'.pin (c, o) (List.mem_append_right _ (List.mem_append_right _ (mem_pinsAt mc e)))
        exact ⟨y1, y2⟩
      refine ⟨m', lt, i + 1, H', (I'.unpinned (pins := [])).weak ?_ (fun j v e => ?_), T.keep _ _ _ at7 fun c mc o e => (stays c mc o e).1, fun c mc => ?_, w'⟩
      · rw [← kept8, wipe_length]
      · rw [← kept8] at e
        exact (wipe_some e).1
      · obtain ⟨o, e, _⟩ := T.obj _ _ at7 c mc
        exact (stays c mc o e).2
    cases b with
    | false => exact again I9 q9
    | true =>
      refine thnF (pk.run _ s9 σ8 H9 _ I9 q9) fun uk s10 come => ?_
      obtain ⟨yk, H10, I10, rel10, q10⟩ := come
      refine thnF (pe.run _ s10 σ8 H10 _ I10 q10) fun uv s11 come => ?_
      obtain ⟨yv, H11, I11, rel11, kvs, k, c, rfl, at_c, at_D, few, nx⟩ := come
      cases (show uk = Value.ref c from rel10)
      exact put_tup (X := X.blk s3 H2 scope ce fp) room I11 at_D few at_c rel11 fun s12 I12 => again I12 nx
end
/-- over whatever walks -/
theorem dcT_it {J : It} {n : Nat} {G : Hp → Prop} {Y : Nat → Hp → V → Hp → Prop} (w : Walk J n G Y) {g : TG} {tt : TT} {tk tv : TE} {vs : List Nat} {σ : L2.St} {H1 : Hp} {D : Addr} {Qd : Hp → Prop} (Pv : Nat → Hp → Prop) (first : Pv 0 (upd H1 D (.dT []))) (stays : ∀ i Hi, i ≤ n → Pv i Hi → G Hi)
    (step : ∀ i x Hi Hx, i < n → Pv i Hi → Y i Hi x Hx → TurnT g tt tk tv vs σ D (Pv (i + 1)) x Hx) (last : ∀ Hn, Pv n Hn → Qd Hn) : TurnsT J g tt tk tv vs σ D H1 Qd := by
  refine ⟨fun i m H => i + m = n ∧ Pv i H, ⟨n, Nat.zero_add n, first⟩, ?_⟩
  rintro i m H ⟨sum, here⟩
  have stands := stays i H (by omega) here
  cases m with
  | zero =>
    have e : i = n := by omega
    subst e
    exact .inl ⟨w.stops H stands, last H here⟩
  | succ m =>
    have lt : i < n := by omega
    exact .inr ⟨w.goes i H lt stands, Pv (i + 1), fun H' there => ⟨m, Nat.lt_succ_self m, by omega, there⟩, fun x H' y => step i x H H' lt here (w.yields i H x H' lt stands y)⟩
end Tg

set_option maxHeartbeats 1000000
namespace Tg
open PySem PySem.Spec PyProof.Rows L2
/-! ### name = {k: v for .. in ..}, the name plain: stored in the midst of the comprehension's end -/
section
variable {X : Cx}
theorem sw_dict {kx vx : Expr} {gs : List Comprehension} {scope : Scope} {pos py : Pos} {y : Str} {l : Nat} {env : Env} (fn : env.scope.kind = .function) (plain : env.scope.names.lookup y = some .local) (row : (py.line == pos.line) = true)
    (apart : (scope.names.any fun (n, k) => n == y && (k == .local || k == .cell)) = false) : swapsWith (.DictComp kx vx gs scope pos) (some (.Name y py)) l env = pure true := by
  have kind : env.kindOf y = some .local := plain
  have block : env.blockKind = .function := by
    unfold Env.blockKind
    rw [fn]
    rfl
  unfold swapsWith
  simp only [block, kind, apart, Expr.pos, row]
  rfl
theorem ps_setDc {i : Nat} {y : Str} {py pos spos : Pos} {kx vx tg iter : Expr} {ifs : List Expr} {scope : Scope} {own : List (Str × Nat)} {wi : TI} {g : TG} {tt : TT} {tk tv : TE} (calm : X.calm = true) (names : X.N.Nodup) (at_ : X.N[i]? = some y) (plain : X.env.scope.names.lookup y = some .local)
    (sw : swapsWith (.DictComp kx vx [⟨tg, iter, ifs, 0⟩] scope pos) (some (.Name y py)) spos.line X.env = pure true) (over : PI X tg iter wi) (blk : BlkOk X.N X.env.scope scope own)
    (pg : ∀ (s : Shared) (H : Hp) (C : Addr) (cl : List (Str × Addr)) (fp : List Addr), PG (X.blk s H scope (compEnvC scope cl C X.env) fp) tg g)
    (pt : ∀ (s : Shared) (H : Hp) (C : Addr) (cl : List (Str × Addr)) (fp : List Addr), PTs (X.blk s H scope (compEnvC scope cl C X.env) fp) ifs tt)
    (pk : ∀ (s : Shared) (H : Hp) (C : Addr) (cl : List (Str × Addr)) (fp : List Addr), PE (X.blk s H scope (compEnvC scope cl C X.env) fp) kx tk)
    (pw : ∀ (s : Shared) (H : Hp) (C : Addr) (cl : List (Str × Addr)) (fp : List Addr), PE (X.blk s H scope (compEnvC scope cl C X.env) fp) vx tv) (flat : ∀ x, foldedSetIterable iter X.env x = pure x := by intro _; rfl) :
    PS X (.Assign [.Name y py] (.DictComp kx vx [⟨tg, iter, ifs, 0⟩] scope pos) spos) (tAsg (tDc wi g tt tk tv (own.map (·.2))) (gName i)) := by
  refine ⟨fun pins s σ H D I read => ?_⟩
  rw [exec_Assign_Name_used _ _ _ _ sw]
  apply wpAny_bind
  refine wpAny_standAt (wpAny_bind ?_)
  show wpAny _ X.A (do let _ ← comprehension (.DictComp kx vx [⟨tg, iter, ifs, 0⟩] scope pos) scope X.env (firstIterPos [⟨tg, iter, ifs, 0⟩] pos) newDict false (eval iter X.env) (some (assign (.Name y py) X.env))) _ _ s
  have read2 : tDc wi g tt tk tv (own.map (·.2)) σ H (fun x H1 => gName i x σ H1 D.nx) := read
  refine wpAny_bind (thn (dc_core (Qf := fun _ s2 => SP X pins D .next s2) calm names I over blk pg pt pk pw flat read2 fun L C s2 m H2 I2 q ns f => ?_) fun _ s2 done => wpAny_pure (wpAny_pure done))
  rcases f with ⟨f0, f1, _, f3, f4, f5⟩
  change wpAny _ _ (assign (.Name y py) X.env (.ref L)) _ _ _
  refine wpAny_assign_Name (store_ok2 (v := V.ref L) I2 names at_ (.inl plain) rfl (fun s3 I3 ⟨a, sb, ha⟩ => ?_) (.inr plain))
  have apart : C ≠ a := by
    rcases ha with z | z
    · rw [z]
      exact f1
    · exact (f4 y a z).symm
  exact ⟨m, ns.sameBut sb apart, fun h3 sb3 => ⟨_, H2, I3.turned (t' := s3.toks) (fun b o hb e => (sb3.2 b hb).trans e) f0 f1 f3 f4 f5, q⟩⟩
end
end Tg

set_option maxHeartbeats 1000000
namespace Tg
open PySem PySem.Spec PyProof.Rows L2
/-! ### name = {(a, b): v for .. in ..}, the name plain -/
section
variable {X : Cx}
theorem dcT_use {pins : List (Addr × Obj)} {s : Shared} {σ : L2.St} {H : Hp} {Q : VK} {kx vx tg iter : Expr} {ifs : List Expr} {scope : Scope} {own : List (Str × Nat)} {pos pos2 : Pos} {wi : TI} {g : TG} {tt : TT} {tk tv : TE} {use : Option (Value → Sem Unit)} {Qf : Value → Shared → Prop}
    (calm : X.calm = true) (names : X.N.Nodup) (room : X.A.units + 1 < cLine) (I : Inv X pins σ H s) (over : PI X tg iter wi) (blk : BlkOk X.N X.env.scope scope own)
    (goal : ∀ (s : Shared) (H : Hp) (C : Addr) (cl : List (Str × Addr)) (fp : List Addr), PG (X.blk s H scope (compEnvC scope cl C X.env) fp) tg g) (tests : ∀ (s : Shared) (H : Hp) (C : Addr) (cl : List (Str × Addr)) (fp : List Addr), PTs (X.blk s H scope (compEnvC scope cl C X.env) fp) ifs tt)
    (key : ∀ (s : Shared) (H : Hp) (C : Addr) (cl : List (Str × Addr)) (fp : List Addr), PE (X.blk s H scope (compEnvC scope cl C X.env) fp) kx tk)
    (val : ∀ (s : Shared) (H : Hp) (C : Addr) (cl : List (Str × Addr)) (fp : List Addr), PE (X.blk s H scope (compEnvC scope cl C X.env) fp) vx tv) (noset : ∀ x, foldedSetIterable iter X.env x = pure x) (read : tDcT wi g tt tk tv (own.map (·.2)) σ H Q)
    (ending : ∀ D C s2 m H2, Inv X pins σ H2 s2 → Q (.ref D) H2 → s2.heap.Ns C m → FpOk X pins H2 C → compPost (model X.prog X.w) X.A X.xe use Qf (.ref D) C (.ok .next) s2) :
    wpAny (model X.prog X.w) X.A (comprehension (.DictComp kx vx [⟨tg, iter, ifs, 0⟩] scope pos) scope X.env pos2 newDict false (eval iter X.env) use) Qf X.xe s := by
  have caught : ∀ y ∈ scope.names, y.2 = .free → ∃ c, X.env.cells.lookup y.1 = some c := fun y at_y is_free => (blk.free y at_y is_free).elim (fun z => I.ok.has _ (.inl z)) (fun z => I.ok.has _ (.inr z))
  refine wpAny_comprehension_free (use := use) rfl noset (closure_ok caught) blk.kind (fun y at_y e => by rw [blk.uniq y at_y, e]) (thn (over.run pins s σ H _ I read) fun _ s1 come => thn come fun _ s2 walked => ?_)
  obtain ⟨it, fp, tn, J, H1, rfl, I1, T, at0, free1, turns⟩ := walked
  refine wpAny_newObj_type ?dict
  refine newEnv_comp ?_
  -- the new dict, at D
  obtain ⟨D, eD⟩ : ∃ D, s2.heap.objs.size = D := ⟨_, rfl⟩
  rw [eD]
  have newD : H1 D = none := I1.hok.fresh (Nat.le_of_eq eD)
  obtain ⟨W, ⟨m0, begun⟩, turn⟩ := turns D newD
  obtain ⟨H2, eH2⟩ : ∃ H2, upd H1 D (.dT []) = H2 := ⟨_, rfl⟩
  obtain ⟨s3, e3⟩ : ∃ s3 : Shared, { s2 with heap := s2.heap.push { cls := .type "dict", data := .dict #[] } } = s3 := ⟨_, rfl⟩
  have heap3 : s3.heap = s2.heap.push { cls := .type "dict", data := .dict #[] } := by rw [← e3]
  have I2 : Inv X pins σ H2 s3 := by
    rw [← e3, ← eH2]
    exact I1.laid (t' := s2.toks) (fun b o e => Heap.get?_push_of_some _ e) (Nat.le_of_eq eD) (by rw [← eD]; exact dt_empty s2.heap I1.big)
  have below : ∀ b, b ∈ fp → b < s2.heap.objs.size := fun b m => (T.obj _ _ at0 b m).elim fun o z => Heap.lt_size z.1
  have free2 : ∀ b ∈ fp, FpOk X pins H2 b ∧ b < s3.heap.objs.size := fun b m => by
    have lt := below b m
    have ne : b ≠ D := by
      rw [← eD]
      exact Nat.ne_of_lt lt
    obtain ⟨f0, f1⟩ := free1 b m
    refine ⟨⟨?_, f1⟩, ?_⟩
    · rw [← eH2, upd_ne ne]
      exact f0
    · rw [heap3, Heap.size_push]
      exact Nat.lt_succ_of_lt lt
  have at0' : tn 0 s3.heap := T.keep _ _ _ at0 fun b _ o e => by
    rw [heap3]
    exact Heap.get?_push_of_some (h := s2.heap) _ e
  have I3 := block_start I2 blk names free2
  have pg := goal s3 H2 s3.heap.objs.size (cellsFrom (s3.heap.objs.size + 1) scope.names (cloFrom X.env.cells scope.names [])) fp
  have pt := tests s3 H2 s3.heap.objs.size (cellsFrom (s3.heap.objs.size + 1) scope.names (cloFrom X.env.cells scope.names [])) fp
  have pk := key s3 H2 s3.heap.objs.size (cellsFrom (s3.heap.objs.size + 1) scope.names (cloFrom X.env.cells scope.names [])) fp
  have pe := val s3 H2 s3.heap.objs.size (cellsFrom (s3.heap.objs.size + 1) scope.names (cloFrom X.env.cells scope.names [])) fp
  rw [eH2] at begun
  show codeAny _ _ (.compStart (.DictComp kx vx [⟨tg, iter, ifs, 0⟩] scope pos) 0 (.ref it) (.ref D) (compEnvC scope (cellsFrom ({ s2 with heap := s2.heap.push { cls := .type "dict", data := .dict #[] } } : Shared).heap.objs.size.succ scope.names (cloFrom X.env.cells scope.names [])) ({ s2 with heap := s2.heap.push { cls := .type "dict", data := .dict #[] } } : Shared).heap.objs.size X.env)) _ { ({ s2 with heap := s2.heap.push { cls := .type "dict", data := .dict #[] } } : Shared) with heap := pushCells (({ s2 with heap := s2.heap.push { cls := .type "dict", data := .dict #[] } } : Shared).heap.push { cls := .type "dict", data := .dict #[] }) scope.names }
  rw [e3]
  obtain ⟨ce, ece⟩ : ∃ ce, compEnvC scope (cellsFrom (s3.heap.objs.size + 1) scope.names (cloFrom X.env.cells scope.names [])) s3.heap.objs.size X.env = ce := ⟨_, rfl⟩
  have own_loc : ce.locals = s3.heap.objs.size := by
    rw [← ece]
    rfl
  rw [ece] at I3 pg pt pk pe
  show codeAny _ _ (.compStart (.DictComp kx vx [⟨tg, iter, ifs, 0⟩] scope pos) 0 (.ref it) (.ref D) (compEnvC scope (cellsFrom (s3.heap.objs.size + 1) scope.names (cloFrom X.env.cells scope.names [])) s3.heap.objs.size X.env)) _ _
  rw [ece]
  obtain ⟨s4, e4⟩ : ∃ s4 : Shared, { s3 with heap := pushCells (s3.heap.push { cls := .type "dict", data := .dict #[] }) scope.names } = s4 := ⟨_, rfl⟩
  rw [e4] at I3
  rw [e4]
  have at4 : tn 0 s4.heap := T.keep _ _ _ at0' fun b _ o e => by
    rw [← e4]
    exact pushCells_keeps _ _ _ _ (Heap.get?_push_of_some _ e)
  have none2 : ∀ b ∈ fp, H2 b = none := fun b m => (free2 b m).1.1
  have held : ∀ {σ' : L2.St} {H' : Hp} {s' : Shared}, Inv (X.blk s3 H2 scope ce fp) [] σ' H' s' → (∀ b ∈ fp, H' b = none) → ∀ b ∈ fp, FpOk (X.blk s3 H2 scope ce fp) [] H' b := fun I' no b m =>
    ⟨no b m, (I'.ok.exf b m).1, I'.ok.exfs b m, .inl m, fun x c e => (I'.ok.exf b m).2 x c e, fun p mp => absurd (show p ∈ ([] : List (Addr × Obj)) ++ [] from mp) List.not_mem_nil⟩
  suffices loop : codeAny (model X.prog X.w) X.A (.compLoop (.DictComp kx vx [⟨tg, iter, ifs, 0⟩] scope pos) 0 (.ref it) (.ref D) ce) (compPost (model X.prog X.w) X.A X.xe use Qf (.ref D) s3.heap.objs.size) s4 from codeAny_compStart_dict loop (T.self X.A 0 _ _ _ at4 loop)
  refine compLoop_anyD (fun n s' => ∃ i H', Inv (X.blk s3 H2 scope ce fp) [] (wipe σ (own.map (·.2))) H' s' ∧ tn i s'.heap ∧ (∀ b ∈ fp, H' b = none) ∧ W i n H') ?_ m0 ⟨0, H2, I3, at4, none2, begun⟩
  rintro n s5 ⟨i, H5, I5, at5, none5, w5⟩
  rcases turn i n H5 w5 with ⟨ends, told⟩ | ⟨goes, Nx, next, body⟩
  · -- no item is left
    refine thnF (T.done (X.blk s3 H2 scope ce fp) rfl rfl rfl calm i [] s5 _ H5 (fun _ _ => False) I5 (held I5 none5) at5 ends) fun r s6 come => ?_
    obtain ⟨rfl, I6⟩ := come
    have home : Inv X pins σ H5 s6 := I2.call' (ch := fp) I6.os I6.base I6.hok I6.bare fun b m => by
      obtain ⟨_, f1, _, f3, f4, f5⟩ := (free2 b m).1
      exact ⟨f3, f1, f4, f5⟩
    have noC : H5 s3.heap.objs.size = none := by
      rw [← own_loc]
      exact I6.free
    obtain ⟨mm, ns, _⟩ := I6.loc
    have ns' : s6.heap.Ns s3.heap.objs.size mm := by
      rw [← own_loc]
      exact ns
    obtain ⟨c0, c1, c2, c3, c4, c5⟩ := I2.fpOk (Nat.le_refl s3.heap.objs.size) noC
    exact ending D s3.heap.objs.size s6 mm H5 home told ns' ⟨c0, c1, c2, c3, c4, c5⟩
  · -- a next item
    refine thnF (T.item (X.blk s3 H2 scope ce fp) rfl rfl rfl calm i [] s5 _ H5 (fun _ _ => False) I5 (held I5 none5) at5 goes) fun r s6 come => ?_
    obtain ⟨u, rfl, come⟩ := come
    refine thnF come fun _ s7 come => ?_
    obtain ⟨x, H7, I7, rel7, yld7, at7, none7⟩ := come
    have P7 := I7.pinned (held I7 none7) (T.obj _ _ at7)
    refine thnF (pg.run _ s7 _ H7 x u _ P7 rel7 (body x H7 yld7)) fun _ s8 come => ?_
    obtain ⟨σ8, H8, I8, kept8, q8⟩ := come
    refine thnF (pt.run _ s8 σ8 H8 _ I8 q8) fun b s9 come => ?_
    obtain ⟨H9, I9, q9⟩ := come
    have again : ∀ {s' : Shared} {H' : Hp}, Inv (X.blk s3 H2 scope ce fp) ([] ++ pinsAt fp s7.heap) σ8 H' s' → Nx H' → ∃ m, m < n ∧ ∃ i H', Inv (X.blk s3 H2 scope ce fp) [] (wipe σ (own.map (·.2))) H' s' ∧ tn i s'.heap ∧ (∀ b ∈ fp, H' b = none) ∧ W i m H' := fun {s' H'} I' nx => by
      obtain ⟨m', lt, w'⟩ := next H' nx
      have stays : ∀ c ∈ fp, ∀ o, s7.heap.get? c = some o → s'.heap.get? c = some o ∧ H' c = none := fun c mc o e => by
        obtain ⟨y1, y2, _⟩ := I'.pin (c, o) (List.mem_append_right _ (List.mem_append_right _ (mem_pinsAt mc e)))
        exact ⟨y1, y2⟩
      refine ⟨m', lt, i + 1, H', (I'.unpinned (pins := [])).weak ?_ (fun j v e => ?_), T.keep _ _ _ at7 fun c mc o e => (stays c mc o e).1, fun c mc => ?_, w'⟩
      · rw [← kept8, wipe_length]
      · rw [← kept8] at e
        exact (wipe_some e).1
      · obtain ⟨o, e, _⟩ := T.obj _ _ at7 c mc
        exact (stays c mc o e).2
    cases b with
    | false => exact again I9 q9
    | true =>
      refine thnF (pk.run _ s9 σ8 H9 _ I9 q9) fun uk s10 come => ?_
      obtain ⟨yk, H10, I10, rel10, q10⟩ := come
      refine thnF (pe.run _ s10 σ8 H10 _ I10 q10) fun uv s11 come => ?_
      obtain ⟨yv, H11, I11, rel11, kvs, k, c, rfl, at_c, at_D, few, nx⟩ := come
      cases (show uk = Value.ref c from rel10)
      exact put_tup (X := X.blk s3 H2 scope ce fp) room I11 at_D few at_c rel11 fun s12 I12 => again I12 nx
theorem ps_setDcT {i : Nat} {y : Str} {py pos spos : Pos} {kx vx tg iter : Expr} {ifs : List Expr} {scope : Scope} {own : List (Str × Nat)} {wi : TI} {g : TG} {tt : TT} {tk tv : TE} (calm : X.calm = true) (names : X.N.Nodup) (room : X.A.units + 1 < cLine) (at_ : X.N[i]? = some y) (plain : X.env.scope.names.lookup y = some .local)
    (sw : swapsWith (.DictComp kx vx [⟨tg, iter, ifs, 0⟩] scope pos) (some (.Name y py)) spos.line X.env = pure true) (over : PI X tg iter wi) (blk : BlkOk X.N X.env.scope scope own)
    (pg : ∀ (s : Shared) (H : Hp) (C : Addr) (cl : List (Str × Addr)) (fp : List Addr), PG (X.blk s H scope (compEnvC scope cl C X.env) fp) tg g)
    (pt : ∀ (s : Shared) (H : Hp) (C : Addr) (cl : List (Str × Addr)) (fp : List Addr), PTs (X.blk s H scope (compEnvC scope cl C X.env) fp) ifs tt)
    (pk : ∀ (s : Shared) (H : Hp) (C : Addr) (cl : List (Str × Addr)) (fp : List Addr), PE (X.blk s H scope (compEnvC scope cl C X.env) fp) kx tk)
    (pw : ∀ (s : Shared) (H : Hp) (C : Addr) (cl : List (Str × Addr)) (fp : List Addr), PE (X.blk s H scope (compEnvC scope cl C X.env) fp) vx tv) (flat : ∀ x, foldedSetIterable iter X.env x = pure x := by intro _; rfl) :
    PS X (.Assign [.Name y py] (.DictComp kx vx [⟨tg, iter, ifs, 0⟩] scope pos) spos) (tAsg (tDcT wi g tt tk tv (own.map (·.2))) (gName i)) := by
  refine ⟨fun pins s σ H D I read => ?_⟩
  rw [exec_Assign_Name_used _ _ _ _ sw]
  apply wpAny_bind
  refine wpAny_standAt (wpAny_bind ?_)
  show wpAny _ X.A (do let _ ← comprehension (.DictComp kx vx [⟨tg, iter, ifs, 0⟩] scope pos) scope X.env (firstIterPos [⟨tg, iter, ifs, 0⟩] pos) newDict false (eval iter X.env) (some (assign (.Name y py) X.env))) _ _ s
  have read2 : tDcT wi g tt tk tv (own.map (·.2)) σ H (fun x H1 => gName i x σ H1 D.nx) := read
  refine wpAny_bind (thn (dcT_use (Qf := fun _ s2 => SP X pins D .next s2) calm names room I over blk pg pt pk pw flat read2 fun L C s2 m H2 I2 q ns f => ?_) fun _ s2 done => wpAny_pure (wpAny_pure done))
  rcases f with ⟨f0, f1, _, f3, f4, f5⟩
  change wpAny _ _ (assign (.Name y py) X.env (.ref L)) _ _ _
  refine wpAny_assign_Name (store_ok2 (v := V.ref L) I2 names at_ (.inl plain) rfl (fun s3 I3 ⟨a, sb, ha⟩ => ?_) (.inr plain))
  have apart : C ≠ a := by
    rcases ha with z | z
    · rw [z]
      exact f1
    · exact (f4 y a z).symm
  exact ⟨m, ns.sameBut sb apart, fun h3 sb3 => ⟨_, H2, I3.turned (t' := s3.toks) (fun b o hb e => (sb3.2 b hb).trans e) f0 f1 f3 f4 f5, q⟩⟩
end
end Tg

set_option maxHeartbeats 1000000
namespace Tg
open PySem PySem.Spec PyProof.Rows L2
/-! ### xs[::-1] of a list -/
section
variable {X : Cx} {e : Expr} {te : TE} {step : Expr} {ts : TO} {pos p2 : Pos}
def tRevL (K : PySem.W.Frag) (te : TE) (ts : TO) : TE := fun σ H Q => te σ H fun x H1 => ts σ H1 fun st H2 => st = some (-1) ∧ ∃ (a : Addr) (xs : List V), x = .ref a ∧ SqL K H2 a xs ∧ ∀ p, H2 p = none → Q (.ref p) (upd H2 p (.lst xs.reverse))
theorem pe_revL (he : PE X e te) (hst : PO X (some step) ts) : PE X (.Subscript e (.Slice none none (some step) p2) pos) (tRevL X.K te ts) := by
  refine ⟨fun pins s σ H Q I read => ?_⟩
  refine Subscript_ (thn (he.run pins s σ H _ I read) fun v s1 ⟨x, H1, I1, r1, q1⟩ => ?_)
  refine wpAny_Slice ?_
  rw [evalPart_none]
  apply wpAny_pure
  apply wpAny_pure
  refine thn (hst.run pins s1 σ H1 _ I1 q1) fun vst s2 ⟨st, H2, I2, part, q2⟩ => ?_
  obtain ⟨rfl, a, xs, rfl, hx, q⟩ := q2
  cases r1
  have I3 : Inv X pins σ H2 { s2 with heap := s2.heap.push { cls := .type "slice", data := .fields #[.none, .none, vst] } } := I2.kept (t' := s2.toks) fun b ob q => Heap.get?_push_of_some _ q
  obtain ⟨its, r, at_, hz⟩ := I3.list hx
  have len := r.length
  have got : wpAny (model X.prog X.w) X.A (getItem (.ref a) (.ref s2.heap.objs.size)) (EP X pins σ Q) X.xe { s2 with heap := s2.heap.push { cls := .type "slice", data := .fields #[.none, .none, vst] } } := by
    refine wpAny_getItem_list_slice (lo := none) (hi := none) (st := some (-1)) at_.isList (Heap.IsSliceOf.new ..) .none .none part (by decide) ?_ (by rw [List.size_toArray, ← len]; exact hz)
    rw [PySem.W.krv_pick]
    refine ⟨.ref _, _, I3.laid (t' := s2.toks) (o := .lst xs.reverse) (fun b ob q => Heap.get?_push_of_some _ q) (Nat.le_refl _) ?_, rfl, q _ (I3.hok.fresh (Nat.le_refl _))⟩
    exact ⟨by rw [List.length_reverse]; exact hz, its.reverse, 0, r.reverse, Heap.get?_push_size _ rfl⟩
  show wpAny (model X.prog X.w) X.A (subscriptTail e (.Slice none none (some step) p2) (.ref a) (.ref s2.heap.objs.size)) (EP X pins σ Q) X.xe { s2 with heap := s2.heap.push { cls := .type "slice", data := .fields #[.none, .none, vst] } }
  exact tail_any (ops := [.ref a, .ref s2.heap.objs.size]) at_.isList.typeIs slot_list_getitem.lookup got (by with_unfolding_all rfl)
end
end Tg

namespace Tg
namespace Pl
/-! ### a stretch's edges, steps and least costs -/
/-- a step: whether by a cell, from, to, its cost -/
structure Stp where
  cell : Bool
  fr : Int
  to : Int
  cost : Int
deriving DecidableEq
/-- how many points lie from a on, below b -/
def cnt (ps : List Int) (a b : Int) : Nat := (ps.filter fun p => decide (a ≤ p ∧ p < b)).length
/-- how many lie below x -/
def below (ps : List Int) (x : Int) : Nat := (ps.filter fun p => decide (p < x)).length
theorem below_add (ps : List Int) {a b : Int} (ab : a ≤ b) : below ps b = below ps a + cnt ps a b := by
  unfold below cnt
  induction ps with
  | nil => rfl
  | cons p r ih =>
    rw [List.filter_cons, List.filter_cons, List.filter_cons]
    by_cases h1 : p < a
    · rw [decide_eq_true (show p < b by omega), decide_eq_true h1, decide_eq_false (show ¬ (a ≤ p ∧ p < b) by omega)]
      show (_ :: _).length = (_ :: _).length + _
      rw [List.length_cons, List.length_cons, ih]
      simp only [if_false, Bool.false_eq_true]
      omega
    · by_cases h2 : p < b
      · rw [decide_eq_true h2, decide_eq_false h1, decide_eq_true (show a ≤ p ∧ p < b by omega)]
        simp only [Bool.false_eq_true, if_false, if_true, List.length_cons, ih]
        omega
      · rw [decide_eq_false h2, decide_eq_false h1, decide_eq_false (show ¬ (a ≤ p ∧ p < b) by omega)]
        simp only [if_false, Bool.false_eq_true]
        exact ih
theorem cnt_add (ps : List Int) {a b c : Int} (ab : a ≤ b) (bc : b ≤ c) : cnt ps a c = cnt ps a b + cnt ps b c := by
  have h1 := below_add ps ab
  have h2 := below_add ps bc
  have h3 := below_add ps (show a ≤ c by omega)
  omega
theorem cnt_perm {ps qs : List Int} (h : ps.Perm qs) (a b : Int) : cnt ps a b = cnt qs a b := (h.filter _).length_eq
theorem below_perm {ps qs : List Int} (h : ps.Perm qs) (a : Int) : below ps a = below qs a := (h.filter _).length_eq
theorem cnt_le (ps : List Int) (a b : Int) : cnt ps a b ≤ ps.length := List.length_filter_le ..
theorem below_le (ps : List Int) (a : Int) : below ps a ≤ ps.length := List.length_filter_le ..
/-! ### relaxing, one step behind the other -/
abbrev Ht := Int → Option Int
abbrev Pc := Int → Option (Bool × Int)
def rel (H : Ht) (t : Stp) : Ht := match H t.fr with
  | none => H
  | some g => fun x => if x = t.to then some (match H t.to with | none => g + t.cost | some o => min o (g + t.cost)) else H x
/-- whether a step lowers what is behind it -/
def low (H : Ht) (t : Stp) : Bool := match H t.fr with
  | none => false
  | some g => match H t.to with
    | none => true
    | some o => decide (g + t.cost < o)
def relP (s : Ht × Pc) (t : Stp) : Ht × Pc := (rel s.1 t, if low s.1 t then fun x => if x = t.to then some (t.cell, t.fr) else s.2 x else s.2)
def H0 (s : Int) : Ht := fun x => if x = s then some 0 else none
theorem rel_other {H : Ht} {t : Stp} {x : Int} (h : x ≠ t.to) : rel H t x = H x := by
  unfold rel
  cases H t.fr with
  | none => rfl
  | some g =>
    show (if x = t.to then _ else _) = _
    rw [if_neg h]
theorem rel_to {H : Ht} {t : Stp} {g : Int} (h : H t.fr = some g) : ∃ o, rel H t t.to = some o ∧ o ≤ g + t.cost ∧ (∀ q, H t.to = some q → o ≤ q) ∧ ((low H t = true ∧ o = g + t.cost) ∨ (low H t = false ∧ H t.to = some o)) := by
  unfold rel low
  rw [h]
  cases e : H t.to with
  | none => exact ⟨g + t.cost, by show (if t.to = t.to then _ else _) = _; rw [if_pos rfl], Int.le_refl _, (fun q z => by cases z), .inl ⟨rfl, rfl⟩⟩
  | some q =>
    refine ⟨min q (g + t.cost), by show (if t.to = t.to then _ else _) = _; rw [if_pos rfl], by omega, fun z e => ?_, ?_⟩
    · obtain rfl := Option.some.inj e
      omega
    · by_cases c : g + t.cost < q
      · exact .inl ⟨decide_eq_true c, by omega⟩
      · refine .inr ⟨decide_eq_false c, ?_⟩
        rw [show min q (g + t.cost) = q by omega]
theorem rel_none {H : Ht} {t : Stp} (h : H t.fr = none) : rel H t = H := by
  unfold rel
  rw [h]
theorem low_none {H : Ht} {t : Stp} (h : H t.fr = none) : low H t = false := by
  unfold low
  rw [h]
/-- what stands when the steps L were relaxed -/
structure Inv (s : Int) (L : List Stp) (H : Ht) (P : Pc) : Prop where
  start : H s = some 0
  tight : ∀ t, t ∈ L → ∀ g, H t.fr = some g → ∃ o, H t.to = some o ∧ o ≤ g + t.cost
  back : ∀ x o, x ≠ s → H x = some o → ∃ t, t ∈ L ∧ t.to = x ∧ P x = some (t.cell, t.fr) ∧ H t.fr = some (o - t.cost)
theorem inv_zero (s : Int) : Inv s [] (H0 s) fun _ => none :=
  ⟨if_pos rfl, fun t h => (by cases h), fun x o ne e => by
    unfold H0 at e
    rw [if_neg ne] at e
    cases e⟩
theorem Inv.step {s : Int} {L : List Stp} {H : Ht} {P : Pc} {t : Stp} (I : Inv s L H P) (up : ∀ u, u ∈ L → u.fr ≤ t.fr) (fw : t.fr < t.to) (st : s ≤ t.fr) : Inv s (L ++ [t]) (relP (H, P) t).1 (relP (H, P) t).2 := by
  show Inv s (L ++ [t]) (rel H t) (if low H t then fun x => if x = t.to then some (t.cell, t.fr) else P x else P)
  have keep : ∀ u, u ∈ L ++ [t] → rel H t u.fr = H u.fr := fun u hu => by
    rcases List.mem_append.mp hu with h | h
    · exact rel_other (by have := up u h; omega)
    · rw [List.mem_singleton.mp h]
      exact rel_other (by omega)
  refine ⟨?_, fun u hu g e => ?_, fun x o ne e => ?_⟩
  · rw [rel_other (by omega)]
    exact I.start
  · rw [keep u hu] at e
    by_cases c : u.to = t.to
    · cases hf : H t.fr with
      | none =>
        rw [rel_none hf]
        rcases List.mem_append.mp hu with h | h
        · exact I.tight u h g e
        · rw [List.mem_singleton.mp h, hf] at e
          cases e
      | some gt =>
        obtain ⟨o, h1, h2, h3, _⟩ := rel_to hf
        rw [c]
        refine ⟨o, h1, ?_⟩
        rcases List.mem_append.mp hu with h | h
        · obtain ⟨q, hq, ql⟩ := I.tight u h g e
          rw [c] at hq
          have := h3 q hq
          omega
        · rw [List.mem_singleton.mp h] at e ⊢
          rw [hf] at e
          obtain rfl := Option.some.inj e
          exact h2
    · rw [rel_other c]
      rcases List.mem_append.mp hu with h | h
      · exact I.tight u h g e
      · rw [List.mem_singleton.mp h] at c
        exact absurd rfl c
  · have old : ∀ o, H x = some o → (low H t = true → x ≠ t.to) → ∃ u, u ∈ L ++ [t] ∧ u.to = x ∧ (if low H t then fun x => if x = t.to then some (t.cell, t.fr) else P x else P) x = some (u.cell, u.fr) ∧ rel H t u.fr = some (o - u.cost) := fun o e nx => by
      obtain ⟨u, hu, h1, h2, h3⟩ := I.back x o ne e
      refine ⟨u, List.mem_append_left _ hu, h1, ?_, by rw [keep u (List.mem_append_left _ hu)]; exact h3⟩
      cases c : low H t with
      | false => exact h2
      | true =>
        show (if x = t.to then _ else _) = _
        rw [if_neg (nx c)]
        exact h2
    by_cases c : x = t.to
    · subst c
      cases hf : H t.fr with
      | none =>
        rw [rel_none hf] at e
        exact old o e fun z => by rw [low_none hf] at z; cases z
      | some g =>
        obtain ⟨q, h1, h2, h3, h4⟩ := rel_to hf
        rw [h1] at e
        obtain rfl := Option.some.inj e
        rcases h4 with ⟨lw, rfl⟩ | ⟨lw, h4⟩
        · refine ⟨t, List.mem_append_right _ (.head _), rfl, ?_, ?_⟩
          · rw [lw]
            show (if t.to = t.to then _ else _) = _
            rw [if_pos rfl]
          · rw [keep t (List.mem_append_right _ (.head _)), hf]
            congr 1
            omega
        · exact old q h4 fun z => by rw [lw] at z; cases z
    · rw [rel_other c] at e
      exact old o e fun _ => c
theorem inv_all {s : Int} : ∀ (R L : List Stp) {H : Ht} {P : Pc}, Inv s L H P → (L ++ R).Pairwise (fun t u => t.fr ≤ u.fr) → (∀ t, t ∈ R → t.fr < t.to ∧ s ≤ t.fr) → Inv s (L ++ R) (R.foldl relP (H, P)).1 (R.foldl relP (H, P)).2
  | [], L, _, _, I, _, _ => by rw [List.append_nil]; exact I
  | t :: R, L, H, P, I, up, fw => by
    have a := fw t (.head _)
    have I2 := I.step (t := t) (fun u hu => (List.pairwise_append.mp up).2.2 u hu t (.head _)) a.1 a.2
    have e : L ++ t :: R = L ++ [t] ++ R := by simp
    rw [e] at up ⊢
    exact inv_all R (L ++ [t]) I2 up fun u hu => fw u (.tail _ hu)
/-! ### the order of steps from one edge is free -/
theorem rel_comm {H : Ht} {t u : Stp} (e : t.fr = u.fr) (ft : t.fr ≠ t.to) (fu : u.fr ≠ u.to) : rel (rel H t) u = rel (rel H u) t := by
  cases h : H t.fr with
  | none =>
    have h2 : H u.fr = none := e ▸ h
    rw [rel_none h, rel_none h2, rel_none h]
  | some g =>
    have h2 : H u.fr = some g := e ▸ h
    have h3 : rel H t u.fr = some g := by
      rw [rel_other (by rw [← e]; exact ft)]
      exact h2
    have h4 : rel H u t.fr = some g := by
      rw [rel_other (by rw [e]; exact fu)]
      exact h
    funext x
    have all : ∀ (K : Ht) (v : Stp), K v.fr = some g → rel K v x = if x = v.to then some (match K v.to with | none => g + v.cost | some o => min o (g + v.cost)) else K x := fun K v hv => by
      unfold rel
      rw [hv]
    rw [all _ u h3, all _ t h4, all H t h, all H u h2]
    by_cases c1 : x = u.to
    · by_cases c2 : x = t.to
      · rw [if_pos c1, if_pos c2]
        have c3 : u.to = t.to := c1.symm.trans c2
        have e1 : rel H t u.to = some (match H t.to with | none => g + t.cost | some o => min o (g + t.cost)) := by
          rw [c3]
          unfold rel
          rw [h]
          exact if_pos rfl
        have e2 : rel H u t.to = some (match H u.to with | none => g + u.cost | some o => min o (g + u.cost)) := by
          rw [← c3]
          unfold rel
          rw [h2]
          exact if_pos rfl
        rw [e1, e2, c3]
        cases H t.to with
        | none =>
          show some (min (g + t.cost) (g + u.cost)) = some (min (g + u.cost) (g + t.cost))
          rw [Int.min_comm]
        | some o =>
          show some (min (min o (g + t.cost)) (g + u.cost)) = some (min (min o (g + u.cost)) (g + t.cost))
          congr 1
          omega
      · rw [if_pos c1, if_neg c2, if_pos c1]
        rw [rel_other (by rw [← c1]; exact c2)]
    · by_cases c2 : x = t.to
      · rw [if_neg c1, if_pos c2, if_pos c2]
        rw [rel_other (by rw [← c2]; exact c1)]
      · rw [if_neg c1, if_neg c2, if_neg c2, if_neg c1]
theorem rel_perm {a : Int} {L M : List Stp} (p : L.Perm M) : (∀ t, t ∈ L → t.fr = a ∧ t.fr ≠ t.to) → ∀ H : Ht, L.foldl rel H = M.foldl rel H := by
  induction p with
  | nil => exact fun _ _ => rfl
  | cons x _ ih => exact fun h H => ih (fun t ht => h t (.tail _ ht)) _
  | swap x y l =>
    intro h H
    have hx := h x (.tail _ (.head _))
    have hy := h y (.head _)
    show l.foldl rel (rel (rel H y) x) = l.foldl rel (rel (rel H x) y)
    rw [rel_comm (hy.1.trans hx.1.symm) hy.2 hx.2]
  | trans p1 p2 i1 i2 => exact fun h H => (i1 h H).trans (i2 (fun t ht => h t (p1.mem_iff.mpr ht)) H)
theorem rel_blocks {F G : Int → List Stp} : ∀ (es : List Int), (∀ a, a ∈ es → (F a).Perm (G a) ∧ ∀ t, t ∈ F a → t.fr = a ∧ t.fr ≠ t.to) → ∀ H : Ht, (es.flatMap F).foldl rel H = (es.flatMap G).foldl rel H
  | [], _, _ => rfl
  | a :: r, h, H => by
    rw [List.flatMap_cons, List.flatMap_cons, List.foldl_append, List.foldl_append, rel_perm (h a (.head _)).1 (h a (.head _)).2]
    exact rel_blocks r (fun b hb => h b (.tail _ hb)) _
theorem relP_fst : ∀ (L : List Stp) (s : Ht × Pc), (L.foldl relP s).1 = L.foldl rel s.1
  | [], _ => rfl
  | t :: r, s => relP_fst r (relP s t)
end Pl
end Tg

namespace Tg
namespace Pl
/-! ### a world, its steps -/
structure Wd where
  s : Int
  e : Int
  h : Option Int
  cs : List (Int × Int)
  ps : List Int
/-- cells go forward, the end isn't ahead of the start -/
structure Wd.Ok (W : Wd) : Prop where
  se : W.s ≤ W.e
  fw : ∀ c, c ∈ W.cs → c.1 < c.2
def ins (W : Wd) : List (Int × Int) := W.cs.filter fun c => decide (W.s ≤ c.1 ∧ c.2 ≤ W.e)
def tms (W : Wd) : List Int := [W.s, W.e] ++ (ins W).flatMap fun c => [c.1, c.2]
def edg (W : Wd) : List Int := bookOf (tms W)
/-- whether points are known from a on -/
def hok (h : Option Int) (a : Int) : Bool := match h with
  | none => true
  | some x => decide (x ≤ a)
def nbr (E : List Int) : List (Int × Int) := E.zip (E.drop 1)
def ptS (W : Wd) : List Stp := ((nbr (edg W)).filter fun q => hok W.h q.1).map fun q => ⟨false, q.1, q.2, cnt W.ps q.1 q.2⟩
def clS (W : Wd) : List Stp := (ins W).map fun c => ⟨true, c.1, c.2, 1⟩
def own (W : Wd) (a : Int) : List Stp := (ptS W).filter (fun t => decide (t.fr = a)) ++ (clS W).filter fun t => decide (t.fr = a)
def ownL (W : Wd) (a : Int) : List Stp := (clS W ++ ptS W).filter fun t => decide (t.fr = a)
def PS (W : Wd) : List Stp := (edg W).flatMap (own W)
def fin (W : Wd) : Ht × Pc := (PS W).foldl relP (H0 W.s, fun _ => none)
def hts (W : Wd) : Ht := (fin W).1
def pcs (W : Wd) : Pc := (fin W).2
theorem mem_ins {W : Wd} {c : Int × Int} : c ∈ ins W ↔ c ∈ W.cs ∧ W.s ≤ c.1 ∧ c.2 ≤ W.e := by
  unfold ins
  rw [List.mem_filter, decide_eq_true_iff]
theorem edg_mem {W : Wd} {x : Int} : x ∈ edg W ↔ x = W.s ∨ x = W.e ∨ ∃ c, c ∈ ins W ∧ (x = c.1 ∨ x = c.2) := by
  unfold edg
  rw [(book_is (tms W)).2 x]
  unfold tms
  rw [List.mem_append, List.mem_flatMap]
  simp only [List.mem_cons, List.not_mem_nil, or_false]
  constructor
  · rintro ((h | h) | ⟨c, h, g⟩)
    · exact .inl h
    · exact .inr (.inl h)
    · exact .inr (.inr ⟨c, h, g⟩)
  · rintro (h | h | ⟨c, h, g⟩)
    · exact .inl (.inl h)
    · exact .inl (.inr h)
    · exact .inr ⟨c, h, g⟩
theorem edg_up (W : Wd) : (edg W).Pairwise (· < ·) := (book_is (tms W)).1
theorem edg_in {W : Wd} (ok : W.Ok) {x : Int} (h : x ∈ edg W) : W.s ≤ x ∧ x ≤ W.e := by
  have := ok.se
  rcases edg_mem.mp h with rfl | rfl | ⟨c, hc, g⟩
  · omega
  · omega
  · obtain ⟨h1, h2, h3⟩ := mem_ins.mp hc
    have := ok.fw c h1
    rcases g with rfl | rfl <;> omega
theorem nbr_mem {E : List Int} {q : Int × Int} (up : E.Pairwise (· < ·)) (h : q ∈ nbr E) : q.1 ∈ E ∧ q.2 ∈ E ∧ q.1 < q.2 := by
  rcases List.mem_iff_getElem.mp h with ⟨i, hi, e⟩
  unfold nbr at hi e
  rw [List.length_zip, List.length_drop] at hi
  rw [List.getElem_zip, List.getElem_drop] at e
  subst e
  refine ⟨List.getElem_mem _, List.getElem_mem _, ?_⟩
  exact List.pairwise_iff_getElem.mp up i (1 + i) (by omega) (by omega) (by omega)
/-- a piece: whether a cell, from, to -/
abbrev Pce := Bool × Int × Int
def cst (ps : List Int) (p : Pce) : Int := if p.1 then 1 else cnt ps p.2.1 p.2.2
structure OkP (W : Wd) (p : Pce) : Prop where
  fw : p.2.1 < p.2.2
  cell : p.1 = true → p.2 ∈ W.cs
  pt : p.1 = false → hok W.h p.2.1 = true
theorem pt_ok {W : Wd} {t : Stp} (h : t ∈ ptS W) : t.cell = false ∧ t.fr ∈ edg W ∧ t.to ∈ edg W ∧ OkP W (t.cell, t.fr, t.to) ∧ t.cost = cst W.ps (t.cell, t.fr, t.to) := by
  unfold ptS at h
  obtain ⟨q, hq, rfl⟩ := List.mem_map.mp h
  obtain ⟨h1, h2⟩ := List.mem_filter.mp hq
  obtain ⟨m1, m2, lt⟩ := nbr_mem (edg_up W) h1
  exact ⟨rfl, m1, m2, ⟨lt, (fun z => nomatch z), fun _ => h2⟩, rfl⟩
theorem cl_ok {W : Wd} (ok : W.Ok) {t : Stp} (h : t ∈ clS W) : t.cell = true ∧ t.fr ∈ edg W ∧ t.to ∈ edg W ∧ OkP W (t.cell, t.fr, t.to) ∧ t.cost = cst W.ps (t.cell, t.fr, t.to) := by
  unfold clS at h
  obtain ⟨c, hc, rfl⟩ := List.mem_map.mp h
  have hm := (mem_ins.mp hc).1
  exact ⟨rfl, edg_mem.mpr (.inr (.inr ⟨c, hc, .inl rfl⟩)), edg_mem.mpr (.inr (.inr ⟨c, hc, .inr rfl⟩)), ⟨ok.fw c hm, fun _ => hm, fun z => nomatch z⟩, rfl⟩
theorem own_mem {W : Wd} {a : Int} {t : Stp} : t ∈ own W a ↔ (t ∈ ptS W ∨ t ∈ clS W) ∧ t.fr = a := by
  unfold own
  rw [List.mem_append, List.mem_filter, List.mem_filter, decide_eq_true_iff]
  constructor
  · rintro (⟨h, e⟩ | ⟨h, e⟩)
    · exact ⟨.inl h, e⟩
    · exact ⟨.inr h, e⟩
  · rintro ⟨h | h, e⟩
    · exact .inl ⟨h, e⟩
    · exact .inr ⟨h, e⟩
theorem stp_ok {W : Wd} (ok : W.Ok) {t : Stp} (h : t ∈ ptS W ∨ t ∈ clS W) : t.fr ∈ edg W ∧ t.to ∈ edg W ∧ OkP W (t.cell, t.fr, t.to) ∧ t.cost = cst W.ps (t.cell, t.fr, t.to) := by
  rcases h with h | h
  · exact (pt_ok h).2
  · exact (cl_ok ok h).2
theorem ps_mem {W : Wd} (ok : W.Ok) {t : Stp} : t ∈ PS W ↔ t ∈ ptS W ∨ t ∈ clS W := by
  unfold PS
  rw [List.mem_flatMap]
  constructor
  · rintro ⟨a, _, h⟩
    exact (own_mem.mp h).1
  · intro h
    exact ⟨t.fr, (stp_ok ok h).1, own_mem.mpr ⟨h, rfl⟩⟩
theorem ps_up (W : Wd) : (PS W).Pairwise fun t u => t.fr ≤ u.fr := by
  have g : ∀ E : List Int, E.Pairwise (· < ·) → (E.flatMap (own W)).Pairwise fun t u => t.fr ≤ u.fr := fun E => by
    induction E with
    | nil => exact fun _ => .nil
    | cons a r ih =>
      intro up
      have p := List.pairwise_cons.mp up
      rw [List.flatMap_cons]
      refine List.pairwise_append.mpr ⟨List.pairwise_of_forall_mem_list fun t ht u hu => ?_, ih p.2, fun t ht u hu => ?_⟩
      · rw [(own_mem.mp ht).2, (own_mem.mp hu).2]
        exact Int.le_refl _
      · obtain ⟨b, hb, hu⟩ := List.mem_flatMap.mp hu
        rw [(own_mem.mp ht).2, (own_mem.mp hu).2]
        have := p.1 b hb
        omega
  exact g _ (edg_up W)
theorem hts_inv {W : Wd} (ok : W.Ok) : Inv W.s (PS W) (hts W) (pcs W) := by
  have I := inv_all (s := W.s) (PS W) [] (inv_zero W.s) (ps_up W) fun t ht => by
    obtain ⟨h1, _, h3, _⟩ := stp_ok ok ((ps_mem ok).mp ht)
    exact ⟨h3.fw, (edg_in ok h1).1⟩
  exact I
/-- what is reached is an edge -/
theorem hts_edg {W : Wd} (ok : W.Ok) {x o : Int} (h : hts W x = some o) : x ∈ edg W := by
  by_cases c : x = W.s
  · exact edg_mem.mpr (.inl c)
  · obtain ⟨t, ht, rfl, _⟩ := (hts_inv ok).back x o c h
    exact (stp_ok ok ((ps_mem ok).mp ht)).2.1
/-- how it was reached -/
theorem hts_back {W : Wd} (ok : W.Ok) {x o : Int} (ne : x ≠ W.s) (h : hts W x = some o) : ∃ w a, pcs W x = some (w, a) ∧ OkP W (w, a, x) ∧ hts W a = some (o - cst W.ps (w, a, x)) := by
  obtain ⟨t, ht, rfl, hp, hf⟩ := (hts_inv ok).back x o ne h
  obtain ⟨_, _, h3, h4⟩ := stp_ok ok ((ps_mem ok).mp ht)
  exact ⟨t.cell, t.fr, hp, h3, h4 ▸ hf⟩
theorem hts_tight {W : Wd} (ok : W.Ok) {t : Stp} (h : t ∈ ptS W ∨ t ∈ clS W) {g : Int} (e : hts W t.fr = some g) : ∃ o, hts W t.to = some o ∧ o ≤ g + t.cost := (hts_inv ok).tight t ((ps_mem ok).mpr h) g e
/-- the law's own order of the steps leads to the same -/
theorem law_hts {W : Wd} (ok : W.Ok) : ((edg W).flatMap (ownL W)).foldl rel (H0 W.s) = hts W := by
  unfold hts fin
  rw [relP_fst]
  refine (rel_blocks (F := own W) (G := ownL W) _ (fun a _ => ⟨?_, fun t ht => ?_⟩) _).symm
  · unfold own ownL
    rw [List.filter_append]
    exact List.perm_append_comm
  · obtain ⟨h, e⟩ := own_mem.mp ht
    have := (stp_ok ok h).2.2.1.fw
    exact ⟨e, fun z => by
      have z2 : t.fr < t.to := this
      omega⟩
/-! ### chains of pieces -/
def Chain (W : Wd) : Int → List Pce → Int → Prop
  | a, [], b => a = b
  | a, p :: r, b => p.2.1 = a ∧ OkP W p ∧ Chain W p.2.2 r b
def tot (ps : List Int) (L : List Pce) : Int := (L.map (cst ps)).sum
theorem tot_cons (ps : List Int) (p : Pce) (L : List Pce) : tot ps (p :: L) = cst ps p + tot ps L := rfl
theorem tot_app (ps : List Int) (L M : List Pce) : tot ps (L ++ M) = tot ps L + tot ps M := by
  unfold tot
  rw [List.map_append, List.sum_append]
theorem chain_app {W : Wd} : ∀ {L M : List Pce} {a b c : Int}, Chain W a L b → Chain W b M c → Chain W a (L ++ M) c
  | [], M, a, b, c, h, g => by
    obtain rfl : a = b := h
    exact g
  | p :: r, M, a, b, c, h, g => ⟨h.1, h.2.1, chain_app h.2.2 g⟩
theorem chain_split {W : Wd} : ∀ {L M : List Pce} {a c : Int}, Chain W a (L ++ M) c → ∃ b, Chain W a L b ∧ Chain W b M c
  | [], M, a, c, h => ⟨a, rfl, h⟩
  | p :: r, M, a, c, h => by
    obtain ⟨b, h1, h2⟩ := chain_split (L := r) h.2.2
    exact ⟨b, ⟨h.1, h.2.1, h1⟩, h2⟩
/-- pieces of points that meet, as one -/
def mrg (out : List Pce) (p : Pce) : List Pce := match out.getLast? with
  | some (false, a, _) => if p.1 then out ++ [p] else out.dropLast ++ [(false, a, p.2.2)]
  | _ => out ++ [p]
def whole (L : List Pce) : List Pce := L.foldl mrg []
theorem mrg_ok {W : Wd} {out : List Pce} {p : Pce} {a b c : Int} (h : Chain W a out b) (g : Chain W b [p] c) : Chain W a (mrg out p) c ∧ tot W.ps (mrg out p) = tot W.ps out + cst W.ps p := by
  have plain : Chain W a (out ++ [p]) c ∧ tot W.ps (out ++ [p]) = tot W.ps out + cst W.ps p := ⟨chain_app h g, by
    rw [tot_app, tot_cons]
    show _ + (_ + 0) = _
    omega⟩
  rcases List.eq_nil_or_concat out with rfl | ⟨i, q, rfl⟩
  · exact plain
  · rw [List.concat_eq_append] at *
    unfold mrg
    rw [List.getLast?_append]
    obtain ⟨w, x, y⟩ := q
    cases w with
    | true => exact plain
    | false =>
      show Chain W a (if p.1 then _ else (i ++ [(false, x, y)]).dropLast ++ [(false, x, p.2.2)]) c ∧ tot W.ps (if p.1 then _ else _) = _
      cases hp : p.1 with
      | true => exact plain
      | false =>
        simp only [if_false, Bool.false_eq_true]
        rw [List.dropLast_concat]
        obtain ⟨m, h1, h2⟩ := chain_split h
        obtain ⟨q1, q2, q3⟩ := h2
        obtain ⟨g1, g2, g3⟩ := g
        have q1 : x = m := q1
        have q3 : y = b := q3
        have f1 : x < y := q2.fw
        have f2 := g2.fw
        have k : OkP W (false, x, p.2.2) := ⟨(by show x < p.2.2; omega), (fun z => nomatch z), fun _ => q2.pt rfl⟩
        refine ⟨chain_app h1 ⟨q1, k, g3⟩, ?_⟩
        rw [tot_app, tot_app, tot_cons, tot_cons]
        have e1 : cst W.ps (false, x, p.2.2) = cst W.ps (false, x, y) + cst W.ps p := by
          unfold cst
          rw [hp]
          simp only [if_false, Bool.false_eq_true]
          rw [cnt_add W.ps (show x ≤ y by omega) (show y ≤ p.2.2 by omega), q3, g1]
          omega
        rw [e1]
        show _ + (_ + 0) = _ + (_ + 0) + _
        omega
theorem whole_ok {W : Wd} : ∀ (L out : List Pce) {a b c : Int}, Chain W a out b → Chain W b L c → Chain W a (L.foldl mrg out) c ∧ tot W.ps (L.foldl mrg out) = tot W.ps out + tot W.ps L
  | [], out, a, b, c, h, g => by
    obtain rfl : b = c := g
    exact ⟨h, (Int.add_zero _).symm⟩
  | p :: r, out, a, b, c, h, g => by
    obtain ⟨h1, h2⟩ := mrg_ok (p := p) (c := p.2.2) h ⟨g.1, g.2.1, rfl⟩
    obtain ⟨k1, k2⟩ := whole_ok r (mrg out p) h1 g.2.2
    refine ⟨k1, ?_⟩
    show tot W.ps (r.foldl mrg (mrg out p)) = _
    rw [k2, h2, tot_cons]
    omega
end Pl
end Tg

namespace Tg
open PySem PySem.Spec PyProof.Rows L2
/-! ### the text -/
def topS (i : Nat) : Stmt := PySem.Challenge.pw_timegranary_k34_plans_of_least_cost.main.body.getD i (.Pass ⟨0, 0, 0, 0⟩)
abbrev sDraws : Stmt := topS 18
abbrev sNext : Stmt := topS 19
theorem scNext : FnScope ["_law_draws_here", "_law_k", "_law_number"] ["_law_draws_here"] (defScope sNext) := ⟨rfl, rfl, rfl, by decide +kernel, rfl, by decide +kernel, by decide +kernel⟩
section
variable {P : Program} {w : World} {K : PySem.W.Frag} {mg : Str → Option Value} {base : Heap}
/-! ### _law_draws -/
/-- the draws at p, of which at most n were taken -/
def Dr (H : Hp) (p : Addr) (n : Nat) : Prop := ∃ (a k : Int) (b : Bool), H p = some (.lst [.int a, .int k, .bl b]) ∧ 0 ≤ k ∧ k ≤ n
theorem Dr.same {H H' : Hp} {p : Addr} {n : Nat} (s : Same H H') (d : Dr H p n) : Dr H' p n := by
  obtain ⟨a, k, b, h, r⟩ := d
  exact ⟨a, k, b, s _ _ h, r⟩
theorem Dr.ne {H : Hp} {p l : Addr} {n : Nat} (d : Dr H p n) (h : H l = none) : l ≠ p := fun z => by
  obtain ⟨_, _, _, z2, _⟩ := d
  rw [z, z2] at h
  cases h
def spDraws : Sp := fun vs H Q _ => ∃ c : Int, vs = [.int c] ∧ ∀ (p : Addr) (a : Int) (b : Bool), H p = none → Q (.ref p) (upd H p (.lst [.int a, .int 0, .bl b]))
/-! ### _law_next -/
def spNext : Sp := fun vs H Q _ => ∃ (p : Addr) (n : Nat), vs = [.ref p] ∧ Dr H p n ∧ n < 1000000 ∧
  ∀ (v : Int) (H' : Hp), Kp p H H' → Dr H' p (n + 1) → 0 ≤ v → v < 1000000000 → Q (.int v) H'
theorem ok_next {f : Addr} {fd : FuncData} {k : Nat} (F : Fun K "_law_next" "_law_next" sNext f fd) : FnOk P w K mg base CX0 (k + 1) f fd ["_law_draws_here"] spNext := by
  refine F.ok scNext (fun vs H Q E h => ?_) (fun cdv A outer s H vs Q E hr h => ?_)
  · obtain ⟨p, n, rfl, _⟩ := h
    rfl
  · obtain ⟨p, n, rfl, ⟨a, k, b, hp, k0, kn⟩, hn, q⟩ := h
    refine ⟨_, pss_cons (ps_asg (pe_op op_add (pe_ix ix_list (pv 0) pe_int (fun _ _ => rfl)) pe_int) (pg_sub (pv 0) pe_int set_list))
      (pss_cons (ps_set (i := 1) scNext.nd rfl (.inl rfl) (pe_ix ix_list (pv 0) pe_int (fun _ _ => rfl)))
      (pss_cons (ps_if (pt_val (pe_ix ix_list (pv 0) pe_int (fun _ _ => rfl)))
        (pss_cons (ps_set (i := 2) scNext.nd rfl (.inl rfl) (pe_op op_mod (pe_ix ix_list (pv 0) pe_int (fun _ _ => rfl)) (pe_op op_pow pe_int pe_int)))
        (pss_cons (ps_asg (pe_op op_fdiv (pe_ix ix_list (pv 0) pe_int (fun _ _ => rfl)) (pe_op op_pow pe_int pe_int)) (pg_sub (pv 0) pe_int set_list))
        (pss_one (ps_ret (pv 2))))) pss_nil)
      (pss_cons (ps_set (i := 2) scNext.nd rfl (.inl rfl) (pe_op op_mod (pe_op op_mul (pe_op op_add (pe_op op_add (pe_op op_mod (pe_ix ix_list (pv 0) pe_int (fun _ _ => rfl)) pe_int) (pe_op op_mul (pe_op op_mul (pv 1) (pv 1)) pe_int)) (pv 1)) pe_int) pe_int))
      (pss_cons (ps_set (i := 2) scNext.nd rfl (.inl rfl) (pe_op op_mod (pe_op op_mul (pv 2) (pv 2)) pe_int))
      (pss_one (ps_ret (pe_op op_fdiv (pe_op op_mod (pe_op op_mul (pv 2) (pe_op op_add (pv 2) pe_int)) pe_int) pe_int))))))), ?_⟩
    have h1 : (upd H p (.lst [.int a, .int (k + 1), .bl b])) p = some (.lst [.int a, .int (k + 1), .bl b]) := upd_same
    refine ⟨_, rfl, p, _, 1, .int k, rfl, rfl, SqL.of hp, rfl, k, 1, rfl, rfl, _, rfl, p, _, 1, 1, rfl, rfl, hp, rfl, ?_⟩
    refine ⟨_, rfl, p, _, 1, .int (k + 1), rfl, rfl, SqL.of h1, rfl, ?_⟩
    refine ⟨_, rfl, p, _, 2, .bl b, rfl, rfl, SqL.of h1, rfl, b, rfl, ?_⟩
    cases b with
    | true =>
      refine ⟨_, rfl, p, _, 0, .int a, rfl, rfl, SqL.of h1, rfl, 10, 6, rfl, rfl, ⟨by decide, by decide, by decide⟩, a, 1000000, rfl, rfl, (by show (0 : Int) < 1000000; decide), ?_⟩
      refine ⟨_, rfl, p, _, 0, .int a, rfl, rfl, SqL.of h1, rfl, 10, 6, rfl, rfl, ⟨by decide, by decide, by decide⟩, a, 1000000, rfl, rfl, ⟨by decide, by decide⟩, _, rfl, p, _, 0, 0, rfl, rfl, h1, rfl, ?_⟩
      refine ⟨_, rfl, ?_⟩
      rw [upd_upd]
      exact q _ _ Kp.put ⟨_, _, _, upd_same, by omega, by omega⟩ (Int.emod_nonneg _ (by decide)) (Int.lt_of_lt_of_le (Int.emod_lt_of_pos _ (by decide)) (by decide))
    | false =>
      refine ⟨_, rfl, p, _, 0, .int a, rfl, rfl, SqL.of h1, rfl, a, 1000003, rfl, rfl, (by show (0 : Int) < 1000003; decide), _, rfl, _, rfl, k + 1, k + 1, rfl, rfl, .inl ⟨by omega, by omega⟩, _, 7919, rfl, rfl, .inr ⟨by decide, by decide⟩,
        _, _, rfl, rfl, _, rfl, _, k + 1, rfl, rfl, _, 48271, rfl, rfl, .inr ⟨by decide, by decide⟩, _, 2147483629, rfl, rfl, (by show (0 : Int) < 2147483629; decide), ?_⟩
      obtain ⟨x, ex⟩ : ∃ x : Int, (a % 1000003 + (k + 1) * (k + 1) * 7919 + (k + 1)) * 48271 % 2147483629 = x := ⟨_, rfl⟩
      have x0 : 0 ≤ x := by
        rw [← ex]
        exact Int.emod_nonneg _ (by decide)
      have x1 : x < 2147483629 := by
        rw [← ex]
        exact Int.emod_lt_of_pos _ (by decide)
      refine ⟨_, rfl, _, rfl, x, x, congrArg V.int ex, congrArg V.int ex, .inl ⟨by omega, by omega⟩, _, 2147483587, rfl, rfl, (by show (0 : Int) < 2147483587; decide), ?_⟩
      obtain ⟨y, ey⟩ : ∃ y : Int, x * x % 2147483587 = y := ⟨_, rfl⟩
      have y0 : 0 ≤ y := by
        rw [← ey]
        exact Int.emod_nonneg _ (by decide)
      have y1 : y < 2147483587 := by
        rw [← ey]
        exact Int.emod_lt_of_pos _ (by decide)
      refine ⟨_, rfl, _, rfl, y, 2, congrArg V.int ey, rfl, y, _, congrArg V.int ey, rfl, .inl ⟨by omega, by omega⟩, _, 2147483579, rfl, rfl, (by show (0 : Int) < 2147483579; decide), _, 7, rfl, rfl, ⟨by decide, by decide⟩, ?_⟩
      have z0 : 0 ≤ y * (y + 2) % 2147483579 := Int.emod_nonneg _ (by decide)
      have z1 : y * (y + 2) % 2147483579 < 2147483579 := Int.emod_lt_of_pos _ (by decide)
      exact q _ _ Kp.put ⟨_, _, _, upd_same, by omega, by omega⟩ (by omega) (by omega)
end
/-! ### _law_draws -/
/-- powers of any size, as far as the machine writes them out -/
def CPowB (i j : Int) : Prop := 0 ≤ j ∧ (Builtin.Int.intBits i : Int) * j ≤ 2 ^ 27
theorem op_powB {X : Cx} : OpR X (binaryOp .Pow) (rI CPowB fun i j => .int (i ^ j.toNat)) := opI fun _ _ _ _ _ _ _ hc q => pow_int hc.1 hc.2 q
theorem scDraws : FnScope ["_law_cell"] ["_law_cell"] (defScope sDraws) := ⟨rfl, rfl, rfl, by decide +kernel, rfl, by decide +kernel, by decide +kernel⟩
section
variable {P : Program} {w : World} {K : PySem.W.Frag} {mg : Str → Option Value} {base : Heap}
theorem ok_draws {f : Addr} {fd : FuncData} {k : Nat} (F : Fun K "_law_draws" "_law_draws" sDraws f fd) : FnOk P w K mg base CX0 (k + 1) f fd ["_law_cell"] spDraws := by
  refine F.ok scDraws (fun vs H Q E h => ?_) (fun cdv A outer s H vs Q E hr h => ?_)
  · obtain ⟨c, rfl, _⟩ := h
    rfl
  · obtain ⟨c, rfl, q⟩ := h
    refine ⟨_, pss_one (ps_ret (pe_lst (pa_cons (pe_op op_mod (pv 0) (pe_op op_powB (pe_op op_powB (pe_op op_pow pe_int pe_int) pe_int) pe_int)) (pa_cons pe_int (pa_cons (pe_cmpR op_ge (pv 0) (pe_op op_pow pe_int pe_int) (nomark _)) pa_nil))))), ?_⟩
    refine ⟨_, rfl, 10, 60, rfl, rfl, ⟨by decide, by decide, by decide⟩, 10 ^ 60, 60, rfl, rfl, ⟨by decide, by decide +kernel⟩, (10 ^ 60) ^ 60, 4, rfl, rfl, ⟨by decide, by decide +kernel⟩, c, ((10 ^ 60) ^ 60) ^ 4, rfl, rfl, (by show (0 : Int) < ((10 ^ 60) ^ 60) ^ 4; decide +kernel), _, rfl, 10, 18, rfl, rfl, ⟨by decide, by decide, by decide⟩, c, _, rfl, rfl, ?_, fun p hp => ?_⟩
    · show 3 ≤ sizeLine
      decide
    · exact q p _ _ hp
end
end Tg

namespace Tg
open PySem PySem.Spec PyProof.Rows L2 Pl
/-! ### edges_of -/
def NL (H : Hp) (l : Addr) (xs : List Int) : Prop := H l = some (.lst (xs.map V.int))
/-- a list or a tuple of pairs -/
def CellsR (K : PySem.W.Frag) (H : Hp) (a : Addr) (cs : List (Int × Int)) : Prop := ∃ ts : List Addr, SqA K H a (ts.map V.ref) ∧ ts.length = cs.length ∧ ∀ (i : Nat) (t : Addr) (c : Int × Int), ts[i]? = some t → cs[i]? = some c → SqT K H t [.int c.1, .int c.2]
def PtsR (K : PySem.W.Frag) (H : Hp) (a : Addr) (ps : List Int) : Prop := SqA K H a (ps.map V.int)
theorem sqA_same {K : PySem.W.Frag} {H H' : Hp} {a : Addr} {xs : List V} (s : Same H H') (h : SqA K H a xs) : SqA K H' a xs := sqA_at (fun o e => s _ _ e) h
theorem CellsR.same {K : PySem.W.Frag} {H H' : Hp} {a : Addr} {cs : List (Int × Int)} (s : Same H H') (h : CellsR K H a cs) : CellsR K H' a cs := by
  obtain ⟨ts, h1, h2, h3⟩ := h
  exact ⟨ts, sqA_same s h1, h2, fun i t c e1 e2 => sqT_same s (h3 i t c e1 e2)⟩
theorem small1000 {n : Nat} (few : n ≤ 1000) : n < sizeLine := Nat.lt_of_le_of_lt few (by decide)
theorem flat_two : ∀ l : List (Int × Int), (l.flatMap fun c => [c.1, c.2]).length = 2 * l.length
  | [] => rfl
  | c :: r => by
    rw [List.flatMap_cons, List.length_append, flat_two r]
    have := List.length_cons (a := c) (as := r)
    show 2 + 2 * r.length = _
    omega
theorem tms_len (W : Wd) : (tms W).length ≤ 2 + 2 * W.cs.length := by
  unfold tms
  rw [List.length_append, flat_two]
  have := List.length_filter_le (fun c => decide (W.s ≤ c.1 ∧ c.2 ≤ W.e)) W.cs
  show 2 + 2 * (ins W).length ≤ _
  unfold ins
  omega
abbrev sEd : Stmt := topS 3
theorem scEd : FnScope ["start", "end", "cells", "times", "cell_start", "cell_end"] ["start", "end", "cells"] (defScope sEd) := ⟨rfl, rfl, rfl, by decide +kernel, rfl, by decide +kernel, by decide +kernel⟩
section
variable {P : Program} {w : World} {K : PySem.W.Frag} {mg : Str → Option Value} {base : Heap} {f : Addr} {fd : FuncData} {k : Nat}
def spEd (K : PySem.W.Frag) : Sp := fun vs H Q _ => ∃ (W : Wd) (c : Addr), vs = [.int W.s, .int W.e, .ref c] ∧ CellsR K H c W.cs ∧ W.cs.length ≤ 20 ∧ ∀ (p : Addr) (H' : Hp), Same H H' → H p = none → NL H' p (edg W) → Q (.ref p) H'
theorem ok_ed (F : Fun K "edges_of" "edges_of" sEd f fd) (m_sorted : mg "sorted" = none) (m_set : mg "set" = none) : FnOk P w K mg base CX0 (k + 1) f fd ["start", "end", "cells"] (spEd K) := by
  refine F.ok scEd (fun vs H Q E h => ?_) (fun cdv A outer s H vs Q E hr h => ?_)
  · obtain ⟨W, c, rfl, _⟩ := h
    rfl
  · obtain ⟨W, c, rfl, cr, few, q⟩ := h
    refine ⟨_, pss_cons (ps_set (i := 3) scEd.nd rfl (.inl rfl) (pe_lst (pa_cons (pv 0) (pa_cons (pv 1) pa_nil))))
      (pss_cons (ps_for PassesOwn.never rfl (pi_seq (pv 2)) (pg_tup rfl (pgs_cons (pg_name (i := 4) scEd.nd rfl (.inl rfl)) (pgs_cons (pg_name (i := 5) scEd.nd rfl (.inl rfl)) pgs_nil)))
        (pss_one (ps_if (PW.pt (pw_and (pt_cmpR op_le (pv 0) (pv 4) (nomark _)) (pw_and1 (pt_cmpR op_le (pv 5) (pv 1) (nomark _)))))
          (pss_one (ps_expr (pe_bm PySem.F.plainAttrs_list PySem.F.slot_list_extend PySem.F.type_list_extend mt_extend (pv 3) (pa_cons (pe_lst (pa_cons (pv 4) (pa_cons (pv 5) pa_nil))) pa_nil))))
          pss_nil)))
      (pss_one (ps_ret (pe_callB (cr_sortedSetA rfl) (by rfl) m_sorted (by decide +kernel) (pa_cons (pe_callTy (cr_setL rfl) (by rfl) m_set (by decide +kernel) (pa_cons (pv 3) pa_nil)) pa_nil))))), ?_⟩
    obtain ⟨ts, sq, lts, hts⟩ := cr
    refine ⟨_, rfl, _, rfl, by show 2 ≤ sizeLine; decide, fun t nt => ?_⟩
    have st := same_new (o := .lst [.int W.s, .int W.e]) nt
    have pick : ∀ i c, W.cs[i]? = some c → (W.cs.take (i + 1)).filter (fun c => decide (W.s ≤ c.1 ∧ c.2 ≤ W.e)) = (W.cs.take i).filter (fun c => decide (W.s ≤ c.1 ∧ c.2 ≤ W.e)) ++ (if W.s ≤ c.1 ∧ c.2 ≤ W.e then [c] else []) := fun i c e => by
      rw [List.take_add_one, e, List.filter_append]
      congr 1
      by_cases h : W.s ≤ c.1 ∧ c.2 ≤ W.e
      · rw [if_pos h]
        show List.filter _ [c] = _
        rw [List.filter_cons, decide_eq_true h]
        rfl
      · rw [if_neg h]
        show List.filter _ [c] = _
        rw [List.filter_cons, decide_eq_false h]
        rfl
    refine ⟨_, rfl, c, rfl, for_seq sq (fun i σ Hc => ∃ (z4 z5 : Option V), σ = [some (.int W.s), some (.int W.e), some (.ref c), some (.ref t), z4, z5] ∧ Same H Hc ∧ NL Hc t ([W.s, W.e] ++ ((W.cs.take i).filter fun c => decide (W.s ≤ c.1 ∧ c.2 ≤ W.e)).flatMap fun c => [c.1, c.2])) ⟨none, none, rfl, st, upd_same⟩ (fun i σ1 H1 ⟨_, _, _, h, _⟩ o e => h _ _ e) ?_ ?_⟩
    · rintro i x σ Hc hx ⟨z4, z5, rfl, sc, hn⟩
      rw [List.getElem?_map] at hx
      obtain ⟨tc, et, rfl⟩ := Option.map_eq_some_iff.mp hx
      obtain ⟨cc, ec⟩ : ∃ cc, W.cs[i]? = some cc := ⟨_, List.getElem?_eq_getElem (by rw [← lts]; exact (List.getElem?_eq_some_iff.mp et).1)⟩
      have hc := sqT_same sc (hts i tc cc et ec)
      have il : i < W.cs.length := (List.getElem?_eq_some_iff.mp ec).1
      have pk := pick i cc ec
      have none_ : (¬ (W.s ≤ cc.1 ∧ cc.2 ≤ W.e)) → ∃ (z4 z5 : Option V), [some (V.int W.s), some (.int W.e), some (.ref c), some (.ref t), some (.int cc.1), some (.int cc.2)] = [some (.int W.s), some (.int W.e), some (.ref c), some (.ref t), z4, z5] ∧ Same H Hc ∧ NL Hc t ([W.s, W.e] ++ ((W.cs.take (i + 1)).filter fun c => decide (W.s ≤ c.1 ∧ c.2 ≤ W.e)).flatMap fun c => [c.1, c.2]) := fun h => ⟨_, _, rfl, sc, by
        rw [pk, if_neg h, List.append_nil]
        exact hn⟩
      refine ⟨tc, _, rfl, hc, rfl, _, _, rfl, _, _, rfl, rfl, ?_⟩
      by_cases h1 : W.s ≤ cc.1
      · refine ⟨_, rfl, _, rfl, _, _, rfl, rfl, true, congrArg V.bl (decide_eq_true h1), if_t ?_⟩
        by_cases h2 : cc.2 ≤ W.e
        · refine ⟨_, rfl, _, rfl, _, _, rfl, rfl, true, congrArg V.bl (decide_eq_true h2), if_t ?_⟩
          refine ⟨_, rfl, .inl ⟨rfl, _, SqL.of hn⟩, _, rfl, _, rfl, by show 2 ≤ sizeLine; decide, fun b nb => ?_⟩
          have sb := same_new (o := .lst [.int cc.1, .int cc.2]) nb
          have fl := flat_two ((W.cs.take i).filter fun c => decide (W.s ≤ c.1 ∧ c.2 ≤ W.e))
          have fl2 := List.length_filter_le (fun c : Int × Int => decide (W.s ≤ c.1 ∧ c.2 ≤ W.e)) (W.cs.take i)
          rw [List.length_take] at fl2
          refine ⟨t, b, _, _, rfl, rfl, sb _ _ hn, upd_same, Nat.le_of_lt (small1000 ?_), ?_⟩
          · rw [List.length_map, List.length_append, fl]
            show 2 + _ + 2 ≤ 1000
            omega
          · refine ⟨_, _, rfl, fun y o e => ?_, ?_⟩
            · rw [upd_ne (ne_of_none e nt)]
              exact sb _ _ (sc _ _ e)
            · unfold NL
              rw [upd_same, pk, if_pos ⟨h1, h2⟩, List.flatMap_append, ← List.append_assoc]
              exact congrArg (fun l => some (HO.lst l)) (List.map_append (f := V.int) (l₂ := [cc.1, cc.2])).symm
        · exact ⟨_, rfl, _, rfl, _, _, rfl, rfl, false, congrArg V.bl (decide_eq_false h2), if_f (none_ fun z => h2 z.2)⟩
      · exact ⟨_, rfl, _, rfl, _, _, rfl, rfl, false, congrArg V.bl (decide_eq_false h1), if_f (if_f (none_ fun z => h1 z.1))⟩
    · rintro σ Hc ⟨z4, z5, rfl, sc, hn⟩
      have all : (W.cs.take (ts.map V.ref).length) = W.cs := by
        rw [List.length_map, lts, List.take_length]
      rw [all] at hn
      have few2 := tms_len W
      refine ⟨_, rfl, t, tms W, rfl, SqL.of hn, by omega, fun a cn na cnt => ?_⟩
      have c100 : cn ≤ (tms W).length := cnt _ fun _ h => h
      have s2 : Same Hc (upd Hc a (SetO w a (fun k => decide (k ∈ tms W)) cn)) := same_new na
      refine ⟨a, _, cn, rfl, upd_same, Nat.le_of_lt (small1000 (by omega)), fun ns p ⟨up', mem, len⟩ np => ?_⟩
      obtain rfl : ns = edg W := book_of up' fun k => (mem k).trans decide_eq_true_iff
      exact q p _ ((sc.trans s2).trans (same_new np)) ((sc.trans s2).free np) upd_same
end
end Tg

namespace Tg
open PySem PySem.Spec PyProof.Rows L2 Pl
/-! ### counts_below -/
theorem below_app (a b : List Int) (x : Int) : below (a ++ b) x = below a x + below b x := by
  unfold below
  rw [List.filter_append, List.length_append]
theorem below_all {l : List Int} {x : Int} (h : ∀ y, y ∈ l → y < x) : below l x = l.length := by
  unfold below
  rw [List.filter_eq_self.mpr fun y hy => decide_eq_true (h y hy)]
theorem below_none {l : List Int} {x : Int} (h : ∀ y, y ∈ l → x ≤ y) : below l x = 0 := by
  unfold below
  rw [List.filter_eq_nil_iff.mpr fun y hy => by
    have := h y hy
    rw [decide_eq_true_iff]
    omega]
  rfl
theorem below_at {ns : List Int} {x : Int} {k : Nat} (up : ns.Pairwise (· ≤ ·)) (lo : ∀ y, y ∈ ns.take k → y < x) (hi : ∀ z, ns[k]? = some z → x ≤ z) (kl : k ≤ ns.length) : below ns x = k := by
  have e : ns = ns.take k ++ ns.drop k := (List.take_append_drop k ns).symm
  rw [e, below_app, below_all lo, below_none fun y hy => ?_, List.length_take, Nat.min_eq_left kl, Nat.add_zero]
  cases hz : ns[k]? with
  | none =>
    rw [List.drop_eq_nil_of_le (List.getElem?_eq_none_iff.mp hz)] at hy
    cases hy
  | some z =>
    have zx := hi z hz
    obtain ⟨lt, ez⟩ := List.getElem?_eq_some_iff.mp hz
    rw [List.drop_eq_getElem_cons lt, ez] at hy
    have up2 : (ns.drop k).Pairwise (· ≤ ·) := up.drop
    rw [List.drop_eq_getElem_cons lt, ez] at up2
    obtain rfl | hy := List.mem_cons.mp hy
    · exact zx
    · have := (List.pairwise_cons.mp up2).1 y hy
      omega
abbrev sCb : Stmt := topS 4
theorem scCb : FnScope ["edges", "points", "times", "counts", "passed", "edge"] ["edges", "points"] (defScope sCb) := ⟨rfl, rfl, rfl, by decide +kernel, rfl, by decide +kernel, by decide +kernel⟩
section
variable {P : Program} {w : World} {K : PySem.W.Frag} {mg : Str → Option Value} {base : Heap} {f : Addr} {fd : FuncData} {k : Nat}
def nats (l : List Nat) : List V := l.map fun n => V.int (n : Nat)
def spCb (K : PySem.W.Frag) : Sp := fun vs H Q _ => ∃ (el pp : Addr) (E ps : List Int), vs = [.ref el, .ref pp] ∧ NL H el E ∧ E.Pairwise (· < ·) ∧ E.length ≤ 100 ∧ PtsR K H pp ps ∧ ∀ (m : Addr) (H' : Hp), Same H H' → H m = none → H' m = some (.lst (nats (E.map (below ps)))) → Q (.ref m) H'
theorem ok_cb (F : Fun K "counts_below" "counts_below" sCb f fd) (m_sorted : mg "sorted" = none) (m_len : mg "len" = none) : FnOk P w K mg base CX0 (k + 1) f fd ["edges", "points"] (spCb K) := by
  refine F.ok scCb (fun vs H Q E h => ?_) (fun cdv A outer s H vs Q E hr h => ?_)
  · obtain ⟨el, pp, E, ps, rfl, _⟩ := h
    rfl
  · obtain ⟨el, pp, E, ps, rfl, hE, up, few, hp, q⟩ := h
    refine ⟨_, pss_cons (ps_set (i := 2) scCb.nd rfl (.inl rfl) (pe_callB cr_sortedA (by rfl) m_sorted (by decide +kernel) (pa_cons (pv 1) pa_nil)))
      (pss_cons (ps_set (i := 3) scCb.nd rfl (.inl rfl) (pe_lst pa_nil))
      (pss_cons (ps_set (i := 4) scCb.nd rfl (.inl rfl) pe_int)
      (pss_cons (ps_for PassesOwn.never rfl (pi_list (pv 0)) (pg_name (i := 5) scCb.nd rfl (.inl rfl))
        (pss_cons (ps_while PassesOwn.never (PW.pt (pw_and (pt_cmpR op_lt (pv 4) (pe_callB call_len_seq (by rfl) m_len (by decide +kernel) (pa_cons (pv 2) pa_nil)) (nomark _)) (pw_and1 (pt_cmpR op_lt (pe_ix ix_list (pv 2) (pv 4) (fun _ _ => rfl)) (pv 5) (nomark _)))))
          (pss_one (ps_aug (i := 4) scCb.nd rfl (.inl rfl) pe_int ip_add)))
        (pss_one (ps_expr (pe_bm PySem.F.plainAttrs_list PySem.F.slot_list_append PySem.F.type_list_append mt_append (pv 3) (pa_cons (pv 4) pa_nil))))))
      (pss_one (ps_ret (pv 3)))))), ?_⟩
    refine ⟨_, rfl, pp, ps, rfl, hp, fun ns t pm srt nt => ?_⟩
    have st := same_new (o := .lst (ns.map V.int)) nt
    obtain ⟨H1, e1⟩ : ∃ H1, upd H t (.lst (ns.map V.int)) = H1 := ⟨_, rfl⟩
    have ht : NL H1 t ns := by
      rw [← e1]
      exact upd_same
    rw [e1] at st ⊢
    refine ⟨Nat.zero_le _, fun m nm => ?_⟩
    have sm := same_new (o := .lst []) nm
    obtain ⟨H2, e2⟩ : ∃ H2, upd H1 m (.lst []) = H2 := ⟨_, rfl⟩
    have hm : H2 m = some (.lst []) := by
      rw [← e2]
      exact upd_same
    rw [e2] at sm ⊢
    have nmH : H m = none := st.free nm
    refine ⟨_, rfl, el, rfl, ⟨_, SqL.of (sm _ _ (st _ _ hE))⟩, for_list (xs := E.map V.int) (fun i σ Hc => ∃ (k : Nat) (z : Option V), σ = [some (.ref el), some (.ref pp), some (.ref t), some (.ref m), some (.int (k : Nat)), z] ∧ Same H1 Hc ∧ Hc m = some (.lst (nats ((E.take i).map (below ps)))) ∧ k ≤ ns.length ∧ ∀ x, (E.drop i).head? = some x → ∀ y, y ∈ ns.take k → y < x) ?_ ?_ ?_ ?_⟩
    · exact ⟨0, none, rfl, sm, hm, Nat.zero_le _, fun x _ y hy => by rw [List.take_zero] at hy; cases hy⟩
    · rintro i σ Hc _ ⟨k, z, rfl, sc, _⟩
      exact SqL.of (sc _ _ (st _ _ hE))
    · rintro i v σ Hc hv ⟨k, z, rfl, sc, hmc, kl, lo⟩
      rw [List.getElem?_map] at hv
      obtain ⟨x, ex, rfl⟩ := Option.map_eq_some_iff.mp hv
      have lox := lo x (by rw [List.head?_drop]; exact ex)
      have htc := sc _ _ ht
      have ltn : (ns.map V.int).length = ns.length := List.length_map ..
      have il : i < E.length := (List.getElem?_eq_some_iff.mp ex).1
      have small : (nats ((E.take i).map (below ps))).length < sizeLine := by
        unfold nats
        rw [List.length_map, List.length_map, List.length_take]
        exact small1000 (by omega)
      have done : ∀ j, j ≤ ns.length → (∀ y, y ∈ ns.take j → y < x) → (∀ z, ns[j]? = some z → x ≤ z) → ∃ (k : Nat) (z : Option V), [some (V.ref el), some (.ref pp), some (.ref t), some (.ref m), some (.int (j : Nat)), some (.int x)] = [some (.ref el), some (.ref pp), some (.ref t), some (.ref m), some (.int (k : Nat)), z] ∧ Same H1 (upd Hc m (.lst (nats ((E.take i).map (below ps)) ++ [.int (j : Nat)]))) ∧ (upd Hc m (.lst (nats ((E.take i).map (below ps)) ++ [.int (j : Nat)]))) m = some (.lst (nats ((E.take (i + 1)).map (below ps)))) ∧ k ≤ ns.length ∧ ∀ x, (E.drop (i + 1)).head? = some x → ∀ y, y ∈ ns.take k → y < x := fun j jl lo hi => ⟨j, _, rfl, same_put nm sc, by
        rw [upd_same, List.take_add_one, ex, List.map_append]
        unfold nats
        rw [List.map_append, ← below_at srt lo hi jl, below_perm pm x]
        rfl, jl, fun x2 e2 y hy => by
        rw [List.head?_drop] at e2
        obtain ⟨l2, e2⟩ := List.getElem?_eq_some_iff.mp e2
        obtain ⟨l1, e1⟩ := List.getElem?_eq_some_iff.mp ex
        have := List.pairwise_iff_getElem.mp up i (i + 1) l1 l2 (by omega)
        rw [e1, e2] at this
        have := lo y hy
        omega⟩
      refine while_by (fun σ H3 => ∃ j : Nat, σ = [some (.ref el), some (.ref pp), some (.ref t), some (.ref m), some (.int (j : Nat)), some (.int x)] ∧ H3 = Hc ∧ j ≤ ns.length ∧ ∀ y, y ∈ ns.take j → y < x) (fun σ _ => match σ with | _ :: _ :: _ :: _ :: some (.int j) :: _ => ns.length - j.toNat | _ => 0) ⟨k, rfl, rfl, kl, lox⟩ ?_ ?_
      · rintro σ H3 ⟨j, rfl, rfl, jl, loj⟩
        by_cases c1 : j < ns.length
        · obtain ⟨y, ey⟩ : ∃ y, ns[j]? = some y := ⟨_, List.getElem?_eq_getElem c1⟩
          refine ⟨_, rfl, _, rfl, t, _, rfl, .inl (SqL.of htc), _, _, rfl, rfl, true, congrArg V.bl (decide_eq_true (by omega)), if_t ?_⟩
          refine ⟨_, rfl, _, rfl, t, _, _, .int y, rfl, rfl, SqL.of htc, atI_nat (by rw [List.getElem?_map, ey]; rfl), _, rfl, _, _, rfl, rfl, ?_⟩
          by_cases c2 : y < x
          · refine ⟨true, congrArg V.bl (decide_eq_true c2), if_t ?_⟩
            exact ⟨_, rfl, _, _, rfl, rfl, ⟨j + 1, rfl, rfl, c1, fun z hz => by
              rw [List.take_add_one, ey] at hz
              rcases List.mem_append.mp hz with h | h
              · exact loj z h
              · have h : z ∈ [y] := h
                rw [List.mem_singleton.mp h]
                exact c2⟩, by
              show ns.length - (((j : Nat) : Int) + 1).toNat < ns.length - ((j : Nat) : Int).toNat
              omega⟩
          · refine ⟨false, congrArg V.bl (decide_eq_false c2), if_f ?_⟩
            exact ⟨_, rfl, .inl ⟨rfl, _, SqL.of hmc⟩, _, rfl, m, _, _, rfl, rfl, hmc, small, done j jl loj fun z hz => by
              rw [ey] at hz
              obtain rfl := Option.some.inj hz
              omega⟩
        · refine ⟨_, rfl, _, rfl, t, _, rfl, .inl (SqL.of htc), _, _, rfl, rfl, false, congrArg V.bl (decide_eq_false (by omega)), if_f (if_f ?_)⟩
          exact ⟨_, rfl, .inl ⟨rfl, _, SqL.of hmc⟩, _, rfl, m, _, _, rfl, rfl, hmc, small, done j jl loj fun z hz => by
              rw [List.getElem?_eq_none (by omega)] at hz
              cases hz⟩
      · rintro σ H3 Q1 Q2 hq ⟨v, e, v2, e2, a2, ys, e3, sq, i1, j1, e4, e5, b, e6, h⟩
        refine ⟨v, e, v2, e2, a2, ys, e3, sq, i1, j1, e4, e5, b, e6, ?_⟩
        cases b with
        | false => exact if_f (hq _ _ ((if_neg (by decide)).mp h))
        | true =>
          obtain ⟨v3, e7, v4, e8, p5, ys5, z5, w5, e9, e10, sq5, at5, v6, e11, i6, j6, e12, e13, b2, e14, h⟩ := (if_pos rfl).mp h
          exact if_t ⟨v3, e7, v4, e8, p5, ys5, z5, w5, e9, e10, sq5, at5, v6, e11, i6, j6, e12, e13, b2, e14, hq _ _ h⟩
    · rintro σ Hc ⟨k, z, rfl, sc, hmc, kl, lo⟩
      rw [List.length_map, List.take_length] at hmc
      exact ⟨_, rfl, q m Hc (st.trans sc) nmH hmc⟩
end
end Tg

namespace Tg
open PySem PySem.Spec PyProof.Rows L2 Pl
/-! ### steps by edges, in the heap -/
def wdS (b : Bool) : Str := if b then "cell" else "points"
def stpT (u : Stp) : HO := .tup [.str (wdS u.cell), .int u.to, .int u.cost]
/-- a list of steps -/
def StL (H : Hp) (l : Addr) (us : List Stp) : Prop := ∃ ts : List Addr, H l = some (.lst (ts.map V.ref)) ∧ ts.length = us.length ∧ ∀ (i : Nat) (t : Addr) (u : Stp), ts[i]? = some t → us[i]? = some u → H t = some (stpT u)
def atE (L : List Stp) (x : Int) : List Stp := L.filter fun u => decide (u.fr = x)
def kvE (E : List Int) (ls : List Addr) : List (Key × V) := List.zipWith (fun e l => ((Sum.inl e : Key), V.ref l)) E ls
structure StepsR (H : Hp) (d : Addr) (E : List Int) (L : List Stp) (ls : List Addr) : Prop where
  len : ls.length = E.length
  nd : ls.Nodup
  dct : H d = some (.dK (kvE E ls))
  lst : ∀ (i : Nat) (l : Addr) (x : Int), ls[i]? = some l → E[i]? = some x → StL H l (atE L x)
theorem StL.same {H H' : Hp} {l : Addr} {us : List Stp} (s : Same H H') (h : StL H l us) : StL H' l us := by
  obtain ⟨ts, h1, h2, h3⟩ := h
  exact ⟨ts, s _ _ h1, h2, fun i t u e1 e2 => s _ _ (h3 i t u e1 e2)⟩
theorem StepsR.same {H H' : Hp} {d : Addr} {E : List Int} {L : List Stp} {ls : List Addr} (s : Same H H') (h : StepsR H d E L ls) : StepsR H' d E L ls := ⟨h.len, h.nd, s _ _ h.dct, fun i l x e1 e2 => (h.lst i l x e1 e2).same s⟩
theorem atE_app (L M : List Stp) (x : Int) : atE (L ++ M) x = atE L x ++ atE M x := List.filter_append ..
theorem atE_one {u : Stp} {x : Int} : atE [u] x = if u.fr = x then [u] else [] := by
  unfold atE
  rw [List.filter_cons]
  by_cases h : u.fr = x
  · rw [decide_eq_true h, if_pos h]
    rfl
  · rw [decide_eq_false h, if_neg h]
    rfl
theorem kvE_at {E : List Int} {ls : List Addr} {i : Nat} {e : Int} {l : Addr} (h1 : E[i]? = some e) (h2 : ls[i]? = some l) : (kvE E ls)[i]? = some (.inl e, .ref l) := by
  unfold kvE
  rw [List.getElem?_zipWith, h1, h2]
theorem kvE_keys {E : List Int} {ls : List Addr} (len : ls.length = E.length) : (kvE E ls).map (·.1) = E.map (Sum.inl : Int → Key) := by
  apply List.ext_getElem?
  intro i
  simp only [List.getElem?_map]
  cases h : E[i]? with
  | none =>
    have le := List.getElem?_eq_none_iff.mp h
    rw [List.getElem?_eq_none (by unfold kvE; rw [List.length_zipWith]; omega)]
    rfl
  | some e =>
    have lt := (List.getElem?_eq_some_iff.mp h).1
    rw [kvE_at h (List.getElem?_eq_getElem (by omega))]
    rfl
theorem val_of {kvs : List (Key × V)} {k : Key} {v : V} (nd : (kvs.map (·.1)).Nodup) (h : (k, v) ∈ kvs) : valV kvs k = some v := by
  induction kvs with
  | nil => cases h
  | cons q r ih =>
    have n := List.nodup_cons.mp nd
    unfold valV at ih ⊢
    rw [List.find?_cons]
    obtain e | h := List.mem_cons.mp h
    · rw [← e]
      show Option.map _ (match decide (k = k) with | true => _ | false => _) = _
      rw [decide_eq_true rfl]
      rfl
    · have ne : q.1 ≠ k := fun e => n.1 (by show q.1 ∈ _; rw [e]; exact List.mem_map.mpr ⟨_, h, rfl⟩)
      rw [decide_eq_false ne]
      exact ih n.2 h
theorem inl_nodup {E : List Int} (h : E.Nodup) : (E.map (Sum.inl : Int → Key)).Nodup := List.pairwise_map.mpr (h.imp fun ne z => ne (Sum.inl.inj z))
theorem StepsR.val {H : Hp} {d : Addr} {E : List Int} {L : List Stp} {ls : List Addr} (S : StepsR H d E L ls) (nd : E.Nodup) {i : Nat} {e : Int} {l : Addr} (h1 : E[i]? = some e) (h2 : ls[i]? = some l) : valV (kvE E ls) (.inl e) = some (.ref l) :=
  val_of (by rw [kvE_keys S.len]; exact inl_nodup nd) (List.mem_of_getElem? (kvE_at h1 h2))
/-- one step more -/
theorem StepsR.put {H : Hp} {d : Addr} {E : List Int} {L : List Stp} {ls : List Addr} {i : Nat} {l t : Addr} {x : Int} {u : Stp} {ys : List V} (S : StepsR H d E L ls) (ndE : E.Nodup) (el : ls[i]? = some l) (ex : E[i]? = some x) (ux : u.fr = x) (nt : H t = none) (hy : H l = some (.lst ys)) :
    StepsR (upd (upd H t (stpT u)) l (.lst (ys ++ [.ref t]))) d E (L ++ [u]) ls := by
  have st : Same H (upd H t (stpT u)) := same_new nt
  have tl : t ≠ l := fun z => by
    rw [z, hy] at nt
    cases nt
  refine ⟨S.len, S.nd, ?_, fun j m z em ez => ?_⟩
  · have dl : d ≠ l := fun z => by
      have := S.dct
      rw [z, hy] at this
      cases this
    rw [upd_ne dl]
    exact st _ _ S.dct
  · have tups : ∀ (b : Addr) (v : Stp), H b = some (stpT v) → (upd (upd H t (stpT u)) l (.lst (ys ++ [.ref t]))) b = some (stpT v) := fun b v hb => by
      have bl : b ≠ l := fun z => by
        rw [z, hy] at hb
        cases hb
      rw [upd_ne bl]
      exact st _ _ hb
    by_cases c : j = i
    · subst c
      rw [el] at em
      rw [ex] at ez
      cases em
      cases ez
      obtain ⟨ts, h1, h2, h3⟩ := S.lst j l x el ex
      rw [hy] at h1
      cases h1
      rw [atE_app, atE_one, if_pos ux]
      refine ⟨ts ++ [t], ?_, ?_, fun n b v e1 e2 => ?_⟩
      · rw [upd_same, List.map_append]
        rfl
      · rw [List.length_append, List.length_append, h2]
        rfl
      · by_cases nl : n < ts.length
        · rw [List.getElem?_append_left nl] at e1
          rw [List.getElem?_append_left (by omega)] at e2
          exact tups b v (h3 n b v e1 e2)
        · have lt := (List.getElem?_eq_some_iff.mp e1).1
          rw [List.length_append] at lt
          have lt : n < ts.length + 1 := lt
          have en : n = ts.length := by omega
          rw [en, List.getElem?_append_right (Nat.le_refl _), Nat.sub_self] at e1
          rw [en, h2, List.getElem?_append_right (Nat.le_refl _), Nat.sub_self] at e2
          cases e1
          cases e2
          rw [upd_ne tl, upd_same]
    · have ml : m ≠ l := fun z => by
        subst z
        obtain ⟨l1, e1⟩ := List.getElem?_eq_some_iff.mp em
        exact c ((List.getElem?_inj l1 S.nd).mp (em.trans el.symm))
      have zx : z ≠ x := fun w => by
        subst w
        obtain ⟨l1, e1⟩ := List.getElem?_eq_some_iff.mp ez
        exact c ((List.getElem?_inj l1 ndE).mp (ez.trans ex.symm))
      obtain ⟨ts, h1, h2, h3⟩ := S.lst j m z em ez
      rw [atE_app, atE_one, if_neg (by rw [ux]; exact fun w => zx w.symm), List.append_nil]
      refine ⟨ts, ?_, h2, fun n b v e1 e2 => tups b v (h3 n b v e1 e2)⟩
      rw [upd_ne ml]
      exact st _ _ h1
end Tg

namespace Tg
open PySem PySem.Spec PyProof.Rows L2 Pl
/-! ### steps_from -/
def hV : Option Int → V
  | none => .non
  | some x => .int x
def ptP (W : Wd) (i : Nat) : List Stp := (((nbr (edg W)).take i).filter fun q => hok W.h q.1).map fun q => ⟨false, q.1, q.2, cnt W.ps q.1 q.2⟩
def clP (W : Wd) (i : Nat) : List Stp := ((W.cs.take i).filter fun c => decide (W.s ≤ c.1 ∧ c.2 ≤ W.e)).map fun c => ⟨true, c.1, c.2, 1⟩
theorem nbr_len (E : List Int) : (nbr E).length = E.length - 1 := by
  unfold nbr
  rw [List.length_zip, List.length_drop]
  omega
theorem nbr_at {E : List Int} {i : Nat} {a b : Int} (h1 : E[i]? = some a) (h2 : E[i + 1]? = some b) : (nbr E)[i]? = some (a, b) := by
  unfold nbr
  rw [List.zip_eq_zipWith, List.getElem?_zipWith, h1, List.getElem?_drop, Nat.add_comm 1 i, h2]
theorem ptP_all {W : Wd} {n : Nat} (h : n = (edg W).length - 1) : ptP W n = ptS W := by
  unfold ptP ptS
  rw [h, ← nbr_len, List.take_length]
theorem ptP_step {W : Wd} {i : Nat} {a b : Int} (h1 : (edg W)[i]? = some a) (h2 : (edg W)[i + 1]? = some b) : ptP W (i + 1) = ptP W i ++ if hok W.h a then [⟨false, a, b, cnt W.ps a b⟩] else [] := by
  unfold ptP
  rw [List.take_add_one, nbr_at h1 h2, List.filter_append, List.map_append]
  congr 1
  show List.map _ (List.filter _ [(a, b)]) = _
  rw [List.filter_cons]
  cases hok W.h a <;> rfl
theorem clP_step {W : Wd} {i : Nat} {c : Int × Int} (h : W.cs[i]? = some c) : clP W (i + 1) = clP W i ++ if W.s ≤ c.1 ∧ c.2 ≤ W.e then [⟨true, c.1, c.2, 1⟩] else [] := by
  unfold clP
  rw [List.take_add_one, h, List.filter_append, List.map_append]
  congr 1
  show List.map _ (List.filter _ [c]) = _
  rw [List.filter_cons]
  by_cases g : W.s ≤ c.1 ∧ c.2 ≤ W.e
  · rw [decide_eq_true g, if_pos g]
    rfl
  · rw [decide_eq_false g, if_neg g]
    rfl
theorem ptP_len (W : Wd) (i : Nat) : (ptP W i).length ≤ i := by
  unfold ptP
  rw [List.length_map]
  have := List.length_filter_le (fun q : Int × Int => hok W.h q.1) ((nbr (edg W)).take i)
  rw [List.length_take] at this
  omega
theorem clP_len (W : Wd) (i : Nat) : (clP W i).length ≤ i := by
  unfold clP
  rw [List.length_map]
  have := List.length_filter_le (fun c : Int × Int => decide (W.s ≤ c.1 ∧ c.2 ≤ W.e)) (W.cs.take i)
  rw [List.length_take] at this
  omega
theorem atE_len (L : List Stp) (x : Int) : (atE L x).length ≤ L.length := List.length_filter_le ..
theorem edg_len (W : Wd) : (edg W).length ≤ 2 + 2 * W.cs.length := Nat.le_trans (book_len _) (tms_len W)
theorem edg_pos (W : Wd) : 0 < (edg W).length := List.length_pos_iff.mpr (List.ne_nil_of_mem (edg_mem.mpr (.inl rfl)))
theorem edg_nd (W : Wd) : (edg W).Nodup := up_nodup (edg_up W)
theorem yes_b {σ : L2.St} {H : Hp} {Q : Bool → Hp → Prop} (h : Q true H) : tYes σ H Q := h
abbrev sSf : Stmt := topS 5
abbrev NSf : List Str := ["start", "end", "horizon", "cells", "points", "edges", "counts", "steps", "edge", "at", "cell_start", "cell_end"]
theorem scSf : FnScope NSf ["start", "end", "horizon", "cells", "points"] (defScope sSf) := ⟨rfl, rfl, rfl, by decide +kernel, rfl, by decide +kernel, by decide +kernel⟩
section
variable {P : Program} {w : World} {K : PySem.W.Frag} {mg : Str → Option Value} {base : Heap} {f : Addr} {fd : FuncData} {k : Nat}
/-- the world as it is handed: two numbers, the horizon, cells and points in lists or tuples -/
structure Handed (K : PySem.W.Frag) (H : Hp) (W : Wd) (c p : Addr) : Prop where
  cells : CellsR K H c W.cs
  pts : PtsR K H p W.ps
  few : W.cs.length ≤ 20
theorem Handed.same {H H' : Hp} {W : Wd} {c p : Addr} (s : Same H H') (h : Handed K H W c p) : Handed K H' W c p := ⟨h.cells.same s, sqA_same s h.pts, h.few⟩
def spSf (K : PySem.W.Frag) : Sp := fun vs H Q _ => ∃ (W : Wd) (c p : Addr), vs = [.int W.s, .int W.e, hV W.h, .ref c, .ref p] ∧ Handed K H W c p ∧
  ∀ (d : Addr) (ls : List Addr) (H' : Hp), Same H H' → H d = none → StepsR H' d (edg W) (ptS W ++ clS W) ls → Q (.ref d) H'
theorem ok_sf (F : Fun K "steps_from" "steps_from" sSf f fd) (C_edges_of : Cal P w K mg base k "edges_of" ["start", "end", "cells"] (spEd K)) (C_counts_below : Cal P w K mg base k "counts_below" ["edges", "points"] (spCb K)) (m_len : mg "len" = none) (m_range : mg "range" = none) : FnOk P w K mg base CX0 (k + 1) f fd ["start", "end", "horizon", "cells", "points"] (spSf K) := by
  refine F.ok scSf (fun vs H Q E h => ?_) (fun cdv A outer s H vs Q E hr h => ?_)
  · obtain ⟨W, c, p, rfl, _⟩ := h
    rfl
  · obtain ⟨W, c, p, rfl, hh, q⟩ := h
    have hu1 := hr.units
    have hu : (A.deeper (envOfC "steps_from" (defScope sSf) s.heap.objs.size f cdv)).units + 1 < cLine := by omega
    refine ⟨_, pss_cons (ps_set (i := 5) scSf.nd rfl (.inl rfl) (pe_cal C_edges_of (hr.mono (by omega)) (by rfl) (pa_cons (pv 0) (pa_cons (pv 1) (pa_cons (pv 3) pa_nil)))))
      (pss_cons (ps_set (i := 6) scSf.nd rfl (.inl rfl) (pe_cal C_counts_below (hr.mono (by omega)) (by rfl) (pa_cons (pv 5) (pa_cons (pv 4) pa_nil))))
      (pss_cons (ps_setDc (i := 7) (own := [("edge", 8)]) (g := (gName 8)) (tt := tYes) rfl scSf.nd rfl rfl (sw_dict rfl rfl rfl (by decide +kernel)) (pi_list (pv 5)) (blkOk_by (own := [("edge", 8)]) (N := NSf) (sc := defScope sSf) (by decide +kernel)) (fun _ _ _ _ _ => (pg_name (i := 8) scSf.nd rfl (.inl rfl))) (fun _ _ _ _ _ => pts_nil) (fun _ _ _ _ _ => pv 8) (fun _ _ _ _ _ => pe_lst pa_nil))
      (pss_cons (ps_for PassesOwn.never rfl (pi_range1 (by rfl) m_range (pa_cons (pe_op op_sub (pe_callB call_len_seq (by rfl) m_len (by decide +kernel) (pa_cons (pv 5) pa_nil)) pe_int) pa_nil)) (pg_name (i := 9) scSf.nd rfl (.inl rfl))
        (pss_one (ps_if (PW.pt (pw_or (pt_cmpR op_isN (pv 2) pe_non (nomark _)) (pw_or1 (pt_cmpR op_ge (pe_ix ix_list (pv 5) (pv 9) (fun _ _ => rfl)) (pv 2) (nomark _)))))
          (pss_one (ps_expr (pe_bm PySem.F.plainAttrs_list PySem.F.slot_list_append PySem.F.type_list_append mt_append (pe_dget hu (pv 7) (pe_ix ix_list (pv 5) (pv 9) (fun _ _ => rfl)) (fun _ _ => rfl)) (pa_cons (pe_tup (pa_cons pe_str (pa_cons (pe_ix ix_list (pv 5) (pe_op op_add (pv 9) pe_int) (fun _ _ => rfl)) (pa_cons (pe_op op_sub (pe_ix ix_list (pv 6) (pe_op op_add (pv 9) pe_int) (fun _ _ => rfl)) (pe_ix ix_list (pv 6) (pv 9) (fun _ _ => rfl))) pa_nil)))) pa_nil))))
          pss_nil)))
      (pss_cons (ps_for PassesOwn.never rfl (pi_seq (pv 3)) (pg_tup rfl (pgs_cons (pg_name (i := 10) scSf.nd rfl (.inl rfl)) (pgs_cons (pg_name (i := 11) scSf.nd rfl (.inl rfl)) pgs_nil)))
        (pss_one (ps_if (PW.pt (pw_and (pt_cmpR op_le (pv 0) (pv 10) (nomark _)) (pw_and1 (pt_cmpR op_le (pv 11) (pv 1) (nomark _)))))
          (pss_one (ps_expr (pe_bm PySem.F.plainAttrs_list PySem.F.slot_list_append PySem.F.type_list_append mt_append (pe_dget hu (pv 7) (pv 10) (fun _ _ => rfl)) (pa_cons (pe_tup (pa_cons pe_str (pa_cons (pv 11) (pa_cons pe_int pa_nil)))) pa_nil))))
          pss_nil)))
      (pss_one (ps_ret (pv 7))))))), ?_⟩
    have el := edg_len W
    have f20 := hh.few
    refine ⟨_, rfl, _, rfl, _, rfl, W, c, rfl, hh.cells, hh.few, fun a H1 s1 na ha => ?_⟩
    refine ⟨_, rfl, _, rfl, a, p, edg W, W.ps, rfl, ha, edg_up W, by omega, sqA_same s1 hh.pts, fun m H2 s2 nm hm => ?_⟩
    have ha2 := s2 _ _ ha
    have sA := s1.trans s2
    have ndE := edg_nd W
    have ep := edg_pos W
    obtain ⟨E0, eE⟩ : ∃ E0, edg W = E0 := ⟨_, rfl⟩
    rw [eE] at ha2 hm el ndE ep
    refine ⟨_, rfl, a, rfl, ⟨_, SqL.of ha2⟩, fun d nd => dc_lst (a := a) (xs := E0.map V.int) (fun i Hc => ∃ ls : List Addr, ls.length = i ∧ i ≤ E0.length ∧ ls.Nodup ∧ Same H2 Hc ∧ Hc d = some (.dK (kvE (E0.take i) ls)) ∧ ∀ l, l ∈ ls → Hc l = some (.lst []) ∧ H2 l = none ∧ l ≠ d) ⟨[], rfl, Nat.zero_le _, .nil, same_new nd, upd_same, fun l h => by cases h⟩ (fun i Hc ⟨ls, _, _, _, sc, _⟩ => SqL.of (sc _ _ ha2)) ?_ ?_⟩
    · rintro i x Hc hx ⟨ls, ll, il, nd2, sc, hd, each⟩
      rw [List.getElem?_map] at hx
      obtain ⟨e, ex, rfl⟩ := Option.map_eq_some_iff.mp hx
      have lt : i < E0.length := (List.getElem?_eq_some_iff.mp ex).1
      refine ⟨rfl, yes_b (if_t ⟨_, rfl, Nat.zero_le _, fun l nl => ?_⟩)⟩
      have sl := same_new (o := .lst []) nl
      have ld : l ≠ d := fun z => by
        rw [z, hd] at nl
        cases nl
      have new : (Sum.inl e : Key) ∉ (kvE (E0.take i) ls).map (·.1) := by
        rw [kvE_keys (by rw [List.length_take, ll]; omega)]
        intro h
        obtain ⟨y, hy, z⟩ := List.mem_map.mp h
        obtain rfl := Sum.inl.inj z
        obtain ⟨j, hj, ej⟩ := List.mem_iff_getElem.mp hy
        rw [List.length_take] at hj
        rw [List.getElem_take] at ej
        have e1 : E0[j]? = some y := by rw [List.getElem?_eq_getElem (by omega), ej]
        have := (List.getElem?_inj (by omega) ndE).mp (e1.trans ex.symm)
        omega
      refine ⟨_, .inl e, rfl, sl _ _ hd, ?_, ls ++ [l], ?_, lt, ?_, fun b o hb => ?_, ?_, fun b hb => ?_⟩
      · unfold kvE
        rw [List.length_zipWith, List.length_take]
        exact small1000 (by omega)
      · rw [List.length_append, ll]
        rfl
      · exact List.nodup_append.mpr ⟨nd2, by simp, fun u hu v hv => by
          rw [List.mem_singleton.mp hv]
          intro z
          rw [← z, (each u hu).1] at nl
          cases nl⟩
      · rw [upd_ne (ne_of_none hb nd)]
        exact sl _ _ (sc _ _ hb)
      · rw [upd_same, putK_new new, List.take_add_one, ex]
        unfold kvE
        rw [List.zipWith_append (by rw [List.length_take, ll]; omega)]
        rfl
      · rcases List.mem_append.mp hb with h | h
        · obtain ⟨h1, h2, h3⟩ := each b h
          refine ⟨?_, h2, h3⟩
          rw [upd_ne h3]
          exact sl _ _ h1
        · rw [List.mem_singleton.mp h]
          refine ⟨?_, sc.free nl, ld⟩
          rw [upd_ne ld, upd_same]
    · rintro Hc ⟨ls, ll, il, nd2, sc, hd, each⟩
      rw [List.length_map] at ll hd
      rw [List.take_length] at hd
      have S0 : StepsR Hc d E0 [] ls := ⟨ll, nd2, hd, fun i l x e1 e2 => ⟨[], (each l (List.mem_of_getElem? e1)).1, rfl, fun j t u z => by simp at z⟩⟩
      have frs : ∀ l, l ∈ ls → H2 l = none := fun l hl => (each l hl).2.1
      have ltn : (E0.map V.int).length = E0.length := List.length_map ..
      refine ⟨_, rfl, a, _, rfl, .inl (SqL.of (sc _ _ ha2)), _, _, rfl, rfl, ((E0.length - 1 : Nat) : Int), ?_, by omega, by omega, for_range (lo := 0) (n := E0.length - 1) (fun i σ Hd => ∃ z9 : Option V, σ = [some (.int W.s), some (.int W.e), some (hV W.h), some (.ref c), some (.ref p), some (.ref a), some (.ref m), some (.ref d), none, z9, none, none] ∧ Same H2 Hd ∧ StepsR Hd d E0 (ptP W i) ls) ⟨none, rfl, sc, S0⟩ ?_ ?_⟩
      · show [V.int ((((E0.map V.int).length : Nat) : Int) - 1)] = _
        rw [ltn]
        congr 2
        omega
      · rintro i σ Hd hi ⟨z9, rfl, sd, S⟩
        show gName 9 (V.int (0 + ((i : Nat) : Int))) _ _ _
        rw [Int.zero_add]
        obtain ⟨x, ex⟩ : ∃ x, E0[i]? = some x := ⟨_, List.getElem?_eq_getElem (by omega)⟩
        obtain ⟨y, ey⟩ : ∃ y, E0[i + 1]? = some y := ⟨_, List.getElem?_eq_getElem (by omega)⟩
        obtain ⟨l, el2⟩ : ∃ l, ls[i]? = some l := ⟨_, List.getElem?_eq_getElem (by omega)⟩
        have had := sd _ _ ha2
        have hmd := sd _ _ hm
        have nx := ptP_step (W := W) (i := i) (a := x) (b := y) (by rw [eE]; exact ex) (by rw [eE]; exact ey)
        have xy : x < y := by
          obtain ⟨l1, e1⟩ := List.getElem?_eq_some_iff.mp ex
          obtain ⟨l2, e2⟩ := List.getElem?_eq_some_iff.mp ey
          have := List.pairwise_iff_getElem.mp (eE ▸ edg_up W) i (i + 1) l1 l2 (by omega)
          rw [e1, e2] at this
          exact this
        have ixx : atI (E0.map V.int) ((i : Nat) : Int) = some (.int x) := atI_nat (j := i) (by rw [List.getElem?_map, ex]; rfl)
        have ixy : atI (E0.map V.int) (((i : Nat) : Int) + 1) = some (.int y) := atI_nat (j := i + 1) (by rw [List.getElem?_map, ey]; rfl)
        have icx : atI (nats (E0.map (below W.ps))) ((i : Nat) : Int) = some (.int (below W.ps x : Nat)) := atI_nat (j := i) (by unfold nats; rw [List.getElem?_map, List.getElem?_map, ex]; rfl)
        have icy : atI (nats (E0.map (below W.ps))) (((i : Nat) : Int) + 1) = some (.int (below W.ps y : Nat)) := atI_nat (j := i + 1) (by unfold nats; rw [List.getElem?_map, List.getElem?_map, ey]; rfl)
        have vl := S.val ndE ex el2
        obtain ⟨ts, h1, h2, h3⟩ := S.lst i l x el2 ex
        have ec : ((below W.ps y : Nat) : Int) - ((below W.ps x : Nat) : Int) = (cnt W.ps x y : Nat) := by
          have := below_add W.ps (show x ≤ y by omega)
          omega
        have et : stpT ⟨false, x, y, cnt W.ps x y⟩ = .tup [.str "points", .int y, .int (((below W.ps y : Nat) : Int) - ((below W.ps x : Nat) : Int))] := by
          rw [ec]
          rfl
        have small : (ts.map V.ref).length < sizeLine := by
          rw [List.length_map, h2]
          have := atE_len (ptP W i) x
          have := ptP_len W i
          exact small1000 (by omega)
        have l2n := frs l (List.mem_of_getElem? el2)
        cases hk : hok W.h x with
        | true =>
          cases hW : W.h with
          | none =>
            refine ⟨_, rfl, rfl, true, rfl, if_t (if_t ?_)⟩
            rw [← hW]
            refine ⟨_, rfl, _, rfl, _, rfl, a, _, _, .int x, rfl, rfl, SqL.of had, ixx, d, .ref l, rfl, .inl ⟨_, .inl x, .inl S.dct, rfl, vl.symm⟩, .inl ⟨rfl, _, SqL.of h1⟩, _, rfl, _, rfl, _, _, rfl, rfl, a, _, _, .int y, rfl, rfl, SqL.of had, ixy, ?_⟩
            refine ⟨_, rfl, _, rfl, _, _, rfl, rfl, m, _, _, _, rfl, rfl, SqL.of hmd, icy, _, rfl, _, rfl, m, _, _, _, rfl, rfl, SqL.of hmd, icx, _, _, rfl, rfl, by show 3 ≤ sizeLine; decide, fun t nt => ?_⟩
            have st := same_new (o := stpT ⟨false, x, y, cnt W.ps x y⟩) nt
            have S2 := S.put ndE el2 ex (u := ⟨false, x, y, cnt W.ps x y⟩) rfl nt h1
            have h1t := st _ _ h1
            have s2 : Same H2 (upd (upd Hd t (stpT ⟨false, x, y, cnt W.ps x y⟩)) l (.lst (ts.map V.ref ++ [.ref t]))) := same_put l2n (sd.trans st)
            rw [et] at S2 h1t s2
            refine ⟨l, _, _, rfl, rfl, h1t, small, _, rfl, s2, ?_⟩
            rw [nx, hk]
            exact S2
          | some z =>
            refine ⟨_, rfl, rfl, false, rfl, if_f ?_⟩
            have zx : z ≤ x := by
              rw [hW] at hk
              exact of_decide_eq_true hk
            refine ⟨_, rfl, _, rfl, a, _, _, .int x, rfl, rfl, SqL.of had, ixx, _, rfl, x, z, rfl, rfl, true, congrArg V.bl (decide_eq_true zx), if_t ?_⟩
            rw [← hW]
            refine ⟨_, rfl, _, rfl, _, rfl, a, _, _, .int x, rfl, rfl, SqL.of had, ixx, d, .ref l, rfl, .inl ⟨_, .inl x, .inl S.dct, rfl, vl.symm⟩, .inl ⟨rfl, _, SqL.of h1⟩, _, rfl, _, rfl, _, _, rfl, rfl, a, _, _, .int y, rfl, rfl, SqL.of had, ixy, ?_⟩
            refine ⟨_, rfl, _, rfl, _, _, rfl, rfl, m, _, _, _, rfl, rfl, SqL.of hmd, icy, _, rfl, _, rfl, m, _, _, _, rfl, rfl, SqL.of hmd, icx, _, _, rfl, rfl, by show 3 ≤ sizeLine; decide, fun t nt => ?_⟩
            have st := same_new (o := stpT ⟨false, x, y, cnt W.ps x y⟩) nt
            have S2 := S.put ndE el2 ex (u := ⟨false, x, y, cnt W.ps x y⟩) rfl nt h1
            have h1t := st _ _ h1
            have s2 : Same H2 (upd (upd Hd t (stpT ⟨false, x, y, cnt W.ps x y⟩)) l (.lst (ts.map V.ref ++ [.ref t]))) := same_put l2n (sd.trans st)
            rw [et] at S2 h1t s2
            refine ⟨l, _, _, rfl, rfl, h1t, small, _, rfl, s2, ?_⟩
            rw [nx, hk]
            exact S2
        | false =>
          cases hW : W.h with
          | none =>
            rw [hW] at hk
            cases hk
          | some z =>
            refine ⟨_, rfl, rfl, false, rfl, if_f ?_⟩
            have zx : ¬ z ≤ x := by
              rw [hW] at hk
              exact of_decide_eq_false hk
            refine ⟨_, rfl, _, rfl, a, _, _, .int x, rfl, rfl, SqL.of had, ixx, _, rfl, x, z, rfl, rfl, false, congrArg V.bl (decide_eq_false zx), if_f ?_⟩
            rw [← hW]
            refine ⟨_, rfl, sd, ?_⟩
            rw [nx, hk]
            show StepsR Hd d E0 (ptP W i ++ []) ls
            rw [List.append_nil]
            exact S
      · rintro σ Hd ⟨z9, rfl, sd, S⟩
        rw [ptP_all (by rw [eE])] at S
        obtain ⟨cts, sq, lts, hts⟩ := hh.cells
        have S' : StepsR Hd d E0 (ptS W ++ clP W 0) ls := by
          show StepsR Hd d E0 (ptS W ++ []) ls
          rw [List.append_nil]
          exact S
        refine ⟨_, rfl, c, rfl, for_seq sq (fun j σ He => ∃ z10 z11 : Option V, σ = [some (.int W.s), some (.int W.e), some (hV W.h), some (.ref c), some (.ref p), some (.ref a), some (.ref m), some (.ref d), none, z9, z10, z11] ∧ Same H2 He ∧ StepsR He d E0 (ptS W ++ clP W j) ls) ⟨none, none, rfl, sd, S'⟩ (fun i σ1 H1 ⟨_, _, _, h, _⟩ o e => h _ _ (sA _ _ e)) ?_ ?_⟩
        · rintro j v σ He hv ⟨z10, z11, rfl, se, Se⟩
          rw [List.getElem?_map] at hv
          obtain ⟨tc, et, rfl⟩ := Option.map_eq_some_iff.mp hv
          obtain ⟨cc, ec⟩ : ∃ cc, W.cs[j]? = some cc := ⟨_, List.getElem?_eq_getElem (by rw [← lts]; exact (List.getElem?_eq_some_iff.mp et).1)⟩
          have hc := sqT_same (sA.trans se) (hts j tc cc et ec)
          have jl : j < W.cs.length := (List.getElem?_eq_some_iff.mp ec).1
          have nx := clP_step (W := W) ec
          have stay : (¬ (W.s ≤ cc.1 ∧ cc.2 ≤ W.e)) → StepsR He d E0 (ptS W ++ clP W (j + 1)) ls := fun h => by
            rw [nx, if_neg h, List.append_nil]
            exact Se
          refine ⟨tc, _, rfl, hc, rfl, _, _, rfl, _, _, rfl, rfl, ?_⟩
          by_cases g1 : W.s ≤ cc.1
          · refine ⟨_, rfl, _, rfl, _, _, rfl, rfl, true, congrArg V.bl (decide_eq_true g1), if_t ?_⟩
            by_cases g2 : cc.2 ≤ W.e
            · refine ⟨_, rfl, _, rfl, _, _, rfl, rfl, true, congrArg V.bl (decide_eq_true g2), if_t ?_⟩
              have inE : cc.1 ∈ E0 := by
                rw [← eE]
                exact edg_mem.mpr (.inr (.inr ⟨cc, mem_ins.mpr ⟨List.mem_of_getElem? ec, g1, g2⟩, .inl rfl⟩))
              obtain ⟨i, il, ei⟩ := List.mem_iff_getElem.mp inE
              have ex : E0[i]? = some cc.1 := by rw [List.getElem?_eq_getElem il, ei]
              obtain ⟨l, el2⟩ : ∃ l, ls[i]? = some l := ⟨_, List.getElem?_eq_getElem (by omega)⟩
              have vl := Se.val ndE ex el2
              obtain ⟨ts, h1, h2, h3⟩ := Se.lst i l cc.1 el2 ex
              have small : (ts.map V.ref).length < sizeLine := by
                rw [List.length_map, h2]
                have b1 := atE_len (ptS W ++ clP W j) cc.1
                have b2 := clP_len W j
                have b3 := ptP_len W ((edg W).length - 1)
                rw [ptP_all rfl] at b3
                rw [List.length_append] at b1
                rw [eE] at b3
                exact small1000 (by omega)
              have l2n := frs l (List.mem_of_getElem? el2)
              refine ⟨_, rfl, _, rfl, d, .ref l, rfl, .inl ⟨_, .inl cc.1, .inl Se.dct, rfl, vl.symm⟩, .inl ⟨rfl, _, SqL.of h1⟩, _, rfl, by show 3 ≤ sizeLine; decide, fun t nt => ?_⟩
              have st := same_new (o := stpT ⟨true, cc.1, cc.2, 1⟩) nt
              have S2 := Se.put ndE el2 ex (u := ⟨true, cc.1, cc.2, 1⟩) rfl nt h1
              have h1t := st _ _ h1
              have s2 : Same H2 (upd (upd He t (stpT ⟨true, cc.1, cc.2, 1⟩)) l (.lst (ts.map V.ref ++ [.ref t]))) := same_put l2n (se.trans st)
              have et : stpT ⟨true, cc.1, cc.2, 1⟩ = .tup [.str "cell", .int cc.2, .int 1] := rfl
              rw [et] at S2 h1t s2
              refine ⟨l, _, _, rfl, rfl, h1t, small, _, _, rfl, s2, ?_⟩
              rw [nx, if_pos ⟨g1, g2⟩, ← List.append_assoc]
              exact S2
            · exact ⟨_, rfl, _, rfl, _, _, rfl, rfl, false, congrArg V.bl (decide_eq_false g2), if_f ⟨_, _, rfl, se, stay fun z => g2 z.2⟩⟩
          · exact ⟨_, rfl, _, rfl, _, _, rfl, rfl, false, congrArg V.bl (decide_eq_false g1), if_f (if_f ⟨_, _, rfl, se, stay fun z => g1 z.1⟩)⟩
        · rintro σ He ⟨z10, z11, rfl, se, Se⟩
          have all : clP W (cts.map V.ref).length = clS W := by
            unfold clP clS ins
            rw [List.length_map, lts, List.take_length]
          rw [all, ← eE] at Se
          exact ⟨_, rfl, q d ls He (sA.trans se) (sA.free nd) Se⟩
end
end Tg

namespace Tg
open PySem PySem.Spec PyProof.Rows L2 Pl
/-! ### walked -/
/-- keys that are edges, each once -/
def KeysE (kvs : List (Key × V)) (E : List Int) : Prop := ∃ ks : List Int, kvs.map (·.1) = ks.map Sum.inl ∧ ks.Nodup ∧ ∀ x, x ∈ ks → x ∈ E
theorem KeysE.len {kvs : List (Key × V)} {E : List Int} (h : KeysE kvs E) : kvs.length ≤ E.length := by
  obtain ⟨ks, h1, h2, h3⟩ := h
  have e := congrArg List.length h1
  simp only [List.length_map] at e
  rw [e]
  exact nodup_len h2 h3
theorem KeysE.put {kvs : List (Key × V)} {E : List Int} {x : Int} {v : V} (h : KeysE kvs E) (hx : x ∈ E) : KeysE (putK kvs (.inl x) v) E := by
  obtain ⟨ks, h1, h2, h3⟩ := h
  unfold putK
  by_cases c : (kvs.any fun kv => decide (kv.1 = (Sum.inl x : Key))) = true
  · rw [if_pos c]
    refine ⟨ks, ?_, h2, h3⟩
    rw [← h1, List.map_map]
    refine List.map_congr_left fun kv _ => ?_
    show (if kv.1 = _ then (kv.1, v) else kv).1 = kv.1
    by_cases d : kv.1 = (Sum.inl x : Key)
    · rw [if_pos d]
    · rw [if_neg d]
  · rw [if_neg c]
    have nx : x ∉ ks := fun z => c (List.any_eq_true.mpr (by
      have : (Sum.inl x : Key) ∈ kvs.map (·.1) := by
        rw [h1]
        exact List.mem_map.mpr ⟨x, z, rfl⟩
      obtain ⟨kv, m, e⟩ := List.mem_map.mp this
      exact ⟨kv, m, decide_eq_true e⟩))
    refine ⟨ks ++ [x], ?_, ?_, fun y hy => ?_⟩
    · rw [List.map_append, List.map_append, h1]
      rfl
    · exact List.nodup_append.mpr ⟨h2, by simp, fun a ha b hb => by
        rw [List.mem_singleton.mp hb]
        intro z
        exact nx (z ▸ ha)⟩
    · rcases List.mem_append.mp hy with h | h
      · exact h3 y h
      · rw [List.mem_singleton.mp h]
        exact hx
/-- heights in the heap -/
def HtR (H : Hp) (d : Addr) (E : List Int) (h : Ht) : Prop := ∃ kvs : List (Key × V), H d = some (.dK kvs) ∧ KeysE kvs E ∧ ∀ x : Int, valV kvs (.inl x) = (h x).map V.int
/-- the last pieces in the heap -/
def PcR (H : Hp) (d : Addr) (E : List Int) (p : Pc) : Prop := ∃ kvs : List (Key × V), H d = some (.dK kvs) ∧ KeysE kvs E ∧ ∀ (x : Int) (wa : Bool × Int), p x = some wa → ∃ t, valV kvs (.inl x) = some (.ref t) ∧ H t = some (.tup [.str (wdS wa.1), .int wa.2, .int x])
theorem HtR.at_ {H H' : Hp} {d : Addr} {E : List Int} {h : Ht} (e : H' d = H d) (r : HtR H d E h) : HtR H' d E h := by
  obtain ⟨kvs, h1, h2⟩ := r
  exact ⟨kvs, e.trans h1, h2⟩
theorem HtR.put {H : Hp} {d : Addr} {E : List Int} {h : Ht} {kvs : List (Key × V)} {x g : Int} (hd : H d = some (.dK kvs)) (ke : KeysE kvs E) (vs : ∀ x : Int, valV kvs (.inl x) = (h x).map V.int) (hx : x ∈ E) : HtR (upd H d (.dK (putK kvs (.inl x) (.int g)))) d E (fun y => if y = x then some g else h y) :=
  ⟨_, upd_same, ke.put hx, fun y => by
    rw [valV_put]
    show _ = Option.map V.int (if y = x then some g else h y)
    by_cases c : y = x
    · rw [if_pos (by rw [c]), if_pos c]
      rfl
    · rw [if_neg (fun z => c (Sum.inl.inj z)), if_neg c]
      exact vs y⟩
theorem HtR.val {H : Hp} {d : Addr} {E : List Int} {h : Ht} (r : HtR H d E h) (x : Int) : ∃ kvs : List (Key × V), H d = some (.dK kvs) ∧ KeysE kvs E ∧ valV kvs (.inl x) = (h x).map V.int ∧ ∀ y : Int, valV kvs (.inl y) = (h y).map V.int := by
  obtain ⟨kvs, h1, h2, h3⟩ := r
  exact ⟨kvs, h1, h2, h3 x, h3⟩
theorem PcR.put {H : Hp} {d t : Addr} {E : List Int} {p : Pc} {kvs : List (Key × V)} {x a : Int} {w : Bool} (hd : H d = some (.dK kvs)) (ke : KeysE kvs E) (vs : ∀ (x : Int) (wa : Bool × Int), p x = some wa → ∃ t, valV kvs (.inl x) = some (.ref t) ∧ H t = some (.tup [.str (wdS wa.1), .int wa.2, .int x])) (nt : H t = none) (hx : x ∈ E) :
    PcR (upd (upd H t (.tup [.str (wdS w), .int a, .int x])) d (.dK (putK kvs (.inl x) (.ref t)))) d E (fun y => if y = x then some (w, a) else p y) := by
  have td : t ≠ d := fun z => by
    rw [z, hd] at nt
    cases nt
  refine ⟨_, upd_same, ke.put hx, fun y wa e => ?_⟩
  have e : (if y = x then some (w, a) else p y) = some wa := e
  rw [valV_put]
  by_cases c : y = x
  · rw [if_pos c] at e
    cases e
    rw [if_pos (by rw [c])]
    refine ⟨t, rfl, ?_⟩
    rw [upd_ne td, upd_same, c]
  · rw [if_neg c] at e
    obtain ⟨b, h1, h2⟩ := vs y wa e
    rw [if_neg (fun z => c (Sum.inl.inj z))]
    refine ⟨b, h1, ?_⟩
    have bd : b ≠ d := fun z => by
      rw [z, hd] at h2
      cases h2
    rw [upd_ne bd, upd_ne (ne_of_none h2 nt)]
    exact h2
theorem PcR.keep {H H' : Hp} {a d : Addr} {E : List Int} {p : Pc} {kvs : List (Key × V)} (r : PcR H d E p) (ne : d ≠ a) (ha : H a = some (.dK kvs)) (k : ∀ c o, c ≠ a → H c = some o → H' c = some o) : PcR H' d E p := by
  obtain ⟨kvs2, h1, h2, h3⟩ := r
  refine ⟨kvs2, k _ _ ne h1, h2, fun x wa e => ?_⟩
  obtain ⟨t, e1, e2⟩ := h3 x wa e
  refine ⟨t, e1, k _ _ (fun z => ?_) e2⟩
  rw [z, ha] at e2
  cases e2
theorem rel_low {h : Ht} {u : Stp} {g : Int} (e : h u.fr = some g) (l : low h u = true) : rel h u = fun y => if y = u.to then some (g + u.cost) else h y := by
  obtain ⟨o, h1, _, _, h4⟩ := rel_to e
  rcases h4 with ⟨_, rfl⟩ | ⟨z, _⟩
  · funext y
    by_cases c : y = u.to
    · rw [if_pos c, c]
      exact h1
    · rw [if_neg c]
      exact rel_other c
  · rw [l] at z
    cases z
theorem rel_high {h : Ht} {u : Stp} {g : Int} (e : h u.fr = some g) (l : low h u = false) : rel h u = h := by
  obtain ⟨o, h1, _, _, h4⟩ := rel_to e
  rcases h4 with ⟨z, _⟩ | ⟨_, h4⟩
  · rw [l] at z
    cases z
  · funext y
    by_cases c : y = u.to
    · rw [c, h1, h4]
    · exact rel_other c
theorem relP_none : ∀ {L : List Stp} {h : Ht} {p : Pc} {a : Int}, h a = none → (∀ t, t ∈ L → t.fr = a) → L.foldl relP (h, p) = (h, p)
  | [], _, _, _, _, _ => rfl
  | t :: r, h, p, a, e, all => by
    have e2 : h t.fr = none := by
      rw [all t (.head _)]
      exact e
    have one : relP (h, p) t = (h, p) := by
      show (rel h t, if low h t then _ else p) = (h, p)
      rw [rel_none e2, low_none e2]
      rfl
    show r.foldl relP (relP (h, p) t) = _
    rw [one]
    exact relP_none e fun u hu => all u (.tail _ hu)
theorem HtR.same {H H' : Hp} {d : Addr} {E : List Int} {h : Ht} (s : Same H H') (r : HtR H d E h) : HtR H' d E h := by
  obtain ⟨kvs, x1, x2⟩ := r
  exact ⟨kvs, s _ _ x1, x2⟩
theorem PcR.same {H H' : Hp} {d : Addr} {E : List Int} {p : Pc} (s : Same H H') (r : PcR H d E p) : PcR H' d E p := by
  obtain ⟨kvs, x1, x2, x3⟩ := r
  exact ⟨kvs, s _ _ x1, x2, fun x wa e => let ⟨b, y1, y2⟩ := x3 x wa e; ⟨b, y1, s _ _ y2⟩⟩
theorem own_at (W : Wd) (a : Int) : own W a = atE (ptS W ++ clS W) a := (List.filter_append ..).symm
/-- all but the two dicts stands -/
def K2 (a b : Addr) (H H' : Hp) : Prop := ∀ c o, c ≠ a → c ≠ b → H c = some o → H' c = some o
theorem K2.refl (a b : Addr) (H : Hp) : K2 a b H H := fun _ _ _ _ h => h
theorem K2.trans {a b : Addr} {H H1 H2 : Hp} (x : K2 a b H H1) (y : K2 a b H1 H2) : K2 a b H H2 := fun c o n1 n2 h => y c o n1 n2 (x c o n1 n2 h)
theorem K2.of {a b : Addr} {H H' : Hp} (s : Same H H') : K2 a b H H' := fun c o _ _ h => s c o h
theorem K2.putA {a b : Addr} {H : Hp} {o : HO} : K2 a b H (upd H a o) := fun c u n1 _ h => by
  rw [upd_ne n1]
  exact h
theorem K2.putB {a b : Addr} {H : Hp} {o : HO} : K2 a b H (upd H b o) := fun c u _ n2 h => by
  rw [upd_ne n2]
  exact h
abbrev sWk : Stmt := topS 6
theorem scWk : FnScope ["steps", "start", "heights", "pieces", "edge", "own_steps", "word", "behind", "cost", "height"] ["steps", "start"] (defScope sWk) := ⟨rfl, rfl, rfl, by decide +kernel, rfl, by decide +kernel, by decide +kernel⟩
section
variable {P : Program} {w : World} {K : PySem.W.Frag} {mg : Str → Option Value} {base : Heap} {f : Addr} {fd : FuncData} {k : Nat}
def spWk : Sp := fun vs H Q _ => ∃ (W : Wd) (d : Addr) (ls : List Addr), vs = [.ref d, .int W.s] ∧ W.Ok ∧ W.cs.length ≤ 20 ∧ StepsR H d (edg W) (ptS W ++ clS W) ls ∧
  ∀ (t hd pd : Addr) (H' : Hp), Kp d H H' → H hd = none → H pd = none → H' t = some (.tup [.ref hd, .ref pd]) → HtR H' hd (edg W) (hts W) → PcR H' pd (edg W) (pcs W) → Q (.ref t) H'
theorem ok_wk (F : Fun K "walked" "walked" sWk f fd) : FnOk P w K mg base CX0 (k + 1) f fd ["steps", "start"] spWk := by
  refine F.ok scWk (fun vs H Q E h => ?_) (fun cdv A outer s H vs Q E hr h => ?_)
  · obtain ⟨W, d, ls, rfl, _⟩ := h
    rfl
  · obtain ⟨W, d, ls, rfl, ok, few, S, q⟩ := h
    have hu1 := hr.units
    have hu : (A.deeper (envOfC "walked" (defScope sWk) s.heap.objs.size f cdv)).units + 1 < cLine := by omega
    refine ⟨_, pss_cons (ps_set (i := 2) scWk.nd rfl (.inl rfl) (pe_disp (pps_cons (pv 1) pe_int pps_nil) rfl rfl (by decide) (by decide)))
      (pss_cons (ps_set (i := 3) scWk.nd rfl (.inl rfl) pe_dnewK)
      (pss_cons (ps_for PassesOwn.never rfl (pi_items (pe_frz (pv 0))) (pg_tup rfl (pgs_cons (pg_name (i := 4) scWk.nd rfl (.inl rfl)) (pgs_cons (pg_name (i := 5) scWk.nd rfl (.inl rfl)) pgs_nil)))
        (pss_cons (ps_if (pt_cmp (pc_dnotin hu (pv 4) (pv 2)))
          (pss_one ps_continue)
          pss_nil)
        (pss_one (ps_for PassesOwn.never rfl (pi_list (pv 5)) (pg_tup rfl (pgs_cons (pg_name (i := 6) scWk.nd rfl (.inl rfl)) (pgs_cons (pg_name (i := 7) scWk.nd rfl (.inl rfl)) (pgs_cons (pg_name (i := 8) scWk.nd rfl (.inl rfl)) pgs_nil))))
          (pss_cons (ps_set (i := 9) scWk.nd rfl (.inl rfl) (pe_op op_add (pe_dget hu (pv 2) (pv 4) (fun _ _ => rfl)) (pv 8)))
          (pss_one (ps_if (PW.pt (pw_or (pt_cmp (pc_dnotin hu (pv 7) (pv 2))) (pw_or1 (pt_cmpR op_lt (pv 9) (pe_dget hu (pv 2) (pv 7) (fun _ _ => rfl)) (nomark _)))))
            (pss_cons (ps_dput hu (pv 2) (pv 7) (pv 9) rfl)
            (pss_one (ps_dput hu (pv 3) (pv 7) (pe_tup (pa_cons (pv 6) (pa_cons (pv 4) (pa_cons (pv 7) pa_nil)))) rfl)))
            pss_nil)))))))
      (pss_one (ps_ret (pe_tup (pa_cons (pv 2) (pa_cons (pv 3) pa_nil))))))), ?_⟩
    obtain ⟨E0, eE⟩ : ∃ E0, edg W = E0 := ⟨_, rfl⟩
    have el := edg_len W
    have upE := edg_up W
    have sin : W.s ∈ edg W := edg_mem.mpr (.inl rfl)
    rw [eE] at S el upE sin q
    refine fun hd nh => ⟨_, rfl, upd_same, [(.inl W.s, .int 0)], rfl, (by show 1 ≤ 15; decide), fun pd np => ?_⟩
    obtain ⟨H1, e1⟩ : ∃ H1, upd (upd H hd (.dK [])) hd (.dK (mergeK [] [(Sum.inl W.s, V.int 0)])) = H1 := ⟨_, rfl⟩
    have h1d : H1 hd = some (.dK [(Sum.inl W.s, V.int 0)]) := by
      rw [← e1, upd_same]
      rfl
    have s1 : Same H H1 := fun b o e => by
      rw [← e1, upd_ne (ne_of_none e nh), upd_ne (ne_of_none e nh)]
      exact e
    rw [e1] at np ⊢
    have npH : H pd = none := s1.free np
    have hp : hd ≠ pd := fun z => by
      rw [← z, h1d] at np
      cases np
    have s2 := same_new (o := .dK []) np
    obtain ⟨H2, e2⟩ : ∃ H2, upd H1 pd (.dK []) = H2 := ⟨_, rfl⟩
    have h2p : H2 pd = some (.dK []) := by
      rw [← e2]
      exact upd_same
    rw [e2] at s2 ⊢
    have hdd := s2 _ _ (s1 _ _ S.dct)
    have dh : d ≠ hd := fun z => by
      have := S.dct
      rw [z, nh] at this
      cases this
    have dp : d ≠ pd := fun z => by
      have := S.dct
      rw [z, npH] at this
      cases this
    refine ⟨_, rfl, d, _, rfl, hdd, trivial, fun od => ?_⟩
    obtain ⟨Hz, e3⟩ : ∃ Hz, upd H2 d (.frz od (.dK (kvE E0 ls))) = Hz := ⟨_, rfl⟩
    have hz : Hz d = some (.frz od (.dK (kvE E0 ls))) := by
      rw [← e3]
      exact upd_same
    have kz : Kp d H Hz := fun b o n e => by
      rw [← e3, upd_ne n]
      exact s2 _ _ (s1 _ _ e)
    have hzh : Hz hd = some (.dK [(Sum.inl W.s, V.int 0)]) := by
      rw [← e3, upd_ne dh.symm]
      exact s2 _ _ h1d
    have hzp : Hz pd = some (.dK []) := by
      rw [← e3, upd_ne dp.symm]
      exact h2p
    rw [e3]
    have H0r : HtR Hz hd E0 (H0 W.s) := ⟨_, hzh, ⟨[W.s], rfl, by simp, fun x hx => by rw [List.mem_singleton.mp hx]; exact sin⟩, fun x => by
      unfold H0
      by_cases c : x = W.s
      · rw [if_pos c, c]
        unfold valV
        simp
      · rw [if_neg c]
        unfold valV
        simp [Ne.symm c]⟩
    have P0r : PcR Hz pd E0 (fun _ => none) := ⟨_, hzp, ⟨[], rfl, .nil, fun x h => by cases h⟩, fun x wa e => by cases e⟩
    have kl : (kvE E0 ls).length = E0.length := by
      unfold kvE
      rw [List.length_zipWith, S.len]
      omega
    refine ⟨d, od, _, rfl, hz, for_it walk_items (fun i σ Hc => ∃ z4 z5 z6 z7 z8 z9 : Option V, σ = [some (.ref d), some (.int W.s), some (.ref hd), some (.ref pd), z4, z5, z6, z7, z8, z9] ∧ K2 hd pd Hz Hc ∧ HtR Hc hd E0 (((E0.take i).flatMap (own W)).foldl relP (H0 W.s, fun _ => none)).1 ∧ PcR Hc pd E0 (((E0.take i).flatMap (own W)).foldl relP (H0 W.s, fun _ => none)).2) ⟨none, none, none, none, none, none, rfl, K2.refl _ _ _, H0r, P0r⟩ (fun i σ Hc _ ⟨_, _, _, _, _, _, _, kc, _⟩ => kc _ _ dh dp hz) ?_ ?_⟩
    · rintro i v σ Hc Hc' hi ⟨z4, z5, z6, z7, z8, z9, rfl, kc, hr2, pr2⟩ ⟨T, x, y, rfl, nT, rfl, ex, ey⟩
      rw [kl] at hi
      obtain ⟨a, ea⟩ : ∃ a, E0[i]? = some a := ⟨_, List.getElem?_eq_getElem hi⟩
      obtain ⟨l, ell⟩ : ∃ l, ls[i]? = some l := ⟨_, List.getElem?_eq_getElem (by rw [S.len]; exact hi)⟩
      dsimp only at ex ey
      rw [kvE_at ea ell] at ex ey
      obtain rfl : V.int a = x := Option.some.inj ex
      obtain rfl : V.ref l = y := Option.some.inj ey
      have sT := same_new (o := .tup [.int a, .ref l]) nT
      obtain ⟨H4, e4⟩ : ∃ H4, upd Hc T (.tup [.int a, .ref l]) = H4 := ⟨_, rfl⟩
      have hT : H4 T = some (.tup [.int a, .ref l]) := by
        rw [← e4]
        exact upd_same
      rw [e4] at sT ⊢
      have more : ((E0.take (i + 1)).flatMap (own W)).foldl relP (H0 W.s, fun _ => none) = (own W a).foldl relP (((E0.take i).flatMap (own W)).foldl relP (H0 W.s, fun _ => none)) := by
        rw [List.take_add_one, ea, List.flatMap_append, List.foldl_append]
        show ([a].flatMap (own W)).foldl relP _ = _
        rw [List.flatMap_cons, List.flatMap_nil, List.append_nil]
      rw [more]
      obtain ⟨st, est⟩ : ∃ st, ((E0.take i).flatMap (own W)).foldl relP (H0 W.s, fun _ => none) = st := ⟨_, rfl⟩
      rw [est] at hr2 pr2 ⊢
      obtain ⟨h, p⟩ := st
      have kc4 := kc.trans (K2.of sT)
      have hr3 : HtR H4 hd E0 h := hr2.same sT
      have pr3 : PcR H4 pd E0 p := pr2.same sT
      obtain ⟨kvs, hkv, kke, kva, kvv⟩ := hr3.val a
      refine ⟨T, _, rfl, SqT.of hT, rfl, _, _, rfl, _, _, rfl, rfl, ?_⟩
      cases ha : h a with
      | none =>
        rw [ha] at kva
        refine ⟨_, rfl, _, rfl, hd, none, rfl, .inl ⟨kvs, .inl a, .inl hkv, rfl, kva.symm⟩, true, rfl, if_t ?_⟩
        rw [relP_none ha fun t ht => (own_mem.mp ht).2]
        exact ⟨_, _, _, _, _, _, rfl, kc4, hr3, pr3⟩
      | some g =>
        rw [ha] at kva
        refine ⟨_, rfl, _, rfl, hd, some (.int g), rfl, .inl ⟨kvs, .inl a, .inl hkv, rfl, kva.symm⟩, false, rfl, if_f ?_⟩
        obtain ⟨ts, t1, t2, t3⟩ := S.lst i l a ell ea
        rw [← own_at] at t2 t3
        have ld : l ≠ d := fun z => by
          rw [z, S.dct] at t1
          cases t1
        have stays : ∀ (b : Addr) (o : HO) (He : Hp), b ≠ d → H b = some o → K2 hd pd Hz He → He b = some o := fun b o He n e ke => ke b o (ne_of_none e nh) (ne_of_none e npH) (kz b o n e)
        refine ⟨_, rfl, l, rfl, ⟨_, SqL.of (stays l _ _ ld t1 kc4)⟩, for_list (xs := ts.map V.ref) (fun j σ He => ∃ z6 z7 z8 z9 : Option V, σ = [some (.ref d), some (.int W.s), some (.ref hd), some (.ref pd), some (.int a), some (.ref l), z6, z7, z8, z9] ∧ K2 hd pd Hz He ∧ HtR He hd E0 (((own W a).take j).foldl relP (h, p)).1 ∧ PcR He pd E0 (((own W a).take j).foldl relP (h, p)).2 ∧ (((own W a).take j).foldl relP (h, p)).1 a = some g) ⟨_, _, _, _, rfl, kc4, hr3, pr3, ha⟩ (fun j σ He _ ⟨_, _, _, _, _, ke, _⟩ => SqL.of (stays l _ _ ld t1 ke)) ?_ ?_⟩
        · rintro j v σ He hv ⟨z6, z7, z8, z9, rfl, ke, hr5, pr5, hga⟩
          rw [List.getElem?_map] at hv
          obtain ⟨t, et, rfl⟩ := Option.map_eq_some_iff.mp hv
          have jl : j < (own W a).length := by
            rw [← t2]
            exact (List.getElem?_eq_some_iff.mp et).1
          obtain ⟨u, eu⟩ : ∃ u, (own W a)[j]? = some u := ⟨_, List.getElem?_eq_getElem jl⟩
          have ht0 := t3 j t u et eu
          have td : t ≠ d := fun z => by
            rw [z, S.dct] at ht0
            cases ht0
          have hte := stays t _ _ td ht0 ke
          obtain ⟨um, ufr⟩ := own_mem.mp (List.mem_of_getElem? eu)
          obtain ⟨_, uto, uok, _⟩ := stp_ok ok um
          rw [eE] at uto
          have ufw : u.fr < u.to := uok.fw
          have next : ((own W a).take (j + 1)).foldl relP (h, p) = relP (((own W a).take j).foldl relP (h, p)) u := by
            rw [List.take_add_one, eu, List.foldl_append]
            rfl
          rw [next]
          obtain ⟨st, est⟩ : ∃ st, ((own W a).take j).foldl relP (h, p) = st := ⟨_, rfl⟩
          rw [est] at hr5 pr5 hga ⊢
          obtain ⟨h5, p5⟩ := st
          have hga : h5 a = some g := hga
          have hr5 : HtR He hd E0 h5 := hr5
          have pr5 : PcR He pd E0 p5 := pr5
          have hgu : h5 u.fr = some g := by
            rw [ufr]
            exact hga
          obtain ⟨kvs5, k1, k2, k3, k4⟩ := hr5.val a
          rw [hga] at k3
          have kto := k4 u.to
          have ga2 : rel h5 u a = some g := by
            rw [rel_other (by omega)]
            exact hga
          refine ⟨t, _, rfl, SqT.of hte, rfl, _, _, rfl, _, _, rfl, _, _, rfl, rfl, ?_⟩
          refine ⟨_, rfl, _, rfl, hd, .int g, rfl, .inl ⟨kvs5, .inl a, .inl k1, rfl, k3.symm⟩, _, rfl, _, _, rfl, rfl, ?_⟩
          have stay : low h5 u = false → ∃ z6 z7 z8 z9 : Option V, [some (V.ref d), some (.int W.s), some (.ref hd), some (.ref pd), some (.int a), some (.ref l), some (.str (wdS u.cell)), some (.int u.to), some (.int u.cost), some (.int (g + u.cost))] = [some (.ref d), some (.int W.s), some (.ref hd), some (.ref pd), some (.int a), some (.ref l), z6, z7, z8, z9] ∧ K2 hd pd Hz He ∧ HtR He hd E0 (relP (h5, p5) u).1 ∧ PcR He pd E0 (relP (h5, p5) u).2 ∧ (relP (h5, p5) u).1 a = some g := fun lo => by
            refine ⟨_, _, _, _, rfl, ke, ?_, ?_, ga2⟩
            · show HtR He hd E0 (rel h5 u)
              rw [rel_high hgu lo]
              exact hr5
            · show PcR He pd E0 (if low h5 u then _ else p5)
              rw [lo]
              exact pr5
          cases hto : h5 u.to with
          | none =>
            rw [hto] at kto
            have lo : low h5 u = true := by
              unfold low
              rw [hgu, hto]
            refine ⟨_, rfl, _, rfl, hd, none, rfl, .inl ⟨kvs5, .inl u.to, .inl k1, rfl, kto.symm⟩, true, rfl, if_t (if_t ?_)⟩
            refine ⟨_, rfl, _, rfl, _, rfl, hd, _, rfl, .inl ⟨kvs5, .inl u.to, k1, rfl, small1000 (by have := k2.len; omega), rfl⟩, ?_⟩
            have pr6 : PcR (upd He hd (.dK (putK kvs5 (.inl u.to) (.int (g + u.cost))))) pd E0 p5 := pr5.keep hp.symm k1 fun c o n e => by rw [upd_ne n]; exact e
            have hr6 := HtR.put (g := g + u.cost) k1 k2 k4 uto
            rw [← rel_low hgu lo] at hr6
            obtain ⟨pvs, q1, q2, q3⟩ := pr6
            refine ⟨_, rfl, _, rfl, _, rfl, by show 3 ≤ sizeLine; decide, fun t2 nt2 => ?_⟩
            have s7 := same_new (o := .tup [.str (wdS u.cell), .int a, .int u.to]) nt2
            have h7 : ∀ (b : Addr) (o : HO), (upd He hd (.dK (putK kvs5 (.inl u.to) (.int (g + u.cost))))) b = some o → b ≠ t2 := fun b o e => ne_of_none e nt2
            refine ⟨_, rfl, _, rfl, pd, _, rfl, .inl ⟨pvs, .inl u.to, s7 _ _ q1, rfl, small1000 (by have := q2.len; omega), rfl⟩, _, _, _, _, rfl, ?_, ?_, ?_, ga2⟩
            · exact ke.trans (K2.putA.trans ((K2.of s7).trans K2.putB))
            · refine HtR.at_ ?_ hr6
              rw [upd_ne hp, upd_ne (h7 hd _ upd_same)]
            · have z := PcR.put (w := u.cell) (a := a) q1 q2 q3 nt2 uto
              show PcR _ pd E0 (if low h5 u then (fun x => if x = u.to then some (u.cell, u.fr) else p5 x) else p5)
              rw [lo, ufr]
              exact z
          | some o =>
            rw [hto] at kto
            refine ⟨_, rfl, _, rfl, hd, some (.int o), rfl, .inl ⟨kvs5, .inl u.to, .inl k1, rfl, kto.symm⟩, false, rfl, if_f ?_⟩
            refine ⟨_, rfl, _, rfl, _, rfl, hd, .int o, rfl, .inl ⟨kvs5, .inl u.to, .inl k1, rfl, kto.symm⟩, _, _, rfl, rfl, ?_⟩
            by_cases lt : g + u.cost < o
            · have lo : low h5 u = true := by
                unfold low
                rw [hgu, hto]
                exact decide_eq_true lt
              refine ⟨true, congrArg V.bl (decide_eq_true lt), if_t ?_⟩
              refine ⟨_, rfl, _, rfl, _, rfl, hd, _, rfl, .inl ⟨kvs5, .inl u.to, k1, rfl, small1000 (by have := k2.len; omega), rfl⟩, ?_⟩
              have pr6 : PcR (upd He hd (.dK (putK kvs5 (.inl u.to) (.int (g + u.cost))))) pd E0 p5 := pr5.keep hp.symm k1 fun c o n e => by rw [upd_ne n]; exact e
              have hr6 := HtR.put (g := g + u.cost) k1 k2 k4 uto
              rw [← rel_low hgu lo] at hr6
              obtain ⟨pvs, q1, q2, q3⟩ := pr6
              refine ⟨_, rfl, _, rfl, _, rfl, by show 3 ≤ sizeLine; decide, fun t2 nt2 => ?_⟩
              have s7 := same_new (o := .tup [.str (wdS u.cell), .int a, .int u.to]) nt2
              have h7 : ∀ (b : Addr) (o : HO), (upd He hd (.dK (putK kvs5 (.inl u.to) (.int (g + u.cost))))) b = some o → b ≠ t2 := fun b o e => ne_of_none e nt2
              refine ⟨_, rfl, _, rfl, pd, _, rfl, .inl ⟨pvs, .inl u.to, s7 _ _ q1, rfl, small1000 (by have := q2.len; omega), rfl⟩, _, _, _, _, rfl, ?_, ?_, ?_, ga2⟩
              · exact ke.trans (K2.putA.trans ((K2.of s7).trans K2.putB))
              · refine HtR.at_ ?_ hr6
                rw [upd_ne hp, upd_ne (h7 hd _ upd_same)]
              · have z := PcR.put (w := u.cell) (a := a) q1 q2 q3 nt2 uto
                show PcR _ pd E0 (if low h5 u then (fun x => if x = u.to then some (u.cell, u.fr) else p5 x) else p5)
                rw [lo, ufr]
                exact z
            · have lo : low h5 u = false := by
                unfold low
                rw [hgu, hto]
                exact decide_eq_false lt
              exact ⟨false, congrArg V.bl (decide_eq_false lt), if_f (stay lo)⟩
        · rintro σ He ⟨z6, z7, z8, z9, rfl, ke, hr5, pr5, hga⟩
          rw [List.length_map, t2, List.take_length] at hr5 pr5
          exact ⟨_, _, _, _, _, _, rfl, ke, hr5, pr5⟩
    · rintro σ Hc ⟨z4, z5, z6, z7, z8, z9, rfl, kc, hr2, pr2⟩
      rw [kl, List.take_length] at hr2 pr2
      refine ⟨_, rfl, _, rfl, by show 2 ≤ sizeLine; decide, fun t nt => ?_⟩
      have st := same_new (o := .tup [.ref hd, .ref pd]) nt
      have kall : Kp d H (upd Hc t (.tup [.ref hd, .ref pd])) := fun b o n e => st _ _ (kc b o (ne_of_none e nh) (ne_of_none e npH) (kz b o n e))
      refine q t hd pd _ kall nh npH upd_same ?_ ?_
      · obtain ⟨kvs, x1, x2⟩ := hr2
        rw [← eE] at x2 ⊢
        exact ⟨kvs, st _ _ x1, x2⟩
      · rw [← eE] at pr2 ⊢
        obtain ⟨kvs, x1, x2, x3⟩ := pr2
        exact ⟨kvs, st _ _ x1, x2, fun x wa e => let ⟨b, y1, y2⟩ := x3 x wa e; ⟨b, y1, st _ _ y2⟩⟩
end
end Tg

namespace Tg
open PySem PySem.Spec PyProof.Rows L2 Pl
/-! ### traced -/
def pceT (p : Pce) : HO := .tup [.str (wdS p.1), .int p.2.1, .int p.2.2]
/-- tuples that are pieces -/
def PLt (H : Hp) : List Addr → List Pce → Prop
  | [], [] => True
  | t :: ts, p :: L => H t = some (pceT p) ∧ PLt H ts L
  | _, _ => False
theorem PLt.len {H : Hp} : ∀ {ts : List Addr} {L : List Pce}, PLt H ts L → ts.length = L.length
  | [], [], _ => rfl
  | t :: ts, p :: L, h => congrArg (· + 1) (PLt.len h.2)
  | [], _ :: _, h => h.elim
  | _ :: _, [], h => h.elim
theorem PLt.keep {H H' : Hp} (k : ∀ t p, H t = some (pceT p) → H' t = some (pceT p)) : ∀ {ts : List Addr} {L : List Pce}, PLt H ts L → PLt H' ts L
  | [], [], _ => trivial
  | t :: ts, p :: L, h => ⟨k t p h.1, PLt.keep k h.2⟩
  | [], _ :: _, h => h.elim
  | _ :: _, [], h => h.elim
theorem PLt.same {H H' : Hp} (s : Same H H') {ts : List Addr} {L : List Pce} (h : PLt H ts L) : PLt H' ts L := h.keep fun t p e => s _ _ e
theorem PLt.at_ {H : Hp} : ∀ {ts : List Addr} {L : List Pce} {i : Nat} {t : Addr}, PLt H ts L → ts[i]? = some t → ∃ p, L[i]? = some p ∧ H t = some (pceT p)
  | [], [], _, _, _, e => by simp at e
  | t :: ts, p :: L, 0, u, h, e => by
    cases e
    exact ⟨p, rfl, h.1⟩
  | t :: ts, p :: L, i + 1, u, h, e => by
    obtain ⟨q, h1, h2⟩ := PLt.at_ h.2 (i := i) (t := u) e
    exact ⟨q, h1, h2⟩
  | [], _ :: _, _, _, h, _ => h.elim
  | _ :: _, [], _, _, h, _ => h.elim
theorem PLt.app {H : Hp} : ∀ {ts us : List Addr} {L M : List Pce}, PLt H ts L → PLt H us M → PLt H (ts ++ us) (L ++ M)
  | [], us, [], M, _, g => g
  | t :: ts, us, p :: L, M, h, g => ⟨h.1, PLt.app h.2 g⟩
  | [], _, _ :: _, _, h, _ => h.elim
  | _ :: _, _, [], _, h, _ => h.elim
def PLst (H : Hp) (b : Addr) (L : List Pce) : Prop := ∃ ts : List Addr, H b = some (.lst (ts.map V.ref)) ∧ PLt H ts L
/-- each piece is the last one on the way to its end -/
def OfP (W : Wd) (L : List Pce) : Prop := ∀ p, p ∈ L → pcs W p.2.2 = some (p.1, p.2.1)
abbrev sTr : Stmt := topS 7
theorem scTr : FnScope ["pieces", "start", "end", "back", "at"] ["pieces", "start", "end"] (defScope sTr) := ⟨rfl, rfl, rfl, by decide +kernel, rfl, by decide +kernel, by decide +kernel⟩
theorem million {n : Nat} (h : n ≤ 1000000) : n < sizeLine := Nat.lt_of_le_of_lt h (by decide)
section
variable {P : Program} {w : World} {K : PySem.W.Frag} {mg : Str → Option Value} {base : Heap} {f : Addr} {fd : FuncData} {k : Nat}
def spTr : Sp := fun vs H Q _ => ∃ (W : Wd) (pd : Addr) (o : Int), vs = [.ref pd, .int W.s, .int W.e] ∧ W.Ok ∧ W.e - W.s ≤ 1000000 ∧ PcR H pd (edg W) (pcs W) ∧ hts W W.e = some o ∧
  ∀ (b : Addr) (L : List Pce) (H' : Hp), Same H H' → H b = none → PLst H' b L → Chain W W.s L W.e → tot W.ps L = o → OfP W L → Q (.ref b) H'
theorem ok_tr (F : Fun K "traced" "traced" sTr f fd) : FnOk P w K mg base CX0 (k + 1) f fd ["pieces", "start", "end"] spTr := by
  refine F.ok scTr (fun vs H Q E h => ?_) (fun cdv A outer s H vs Q E hr h => ?_)
  · obtain ⟨W, pd, o, rfl, _⟩ := h
    rfl
  · obtain ⟨W, pd, o, rfl, ok, span, pr, ho, q⟩ := h
    have hu1 := hr.units
    have hu : (A.deeper (envOfC "traced" (defScope sTr) s.heap.objs.size f cdv)).units + 1 < cLine := by omega
    refine ⟨_, pss_cons (ps_set (i := 3) scTr.nd rfl (.inl rfl) (pe_lst pa_nil))
      (pss_cons (ps_set (i := 4) scTr.nd rfl (.inl rfl) (pv 2))
      (pss_cons (ps_while PassesOwn.never (pt_cmpR op_gt (pv 4) (pv 1) (nomark _))
        (pss_cons (ps_expr (pe_bm PySem.F.plainAttrs_list PySem.F.slot_list_append PySem.F.type_list_append mt_append (pv 3) (pa_cons (pe_dget hu (pv 0) (pv 4) (fun _ _ => rfl)) pa_nil)))
        (pss_one (ps_set (i := 4) scTr.nd rfl (.inl rfl) (pe_ix (r := rIxT K) ix_tup (pe_dget hu (pv 0) (pv 4) (fun _ _ => rfl)) pe_int (fun _ _ => rfl))))))
      (pss_one (ps_ret (pe_revL (pv 3) (po_some (pe_un un_neg pe_int))))))), ?_⟩
    obtain ⟨pvs, hpd, ke, vals⟩ := id pr
    refine ⟨Nat.zero_le _, fun b nb => ?_⟩
    have sb := same_new (o := .lst []) nb
    have se := ok.se
    refine ⟨_, rfl, while_by (fun σ Hc => ∃ (x ox : Int) (L : List Pce) (ts : List Addr), σ = [some (.ref pd), some (.int W.s), some (.int W.e), some (.ref b), some (.int x)] ∧ Same H Hc ∧ Hc b = some (.lst (ts.map V.ref)) ∧ PLt Hc ts.reverse L ∧ hts W x = some ox ∧ W.s ≤ x ∧ Chain W x L W.e ∧ tot W.ps L = o - ox ∧ (L.length : Int) ≤ W.e - x ∧ OfP W L) (fun σ _ => match σ with | _ :: _ :: _ :: _ :: some (.int x) :: _ => (x - W.s).toNat | _ => 0) ⟨W.e, o, [], [], rfl, sb, upd_same, trivial, ho, se, rfl, by show (0 : Int) = _; omega, by show (0 : Int) ≤ _; omega, fun p hp => by cases hp⟩ ?_ ?_⟩
    · rintro σ Hc ⟨x, ox, L, ts, rfl, sc, hb, pl, hx, sx, ch, tt, ll, ofp⟩
      refine ⟨_, rfl, _, rfl, x, W.s, rfl, rfl, _, rfl, ite2 (fun g => ?_) (fun g => ?_)⟩
      · have gt : W.s < x := of_decide_eq_true g
        obtain ⟨wd, a, hp, okp, hta⟩ := hts_back ok (show x ≠ W.s by omega) hx
        obtain ⟨t, vt, htt⟩ := vals x (wd, a) hp
        have fw : a < x := okp.fw
        have sa := (edg_in ok (hts_edg ok hta)).1
        have hpc := sc _ _ hpd
        have htc := sc _ _ htt
        have bt : t ≠ b := ne_of_none htt nb
        have pb : pd ≠ b := ne_of_none hpd nb
        refine ⟨_, rfl, .inl ⟨rfl, _, SqL.of hb⟩, _, rfl, _, rfl, pd, .ref t, rfl, .inl ⟨pvs, .inl x, .inl hpc, rfl, vt.symm⟩, b, _, _, rfl, rfl, hb, ?_, ?_⟩
        · have := pl.len
          rw [List.length_reverse] at this
          rw [List.length_map, this]
          exact million (by omega)
        have keep : ∀ (c : Addr) (o : HO), c ≠ b → Hc c = some o → (upd Hc b (.lst (ts.map V.ref ++ [.ref t]))) c = some o := fun c o n e => by
          rw [upd_ne n]
          exact e
        refine ⟨_, rfl, _, rfl, pd, .ref t, rfl, .inl ⟨pvs, .inl x, .inl (keep _ _ pb hpc), rfl, vt.symm⟩, t, _, 1, .int a, rfl, rfl, SqT.of (keep _ _ bt htc), atI_nat (j := 1) rfl, ?_⟩
        have len0 : tot W.ps ((wd, a, x) :: L) = cst W.ps (wd, a, x) + tot W.ps L := rfl
        refine ⟨⟨a, _, (wd, a, x) :: L, ts ++ [t], rfl, same_put nb sc, ?_, ?_, hta, sa, ⟨rfl, okp, ch⟩, ?_, ?_, fun p hp2 => ?_⟩, ?_⟩
        · rw [upd_same, List.map_append]
          rfl
        · rw [List.reverse_append]
          exact ⟨keep _ _ bt htc, pl.keep fun c p e => keep _ _ (fun z => by rw [z, hb] at e; cases e) e⟩
        · rw [len0, tt]
          omega
        · rw [List.length_cons]
          omega
        · rcases List.mem_cons.mp hp2 with e | e
          · rw [e]
            exact hp
          · exact ofp p e
        · show (a - W.s).toNat < (x - W.s).toNat
          omega
      · have xs : x = W.s := by
          have : ¬ W.s < x := fun z => g (decide_eq_true z)
          omega
        subst xs
        have z0 := (hts_inv ok).start
        rw [z0] at hx
        obtain rfl := Option.some.inj hx
        refine ⟨_, rfl, 1, rfl, _, rfl, rfl, b, _, rfl, SqL.of hb, fun p np => ?_⟩
        have sp := same_new (o := .lst (ts.map V.ref).reverse) np
        refine q p L _ (sc.trans sp) (sc.free np) ⟨ts.reverse, ?_, pl.same sp⟩ ch (by rw [tt]; omega) ofp
        rw [upd_same, List.map_reverse]
    · rintro σ Hc Q1 Q2 hq ⟨v, e, v2, e2, i1, j1, e4, e5, bb, e6, h⟩
      exact ⟨v, e, v2, e2, i1, j1, e4, e5, bb, e6, hq _ _ h⟩
end
end Tg

namespace Tg
open PySem PySem.Spec PyProof.Rows L2 Pl
/-! ### with_whole_points -/
theorem PLt.init {H : Hp} : ∀ {ti : List Addr} {tl : Addr} {L : List Pce}, PLt H (ti ++ [tl]) L → ∃ Li q, L = Li ++ [q] ∧ PLt H ti Li ∧ H tl = some (pceT q)
  | [], tl, [p], h => ⟨[], p, rfl, trivial, h.1⟩
  | [], _, [], h => h.elim
  | [], _, _ :: _ :: _, h => h.2.elim
  | t :: ti, tl, [], h => h.elim
  | t :: ti, tl, p :: L, h => by
    obtain ⟨Li, q, rfl, h1, h2⟩ := PLt.init (ti := ti) (tl := tl) (L := L) h.2
    exact ⟨p :: Li, q, rfl, ⟨h.1, h1⟩, h2⟩
theorem mrg_len (out : List Pce) (p : Pce) : (mrg out p).length ≤ out.length + 1 := by
  have plain : (out ++ [p]).length ≤ out.length + 1 := by
    rw [List.length_append]
    exact Nat.le_refl _
  unfold mrg
  split
  · split
    · exact plain
    · rw [List.length_append, List.length_dropLast]
      show out.length - 1 + 1 ≤ _
      omega
  · exact plain
theorem mrg_nil (p : Pce) : mrg [] p = [p] := rfl
theorem mrg_last (out : List Pce) (q p : Pce) : mrg (out ++ [q]) p = if q.1 = false ∧ p.1 = false then out ++ [(false, q.2.1, p.2.2)] else out ++ [q] ++ [p] := by
  unfold mrg
  rw [List.getLast?_append]
  obtain ⟨w, x, y⟩ := q
  cases w with
  | true => rfl
  | false =>
    show (if p.1 = true then out ++ [(false, x, y)] ++ [p] else (out ++ [(false, x, y)]).dropLast ++ [(false, x, p.2.2)]) = _
    cases hp : p.1 with
    | true => rfl
    | false =>
      simp only [if_false, Bool.false_eq_true]
      rw [List.dropLast_concat]
      rfl
theorem wd_pts (b : Bool) : decide (V.str (wdS b) = V.str (Str.ofString "points")) = !b := by
  cases b <;> decide +kernel
theorem bool_two (b : Bool) : b = true ∨ b = false := by cases b <;> simp
abbrev sWw : Stmt := topS 8
theorem scWw : FnScope ["pieces", "out", "word", "start", "end"] ["pieces"] (defScope sWw) := ⟨rfl, rfl, rfl, by decide +kernel, rfl, by decide +kernel, by decide +kernel⟩
section
variable {P : Program} {w : World} {K : PySem.W.Frag} {mg : Str → Option Value} {base : Heap} {f : Addr} {fd : FuncData} {k : Nat}
def spWw : Sp := fun vs H Q _ => ∃ (b : Addr) (L : List Pce), vs = [.ref b] ∧ PLst H b L ∧ L.length ≤ 1000000 ∧ ∀ (m : Addr) (H' : Hp), Same H H' → H m = none → PLst H' m (whole L) → Q (.ref m) H'
theorem ok_ww (F : Fun K "with_whole_points" "with_whole_points" sWw f fd) : FnOk P w K mg base CX0 (k + 1) f fd ["pieces"] spWw := by
  refine F.ok scWw (fun vs H Q E h => ?_) (fun cdv A outer s H vs Q E hr h => ?_)
  · obtain ⟨b, L, rfl, _⟩ := h
    rfl
  · obtain ⟨b, L, rfl, ⟨bs, hb, pl⟩, few, q⟩ := h
    refine ⟨_, pss_cons (ps_set (i := 1) scWw.nd rfl (.inl rfl) (pe_lst pa_nil))
      (pss_cons (ps_for PassesOwn.never rfl (pi_list (pv 0)) (pg_tup rfl (pgs_cons (pg_name (i := 2) scWw.nd rfl (.inl rfl)) (pgs_cons (pg_name (i := 3) scWw.nd rfl (.inl rfl)) (pgs_cons (pg_name (i := 4) scWw.nd rfl (.inl rfl)) pgs_nil))))
        (pss_one (ps_if (PW.pt (pw_and (pt_truth (pv 1) (fun _ => rfl)) (pw_and (pt_cmpR op_eq (pv 2) pe_str (nomark _)) (pw_and1 (pt_cmpR op_eq (pe_ix (r := rIxT K) ix_tup (pe_ix ix_list (pv 1) (pe_un un_neg pe_int) (fun _ _ => rfl)) pe_int (fun _ _ => rfl)) pe_str (nomark _))))))
          (pss_one (ps_asg (pe_tup (pa_cons pe_str (pa_cons (pe_ix (r := rIxT K) ix_tup (pe_ix ix_list (pv 1) (pe_un un_neg pe_int) (fun _ _ => rfl)) pe_int (fun _ _ => rfl)) (pa_cons (pv 4) pa_nil)))) (pg_sub (pv 1) (pe_un un_neg pe_int) set_list)))
          (pss_one (ps_expr (pe_bm PySem.F.plainAttrs_list PySem.F.slot_list_append PySem.F.type_list_append mt_append (pv 1) (pa_cons (pe_tup (pa_cons (pv 2) (pa_cons (pv 3) (pa_cons (pv 4) pa_nil)))) pa_nil)))))))
      (pss_one (ps_ret (pv 1)))), ?_⟩
    have bl := pl.len
    refine ⟨Nat.zero_le _, fun m nm => ?_⟩
    have sm := same_new (o := .lst []) nm
    refine ⟨_, rfl, b, rfl, ⟨_, SqL.of (sm _ _ hb)⟩, for_list (xs := bs.map V.ref) (fun i σ Hc => ∃ (z2 z3 z4 : Option V) (ts : List Addr), σ = [some (.ref b), some (.ref m), z2, z3, z4] ∧ Same H Hc ∧ Hc m = some (.lst (ts.map V.ref)) ∧ PLt Hc ts ((L.take i).foldl mrg []) ∧ ts.length ≤ i) ⟨none, none, none, [], rfl, sm, upd_same, trivial, Nat.le_refl _⟩ (fun i σ Hc _ ⟨_, _, _, _, _, sc, _⟩ => SqL.of (sc _ _ hb)) ?_ ?_⟩
    · rintro i v σ Hc hv ⟨z2, z3, z4, ts, rfl, sc, hm, pt, tl⟩
      rw [List.getElem?_map] at hv
      obtain ⟨t, et, rfl⟩ := Option.map_eq_some_iff.mp hv
      have il : i < bs.length := (List.getElem?_eq_some_iff.mp et).1
      obtain ⟨p, ep, ht⟩ := pl.at_ et
      have htc := sc _ _ ht
      have next : (L.take (i + 1)).foldl mrg [] = mrg ((L.take i).foldl mrg []) p := by
        rw [List.take_add_one, ep, List.foldl_append]
        rfl
      rw [next]
      obtain ⟨out, eo⟩ : ∃ out, (L.take i).foldl mrg [] = out := ⟨_, rfl⟩
      rw [eo] at pt ⊢
      have lo := pt.len
      have small : (ts.map V.ref).length < sizeLine := by
        rw [List.length_map]
        exact million (by omega)
      -- a piece put behind
      have more : mrg out p = out ++ [p] → ∀ (t2 : Addr), Hc t2 = none → ∃ (z2 z3 z4 : Option V) (us : List Addr), [some (V.ref b), some (.ref m), some (.str (wdS p.1)), some (.int p.2.1), some (.int p.2.2)] = [some (.ref b), some (.ref m), z2, z3, z4] ∧ Same H (upd (upd Hc t2 (pceT p)) m (.lst (ts.map V.ref ++ [.ref t2]))) ∧ (upd (upd Hc t2 (pceT p)) m (.lst (ts.map V.ref ++ [.ref t2]))) m = some (.lst (us.map V.ref)) ∧ PLt (upd (upd Hc t2 (pceT p)) m (.lst (ts.map V.ref ++ [.ref t2]))) us (mrg out p) ∧ us.length ≤ i + 1 := fun em t2 nt => by
        have st := same_new (o := pceT p) nt
        have tm : t2 ≠ m := fun z => by
          rw [z, hm] at nt
          cases nt
        have keep : ∀ c q2, (upd Hc t2 (pceT p)) c = some (pceT q2) → (upd (upd Hc t2 (pceT p)) m (.lst (ts.map V.ref ++ [.ref t2]))) c = some (pceT q2) := fun c q2 e => by
          have cm : c ≠ m := fun z => by
            rw [z, st _ _ hm] at e
            cases e
          rw [upd_ne cm]
          exact e
        refine ⟨_, _, _, ts ++ [t2], rfl, same_put nm (sc.trans st), ?_, ?_, by rw [List.length_append]; show ts.length + 1 ≤ _; omega⟩
        · rw [upd_same, List.map_append]
          rfl
        · rw [em]
          exact ((pt.same st).keep keep).app ⟨keep _ _ upd_same, trivial⟩
      refine ⟨t, _, rfl, SqT.of htc, rfl, _, _, rfl, _, _, rfl, _, _, rfl, rfl, ?_⟩
      rcases List.eq_nil_or_concat ts with e0 | ⟨ti, tlst, e0⟩
      · subst e0
        have o0 : out = [] := List.length_eq_zero_iff.mp lo.symm
        refine ⟨_, rfl, false, .inl ⟨_, SqL.of hm, rfl⟩, if_f (if_f ?_)⟩
        refine ⟨_, rfl, .inl ⟨rfl, _, SqL.of hm⟩, _, rfl, _, rfl, _, rfl, by show 3 ≤ sizeLine; decide, fun t2 nt => ?_⟩
        have st := same_new (o := pceT p) nt
        exact ⟨m, _, _, rfl, rfl, st _ _ hm, small, more (by rw [o0]; rfl) t2 nt⟩
      · rw [List.concat_eq_append] at e0
        subst e0
        obtain ⟨Li, qq, rfl, pti, htl⟩ := pt.init
        have hm2 := hm
        rw [List.map_append] at hm2
        have tru : (!(ti.map V.ref ++ [tlst].map V.ref).isEmpty) = true := by
          cases ti <;> rfl
        refine ⟨_, rfl, true, .inl ⟨_, SqL.of hm2, tru.symm⟩, if_t ?_⟩
        have ml := mrg_last Li qq p
        have wordP : ∀ c : Bool, V.bl (decide (V.str (wdS c) = V.str (Str.ofString "points"))) = V.bl (!c) := fun c => congrArg V.bl (wd_pts c)
        rcases bool_two p.1 with hp | hp
        · refine ⟨_, rfl, rfl, false, by rw [wordP, hp]; rfl, if_f (if_f ?_)⟩
          refine ⟨_, rfl, .inl ⟨rfl, _, SqL.of hm⟩, _, rfl, _, rfl, _, rfl, by show 3 ≤ sizeLine; decide, fun t2 nt => ?_⟩
          have st := same_new (o := pceT p) nt
          exact ⟨m, _, _, rfl, rfl, st _ _ hm, small, more (by rw [ml, if_neg fun z => by rw [hp] at z; cases z.2]) t2 nt⟩
        · refine ⟨_, rfl, rfl, true, by rw [wordP, hp]; rfl, if_t ?_⟩
          refine ⟨_, rfl, 1, rfl, m, _, -1, .ref tlst, rfl, rfl, SqL.of hm2, atI_last _ _, tlst, _, 0, .str (wdS qq.1), rfl, rfl, SqT.of htl, rfl, rfl, ?_⟩
          rcases bool_two qq.1 with hq | hq
          · refine ⟨false, by rw [wordP, hq]; rfl, if_f ?_⟩
            refine ⟨_, rfl, .inl ⟨rfl, _, SqL.of hm⟩, _, rfl, _, rfl, _, rfl, by show 3 ≤ sizeLine; decide, fun t2 nt => ?_⟩
            have st := same_new (o := pceT p) nt
            exact ⟨m, _, _, rfl, rfl, st _ _ hm, small, more (by rw [ml, if_neg fun z => by rw [hq] at z; cases z.1]) t2 nt⟩
          · refine ⟨true, by rw [wordP, hq]; rfl, if_t ?_⟩
            refine ⟨_, rfl, 1, rfl, m, _, -1, .ref tlst, rfl, rfl, SqL.of hm2, atI_last _ _, tlst, _, 1, .int qq.2.1, rfl, rfl, SqT.of htl, rfl, _, rfl, by show 3 ≤ sizeLine; decide, fun t2 nt => ?_⟩
            have st := same_new (o := pceT (false, qq.2.1, p.2.2)) nt
            have tm : t2 ≠ m := fun z => by
              rw [z, hm] at nt
              cases nt
            refine ⟨_, rfl, 1, rfl, m, _, -1, ti.length, rfl, rfl, st _ _ hm2, ?_, ?_⟩
            · unfold ixN
              rw [List.length_append, List.length_map, List.length_map]
              simp only [List.length_nil, List.length_cons]
              rw [if_neg (by decide), if_pos (by omega)]
              congr 1
              omega
            have eset : (ti.map V.ref ++ [tlst].map V.ref).set ti.length (.ref t2) = (ti ++ [t2]).map V.ref := by
              rw [List.set_append_right _ _ (by rw [List.length_map]; exact Nat.le_refl _), List.length_map, Nat.sub_self, List.map_append]
              rfl
            have keep : ∀ c q2, (upd Hc t2 (pceT (false, qq.2.1, p.2.2))) c = some (pceT q2) → (upd (upd Hc t2 (pceT (false, qq.2.1, p.2.2))) m (.lst ((ti.map V.ref ++ [tlst].map V.ref).set ti.length (.ref t2)))) c = some (pceT q2) := fun c q2 e => by
              have cm : c ≠ m := fun z => by
                rw [z, st _ _ hm] at e
                cases e
              rw [upd_ne cm]
              exact e
            refine ⟨_, _, _, ti ++ [t2], rfl, same_put nm (sc.trans st), ?_, ?_, ?_⟩
            · rw [← eset]
              exact upd_same
            · rw [ml, if_pos ⟨hq, hp⟩]
              exact ((pti.same st).keep keep).app ⟨keep _ _ upd_same, trivial⟩
            · rw [List.length_append] at tl ⊢
              exact Nat.le_succ_of_le tl
    · rintro σ Hc ⟨z2, z3, z4, ts, rfl, sc, hm, pt, tl⟩
      rw [List.length_map, bl, List.take_length] at pt
      exact ⟨_, rfl, q m Hc sc nm ⟨ts, hm, pt⟩⟩
end
end Tg

namespace Tg
open PySem PySem.Spec PyProof.Rows L2 Pl
/-! ### least_plan -/
/-- the edges that are reached -/
def reached (W : Wd) : List Int := (edg W).filter fun x => (hts W x).isSome
theorem val_key {kvs : List (Key × V)} {k : Key} (h : k ∈ kvs.map (·.1)) : valV kvs k ≠ none := fun z => by
  unfold valV at z
  rw [Option.map_eq_none_iff, List.find?_eq_none] at z
  obtain ⟨kv, m, e⟩ := List.mem_map.mp h
  exact z kv m (decide_eq_true e)
theorem val_nokey {kvs : List (Key × V)} {k : Key} (h : k ∉ kvs.map (·.1)) : valV kvs k = none := by
  unfold valV
  rw [Option.map_eq_none_iff, List.find?_eq_none]
  intro kv m e
  exact h (List.mem_map.mpr ⟨kv, m, of_decide_eq_true e⟩)
theorem le_lt_nd : ∀ {l : List Int}, l.Pairwise (· ≤ ·) → l.Nodup → l.Pairwise (· < ·)
  | [], _, _ => .nil
  | x :: r, h, n => by
    have h1 := List.pairwise_cons.mp h
    have n1 := List.nodup_cons.mp n
    refine List.pairwise_cons.mpr ⟨fun y hy => ?_, le_lt_nd h1.2 n1.2⟩
    have := h1.1 y hy
    have : x ≠ y := fun z => n1.1 (z ▸ hy)
    omega
theorem reached_is {W : Wd} (ok : W.Ok) {kvs : List (Key × V)} {ks ns : List Int} (hk : kvs.map (·.1) = ks.map Sum.inl) (nd : ks.Nodup) (vs : ∀ x : Int, valV kvs (.inl x) = (hts W x).map V.int) (pm : ns.Perm ks) (srt : ns.Pairwise (· ≤ ·)) : ns = reached W := by
  refine up_unique (le_lt_nd srt (pm.nodup_iff.mpr nd)) ((edg_up W).filter _) fun x => ?_
  unfold reached
  rw [List.mem_filter, pm.mem_iff]
  have key : x ∈ ks ↔ (Sum.inl x : Key) ∈ kvs.map (·.1) := by
    rw [hk]
    constructor
    · intro h
      exact List.mem_map.mpr ⟨x, h, rfl⟩
    · intro h
      obtain ⟨y, hy, e⟩ := List.mem_map.mp h
      rw [← Sum.inl.inj e]
      exact hy
  constructor
  · intro h
    have v := val_key (key.mp h)
    rw [vs] at v
    cases e : hts W x with
    | none =>
      rw [e] at v
      exact absurd rfl v
    | some o => exact ⟨hts_edg ok e, rfl⟩
  · rintro ⟨_, h⟩
    refine key.mpr (Classical.byContradiction fun n => ?_)
    have v := val_nokey n
    rw [vs] at v
    cases e : hts W x with
    | none =>
      rw [e] at h
      cases h
    | some o =>
      rw [e] at v
      cases v
/-- heights as pairs -/
def HL (H : Hp) (b : Addr) (W : Wd) : Prop := ∃ ts : List Addr, H b = some (.lst (ts.map V.ref)) ∧ ts.length = (reached W).length ∧ ∀ (i : Nat) (t : Addr) (x o : Int), ts[i]? = some t → (reached W)[i]? = some x → hts W x = some o → H t = some (.tup [.int x, .int o])
/-- the plan that is told, of those of least cost -/
def Fit (W : Wd) (L : List Pce) : Prop := ∃ L0, L = whole L0 ∧ Chain W W.s L0 W.e ∧ OfP W L0
/-- what least_plan tells -/
def Gap (H : Hp) (t : Addr) (W : Wd) : Prop := hts W W.e = none ∧ ∃ b, H t = some (.tup [.str "gap", .ref b]) ∧ NL H b (reached W)
def Plan (H : Hp) (t : Addr) (W : Wd) (o : Int) (L : List Pce) : Prop := hts W W.e = some o ∧ Chain W W.s L W.e ∧ tot W.ps L = o ∧ Fit W L ∧ ∃ b1 b2, H t = some (.tup [.str "plan", .ref b1, .ref b2]) ∧ PLst H b1 L ∧ HL H b2 W
theorem chain_len {W : Wd} : ∀ {L : List Pce} {a b : Int}, Chain W a L b → (L.length : Int) ≤ b - a
  | [], a, b, h => by
    obtain rfl : a = b := h
    show (0 : Int) ≤ _
    omega
  | p :: r, a, b, h => by
    have h1 : p.2.1 = a := h.1
    have h2 : p.2.1 < p.2.2 := h.2.1.fw
    have h3 := chain_len h.2.2
    rw [List.length_cons]
    omega
abbrev sLp : Stmt := topS 9
abbrev NLp : List Str := ["start", "end", "horizon", "cells", "points", "heights", "pieces", "edge"]
theorem scLp : FnScope NLp ["start", "end", "horizon", "cells", "points"] (defScope sLp) := ⟨rfl, rfl, rfl, by decide +kernel, rfl, by decide +kernel, by decide +kernel⟩
section
variable {P : Program} {w : World} {K : PySem.W.Frag} {mg : Str → Option Value} {base : Heap} {f : Addr} {fd : FuncData} {k : Nat}
def spLp (K : PySem.W.Frag) : Sp := fun vs H Q _ => ∃ (W : Wd) (c p : Addr), vs = [.int W.s, .int W.e, hV W.h, .ref c, .ref p] ∧ Handed K H W c p ∧ W.Ok ∧ W.e - W.s ≤ 1000000 ∧
  ∀ (t : Addr) (H' : Hp), Same H H' → H t = none → (Gap H' t W ∨ ∃ o L, Plan H' t W o L) → Q (.ref t) H'
theorem ok_lpn (F : Fun K "least_plan" "least_plan" sLp f fd) (C_steps_from : Cal P w K mg base k "steps_from" ["start", "end", "horizon", "cells", "points"] (spSf K)) (C_walked : Cal P w K mg base k "walked" ["steps", "start"] spWk) (C_traced : Cal P w K mg base k "traced" ["pieces", "start", "end"] spTr) (C_with_whole_points : Cal P w K mg base k "with_whole_points" ["pieces"] spWw) (m_sorted : mg "sorted" = none) : FnOk P w K mg base CX0 (k + 1) f fd ["start", "end", "horizon", "cells", "points"] (spLp K) := by
  refine F.ok scLp (fun vs H Q E h => ?_) (fun cdv A outer s H vs Q E hr h => ?_)
  · obtain ⟨W, c, p, rfl, _⟩ := h
    rfl
  · obtain ⟨W, c, p, rfl, hh, ok, span, q⟩ := h
    have hu1 := hr.units
    have hu : (A.deeper (envOfC "least_plan" (defScope sLp) s.heap.objs.size f cdv)).units + 1 < cLine := by omega
    refine ⟨_, pss_cons (ps_asg (pe_cal C_walked (hr.mono (by omega)) (by rfl) (pa_cons (pe_cal C_steps_from (hr.mono (by omega)) (by rfl) (pa_cons (pv 0) (pa_cons (pv 1) (pa_cons (pv 2) (pa_cons (pv 3) (pa_cons (pv 4) pa_nil)))))) (pa_cons (pv 0) pa_nil))) (pg_tup rfl (pgs_cons (pg_name (i := 5) scLp.nd rfl (.inr rfl)) (pgs_cons (pg_name (i := 6) scLp.nd rfl (.inl rfl)) pgs_nil))))
      (pss_cons (ps_if (pt_cmp (pc_dnotin hu (pv 1) (pv 5)))
        (pss_one (ps_ret (pe_tup (pa_cons pe_str (pa_cons (pe_callB (cr_sortedDI rfl) (by rfl) m_sorted (by decide +kernel) (pa_cons (pv 5) pa_nil)) pa_nil)))))
        pss_nil)
      (pss_one (ps_ret (pe_tup (pa_cons pe_str (pa_cons (pe_cal C_with_whole_points (hr.mono (by omega)) (by rfl) (pa_cons (pe_cal C_traced (hr.mono (by omega)) (by rfl) (pa_cons (pv 6) (pa_cons (pv 0) (pa_cons (pv 1) pa_nil)))) pa_nil)) (pa_cons (pe_lc (own := [("edge", 7)]) (g := (gName 7)) (tt := tYes) rfl scLp.nd (pi_list (pe_callB (cr_sortedDI rfl) (by rfl) m_sorted (by decide +kernel) (pa_cons (pv 5) pa_nil))) (blkOk_by (own := [("edge", 7)]) (N := NLp) (sc := defScope sLp) (by decide +kernel)) (fun _ _ _ _ _ => (pg_name (i := 7) scLp.nd rfl (.inl rfl))) (fun _ _ _ _ _ => pts_nil) (fun _ _ _ _ _ => (pe_tup (pa_cons (pv 7) (pa_cons (pe_dget hu (pv 5) (pv 7) (fun _ _ => rfl)) pa_nil))))) pa_nil))))))), ?_⟩
    refine ⟨_, rfl, _, rfl, _, rfl, _, rfl, _, rfl, W, c, p, rfl, hh, fun d ls H1 s1 nd S => ?_⟩
    refine ⟨_, rfl, W, d, ls, rfl, ok, hh.few, S, fun t hd pd H2 k2 nhd npd ht hr2 pr2 => ?_⟩
    have s2 : Same H H2 := fun b o e => k2 b o (ne_of_none e nd) (s1 b o e)
    obtain ⟨kvs, hkv, ⟨ks, kk, knd, kin⟩, vals⟩ := id hr2
    refine ⟨t, _, rfl, SqT.of ht, rfl, _, _, rfl, _, _, rfl, rfl, ?_⟩
    cases he : hts W W.e with
    | none =>
      have v := vals W.e
      rw [he] at v
      refine ⟨_, rfl, _, rfl, hd, none, rfl, .inl ⟨kvs, .inl W.e, .inl hkv, rfl, v.symm⟩, true, rfl, if_t ?_⟩
      refine ⟨_, rfl, hd, kvs, ks, rfl, .inl hkv, kk, fun ns b pm srt nb => ?_⟩
      obtain rfl := reached_is ok kk knd vals pm srt
      have sb := same_new (o := .lst ((reached W).map V.int)) nb
      refine ⟨by show 2 ≤ sizeLine; decide, fun u nu => ?_⟩
      have su := same_new (o := .tup [.str "gap", .ref b]) nu
      exact q u _ ((s2.trans sb).trans su) ((s2.trans sb).free nu) (.inl ⟨he, b, upd_same, su _ _ upd_same⟩)
    | some o =>
      have v := vals W.e
      rw [he] at v
      refine ⟨_, rfl, _, rfl, hd, some (.int o), rfl, .inl ⟨kvs, .inl W.e, .inl hkv, rfl, v.symm⟩, false, rfl, if_f ?_⟩
      refine ⟨_, rfl, _, rfl, _, rfl, W, pd, o, rfl, ok, span, pr2, he, fun b L H3 s3 nb pl ch tt ofp => ⟨b, L, rfl, pl, by have := chain_len ch; omega, fun m H4 s4 nm plm => ?_⟩⟩
      have hk4 := s4 _ _ (s3 _ _ hkv)
      refine ⟨_, rfl, hd, kvs, ks, rfl, .inl hk4, kk, fun ns b2 pm srt nb2 => ?_⟩
      obtain rfl := reached_is ok kk knd vals pm srt
      have s5 := same_new (o := .lst ((reached W).map V.int)) nb2
      obtain ⟨H5, e5⟩ : ∃ H5, upd H4 b2 (.lst ((reached W).map V.int)) = H5 := ⟨_, rfl⟩
      have h5 : H5 b2 = some (.lst ((reached W).map V.int)) := by
        rw [← e5]
        exact upd_same
      rw [e5] at s5 ⊢
      have hk5 := s5 _ _ hk4
      have rlen : (reached W).length ≤ 42 := by
        have h1 := List.length_filter_le (fun x => (hts W x).isSome) (edg W)
        have h2 := edg_len W
        have h3 := hh.few
        unfold reached
        omega
      refine ⟨b2, rfl, ⟨_, SqL.of h5⟩, fun D nD => lc_list (K := K) (a := b2) (xs := (reached W).map V.int) (fun i Hc => ∃ ts : List Addr, Same H5 Hc ∧ Hc D = some (.lst (ts.map V.ref)) ∧ ts.length = i ∧ ∀ (j : Nat) (t : Addr) (x o : Int), ts[j]? = some t → (reached W)[j]? = some x → hts W x = some o → Hc t = some (.tup [.int x, .int o])) ⟨[], same_new nD, upd_same, rfl, fun j t x o e => by simp at e⟩ (fun i Hc _ ⟨_, sc, _⟩ => SqL.of (sc _ _ h5)) ?_ ?_⟩
      · rintro i v2 Hc hv ⟨ts, sc, hD, tl, each⟩
        rw [List.getElem?_map] at hv
        obtain ⟨x, ex, rfl⟩ := Option.map_eq_some_iff.mp hv
        have il : i < (reached W).length := (List.getElem?_eq_some_iff.mp ex).1
        have xr := List.mem_of_getElem? ex
        unfold reached at xr
        obtain ⟨ox, eo⟩ := Option.isSome_iff_exists.mp (List.mem_filter.mp xr).2
        have vx := vals x
        rw [eo] at vx
        refine ⟨rfl, yes_b (if_t ?_)⟩
        refine ⟨_, rfl, _, rfl, _, rfl, hd, .int ox, rfl, .inl ⟨kvs, .inl x, .inl (sc _ _ hk5), rfl, vx.symm⟩, by show 2 ≤ sizeLine; decide, fun u nu => ?_⟩
        have su := same_new (o := .tup [.int x, .int ox]) nu
        have uD : u ≠ D := fun z => by
          rw [z, hD] at nu
          cases nu
        refine ⟨_, su _ _ hD, by rw [List.length_map]; exact small1000 (by omega), ts ++ [u], ?_, ?_, by rw [List.length_append, tl]; rfl, fun j t2 y oy e1 e2 e3 => ?_⟩
        · intro c2 o2 e
          rw [upd_ne (ne_of_none e nD)]
          exact su _ _ (sc _ _ e)
        · rw [upd_same, List.map_append]
          rfl
        · by_cases jl : j < ts.length
          · rw [List.getElem?_append_left jl] at e1
            have h := each j t2 y oy e1 e2 e3
            have tD : t2 ≠ D := fun z => by
              rw [z, hD] at h
              cases h
            rw [upd_ne tD]
            exact su _ _ h
          · have lt := (List.getElem?_eq_some_iff.mp e1).1
            rw [List.length_append] at lt
            have lt : j < ts.length + 1 := lt
            have ej : j = ts.length := by omega
            subst ej
            rw [List.getElem?_append_right (Nat.le_refl _), Nat.sub_self] at e1
            obtain rfl : u = t2 := Option.some.inj e1
            rw [tl, ex] at e2
            cases Option.some.inj e2
            rw [eo] at e3
            obtain rfl := Option.some.inj e3
            rw [upd_ne uD]
            exact upd_same
      · rintro Hc ⟨ts, sc, hD, tl, each⟩
        rw [List.length_map] at tl
        refine ⟨by show 3 ≤ sizeLine; decide, fun u nu => ?_⟩
        have su := same_new (o := .tup [.str "plan", .ref m, .ref D]) nu
        obtain ⟨w1, w2⟩ := whole_ok (W := W) L [] (a := W.s) (b := W.s) rfl ch
        have all := (((s2.trans s3).trans s4).trans s5).trans sc
        obtain ⟨mts, m1, m2⟩ := plm
        have s6 := (s5.trans sc).trans su
        refine q u _ (all.trans su) (all.free nu) (.inr ⟨o, whole L, he, w1, ?_, ⟨L, rfl, ch, ofp⟩, m, D, upd_same, ⟨mts, s6 _ _ m1, m2.same s6⟩, ts, su _ _ hD, tl, fun j t2 y oy e1 e2 e3 => su _ _ (each j t2 y oy e1 e2 e3)⟩)
        show tot W.ps (L.foldl mrg []) = o
        rw [w2, tt]
        show (0 : Int) + o = o
        omega
end
end Tg

namespace Tg
open PySem PySem.Spec PyProof.Rows L2 Pl
/-! ### is_whole, is_piece, is_height, cost_of: of what least_plan tells -/
abbrev sWh : Stmt := topS 1
theorem scWh : FnScope ["thing"] ["thing"] (defScope sWh) := ⟨rfl, rfl, rfl, by decide +kernel, rfl, by decide +kernel, by decide +kernel⟩
abbrev sPi : Stmt := topS 10
theorem scPi : FnScope ["thing"] ["thing"] (defScope sPi) := ⟨rfl, rfl, rfl, by decide +kernel, rfl, by decide +kernel, by decide +kernel⟩
abbrev sCo : Stmt := topS 12
abbrev NCo : List Str := ["pieces", "points", "cost", "word", "start", "end", "time"]
theorem scCo : FnScope NCo ["pieces", "points"] (defScope sCo) := ⟨rfl, rfl, rfl, by decide +kernel, rfl, by decide +kernel, by decide +kernel⟩
abbrev sIh : Stmt := topS 13
theorem scIh : FnScope ["thing"] ["thing"] (defScope sIh) := ⟨rfl, rfl, rfl, by decide +kernel, rfl, by decide +kernel, by decide +kernel⟩
section
variable {P : Program} {w : World} {K : PySem.W.Frag} {mg : Str → Option Value} {base : Heap} {f : Addr} {fd : FuncData} {k : Nat}
def spWh : Sp := fun vs H Q _ => ∃ t : Int, vs = [.int t] ∧ Q (.bl true) H
theorem ok_wh (F : Fun K "is_whole" "is_whole" sWh f fd) (m_isinstance : mg "isinstance" = none) (m_int : mg "int" = none) (m_bool : mg "bool" = none) : FnOk P w K mg base CX0 (k + 1) f fd ["thing"] spWh := by
  refine F.ok scWh (fun vs H Q E h => ?_) (fun cdv A outer s H vs Q E hr h => ?_)
  · obtain ⟨t, rfl, _⟩ := h
    rfl
  · obtain ⟨t, rfl, q⟩ := h
    refine ⟨_, pss_one (ps_ret (pe_and (pe_callB call_isi (by rfl) m_isinstance (by decide +kernel) (pa_cons (pv 0) (pa_cons (pe_bltn (v := .ty "int") (by rfl) m_int (by decide +kernel) rfl) pa_nil))) (pe_one (pe_not (pe_callB call_isi (by rfl) m_isinstance (by decide +kernel) (pa_cons (pv 0) (pa_cons (pe_bltn (v := .ty "bool") (by rfl) m_bool (by decide +kernel) rfl) pa_nil))))))), ?_⟩
    refine ⟨_, rfl, _, _, _, _, true, rfl, .ty "int", .base (.int t), rfl, true, rfl, if_t ?_⟩
    exact ⟨_, rfl, _, _, _, _, false, rfl, .ty "bool", .base (.int t), rfl, _, rfl, q⟩
def spPi : Sp := fun vs H Q _ => ∃ (t : Addr) (p : Pce), vs = [.ref t] ∧ H t = some (pceT p) ∧ p.2.1 < p.2.2 ∧ ∀ H', Same H H' → Q (.bl true) H'
theorem ok_pi (F : Fun K "is_piece" "is_piece" sPi f fd) (C_is_whole : Cal P w K mg base k "is_whole" ["thing"] spWh) (m_isinstance : mg "isinstance" = none) (m_tuple : mg "tuple" = none) (m_len : mg "len" = none) : FnOk P w K mg base CX0 (k + 1) f fd ["thing"] spPi := by
  refine F.ok scPi (fun vs H Q E h => ?_) (fun cdv A outer s H vs Q E hr h => ?_)
  · obtain ⟨t, p, rfl, _⟩ := h
    rfl
  · obtain ⟨t, p, rfl, ht, lt, q⟩ := h
    refine ⟨_, pss_cons (ps_if (PW.pt (pw_or (pt_not (pt_val (pe_callB call_isi (by rfl) m_isinstance (by decide +kernel) (pa_cons (pv 0) (pa_cons (pe_bltn (v := .ty "tuple") (by rfl) m_tuple (by decide +kernel) rfl) pa_nil))))) (pw_or (pt_cmpR op_ne (pe_callB call_len_seq (by rfl) m_len (by decide +kernel) (pa_cons (pv 0) pa_nil)) pe_int (nomark _)) (pw_or1 (pt_cmpR op_notIn_seq (pe_ix ix_tup (pv 0) pe_int (fun _ _ => rfl)) (pe_tup (pa_cons pe_str (pa_cons pe_str pa_nil))) (by with_unfolding_all rfl))))))
        (pss_one (ps_ret pe_bl))
        pss_nil)
      (pss_one (ps_ret (pe_and (pe_cal C_is_whole (hr.mono (by omega)) (by rfl) (pa_cons (pe_ix ix_tup (pv 0) pe_int (fun _ _ => rfl)) pa_nil)) (pe_and (pe_cal C_is_whole (hr.mono (by omega)) (by rfl) (pa_cons (pe_ix ix_tup (pv 0) pe_int (fun _ _ => rfl)) pa_nil)) (pe_one (pe_cmpR op_lt (pe_ix ix_tup (pv 0) pe_int (fun _ _ => rfl)) (pe_ix ix_tup (pv 0) pe_int (fun _ _ => rfl)) (nomark _))))))), ?_⟩
    refine ⟨_, rfl, _, _, _, _, true, rfl, .ty "tuple", .base (.tup ht), rfl, true, rfl, if_f ?_⟩
    refine ⟨_, rfl, t, _, rfl, .inr (SqT.of ht), rfl, false, rfl, if_f ?_⟩
    refine ⟨_, rfl, t, _, 0, .str (wdS p.1), rfl, rfl, SqT.of ht, rfl, by show 2 ≤ sizeLine; decide, fun b nb => ?_⟩
    have sb := same_new (o := .tup [.str "cell", .str "points"]) nb
    have flat : [V.str "cell", V.str "points"].all flatV = true := rfl
    have htb := sb _ _ ht
    refine ⟨b, _, rfl, .inr (SqT.of upd_same), rfl, flat, false, ?_, if_f ?_⟩
    · generalize p.1 = c
      cases c <;> decide +kernel
    refine ⟨_, rfl, t, _, 1, .int p.2.1, rfl, rfl, SqT.of htb, rfl, p.2.1, rfl, true, rfl, if_t ?_⟩
    refine ⟨_, rfl, t, _, 2, .int p.2.2, rfl, rfl, SqT.of htb, rfl, p.2.2, rfl, true, rfl, if_t ?_⟩
    refine ⟨_, rfl, t, _, 1, .int p.2.1, rfl, rfl, SqT.of htb, rfl, _, rfl, t, _, 2, .int p.2.2, rfl, rfl, SqT.of htb, rfl, _, _, rfl, rfl, ?_⟩
    show Q (V.bl (decide (p.2.1 < p.2.2))) _
    rw [decide_eq_true lt]
    exact q _ sb
def spIh : Sp := fun vs H Q _ => ∃ (t : Addr) (x o : Int), vs = [.ref t] ∧ H t = some (.tup [.int x, .int o]) ∧ Q (.bl true) H
theorem ok_ih (F : Fun K "is_height" "is_height" sIh f fd) (C_is_whole : Cal P w K mg base k "is_whole" ["thing"] spWh) (m_isinstance : mg "isinstance" = none) (m_tuple : mg "tuple" = none) (m_len : mg "len" = none) : FnOk P w K mg base CX0 (k + 1) f fd ["thing"] spIh := by
  refine F.ok scIh (fun vs H Q E h => ?_) (fun cdv A outer s H vs Q E hr h => ?_)
  · obtain ⟨t, x, o, rfl, _⟩ := h
    rfl
  · obtain ⟨t, x, o, rfl, ht, q⟩ := h
    refine ⟨_, pss_one (ps_ret (pe_and (pe_callB call_isi (by rfl) m_isinstance (by decide +kernel) (pa_cons (pv 0) (pa_cons (pe_bltn (v := .ty "tuple") (by rfl) m_tuple (by decide +kernel) rfl) pa_nil))) (pe_and (pe_cmpR op_eq (pe_callB call_len_seq (by rfl) m_len (by decide +kernel) (pa_cons (pv 0) pa_nil)) pe_int (nomark _)) (pe_and (pe_cal C_is_whole (hr.mono (by omega)) (by rfl) (pa_cons (pe_ix ix_tup (pv 0) pe_int (fun _ _ => rfl)) pa_nil)) (pe_one (pe_cal C_is_whole (hr.mono (by omega)) (by rfl) (pa_cons (pe_ix ix_tup (pv 0) pe_int (fun _ _ => rfl)) pa_nil))))))), ?_⟩
    refine ⟨_, rfl, _, _, _, _, true, rfl, .ty "tuple", .base (.tup ht), rfl, true, rfl, if_t ?_⟩
    refine ⟨_, rfl, t, _, rfl, .inr (SqT.of ht), rfl, true, rfl, if_t ?_⟩
    refine ⟨_, rfl, t, _, 0, .int x, rfl, rfl, SqT.of ht, rfl, x, rfl, true, rfl, if_t ?_⟩
    exact ⟨_, rfl, t, _, 1, .int o, rfl, rfl, SqT.of ht, rfl, o, rfl, q⟩
def spCo (K : PySem.W.Frag) : Sp := fun vs H Q _ => ∃ (b pp : Addr) (L : List Pce) (ps : List Int), vs = [.ref b, .ref pp] ∧ PLst H b L ∧ PtsR K H pp ps ∧ ps.length ≤ 1000000 ∧ ∀ H', Same H H' → Q (.int (tot ps L)) H'
theorem ok_co (F : Fun K "cost_of" "cost_of" sCo f fd) (m_len : mg "len" = none) : FnOk P w K mg base CX0 (k + 1) f fd ["pieces", "points"] (spCo K) := by
  refine F.ok scCo (fun vs H Q E h => ?_) (fun cdv A outer s H vs Q E hr h => ?_)
  · obtain ⟨b, pp, L, ps, rfl, _⟩ := h
    rfl
  · obtain ⟨b, pp, L, ps, rfl, ⟨bs, hb, pl⟩, hp, few, q⟩ := h
    refine ⟨_, pss_cons (ps_set (i := 2) scCo.nd rfl (.inl rfl) pe_int)
      (pss_cons (ps_for PassesOwn.never rfl (pi_list (pv 0)) (pg_tup rfl (pgs_cons (pg_name (i := 3) scCo.nd rfl (.inl rfl)) (pgs_cons (pg_name (i := 4) scCo.nd rfl (.inr rfl)) (pgs_cons (pg_name (i := 5) scCo.nd rfl (.inr rfl)) pgs_nil))))
        (pss_one (ps_aug (i := 2) scCo.nd rfl (.inl rfl) (pe_ifExp (pt_cmpR op_eq (pv 3) pe_str (nomark _)) pe_int (pe_callB call_len_seq (by rfl) m_len (by decide +kernel) (pa_cons (pe_lc (own := [("time", 6)]) (g := (gName 6)) rfl scCo.nd (pi_seq (pv 1)) (blkOk_by (own := [("time", 6)]) (N := NCo) (sc := defScope sCo) (by decide +kernel)) (fun _ _ _ _ _ => (pg_name (i := 6) scCo.nd rfl (.inl rfl))) (fun _ _ _ _ _ => pts_one (pt_chain op_le op_lt (pv 4) (pv 6) (pv 5))) (fun _ _ _ _ _ => (pv 6))) pa_nil))) ip_add)))
      (pss_one (ps_ret (pv 2)))), ?_⟩
    have bl := pl.len
    refine ⟨_, rfl, b, rfl, ⟨_, SqL.of hb⟩, for_list (xs := bs.map V.ref) (fun i σ Hc => ∃ z3 z4 z5 z6 : Option V, σ = [some (.ref b), some (.ref pp), some (.int (tot ps (L.take i))), z3, z4, z5, z6] ∧ Same H Hc) ⟨none, none, none, none, rfl, Same.refl _⟩ (fun i σ Hc _ ⟨_, _, _, _, _, sc⟩ => SqL.of (sc _ _ hb)) ?_ ?_⟩
    · rintro i v σ Hc hv ⟨z3, z4, z5, z6, rfl, sc⟩
      rw [List.getElem?_map] at hv
      obtain ⟨t, et, rfl⟩ := Option.map_eq_some_iff.mp hv
      obtain ⟨p, ep, ht⟩ := pl.at_ et
      have htc := sc _ _ ht
      have nx : tot ps (L.take (i + 1)) = tot ps (L.take i) + cst ps p := by
        rw [List.take_add_one, ep, tot_app]
        show _ + (cst ps p + 0) = _
        omega
      rw [nx]
      refine ⟨t, _, rfl, SqT.of htc, rfl, _, _, rfl, _, _, rfl, _, _, rfl, rfl, ?_⟩
      have wordC : ∀ c : Bool, V.bl (decide (V.str (wdS c) = V.str (Str.ofString "cell"))) = V.bl c := fun c => by cases c <;> decide +kernel
      refine ⟨_, rfl, ?_⟩
      rcases bool_two p.1 with h1 | h1
      · have e1 : cst ps p = 1 := by
          unfold cst
          rw [h1]
          rfl
        rw [e1]
        exact ⟨_, rfl, rfl, true, by rw [wordC, h1], if_t ⟨_, _, rfl, rfl, _, _, _, _, rfl, sc⟩⟩
      · have e1 : cst ps p = (cnt ps p.2.1 p.2.2 : Nat) := by
          unfold cst
          rw [h1]
          rfl
        rw [e1]
        refine ⟨_, rfl, rfl, false, by rw [wordC, h1], if_f ?_⟩
        refine ⟨_, rfl, pp, rfl, lc_seq (a := pp) (xs := ps.map V.int) (sqA_same sc hp) (fun D i H1 => Same Hc H1 ∧ H1 D = some (.lst (((ps.take i).filter fun y => decide (p.2.1 ≤ y ∧ y < p.2.2)).map V.int))) (fun D nD => ⟨same_new nD, upd_same⟩) (fun D i H1 _ h o e => h.1 _ _ e) ?_ ?_⟩
        · rintro D j v2 H1 nD hv2 ⟨s1, hD⟩
          rw [List.getElem?_map] at hv2
          obtain ⟨y, ey, rfl⟩ := Option.map_eq_some_iff.mp hv2
          have jl : j < ps.length := (List.getElem?_eq_some_iff.mp ey).1
          have fs : (ps.take (j + 1)).filter (fun y => decide (p.2.1 ≤ y ∧ y < p.2.2)) = (ps.take j).filter (fun y => decide (p.2.1 ≤ y ∧ y < p.2.2)) ++ if p.2.1 ≤ y ∧ y < p.2.2 then [y] else [] := by
            rw [List.take_add_one, ey, List.filter_append]
            congr 1
            show List.filter _ [y] = _
            rw [List.filter_cons]
            by_cases c : p.2.1 ≤ y ∧ y < p.2.2
            · rw [decide_eq_true c, if_pos c]
              rfl
            · rw [decide_eq_false c, if_neg c]
              rfl
          rw [fs]
          refine ⟨rfl, ?_⟩
          have app : ∀ c, (upd H1 D (.lst (((ps.take j).filter fun y => decide (p.2.1 ≤ y ∧ y < p.2.2)).map V.int ++ [.int c]))) D = some (.lst (((ps.take j).filter (fun y => decide (p.2.1 ≤ y ∧ y < p.2.2)) ++ [c]).map V.int)) := fun c => by
            rw [upd_same, List.map_append]
            rfl
          have sml : (((ps.take j).filter fun y => decide (p.2.1 ≤ y ∧ y < p.2.2)).map V.int).length < sizeLine := by
            have := List.length_filter_le (fun y => decide (p.2.1 ≤ y ∧ y < p.2.2)) (ps.take j)
            rw [List.length_take] at this
            rw [List.length_map]
            exact million (by omega)
          have stay : ¬ (p.2.1 ≤ y ∧ y < p.2.2) → Same Hc H1 ∧ H1 D = some (.lst (((ps.take j).filter (fun y => decide (p.2.1 ≤ y ∧ y < p.2.2)) ++ if p.2.1 ≤ y ∧ y < p.2.2 then [y] else []).map V.int)) := fun c => ⟨s1, by
            rw [if_neg c, List.append_nil]
            exact hD⟩
          by_cases c1 : p.2.1 ≤ y
          · by_cases c2 : y < p.2.2
            · refine ⟨_, rfl, _, rfl, _, _, rfl, rfl, true, congrArg V.bl (decide_eq_true c1), if_t ⟨_, rfl, _, _, rfl, rfl, true, congrArg V.bl (decide_eq_true c2), if_t ?_⟩⟩
              rw [if_pos ⟨c1, c2⟩]
              exact ⟨_, rfl, _, hD, sml, same_put nD s1, app y⟩
            · exact ⟨_, rfl, _, rfl, _, _, rfl, rfl, true, congrArg V.bl (decide_eq_true c1), if_t ⟨_, rfl, _, _, rfl, rfl, false, congrArg V.bl (decide_eq_false c2), if_f (stay fun z => c2 z.2)⟩⟩
          · exact ⟨_, rfl, _, rfl, _, _, rfl, rfl, false, congrArg V.bl (decide_eq_false c1), if_f ⟨false, rfl, if_f (stay fun z => c1 z.1)⟩⟩
        · rintro D H1 nD ⟨s1, hD⟩
          rw [List.length_map, List.take_length] at hD
          have el : (((ps.filter fun y => decide (p.2.1 ≤ y ∧ y < p.2.2)).map V.int).length : Int) = (cnt ps p.2.1 p.2.2 : Nat) := by
            rw [List.length_map]
            rfl
          rw [← el]
          exact ⟨D, _, rfl, .inl (SqL.of hD), _, _, rfl, rfl, _, _, _, _, rfl, sc.trans s1⟩
    · rintro σ Hc ⟨z3, z4, z5, z6, rfl, sc⟩
      rw [List.length_map, bl, List.take_length]
      exact ⟨_, rfl, q Hc sc⟩
end
end Tg

namespace Tg
open PySem PySem.Spec PyProof.Rows L2 Pl
/-! ### is_plan: of a chain -/
theorem dcT_seq {K : PySem.W.Frag} {a : Addr} {xs : List V} {H : Hp} {g : TG} {tt : TT} {tk tv : TE} {vs : List Nat} {σ : L2.St} {Qd : Addr → Hp → Prop} (sq : SqA K H a xs) (Pv : Addr → Nat → Hp → Prop) (first : ∀ D, H D = none → Pv D 0 (upd H D (.dT []))) (keep : ∀ D i H1, H D = none → Pv D i H1 → ∀ o, H a = some o → H1 a = some o)
    (round : ∀ D (i : Nat) (x : V) H1, H D = none → xs[i]? = some x → Pv D i H1 → TurnT g tt tk tv vs σ D (Pv D (i + 1)) x H1) (last : ∀ D H1, H D = none → Pv D xs.length H1 → Qd D H1) :
    ((∃ ys, SqL K H a ys) ∧ ∀ D, H D = none → TurnsT (Itl K a) g tt tk tv vs σ D H (Qd D)) ∨ ((∃ ys, SqT K H a ys) ∧ ∀ D, H D = none → TurnsT (Itt K a) g tt tk tv vs σ D H (Qd D)) :=
  sq.imp (fun h => ⟨⟨_, h⟩, fun D nD => dcT_it walk_list (Pv D) (first D nD) (fun i H1 _ p => sqL_at (keep D i H1 nD p) h) (fun i x H1 Hx _ p y => by obtain ⟨rfl, e⟩ := y; exact round D i x _ nD e p) fun H1 p => last D H1 nD p⟩)
    fun h => ⟨⟨_, h⟩, fun D nD => dcT_it walk_tup (Pv D) (first D nD) (fun i H1 _ p => sqT_at (keep D i H1 nD p) h) (fun i x H1 Hx _ p y => by obtain ⟨rfl, e⟩ := y; exact round D i x _ nD e p) fun H1 p => last D H1 nD p⟩
theorem chain_drop {W : Wd} {L : List Pce} {i : Nat} {p : Pce} {a b : Int} (ep : L[i]? = some p) (h : Chain W a (L.drop i) b) : p.2.1 = a ∧ OkP W p ∧ Chain W p.2.2 (L.drop (i + 1)) b := by
  obtain ⟨lt, e⟩ := List.getElem?_eq_some_iff.mp ep
  rw [List.drop_eq_getElem_cons lt, e] at h
  exact h
theorem putT_len (c : List (List Key × V)) (k : List Key) (x : V) : (putK c k x).length ≤ c.length + 1 := by
  unfold putK
  split
  · rw [List.length_map]
    omega
  · rw [List.length_append]
    exact Nat.le_refl _
abbrev sPl : Stmt := topS 11
abbrev NPl : List Str := ["pieces", "start", "end", "horizon", "cells", "cell_table", "cell_start", "cell_end", "at", "piece"]
theorem scPl : FnScope NPl ["pieces", "start", "end", "horizon", "cells"] (defScope sPl) := ⟨rfl, rfl, rfl, by decide +kernel, rfl, by decide +kernel, by decide +kernel⟩
section
variable {P : Program} {w : World} {K : PySem.W.Frag} {mg : Str → Option Value} {base : Heap} {f : Addr} {fd : FuncData} {k : Nat}
def spPl (K : PySem.W.Frag) : Sp := fun vs H Q _ => ∃ (W : Wd) (b c : Addr) (L : List Pce), vs = [.ref b, .int W.s, .int W.e, hV W.h, .ref c] ∧ PLst H b L ∧ CellsR K H c W.cs ∧ W.cs.length ≤ 20 ∧ Chain W W.s L W.e ∧ ∀ H', Same H H' → Q (.bl true) H'
theorem ok_pln (F : Fun K "is_plan" "is_plan" sPl f fd) (C_is_piece : Cal P w K mg base k "is_piece" ["thing"] spPi) (m_isinstance : mg "isinstance" = none) (m_list : mg "list" = none) : FnOk P w K mg base CX0 (k + 1) f fd ["pieces", "start", "end", "horizon", "cells"] (spPl K) := by
  refine F.ok scPl (fun vs H Q E h => ?_) (fun cdv A outer s H vs Q E hr h => ?_)
  · obtain ⟨W, b, c, L, rfl, _⟩ := h
    rfl
  · obtain ⟨W, b, c, L, rfl, ⟨bs, hb, pl⟩, hc, few, ch, q⟩ := h
    have hu1 := hr.units
    have hu : (A.deeper (envOfC "is_plan" (defScope sPl) s.heap.objs.size f cdv)).units + 1 < cLine := by omega
    refine ⟨_, pss_cons (ps_if (pt_not (pt_val (pe_callB call_isi (by rfl) m_isinstance (by decide +kernel) (pa_cons (pv 0) (pa_cons (pe_bltn (v := .ty "list") (by rfl) m_list (by decide +kernel) rfl) pa_nil)))))
        (pss_one (ps_ret pe_bl))
        pss_nil)
      (pss_cons (ps_setDcT (i := 5) (own := [("cell_start", 6), ("cell_end", 7)]) (g := gTup K 2 (gCons (gName 6) (gCons (gName 7) gNil))) (tt := tYes) rfl scPl.nd hu rfl rfl (sw_dict rfl rfl rfl (by decide +kernel)) (pi_seq (pv 4)) (blkOk_by (own := [("cell_start", 6), ("cell_end", 7)]) (N := NPl) (sc := defScope sPl) (by decide +kernel)) (fun _ _ _ _ _ => pg_tup rfl (pgs_cons (pg_name (i := 6) scPl.nd rfl (.inl rfl)) (pgs_cons (pg_name (i := 7) scPl.nd rfl (.inl rfl)) pgs_nil))) (fun _ _ _ _ _ => pts_nil) (fun _ _ _ _ _ => pe_tup (pa_cons (pv 6) (pa_cons (pv 7) pa_nil))) (fun _ _ _ _ _ => pe_bl))
      (pss_cons (ps_set (i := 8) scPl.nd rfl (.inl rfl) (pv 1))
      (pss_cons (ps_for PassesOwn.never rfl (pi_list (pv 0)) (pg_name (i := 9) scPl.nd rfl (.inl rfl))
        (pss_cons (ps_if (PW.pt (pw_or (pt_not (pt_val (pe_cal C_is_piece (hr.mono (by omega)) (by rfl) (pa_cons (pv 9) pa_nil)))) (pw_or1 (pt_cmpR op_ne (pe_ix ix_tup (pv 9) pe_int (fun _ _ => rfl)) (pv 8) (nomark _)))))
          (pss_one (ps_ret pe_bl))
          pss_nil)
        (pss_cons (ps_if (PW.pt (pw_and (pt_cmpR op_eq (pe_ix ix_tup (pv 9) pe_int (fun _ _ => rfl)) pe_str (nomark _)) (pw_and1 (pt_cmp (pc_dnotin hu (pe_tup (pa_cons (pe_ix ix_tup (pv 9) pe_int (fun _ _ => rfl)) (pa_cons (pe_ix ix_tup (pv 9) pe_int (fun _ _ => rfl)) pa_nil))) (pv 5))))))
          (pss_one (ps_ret pe_bl))
          pss_nil)
        (pss_cons (ps_if (PW.pt (pw_and (pt_cmpR op_eq (pe_ix ix_tup (pv 9) pe_int (fun _ _ => rfl)) pe_str (nomark _)) (pw_and (pt_cmpR op_notN (pv 3) pe_non (nomark _)) (pw_and1 (pt_cmpR op_lt (pe_ix ix_tup (pv 9) pe_int (fun _ _ => rfl)) (pv 3) (nomark _))))))
          (pss_one (ps_ret pe_bl))
          pss_nil)
        (pss_one (ps_set (i := 8) scPl.nd rfl (.inl rfl) (pe_ix ix_tup (pv 9) pe_int (fun _ _ => rfl))))))))
      (pss_one (ps_ret (pe_cmpR op_eq (pv 8) (pv 2) (nomark _))))))), ?_⟩
    have bl := pl.len
    obtain ⟨cts, sq, lts, hts⟩ := hc
    refine ⟨_, rfl, _, _, _, _, true, rfl, .ty "list", .base (.lst hb), rfl, true, rfl, if_f ?_⟩
    refine ⟨_, rfl, c, rfl, dcT_seq sq (fun D i H1 => ∃ kvs : List (List Key × V), Same H H1 ∧ H1 D = some (.dT kvs) ∧ kvs.length ≤ i ∧ ∀ q2, q2 ∈ W.cs.take i → ∃ v, valV kvs [.inl q2.1, .inl q2.2] = some v) (fun D nD => ⟨[], same_new nD, upd_same, Nat.le_refl _, fun q2 h => by rw [List.take_zero] at h; cases h⟩) (fun D i H1 _ ⟨_, s1, _⟩ o e => s1 _ _ e) ?_ ?_⟩
    · rintro D i x H1 nD hx ⟨kvs, s1, hD, kl, each⟩
      rw [List.getElem?_map] at hx
      obtain ⟨t, et, rfl⟩ := Option.map_eq_some_iff.mp hx
      obtain ⟨cc, ec⟩ : ∃ cc, W.cs[i]? = some cc := ⟨_, List.getElem?_eq_getElem (by rw [← lts]; exact (List.getElem?_eq_some_iff.mp et).1)⟩
      have il : i < W.cs.length := (List.getElem?_eq_some_iff.mp ec).1
      have htc := sqT_same s1 (hts i t cc et ec)
      refine ⟨t, _, rfl, htc, rfl, _, _, rfl, _, _, rfl, rfl, rfl, yes_b (if_t ?_)⟩
      refine ⟨_, rfl, _, rfl, by show 2 ≤ sizeLine; decide, fun u nu => ?_⟩
      have su := same_new (o := .tup [.int cc.1, .int cc.2]) nu
      refine ⟨kvs, [.inl cc.1, .inl cc.2], u, rfl, upd_same, su _ _ hD, small1000 (by omega), putK kvs [.inl cc.1, .inl cc.2] (.bl true), fun b2 o e => ?_, upd_same, Nat.le_trans (putT_len _ _ _) (Nat.succ_le_succ kl), fun q2 hq => ?_⟩
      · rw [upd_ne (ne_of_none e nD)]
        exact su _ _ (s1 _ _ e)
      · rw [valV_put]
        by_cases e : ([.inl q2.1, .inl q2.2] : List Key) = [.inl cc.1, .inl cc.2]
        · rw [if_pos e]
          exact ⟨_, rfl⟩
        · rw [if_neg e]
          rw [List.take_add_one, ec] at hq
          rcases List.mem_append.mp hq with h | h
          · exact each q2 h
          · have h : q2 ∈ [cc] := h
            rw [List.mem_singleton.mp h] at e
            exact absurd rfl e
    · rintro D H1 nD ⟨kvs, s1, hD, _, each⟩
      rw [List.length_map, lts, List.take_length] at each
      have wordC : ∀ c : Bool, V.bl (decide (V.str (wdS c) = V.str (Str.ofString "cell"))) = V.bl c := fun c => by cases c <;> decide +kernel
      have wordP : ∀ c : Bool, V.bl (decide (V.str (wdS c) = V.str (Str.ofString "points"))) = V.bl (!c) := fun c => congrArg V.bl (wd_pts c)
      refine ⟨_, rfl, ?_⟩
      refine ⟨_, rfl, b, rfl, ⟨_, SqL.of (s1 _ _ hb)⟩, for_list (xs := bs.map V.ref) (fun i σ Hc => ∃ (x : Int) (z9 : Option V), σ = [some (.ref b), some (.int W.s), some (.int W.e), some (hV W.h), some (.ref c), some (.ref D), none, none, some (.int x), z9] ∧ Same H1 Hc ∧ Chain W x (L.drop i) W.e) ⟨_, none, rfl, Same.refl _, ch⟩ (fun i σ Hc _ ⟨_, _, _, sc, _⟩ => SqL.of (sc _ _ (s1 _ _ hb))) ?_ ?_⟩
      · rintro i v σ Hc hv ⟨x, z9, rfl, sc, chx⟩
        rw [List.getElem?_map] at hv
        obtain ⟨t, et, rfl⟩ := Option.map_eq_some_iff.mp hv
        obtain ⟨p, ep, ht⟩ := pl.at_ et
        obtain ⟨px, okp, chn⟩ := chain_drop ep chx
        have htc := sc _ _ (s1 _ _ ht)
        refine ⟨_, rfl, t, p, rfl, htc, okp.fw, fun H2 s2 => ⟨true, rfl, if_f ?_⟩⟩
        have ht2 := s2 _ _ htc
        refine ⟨_, rfl, t, _, 1, .int p.2.1, rfl, rfl, SqT.of ht2, rfl, _, rfl, rfl, false, congrArg V.bl (by rw [px, decide_eq_true rfl]; rfl), if_f ?_⟩
        refine ⟨_, rfl, t, _, 0, .str (wdS p.1), rfl, rfl, SqT.of ht2, rfl, rfl, ?_⟩
        have fin : ∀ H3, Same H2 H3 → ∃ (x : Int) (z9 : Option V), [some (V.ref b), some (.int W.s), some (.int W.e), some (hV W.h), some (.ref c), some (.ref D), none, none, some (.int p.2.2), some (.ref t)] = [some (.ref b), some (.int W.s), some (.int W.e), some (hV W.h), some (.ref c), some (.ref D), none, none, some (.int x), z9] ∧ Same H1 H3 ∧ Chain W x (L.drop (i + 1)) W.e := fun H3 s3 => ⟨_, _, rfl, (sc.trans s2).trans s3, chn⟩
        rcases bool_two p.1 with h1 | h1
        · obtain ⟨v, ev⟩ := each p.2 (okp.cell h1)
          refine ⟨true, by rw [wordC, h1], if_t ?_⟩
          refine ⟨_, rfl, t, _, 1, .int p.2.1, rfl, rfl, SqT.of ht2, rfl, _, rfl, t, _, 2, .int p.2.2, rfl, rfl, SqT.of ht2, rfl, by show 2 ≤ sizeLine; decide, fun u nu => ?_⟩
          have su := same_new (o := .tup [.int p.2.1, .int p.2.2]) nu
          have ht3 := su _ _ ht2
          refine ⟨_, rfl, D, some v, rfl, .inr ⟨kvs, [.inl p.2.1, .inl p.2.2], u, .inl (su _ _ (s2 _ _ (sc _ _ hD))), rfl, upd_same, ev.symm⟩, false, rfl, if_f ?_⟩
          refine ⟨_, rfl, t, _, 0, .str (wdS p.1), rfl, rfl, SqT.of ht3, rfl, rfl, false, by rw [wordP, h1]; rfl, if_f (if_f ?_)⟩
          exact ⟨_, rfl, t, _, 2, .int p.2.2, rfl, rfl, SqT.of ht3, rfl, fin _ su⟩
        · refine ⟨false, by rw [wordC, h1], if_f (if_f ?_)⟩
          refine ⟨_, rfl, t, _, 0, .str (wdS p.1), rfl, rfl, SqT.of ht2, rfl, rfl, true, by rw [wordP, h1]; rfl, if_t ?_⟩
          have hk := okp.pt h1
          cases hW : W.h with
          | none =>
            refine ⟨_, rfl, rfl, false, rfl, if_f (if_f ?_)⟩
            rw [← hW]
            exact ⟨_, rfl, t, _, 2, .int p.2.2, rfl, rfl, SqT.of ht2, rfl, fin _ (Same.refl _)⟩
          | some z =>
            have zx : z ≤ p.2.1 := by
              rw [hW] at hk
              exact of_decide_eq_true hk
            refine ⟨_, rfl, rfl, true, rfl, if_t ?_⟩
            refine ⟨_, rfl, t, _, 1, .int p.2.1, rfl, rfl, SqT.of ht2, rfl, _, rfl, p.2.1, z, rfl, rfl, false, congrArg V.bl (decide_eq_false (by omega)), if_f ?_⟩
            rw [← hW]
            exact ⟨_, rfl, t, _, 2, .int p.2.2, rfl, rfl, SqT.of ht2, rfl, fin _ (Same.refl _)⟩
      · rintro σ Hc ⟨x, z9, rfl, sc, chx⟩
        rw [List.length_map, bl, List.drop_length] at chx
        have xe : x = W.e := chx
        subst xe
        refine ⟨_, rfl, _, rfl, rfl, ?_⟩
        show Q (V.bl (decide (V.int W.e = V.int W.e))) _
        rw [decide_eq_true rfl]
        exact q Hc (s1.trans sc)
end
end Tg

namespace Tg
open PySem PySem.Spec PyProof.Rows L2 Pl
/-! ### height_table: of the heights that least_plan told -/
abbrev sHt : Stmt := topS 14
abbrev NHt : List Str := ["thing", "start", "end", "steps", "part", "heights", "time", "height", "word", "behind", "cost"]
theorem scHt : FnScope NHt ["thing", "start", "end", "steps"] (defScope sHt) := ⟨rfl, rfl, rfl, by decide +kernel, rfl, by decide +kernel, by decide +kernel⟩
section
variable {P : Program} {w : World} {K : PySem.W.Frag} {mg : Str → Option Value} {base : Heap} {f : Addr} {fd : FuncData} {k : Nat}
def spHt : Sp := fun vs H Q _ => ∃ (W : Wd) (b d : Addr) (ls : List Addr) (o : Int), vs = [.ref b, .int W.s, .int W.e, .ref d] ∧ W.Ok ∧ W.cs.length ≤ 20 ∧ HL H b W ∧ hts W W.e = some o ∧ StepsR H d (edg W) (ptS W ++ clS W) ls ∧
  ∀ (hd : Addr) (H' : Hp), Same H H' → H hd = none → HtR H' hd (edg W) (hts W) → Q (.ref hd) H'
theorem ok_ht (F : Fun K "height_table" "height_table" sHt f fd) (C_is_height : Cal P w K mg base k "is_height" ["thing"] spIh) (m_isinstance : mg "isinstance" = none) (m_list : mg "list" = none) (m_all : mg "all" = none) (m_len : mg "len" = none) : FnOk P w K mg base CX0 (k + 1) f fd ["thing", "start", "end", "steps"] spHt := by
  refine F.ok scHt (fun vs H Q E h => ?_) (fun cdv A outer s H vs Q E hr h => ?_)
  · obtain ⟨W, b, d, ls, o, rfl, _⟩ := h
    rfl
  · obtain ⟨W, b, d, ls, o, rfl, ok, few, ⟨ts, hb, tl, each⟩, ho, S, q⟩ := h
    have hu1 := hr.units
    have hu : (A.deeper (envOfC "height_table" (defScope sHt) s.heap.objs.size f cdv)).units + 1 < cLine := by omega
    refine ⟨_, pss_cons (ps_if (PW.pt (pw_or (pt_not (pt_val (pe_callB call_isi (by rfl) m_isinstance (by decide +kernel) (pa_cons (pv 0) (pa_cons (pe_bltn (v := .ty "list") (by rfl) m_list (by decide +kernel) rfl) pa_nil))))) (pw_or1 (pt_not (pt_val (pe_callB (cr_all rfl) (by rfl) m_all (by decide +kernel) (pa_cons (pe_lc (own := [("part", 4)]) (g := (gName 4)) (tt := tYes) rfl scHt.nd (pi_list (pv 0)) (blkOk_by (own := [("part", 4)]) (N := NHt) (sc := defScope sHt) (by decide +kernel)) (fun _ _ _ _ _ => (pg_name (i := 4) scHt.nd rfl (.inl rfl))) (fun _ _ _ _ _ => pts_nil) (fun _ _ _ _ _ => (pe_cal C_is_height (hr.mono (by omega)) (by rfl) (pa_cons (pv 4) pa_nil)))) pa_nil)))))))
        (pss_one (ps_ret pe_non))
        pss_nil)
      (pss_cons (ps_setDc (i := 5) (own := [("time", 6), ("height", 7)]) (g := gTup K 2 (gCons (gName 6) (gCons (gName 7) gNil))) (tt := tYes) rfl scHt.nd rfl rfl (sw_dict rfl rfl rfl (by decide +kernel)) (pi_list (pv 0)) (blkOk_by (own := [("time", 6), ("height", 7)]) (N := NHt) (sc := defScope sHt) (by decide +kernel)) (fun _ _ _ _ _ => pg_tup rfl (pgs_cons (pg_name (i := 6) scHt.nd rfl (.inl rfl)) (pgs_cons (pg_name (i := 7) scHt.nd rfl (.inl rfl)) pgs_nil))) (fun _ _ _ _ _ => pts_nil) (fun _ _ _ _ _ => pv 6) (fun _ _ _ _ _ => pv 7))
      (pss_cons (ps_if (PW.pt (pw_or (pt_cmpR op_lt (pe_callB call_lenD (by rfl) m_len (by decide +kernel) (pa_cons (pv 5) pa_nil)) (pe_callB call_len_seq (by rfl) m_len (by decide +kernel) (pa_cons (pv 0) pa_nil)) (nomark _)) (pw_or (pt_cmpR op_ne (pe_dget1 hu (pv 5) (pv 1) ⟨rfl, rfl, rfl, rfl⟩) pe_int (nomark _)) (pw_or1 (pt_cmp (pc_dnotin hu (pv 2) (pv 5)))))))
        (pss_one (ps_ret pe_non))
        pss_nil)
      (pss_cons (ps_for PassesOwn.never rfl (pi_list (pv 0)) (pg_tup rfl (pgs_cons (pg_name (i := 6) scHt.nd rfl (.inl rfl)) (pgs_cons (pg_name (i := 7) scHt.nd rfl (.inl rfl)) pgs_nil)))
        (pss_cons (ps_if (pt_cmp (pc_dnotin hu (pv 6) (pv 3)))
          (pss_one (ps_ret pe_non))
          pss_nil)
        (pss_one (ps_for PassesOwn.never rfl (pi_list (pe_dget hu (pv 3) (pv 6) (fun _ _ => rfl))) (pg_tup rfl (pgs_cons (pg_name (i := 8) scHt.nd rfl (.inl rfl)) (pgs_cons (pg_name (i := 9) scHt.nd rfl (.inl rfl)) (pgs_cons (pg_name (i := 10) scHt.nd rfl (.inl rfl)) pgs_nil))))
          (pss_one (ps_if (PW.pt (pw_or (pt_cmp (pc_dnotin hu (pv 9) (pv 5))) (pw_or1 (pt_cmpR op_gt (pe_dget hu (pv 5) (pv 9) (fun _ _ => rfl)) (pe_op op_add (pv 7) (pv 10)) (nomark _)))))
            (pss_one (ps_ret pe_non))
            pss_nil))))))
      (pss_one (ps_ret (pv 5)))))), ?_⟩
    have ru : (reached W).Pairwise (· < ·) := (edg_up W).filter _
    have rin : ∀ x, x ∈ reached W → x ∈ edg W ∧ ∃ o, hts W x = some o := fun x hx => by
      unfold reached at hx
      obtain ⟨h1, h2⟩ := List.mem_filter.mp hx
      exact ⟨h1, Option.isSome_iff_exists.mp h2⟩
    have rl42 : (reached W).length ≤ 42 := by
      have h1 := List.length_filter_le (fun x => (hts W x).isSome) (edg W)
      have h2 := edg_len W
      unfold reached
      omega
    have piece : ∀ (i : Nat) (t : Addr), ts[i]? = some t → ∃ x y, (reached W)[i]? = some x ∧ hts W x = some y ∧ H t = some (.tup [.int x, .int y]) := fun i t e => by
      obtain ⟨x, ex⟩ : ∃ x, (reached W)[i]? = some x := ⟨_, List.getElem?_eq_getElem (by rw [← tl]; exact (List.getElem?_eq_some_iff.mp e).1)⟩
      obtain ⟨_, y, ey⟩ := rin x (List.mem_of_getElem? ex)
      exact ⟨x, y, ex, ey, each i t x y e ex ey⟩
    refine ⟨_, rfl, _, _, _, _, true, rfl, .ty "list", .base (.lst hb), rfl, true, rfl, if_f ?_⟩
    refine ⟨_, rfl, b, rfl, ⟨_, SqL.of hb⟩, fun D nD => lc_list (K := K) (a := b) (xs := ts.map V.ref) (fun i Hc => Same H Hc ∧ Hc D = some (.lst ((List.replicate i true).map V.bl))) ⟨same_new nD, upd_same⟩ (fun i Hc _ h => SqL.of (h.1 _ _ hb)) ?_ ?_⟩
    · rintro i v Hc hv ⟨sc, hD⟩
      rw [List.getElem?_map] at hv
      obtain ⟨t, et, rfl⟩ := Option.map_eq_some_iff.mp hv
      obtain ⟨x, y, ex, ey, ht⟩ := piece i t et
      have il := (List.getElem?_eq_some_iff.mp et).1
      refine ⟨rfl, yes_b (if_t ⟨_, rfl, t, x, y, rfl, sc _ _ ht, _, hD, ?_, same_put nD sc, ?_⟩)⟩
      · rw [List.length_map, List.length_replicate]
        exact small1000 (by omega)
      · rw [upd_same, List.replicate_succ', List.map_append]
        rfl
    rintro H1 ⟨s1, hD⟩
    refine ⟨D, _, rfl, SqL.of hD, true, ?_, if_f ?_⟩
    · rw [show (List.replicate (ts.map V.ref).length true).all id = true from List.all_eq_true.mpr fun c hc => List.eq_of_mem_replicate hc]
    have hb1 := s1 _ _ hb
    have kvOf : ∃ kvF : Int → Key × V, kvF = fun x => ((Sum.inl x : Key), V.int ((hts W x).getD 0)) := ⟨_, rfl⟩
    obtain ⟨kvF, ekv⟩ := kvOf
    refine ⟨_, rfl, b, rfl, ⟨_, SqL.of hb1⟩, fun D2 nD2 => dc_lst (a := b) (xs := ts.map V.ref) (fun i H2 => Same H1 H2 ∧ H2 D2 = some (.dK (((reached W).take i).map kvF))) ⟨same_new nD2, upd_same⟩ (fun i H2 h => SqL.of (h.1 _ _ hb1)) ?_ ?_⟩
    · rintro i v Hc hv ⟨sc, hD2⟩
      rw [List.getElem?_map] at hv
      obtain ⟨t, et, rfl⟩ := Option.map_eq_some_iff.mp hv
      obtain ⟨x, y, ex, ey, ht⟩ := piece i t et
      have il := (List.getElem?_eq_some_iff.mp ex).1
      refine ⟨t, _, rfl, SqT.of (sc _ _ (s1 _ _ ht)), rfl, _, _, rfl, _, _, rfl, rfl, rfl, yes_b (if_t ?_)⟩
      refine ⟨_, rfl, _, rfl, _, .inl x, rfl, hD2, ?_, same_put nD2 sc, ?_⟩
      · rw [List.length_map, List.length_take]
        exact small1000 (by omega)
      · rw [upd_same, putK_new, List.take_add_one, ex, List.map_append]
        · rw [ekv]
          show some (HO.dK (_ ++ [(Sum.inl x, V.int y)])) = some (HO.dK (_ ++ [(Sum.inl x, V.int ((hts W x).getD 0))]))
          rw [ey]
          rfl
        · intro hk
          rw [List.map_map] at hk
          obtain ⟨z, hz, e⟩ := List.mem_map.mp hk
          rw [ekv] at e
          obtain rfl : z = x := Sum.inl.inj e
          obtain ⟨j, hj, ej⟩ := List.mem_iff_getElem.mp hz
          rw [List.length_take] at hj
          rw [List.getElem_take] at ej
          have e1 : (reached W)[j]? = some z := by rw [List.getElem?_eq_getElem (by omega), ej]
          have := (List.getElem?_inj (by omega) (up_nodup ru)).mp (e1.trans ex.symm)
          omega
    rintro H2 ⟨s2, hD2⟩
    rw [List.length_map, tl, List.take_length] at hD2
    have keys : ((reached W).map kvF).map (·.1) = (reached W).map Sum.inl := by
      rw [List.map_map, ekv]
      rfl
    have vals : ∀ x : Int, valV ((reached W).map kvF) (.inl x) = (hts W x).map V.int := fun x => by
      cases e : hts W x with
      | none =>
        refine val_nokey fun hk => ?_
        rw [keys] at hk
        obtain ⟨z, hz, e2⟩ := List.mem_map.mp hk
        obtain rfl : z = x := Sum.inl.inj e2
        obtain ⟨_, y, ey⟩ := rin z hz
        rw [e] at ey
        cases ey
      | some y =>
        refine val_of (by rw [keys]; exact inl_nodup (up_nodup ru)) (List.mem_map.mpr ⟨x, ?_, ?_⟩)
        · unfold reached
          exact List.mem_filter.mpr ⟨hts_edg ok e, by rw [e]; rfl⟩
        · rw [ekv]
          show (Sum.inl x, V.int ((hts W x).getD 0)) = _
          rw [e]
          rfl
    have hb2 := s2 _ _ hb1
    have st0 := (hts_inv ok).start
    have v0 := vals W.s
    rw [st0] at v0
    have ve := vals W.e
    rw [ho] at ve
    refine ⟨_, rfl, D2, _, rfl, hD2, _, rfl, b, _, rfl, .inl (SqL.of hb2), _, _, rfl, rfl, false, congrArg V.bl (decide_eq_false (by rw [List.length_map, List.length_map, tl]; omega)), if_f ?_⟩
    refine ⟨_, rfl, D2, rfl, .inl ⟨_, .inl hD2⟩, _, rfl, _, .inl ⟨_, .inl W.s, .inl hD2, rfl, v0.symm⟩, rfl, false, rfl, if_f ?_⟩
    refine ⟨_, rfl, _, rfl, D2, _, rfl, .inl ⟨_, .inl W.e, .inl hD2, rfl, ve.symm⟩, false, rfl, if_f ?_⟩
    have s12 := s1.trans s2
    have S2 := S.same s12
    refine ⟨_, rfl, b, rfl, ⟨_, SqL.of hb2⟩, for_list (xs := ts.map V.ref) (fun i σ Hc => ∃ z6 z7 z8 z9 z10 : Option V, σ = [some (.ref b), some (.int W.s), some (.int W.e), some (.ref d), none, some (.ref D2), z6, z7, z8, z9, z10] ∧ Hc = H2) ⟨none, none, none, none, none, rfl, rfl⟩ (fun i σ Hc _ ⟨_, _, _, _, _, _, e⟩ => by rw [e]; exact SqL.of hb2) ?_ ?_⟩
    · rintro i v σ Hc hv ⟨z6, z7, z8, z9, z10, rfl, rfl⟩
      rw [List.getElem?_map] at hv
      obtain ⟨t, et, rfl⟩ := Option.map_eq_some_iff.mp hv
      obtain ⟨x, y, ex, ey, ht⟩ := piece i t et
      obtain ⟨xe, _⟩ := rin x (List.mem_of_getElem? ex)
      obtain ⟨j, jl, ej⟩ := List.mem_iff_getElem.mp xe
      have ejx : (edg W)[j]? = some x := by rw [List.getElem?_eq_getElem jl, ej]
      obtain ⟨l, el⟩ : ∃ l, ls[j]? = some l := ⟨_, List.getElem?_eq_getElem (by rw [S.len]; exact jl)⟩
      have vl := S2.val (edg_nd W) ejx el
      obtain ⟨us, u1, u2, u3⟩ := S2.lst j l x el ejx
      refine ⟨t, _, rfl, SqT.of (s12 _ _ ht), rfl, _, _, rfl, _, _, rfl, rfl, ?_⟩
      refine ⟨_, rfl, _, rfl, d, _, rfl, .inl ⟨_, .inl x, .inl S2.dct, rfl, vl.symm⟩, false, rfl, if_f ?_⟩
      refine ⟨_, rfl, _, rfl, d, .ref l, rfl, .inl ⟨_, .inl x, .inl S2.dct, rfl, vl.symm⟩, l, rfl, ⟨_, SqL.of u1⟩, for_list (xs := us.map V.ref) (fun j σ Hc2 => ∃ z8 z9 z10 : Option V, σ = [some (.ref b), some (.int W.s), some (.int W.e), some (.ref d), none, some (.ref D2), some (.int x), some (.int y), z8, z9, z10] ∧ Hc2 = Hc) ⟨_, _, _, rfl, rfl⟩ (fun j σ Hc2 _ ⟨_, _, _, _, e⟩ => by rw [e]; exact SqL.of u1) ?_ ?_⟩
      · rintro n v2 σ Hc2 hv2 ⟨z8, z9, z10, rfl, rfl⟩
        rw [List.getElem?_map] at hv2
        obtain ⟨t2, et2, rfl⟩ := Option.map_eq_some_iff.mp hv2
        obtain ⟨u, eu⟩ : ∃ u, (atE (ptS W ++ clS W) x)[n]? = some u := ⟨_, List.getElem?_eq_getElem (by rw [← u2]; exact (List.getElem?_eq_some_iff.mp et2).1)⟩
        have ht2 := u3 n t2 u et2 eu
        have mu := List.mem_of_getElem? eu
        rw [← own_at] at mu
        obtain ⟨um, ufr⟩ := own_mem.mp mu
        obtain ⟨o2, e2, le2⟩ := hts_tight ok um (g := y) (by rw [ufr]; exact ey)
        have vu := vals u.to
        rw [e2] at vu
        refine ⟨t2, _, rfl, SqT.of ht2, rfl, _, _, rfl, _, _, rfl, _, _, rfl, rfl, ?_⟩
        refine ⟨_, rfl, _, rfl, D2, _, rfl, .inl ⟨_, .inl u.to, .inl hD2, rfl, vu.symm⟩, false, rfl, if_f ?_⟩
        refine ⟨_, rfl, _, rfl, D2, .int o2, rfl, .inl ⟨_, .inl u.to, .inl hD2, rfl, vu.symm⟩, _, rfl, _, rfl, _, _, rfl, rfl, _, _, rfl, rfl, false, congrArg V.bl (decide_eq_false (by omega)), if_f ?_⟩
        exact ⟨_, _, _, rfl, rfl⟩
      · rintro σ Hc2 ⟨z8, z9, z10, rfl, rfl⟩
        exact ⟨_, _, _, _, _, rfl, rfl⟩
    · rintro σ Hc ⟨z6, z7, z8, z9, z10, rfl, rfl⟩
      exact ⟨_, rfl, q D2 Hc s12 (s1.free nD2) ⟨_, hD2, ⟨reached W, keys, up_nodup ru, fun x hx => (rin x hx).1⟩, vals⟩⟩
end
end Tg

namespace Tg
open PySem PySem.Spec PyProof.Rows L2 Pl
abbrev sSp : Stmt := topS 20
theorem scSp : FnScope ["_law_draws_here", "_law_pick"] ["_law_draws_here"] (defScope sSp) := ⟨rfl, rfl, rfl, by decide +kernel, rfl, by decide +kernel, by decide +kernel⟩
section
variable {P : Program} {w : World} {K : PySem.W.Frag} {mg : Str → Option Value} {base : Heap} {f : Addr} {fd : FuncData} {k : Nat}
def spSp : Sp := fun vs H Q _ => ∃ (p : Addr) (N : Nat), vs = [.ref p] ∧ Dr H p N ∧ N < 900000 ∧ ∀ (v : Int) (H' : Hp), Kp p H H' → Dr H' p (N + 1) → -10 ≤ v → v ≤ 49 → Q (.int v) H'
theorem ok_sp (F : Fun K "_law_spot" "_law_spot" sSp f fd) (L_next : Cal P w K mg base k "_law_next" ["_law_draws_here"] spNext) : FnOk P w K mg base CX0 (k + 1) f fd ["_law_draws_here"] spSp := by
  refine F.ok scSp (fun vs H Q E h => ?_) (fun cdv A outer s H vs Q E hr h => ?_)
  · obtain ⟨p, N, rfl, _⟩ := h
    rfl
  · obtain ⟨p, N, rfl, dr, n9, q⟩ := h
    refine ⟨_, pss_cons (ps_set (i := 1) scSp.nd rfl (.inl rfl) (pe_cal L_next (hr.mono (by omega)) (by rfl) (pa_cons (pv 0) pa_nil)))
      (pss_one (ps_ret (pe_ix ix_list (pe_lst (pa_cons (pe_op op_mod (pe_op op_fdiv (pv 1) pe_int) pe_int) (pa_cons (pe_op op_mul pe_int (pe_op op_mod (pe_op op_fdiv (pv 1) pe_int) pe_int)) (pa_cons (pe_op op_mul pe_int (pe_op op_mod (pe_op op_fdiv (pv 1) pe_int) pe_int)) (pa_cons (pe_op op_sub (pe_op op_mod (pe_op op_fdiv (pv 1) pe_int) pe_int) pe_int) pa_nil))))) (pe_op op_mod (pv 1) pe_int) (fun _ _ => rfl)))), ?_⟩
    refine ⟨_, rfl, p, N, rfl, dr, by omega, fun v H1 k1 d1 v0 v9 => ?_⟩
    refine ⟨_, rfl, _, _, rfl, rfl, ⟨by decide, by decide⟩, _, _, rfl, rfl, (by show (0 : Int) < 13; decide), ?_⟩
    refine ⟨_, rfl, _, _, rfl, rfl, ⟨by decide, by decide⟩, _, _, rfl, rfl, (by show (0 : Int) < 9; decide), 3, _, rfl, rfl, .inl ⟨by decide, by decide⟩, ?_⟩
    refine ⟨_, rfl, _, _, rfl, rfl, ⟨by decide, by decide⟩, _, _, rfl, rfl, (by show (0 : Int) < 5; decide), 12, _, rfl, rfl, .inl ⟨by decide, by decide⟩, ?_⟩
    refine ⟨_, rfl, _, _, rfl, rfl, ⟨by decide, by decide⟩, _, _, rfl, rfl, (by show (0 : Int) < 60; decide), _, _, rfl, rfl, by show 4 ≤ sizeLine; decide, fun u nu => ?_⟩
    have su := same_new (o := .lst [.int (v / 4 % 13), .int (3 * (v / 4 % 9)), .int (12 * (v / 4 % 5)), .int (v / 4 % 60 - 10)]) nu
    have m0 := Int.emod_nonneg v (show (4 : Int) ≠ 0 by decide)
    have m1 := Int.emod_lt_of_pos v (show (0 : Int) < 4 by decide)
    obtain ⟨e, ee, me⟩ := atI_mem (xs := [v / 4 % 13, 3 * (v / 4 % 9), 12 * (v / 4 % 5), v / 4 % 60 - 10]) (i := v % 4) m0 (by show v % 4 < ((4 : Nat) : Int); omega)
    have eb : -10 ≤ e ∧ e ≤ 49 := by
      simp only [List.mem_cons, List.not_mem_nil, or_false] at ee
      omega
    refine ⟨_, rfl, _, _, rfl, rfl, (by show (0 : Int) < 4; decide), u, _, _, _, rfl, rfl, SqL.of upd_same, me, ?_⟩
    exact q e _ (k1.trans (Kp.of su)) (d1.same su) eb.1 eb.2
end
end Tg

namespace Tg
open PySem PySem.Spec PyProof.Rows L2 Pl
/-- a world in the heap -/
def WorldR (K : PySem.W.Frag) (H : Hp) (t : Addr) (W : Wd) (c p : Addr) : Prop := H t = some (.tup [.int W.s, .int W.e, hV W.h, .ref c, .ref p]) ∧ Handed K H W c p
theorem WorldR.same {K : PySem.W.Frag} {H H' : Hp} {t c p : Addr} {W : Wd} (s : Same H H') (h : WorldR K H t W c p) : WorldR K H' t W c p := ⟨s _ _ h.1, h.2.same s⟩
theorem pick_step {W : Wd} {i : Nat} {c : Int × Int} (e : W.cs[i]? = some c) : (W.cs.take (i + 1)).filter (fun c => decide (W.s ≤ c.1 ∧ c.2 ≤ W.e)) = (W.cs.take i).filter (fun c => decide (W.s ≤ c.1 ∧ c.2 ≤ W.e)) ++ (if W.s ≤ c.1 ∧ c.2 ≤ W.e then [c] else []) := by
  rw [List.take_add_one, e, List.filter_append]
  congr 1
  show List.filter _ [c] = _
  rw [List.filter_cons]
  by_cases h : W.s ≤ c.1 ∧ c.2 ≤ W.e
  · rw [if_pos h, decide_eq_true h]
    rfl
  · rw [if_neg h, decide_eq_false h]
    rfl
abbrev sLe : Stmt := topS 22
theorem scLe : FnScope ["_law_world_here", "_law_a_start", "_law_a_end", "_law_a_horizon", "_law_a_cells", "_law_a_points", "_law_told", "_law_one", "_law_two"] ["_law_world_here"] (defScope sLe) := ⟨rfl, rfl, rfl, by decide +kernel, rfl, by decide +kernel, by decide +kernel⟩
section
variable {P : Program} {w : World} {K : PySem.W.Frag} {mg : Str → Option Value} {base : Heap} {f : Addr} {fd : FuncData} {k : Nat}
def spLe (K : PySem.W.Frag) : Sp := fun vs H Q _ => ∃ (W : Wd) (t c p : Addr), vs = [.ref t] ∧ WorldR K H t W c p ∧ ∀ (m : Addr) (H' : Hp), Same H H' → H m = none → NL H' m (edg W) → Q (.ref m) H'
theorem ok_le (F : Fun K "_law_edges" "_law_edges" sLe f fd) (m_sorted : mg "sorted" = none) (m_set : mg "set" = none) : FnOk P w K mg base CX0 (k + 1) f fd ["_law_world_here"] (spLe K) := by
  refine F.ok scLe (fun vs H Q E h => ?_) (fun cdv A outer s H vs Q E hr h => ?_)
  · obtain ⟨W, t, c, p, rfl, _⟩ := h
    rfl
  · obtain ⟨W, t, c, p, rfl, ⟨ht, ⟨⟨ts, sq, lts, hts⟩, hp, few⟩⟩, q⟩ := h
    refine ⟨_, pss_cons (ps_asg (pv 0) (pg_tup rfl (pgs_cons (pg_name (i := 1) scLe.nd rfl (.inl rfl)) (pgs_cons (pg_name (i := 2) scLe.nd rfl (.inl rfl)) (pgs_cons (pg_name (i := 3) scLe.nd rfl (.inl rfl)) (pgs_cons (pg_name (i := 4) scLe.nd rfl (.inl rfl)) (pgs_cons (pg_name (i := 5) scLe.nd rfl (.inl rfl)) pgs_nil)))))))
      (pss_cons (ps_set (i := 6) scLe.nd rfl (.inl rfl) (pe_lst (pa_cons (pv 1) (pa_cons (pv 2) pa_nil))))
      (pss_cons (ps_for PassesOwn.never rfl (pi_seq (pv 4)) (pg_tup rfl (pgs_cons (pg_name (i := 7) scLe.nd rfl (.inl rfl)) (pgs_cons (pg_name (i := 8) scLe.nd rfl (.inl rfl)) pgs_nil)))
        (pss_one (ps_if (PW.pt (pw_and (pt_cmpR op_le (pv 1) (pv 7) (nomark _)) (pw_and1 (pt_cmpR op_le (pv 8) (pv 2) (nomark _)))))
          (pss_one (ps_set (i := 6) scLe.nd rfl (.inl rfl) (pe_op op_cat (pv 6) (pe_lst (pa_cons (pv 7) (pa_cons (pv 8) pa_nil))))))
          pss_nil)))
      (pss_one (ps_ret (pe_callB (cr_sortedSetA rfl) (by rfl) m_sorted (by decide +kernel) (pa_cons (pe_callTy (cr_setL rfl) (by rfl) m_set (by decide +kernel) (pa_cons (pv 6) pa_nil)) pa_nil)))))), ?_⟩
    refine ⟨_, rfl, t, _, rfl, SqT.of ht, rfl, _, _, rfl, _, _, rfl, _, _, rfl, _, _, rfl, _, _, rfl, rfl, ?_⟩
    refine ⟨_, rfl, _, rfl, by show 2 ≤ sizeLine; decide, fun m nm => ?_⟩
    have sm := same_new (o := .lst [.int W.s, .int W.e]) nm
    refine ⟨_, rfl, c, rfl, for_seq sq (fun i σ Hc => ∃ (l : Addr) (z7 z8 : Option V), σ = [some (.ref t), some (.int W.s), some (.int W.e), some (hV W.h), some (.ref c), some (.ref p), some (.ref l), z7, z8] ∧ Same H Hc ∧ NL Hc l ([W.s, W.e] ++ ((W.cs.take i).filter fun c => decide (W.s ≤ c.1 ∧ c.2 ≤ W.e)).flatMap fun c => [c.1, c.2])) ⟨m, none, none, rfl, sm, upd_same⟩ (fun i σ1 H1 ⟨_, _, _, _, h, _⟩ o e => h _ _ e) ?_ ?_⟩
    · rintro i x σ Hc hx ⟨l, z7, z8, rfl, sc, hn⟩
      rw [List.getElem?_map] at hx
      obtain ⟨tc, et, rfl⟩ := Option.map_eq_some_iff.mp hx
      obtain ⟨cc, ec⟩ : ∃ cc, W.cs[i]? = some cc := ⟨_, List.getElem?_eq_getElem (by rw [← lts]; exact (List.getElem?_eq_some_iff.mp et).1)⟩
      have hc := sqT_same sc (hts i tc cc et ec)
      have il : i < W.cs.length := (List.getElem?_eq_some_iff.mp ec).1
      have pk := pick_step ec
      have stay : (¬ (W.s ≤ cc.1 ∧ cc.2 ≤ W.e)) → NL Hc l ([W.s, W.e] ++ ((W.cs.take (i + 1)).filter fun c => decide (W.s ≤ c.1 ∧ c.2 ≤ W.e)).flatMap fun c => [c.1, c.2]) := fun h => by
        rw [pk, if_neg h, List.append_nil]
        exact hn
      refine ⟨tc, _, rfl, hc, rfl, _, _, rfl, _, _, rfl, rfl, ?_⟩
      by_cases h1 : W.s ≤ cc.1
      · refine ⟨_, rfl, _, rfl, _, _, rfl, rfl, true, congrArg V.bl (decide_eq_true h1), if_t ?_⟩
        by_cases h2 : cc.2 ≤ W.e
        · refine ⟨_, rfl, _, rfl, _, _, rfl, rfl, true, congrArg V.bl (decide_eq_true h2), if_t ?_⟩
          refine ⟨_, rfl, _, rfl, _, rfl, by show 2 ≤ sizeLine; decide, fun b nb => ?_⟩
          have sb := same_new (o := .lst [.int cc.1, .int cc.2]) nb
          have fl := flat_two ((W.cs.take i).filter fun c => decide (W.s ≤ c.1 ∧ c.2 ≤ W.e))
          have fl2 := List.length_filter_le (fun c : Int × Int => decide (W.s ≤ c.1 ∧ c.2 ≤ W.e)) (W.cs.take i)
          rw [List.length_take] at fl2
          refine ⟨l, b, _, _, rfl, rfl, sb _ _ hn, upd_same, Nat.le_of_lt (small1000 ?_), fun l2 nl2 => ?_⟩
          · rw [List.length_map, List.length_append, fl]
            show 2 + _ + 2 ≤ 1000
            omega
          · refine ⟨_, _, _, rfl, sc.trans (sb.trans (same_new nl2)), ?_⟩
            unfold NL
            rw [upd_same, pk, if_pos ⟨h1, h2⟩, List.flatMap_append, ← List.append_assoc]
            exact congrArg (fun l => some (HO.lst l)) (List.map_append (f := V.int) (l₂ := [cc.1, cc.2])).symm
        · exact ⟨_, rfl, _, rfl, _, _, rfl, rfl, false, congrArg V.bl (decide_eq_false h2), if_f ⟨_, _, _, rfl, sc, stay fun z => h2 z.2⟩⟩
      · exact ⟨_, rfl, _, rfl, _, _, rfl, rfl, false, congrArg V.bl (decide_eq_false h1), if_f (if_f ⟨_, _, _, rfl, sc, stay fun z => h1 z.1⟩)⟩
    · rintro σ Hc ⟨l, z7, z8, rfl, sc, hn⟩
      have all : (W.cs.take (ts.map V.ref).length) = W.cs := by
        rw [List.length_map, lts, List.take_length]
      rw [all] at hn
      have few2 := tms_len W
      refine ⟨_, rfl, l, tms W, rfl, SqL.of hn, by omega, fun a cn na cnt => ?_⟩
      have c100 : cn ≤ (tms W).length := cnt _ fun _ h => h
      have s2 : Same Hc (upd Hc a (SetO w a (fun k => decide (k ∈ tms W)) cn)) := same_new na
      refine ⟨a, _, cn, rfl, upd_same, Nat.le_of_lt (small1000 (by omega)), fun ns p2 ⟨up', mem, len⟩ np => ?_⟩
      obtain rfl : ns = edg W := book_of up' fun k => (mem k).trans decide_eq_true_iff
      exact q p2 _ ((sc.trans s2).trans (same_new np)) ((sc.trans s2).free np) upd_same
end
end Tg

set_option maxHeartbeats 2000000
namespace Tg
open PySem PySem.Spec PyProof.Rows L2 Pl
/-! ### is_gap: of what is reached -/
/-- any walk over a list that stands -/
theorem walked_l {K : PySem.W.Frag} {a : Addr} {xs : List V} {Z : Hp} {turn : (Hp → Prop) → V → Hp → Prop} {Qd : Hp → Prop} (Pv : Nat → Hp → Prop) (first : Pv 0 Z) (keep : ∀ i H2, Pv i H2 → SqL K H2 a xs)
    (round : ∀ i x H2, xs[i]? = some x → Pv i H2 → turn (Pv (i + 1)) x H2) (last : ∀ H2, Pv xs.length H2 → Qd H2) : Walked (Itl K a) Z turn Qd := by
  refine ⟨fun i m H2 => m = xs.length - i ∧ i ≤ xs.length ∧ Pv i H2, ⟨xs.length, by omega, Nat.zero_le _, first⟩, ?_⟩
  rintro i m H2 ⟨rfl, hi, p⟩
  have q := keep i H2 p
  by_cases lt : i < xs.length
  · refine .inr ⟨⟨xs, xs[i], q, List.getElem?_eq_getElem lt⟩, Pv (i + 1), fun H3 p3 => ⟨xs.length - (i + 1), by omega, rfl, lt, p3⟩, fun x H3 y => ?_⟩
    obtain ⟨rfl, y⟩ := y
    exact round i x H3 (y xs q) p
  · obtain rfl : i = xs.length := by omega
    exact .inl ⟨⟨xs, q, Nat.le_refl _⟩, last H2 p⟩
/-- n truths -/
def AllT (H : Hp) (D : Addr) (n : Nat) : Prop := H D = some (.lst ((List.replicate n true).map V.bl))
theorem AllT.put {H : Hp} {D : Addr} {n : Nat} : AllT (upd H D (.lst ((List.replicate n true).map V.bl ++ [V.bl true]))) D (n + 1) := by
  unfold AllT
  rw [upd_same, List.replicate_succ', List.map_append]
  rfl
theorem AllT.few {n m : Nat} (h : n < m) (s : m ≤ 100000) : ((List.replicate n true).map V.bl).length < sizeLine := by
  rw [List.length_map, List.length_replicate]
  exact million (by omega)
theorem all_true (n : Nat) : (List.replicate n true).all id = true := List.all_eq_true.mpr fun c hc => List.eq_of_mem_replicate hc
theorem wipe_three (σ : L2.St) (a b c : Option V) : wipe (((List.set (wipe σ [6, 7, 8]) 6 a).set 7 b).set 8 c) [6, 7, 8] = wipe σ [6, 7, 8] := by
  show List.set (List.set (List.set (List.set (List.set (List.set (List.set (List.set (List.set σ 8 none) 7 none) 6 none) 6 a) 7 b) 8 c) 8 none) 7 none) 6 none = List.set (List.set (List.set σ 8 none) 7 none) 6 none
  apply List.ext_getElem?
  intro i
  simp only [List.getElem?_set, List.length_set]
  by_cases h6 : 6 = i <;> by_cases h7 : 7 = i <;> by_cases h8 : 8 = i <;> simp only [h6, h7, h8, if_true, if_false] <;> split <;> first | rfl | (split <;> rfl)
abbrev sGa : Stmt := topS 15
abbrev NGa : List Str := ["thing", "start", "end", "steps", "edge", "edges", "word", "behind", "cost"]
theorem scGa : FnScope NGa ["thing", "start", "end", "steps"] (defScope sGa) := ⟨rfl, rfl, rfl, by decide +kernel, rfl, by decide +kernel, by decide +kernel⟩
theorem reached_up (W : Wd) : (reached W).Pairwise (· < ·) := (edg_up W).filter _
theorem reached_mem {W : Wd} {x : Int} (hx : x ∈ reached W) : x ∈ edg W ∧ ∃ o, hts W x = some o := by
  unfold reached at hx
  obtain ⟨h1, h2⟩ := List.mem_filter.mp hx
  exact ⟨h1, Option.isSome_iff_exists.mp h2⟩
theorem reached_of {W : Wd} (ok : W.Ok) {x o : Int} (h : hts W x = some o) : x ∈ reached W := by
  unfold reached
  exact List.mem_filter.mpr ⟨hts_edg ok h, by rw [h]; rfl⟩
theorem reached_len {W : Wd} (few : W.cs.length ≤ 20) : (reached W).length ≤ 42 := by
  have h1 := List.length_filter_le (fun x => (hts W x).isSome) (edg W)
  have h2 := edg_len W
  unfold reached
  omega
theorem steps_len {W : Wd} (few : W.cs.length ≤ 20) (x : Int) : (atE (ptS W ++ clS W) x).length ≤ 62 := by
  have h1 := atE_len (ptS W ++ clS W) x
  have h2 := edg_len W
  have h3 := ptP_len W ((edg W).length - 1)
  rw [ptP_all rfl] at h3
  have h4 : (clS W).length ≤ W.cs.length := by
    unfold clS ins
    rw [List.length_map]
    exact List.length_filter_le ..
  rw [List.length_append] at h1
  omega
section
variable {P : Program} {w : World} {K : PySem.W.Frag} {mg : Str → Option Value} {base : Heap} {f : Addr} {fd : FuncData} {k : Nat}
def spGa : Sp := fun vs H Q _ => ∃ (W : Wd) (b d : Addr) (ls : List Addr), vs = [.ref b, .int W.s, .int W.e, .ref d] ∧ W.Ok ∧ W.cs.length ≤ 20 ∧ NL H b (reached W) ∧ hts W W.e = none ∧ StepsR H d (edg W) (ptS W ++ clS W) ls ∧ ∀ H', Same H H' → Q (.bl true) H'
theorem ok_ga (F : Fun K "is_gap" "is_gap" sGa f fd) (C_is_whole : Cal P w K mg base k "is_whole" ["thing"] spWh) (m_isinstance : mg "isinstance" = none) (m_list : mg "list" = none) (m_all : mg "all" = none) (m_len : mg "len" = none) : FnOk P w K mg base CX0 (k + 1) f fd ["thing", "start", "end", "steps"] spGa := by
  refine F.ok scGa (fun vs H Q E h => ?_) (fun cdv A outer s H vs Q E hr h => ?_)
  · obtain ⟨W, b, d, ls, rfl, _⟩ := h
    rfl
  · obtain ⟨W, b, d, ls, rfl, ok, few, hb, ho, S, q⟩ := h
    have hu1 := hr.units
    have hu : (A.deeper (envOfC "is_gap" (defScope sGa) s.heap.objs.size f cdv)).units + 1 < cLine := by omega
    refine ⟨_, pss_cons (ps_if (PW.pt (pw_or (pt_not (pt_val (pe_callB call_isi (by rfl) m_isinstance (by decide +kernel) (pa_cons (pv 0) (pa_cons (pe_bltn (v := .ty "list") (by rfl) m_list (by decide +kernel) rfl) pa_nil))))) (pw_or1 (pt_not (pt_val (pe_callB (cr_all rfl) (by rfl) m_all (by decide +kernel) (pa_cons (pe_lc (own := [("edge", 4)]) (g := (gName 4)) (tt := tYes) rfl scGa.nd (pi_list (pv 0)) (blkOk_by (own := [("edge", 4)]) (N := NGa) (sc := defScope sGa) (by decide +kernel)) (fun _ _ _ _ _ => (pg_name (i := 4) scGa.nd rfl (.inl rfl))) (fun _ _ _ _ _ => pts_nil) (fun _ _ _ _ _ => (pe_cal C_is_whole (hr.mono (by omega)) (by rfl) (pa_cons (pv 4) pa_nil)))) pa_nil)))))))
        (pss_one (ps_ret pe_bl))
        pss_nil)
      (pss_cons (ps_set (i := 5) scGa.nd rfl (.inr rfl) (pe_dc (own := [("edge", 4)]) (g := gName 4) (tt := tYes) rfl scGa.nd (pi_list (pv 0)) (blkOk_by (own := [("edge", 4)]) (N := NGa) (sc := defScope sGa) (by decide +kernel)) (fun _ _ _ _ _ => pg_name (i := 4) scGa.nd rfl (.inl rfl)) (fun _ _ _ _ _ => pts_nil) (fun _ _ _ _ _ => pv 4) (fun _ _ _ _ _ => pe_bl)))
      (pss_cons (ps_if (PW.pt (pw_or (pt_cmpR op_lt (pe_callB call_lenD (by rfl) m_len (by decide +kernel) (pa_cons (pv 5) pa_nil)) (pe_callB call_len_seq (by rfl) m_len (by decide +kernel) (pa_cons (pv 0) pa_nil)) (nomark _)) (pw_or (pt_cmp (pc_dnotin hu (pv 1) (pv 5))) (pw_or1 (pt_cmp (pc_din hu (pv 2) (pv 5)))))))
        (pss_one (ps_ret pe_bl))
        pss_nil)
      (pss_cons (ps_if (pt_not (pt_val (pe_callB (cr_all rfl) (by rfl) m_all (by decide +kernel) (pa_cons (pe_lc (own := [("edge", 4)]) (g := (gName 4)) (tt := tYes) rfl scGa.nd (pi_list (pv 0)) (blkOk_by (own := [("edge", 4)]) (N := NGa) (sc := defScope sGa) (by decide +kernel)) (fun _ _ _ _ _ => (pg_name (i := 4) scGa.nd rfl (.inl rfl))) (fun _ _ _ _ _ => pts_nil) (fun _ _ _ _ _ => (pe_cmp (pc_din hu (pv 4) (pv 3))))) pa_nil))))
        (pss_one (ps_ret pe_bl))
        pss_nil)
      (pss_one (ps_ret (pe_callB (cr_all rfl) (by rfl) m_all (by decide +kernel) (pa_cons (pe_lc2 (own := [("edge", 4), ("word", 6), ("behind", 7), ("cost", 8)]) (vs1 := [6, 7, 8]) (g := gName 4) (tt := tYes) (wi1 := iList K (tDGet (tVar 3) (tVar 4))) (g1 := gTup K 3 (gCons (gName 6) (gCons (gName 7) (gCons (gName 8) gNil)))) (tt1 := tYes) rfl scGa.nd (pi_list (pv 0)) (blkOk_by (own := [("edge", 4), ("word", 6), ("behind", 7), ("cost", 8)]) (N := NGa) (sc := defScope sGa) (by decide +kernel)) (by decide) (fun _ _ _ _ _ => (pg_name (i := 4) scGa.nd rfl (.inl rfl))) (fun _ _ _ _ _ => pts_nil) (fun _ _ _ _ _ => pi_list (pe_dget hu (pv 3) (pv 4) (fun _ _ => rfl))) (fun _ _ _ _ _ => pg_tup rfl (pgs_cons (pg_name (i := 6) scGa.nd rfl (.inl rfl)) (pgs_cons (pg_name (i := 7) scGa.nd rfl (.inl rfl)) (pgs_cons (pg_name (i := 8) scGa.nd rfl (.inl rfl)) pgs_nil)))) (fun _ _ _ _ _ => pts_nil) (fun _ _ _ _ _ => (pe_cmp (pc_din hu (pv 7) (pv 5))))) pa_nil))))))), ?_⟩
    have ru := reached_up W
    have rl42 := reached_len few
    have stepsOf : ∀ {H1 : Hp}, StepsR H1 d (edg W) (ptS W ++ clS W) ls → ∀ x, x ∈ reached W → ∃ l, valV (kvE (edg W) ls) (.inl x) = some (.ref l) ∧ StL H1 l (atE (ptS W ++ clS W) x) := fun S2 x hx => by
      obtain ⟨xe, _⟩ := reached_mem hx
      obtain ⟨j, jl, ej⟩ := List.mem_iff_getElem.mp xe
      have ejx : (edg W)[j]? = some x := by rw [List.getElem?_eq_getElem jl, ej]
      obtain ⟨l, el⟩ : ∃ l, ls[j]? = some l := ⟨_, List.getElem?_eq_getElem (by rw [S2.len]; exact jl)⟩
      exact ⟨l, S2.val (edg_nd W) ejx el, S2.lst j l x el ejx⟩
    refine ⟨_, rfl, _, _, _, _, true, rfl, .ty "list", .base (.lst hb), rfl, true, rfl, if_f ?_⟩
    refine ⟨_, rfl, b, rfl, ⟨_, SqL.of hb⟩, fun D nD => walked_l (K := K) (a := b) (xs := (reached W).map V.int) (fun i Hc => Same H Hc ∧ AllT Hc D i) ⟨same_new nD, upd_same⟩ (fun i Hc h => SqL.of (h.1 _ _ hb)) ?_ ?_⟩
    · rintro i v Hc hv ⟨sc, hD⟩
      rw [List.getElem?_map] at hv
      obtain ⟨x, ex, rfl⟩ := Option.map_eq_some_iff.mp hv
      have il := (List.getElem?_eq_some_iff.mp ex).1
      exact ⟨rfl, yes_b (if_t ⟨_, rfl, x, rfl, _, hD, AllT.few il (by omega), same_put nD sc, AllT.put⟩)⟩
    rintro H1 ⟨s1, hD⟩
    refine ⟨D, _, rfl, SqL.of hD, true, by rw [all_true], if_f ?_⟩
    have hb1 := s1 _ _ hb
    obtain ⟨kvF, ekv⟩ : ∃ kvF : Int → Key × V, kvF = fun x => ((Sum.inl x : Key), V.bl true) := ⟨_, rfl⟩
    refine ⟨_, rfl, b, rfl, ⟨_, SqL.of hb1⟩, fun D2 nD2 => walked_l (K := K) (a := b) (xs := (reached W).map V.int) (fun i H2 => Same H1 H2 ∧ H2 D2 = some (.dK (((reached W).take i).map kvF))) ⟨same_new nD2, upd_same⟩ (fun i H2 h => SqL.of (h.1 _ _ hb1)) ?_ ?_⟩
    · rintro i v Hc hv ⟨sc, hD2⟩
      rw [List.getElem?_map] at hv
      obtain ⟨x, ex, rfl⟩ := Option.map_eq_some_iff.mp hv
      have il := (List.getElem?_eq_some_iff.mp ex).1
      refine ⟨rfl, yes_b (if_t ?_)⟩
      refine ⟨_, rfl, _, .inl x, rfl, hD2, ?_, same_put nD2 sc, ?_⟩
      · rw [List.length_map, List.length_take]
        exact small1000 (by omega)
      · rw [upd_same, putK_new, List.take_add_one, ex, List.map_append]
        · rw [ekv]
          rfl
        · intro hk
          rw [List.map_map] at hk
          obtain ⟨z, hz, e⟩ := List.mem_map.mp hk
          rw [ekv] at e
          obtain rfl : z = x := Sum.inl.inj e
          obtain ⟨j, hj, ej⟩ := List.mem_iff_getElem.mp hz
          rw [List.length_take] at hj
          rw [List.getElem_take] at ej
          have e1 : (reached W)[j]? = some z := by rw [List.getElem?_eq_getElem (by omega), ej]
          have := (List.getElem?_inj (by omega) (up_nodup ru)).mp (e1.trans ex.symm)
          omega
    rintro H2 ⟨s2, hD2⟩
    rw [List.length_map, List.take_length] at hD2
    have keys : ((reached W).map kvF).map (·.1) = (reached W).map Sum.inl := by
      rw [List.map_map, ekv]
      rfl
    have there : ∀ x o : Int, hts W x = some o → valV ((reached W).map kvF) (.inl x) = some (.bl true) := fun x o e =>
      val_of (by rw [keys]; exact inl_nodup (up_nodup ru)) (List.mem_map.mpr ⟨x, reached_of ok e, by rw [ekv]⟩)
    have gone : ∀ x : Int, hts W x = none → valV ((reached W).map kvF) (.inl x) = none := fun x e => val_nokey fun hk => by
      rw [keys] at hk
      obtain ⟨z, hz, e2⟩ := List.mem_map.mp hk
      obtain rfl : z = x := Sum.inl.inj e2
      obtain ⟨_, y, ey⟩ := reached_mem hz
      rw [e] at ey
      cases ey
    have hb2 := s2 _ _ hb1
    have v0 := there W.s 0 (hts_inv ok).start
    have ve := gone W.e ho
    refine ⟨_, rfl, D2, _, rfl, hD2, _, rfl, b, _, rfl, .inl (SqL.of hb2), _, _, rfl, rfl, false, congrArg V.bl (decide_eq_false (by rw [List.length_map, List.length_map]; omega)), if_f ?_⟩
    refine ⟨_, rfl, _, rfl, D2, _, rfl, .inl ⟨_, .inl W.s, .inl hD2, rfl, v0.symm⟩, false, rfl, if_f ?_⟩
    refine ⟨_, rfl, _, rfl, D2, _, rfl, .inl ⟨_, .inl W.e, .inl hD2, rfl, ve.symm⟩, false, rfl, if_f ?_⟩
    have s12 := s1.trans s2
    have S2 := S.same s12
    refine ⟨_, rfl, b, rfl, ⟨_, SqL.of hb2⟩, fun D3 nD3 => walked_l (K := K) (a := b) (xs := (reached W).map V.int) (fun i Hc => Same H2 Hc ∧ AllT Hc D3 i) ⟨same_new nD3, upd_same⟩ (fun i Hc h => SqL.of (h.1 _ _ hb2)) ?_ ?_⟩
    · rintro i v Hc hv ⟨sc, hD3⟩
      rw [List.getElem?_map] at hv
      obtain ⟨x, ex, rfl⟩ := Option.map_eq_some_iff.mp hv
      have il := (List.getElem?_eq_some_iff.mp ex).1
      obtain ⟨l, vl, _⟩ := stepsOf S2 x (List.mem_of_getElem? ex)
      exact ⟨rfl, yes_b (if_t ⟨_, rfl, _, rfl, d, _, rfl, .inl ⟨_, .inl x, .inl (sc _ _ S2.dct), rfl, vl.symm⟩, _, hD3, AllT.few il (by omega), same_put nD3 sc, AllT.put⟩)⟩
    rintro H3 ⟨s3, hD3⟩
    refine ⟨D3, _, rfl, SqL.of hD3, true, by rw [all_true], if_f ?_⟩
    have S3 := S2.same s3
    have hb3 := s3 _ _ hb2
    have hD23 := s3 _ _ hD2
    refine ⟨_, rfl, b, rfl, ⟨_, SqL.of hb3⟩, fun D4 nD4 => walked_l (K := K) (a := b) (xs := (reached W).map V.int) (fun i Hc => Same H3 Hc ∧ ∃ n, AllT Hc D4 n ∧ n ≤ i * 100) ⟨same_new nD4, 0, upd_same, Nat.zero_le _⟩ (fun i Hc h => SqL.of (h.1 _ _ hb3)) ?_ ?_⟩
    · rintro i v Hc hv ⟨sc, n, hD4, nl⟩
      rw [List.getElem?_map] at hv
      obtain ⟨x, ex, rfl⟩ := Option.map_eq_some_iff.mp hv
      have il := (List.getElem?_eq_some_iff.mp ex).1
      have xr := List.mem_of_getElem? ex
      obtain ⟨_, y, ey⟩ := reached_mem xr
      obtain ⟨l, vl, us, u1, u2, u3⟩ := stepsOf S3 x xr
      have sl := steps_len few x
      refine ⟨rfl, yes_b (if_t ?_)⟩
      refine ⟨_, rfl, _, rfl, d, .ref l, rfl, .inl ⟨_, .inl x, .inl (sc _ _ S3.dct), rfl, vl.symm⟩, l, rfl, ⟨_, SqL.of (sc _ _ u1)⟩, walked_l (K := K) (a := l) (xs := us.map V.ref) (fun j H4 => Same H3 H4 ∧ ∃ m, AllT H4 D4 m ∧ m ≤ i * 100 + j) ⟨sc, n, hD4, nl⟩ (fun j H4 h => SqL.of (h.1 _ _ u1)) ?_ ?_⟩
      · rintro j v2 H4 hv2 ⟨s34, m, hm, ml⟩
        rw [List.getElem?_map] at hv2
        obtain ⟨t2, et2, rfl⟩ := Option.map_eq_some_iff.mp hv2
        have jl := (List.getElem?_eq_some_iff.mp et2).1
        obtain ⟨u, eu⟩ : ∃ u, (atE (ptS W ++ clS W) x)[j]? = some u := ⟨_, List.getElem?_eq_getElem (by rw [← u2]; exact jl)⟩
        have ht2 := s34 _ _ (u3 j t2 u et2 eu)
        have mu := List.mem_of_getElem? eu
        rw [← own_at] at mu
        obtain ⟨um, ufr⟩ := own_mem.mp mu
        obtain ⟨o2, e2, _⟩ := hts_tight ok um (g := y) (by rw [ufr]; exact ey)
        have vu := there u.to o2 e2
        refine ⟨t2, _, rfl, SqT.of ht2, rfl, _, _, rfl, _, _, rfl, _, _, rfl, rfl, ?_⟩
        refine ⟨wipe_three _ _ _ _, yes_b (if_t ?_)⟩
        exact ⟨_, rfl, _, rfl, D2, _, rfl, .inl ⟨_, .inl u.to, .inl (s34 _ _ hD23), rfl, vu.symm⟩, _, hm, AllT.few (m := 100000) (by omega) (Nat.le_refl _), same_put nD4 s34, _, AllT.put, by omega⟩
      · rintro H4 ⟨s34, m, hm, ml⟩
        rw [List.length_map] at ml
        exact ⟨s34, m, hm, by omega⟩
    · rintro H4 ⟨s4, n, hD4, _⟩
      refine ⟨D4, _, rfl, SqL.of hD4, ?_⟩
      rw [all_true]
      exact q H4 ((s12.trans s3).trans s4)
end
end Tg

namespace Tg
open PySem PySem.Spec PyProof.Rows L2
/-! ### a def called with n values, then keywords ks; gV: all its parameters, from these and the defaults -/
section
variable (P : Program) (w : World) (K : PySem.W.Frag) (mg : Str → Option Value) (base : Heap)
def CalN (k : Nat) (x : Str) (ps : List Str) (n : Nat) (ks : List Str) (gV : List V → List V → List V) (sp : Sp) : Prop := ∃ f fd g, FnOk P w K mg base CX0 k f fd ps sp ∧ mg x = some (.ref f) ∧ PySem.W.keepIn K (.ref f) = true ∧ KBn K fd ps n ks g gV
end
section
variable {X : Cx} {k n : Nat} {ps ks : List Str} {gV : List V → List V → List V} {sp : Sp} {x : Str} {e : Expr} {es : List Expr} {p pos : Pos} {kws : List Keyword} {t tk : TA}
theorem pe_calN (c : CalN X.prog X.w X.K X.mg X.base k x ps n ks gV sp) (hr : Room k X.A) (gl : Gl X x) (ha : PA X (e :: es) t) (vals : PK X kws tk)
    (named : (backToKw pos (keywordEach kws X.env)).all (·.1.isSome) = true := by rfl) (names : (backToKw pos (keywordEach kws X.env)).filterMap (·.1) = ks := by rfl) (nodebug : (x == ("__debug__" : Str)) = false := by decide)
    (one : starEach (e :: es) X.env = (false, eval e X.env) :: starEach es X.env := by rfl) (nostar : ((backTo pos (starEach (e :: es) X.env)).any (·.1) || (backToKw pos (keywordEach kws X.env)).any (·.1.isNone)) = false := by rfl) :
    PE X (.Call (.Name x p) (e :: es) kws pos) (tCallN n ks.length sp gV E0 t tk) := by
  obtain ⟨f, fd, g, F, hm, hk, hb⟩ := c
  exact pe_callN F hr gl hm hk hb pass0 ha vals named names nodebug one nostar
end
end Tg

set_option maxHeartbeats 1000000
namespace Tg
open PySem PySem.Spec PyProof.Rows L2 Pl
/-! ### shows_least: of what least_plan tells -/
abbrev sSl : Stmt := topS 16
abbrev NSl : List Str := ["thing", "start", "end", "horizon", "cells", "points", "steps", "heights"]
theorem scSl : FnScope NSl ["thing", "start", "end", "horizon", "cells", "points"] (defScope sSl) := ⟨rfl, rfl, rfl, by decide +kernel, rfl, by decide +kernel, by decide +kernel⟩
section
variable {P : Program} {w : World} {K : PySem.W.Frag} {mg : Str → Option Value} {base : Heap} {f : Addr} {fd : FuncData} {k : Nat}
/-- keywords in the order of the parameters, behind the others -/
abbrev gRow : List V → List V → List V := fun vs zs => vs ++ zs
def spSl (K : PySem.W.Frag) : Sp := fun vs H Q _ => ∃ (W : Wd) (t c p : Addr), vs = [.ref t, .int W.s, .int W.e, hV W.h, .ref c, .ref p] ∧ Handed K H W c p ∧ W.Ok ∧ W.ps.length ≤ 1000000 ∧ (Gap H t W ∨ ∃ o L, Plan H t W o L) ∧ ∀ H', Same H H' → Q (.bl true) H'
theorem ok_sl (F : Fun K "shows_least" "shows_least" sSl f fd) (C_steps_from : Cal P w K mg base k "steps_from" ["start", "end", "horizon", "cells", "points"] (spSf K)) (C_is_gap : Cal P w K mg base k "is_gap" ["thing", "start", "end", "steps"] spGa) (C_is_plan_n : CalN P w K mg base k "is_plan" ["pieces", "start", "end", "horizon", "cells"] 3 ["horizon", "cells"] gRow (spPl K))
    (C_height_table : Cal P w K mg base k "height_table" ["thing", "start", "end", "steps"] spHt) (C_cost_of : Cal P w K mg base k "cost_of" ["pieces", "points"] (spCo K)) (m_isinstance : mg "isinstance" = none) (m_tuple : mg "tuple" = none) (m_len : mg "len" = none) : FnOk P w K mg base CX0 (k + 1) f fd ["thing", "start", "end", "horizon", "cells", "points"] (spSl K) := by
  refine F.ok scSl (fun vs H Q E h => ?_) (fun cdv A outer s H vs Q E hr h => ?_)
  · obtain ⟨W, t, c, p, rfl, _⟩ := h
    rfl
  · obtain ⟨W, t, c, p, rfl, hh, ok, pl, told, q⟩ := h
    have hu1 := hr.units
    have hu : (A.deeper (envOfC "shows_least" (defScope sSl) s.heap.objs.size f cdv)).units + 1 < cLine := by omega
    refine ⟨_, pss_cons (ps_if (PW.pt (pw_or (pt_not (pt_val (pe_callB call_isi (by rfl) m_isinstance (by decide +kernel) (pa_cons (pv 0) (pa_cons (pe_bltn (v := .ty "tuple") (by rfl) m_tuple (by decide +kernel) rfl) pa_nil))))) (pw_or1 (pt_cmpR op_notIn_seq (pe_callB call_len_seq (by rfl) m_len (by decide +kernel) (pa_cons (pv 0) pa_nil)) (pe_tup (pa_cons pe_int (pa_cons pe_int pa_nil))) (by with_unfolding_all rfl)))))
        (pss_one (ps_ret pe_bl))
        pss_nil)
      (pss_cons (ps_set (i := 6) scSl.nd rfl (.inl rfl) (pe_cal C_steps_from (hr.mono (by omega)) (by rfl) (pa_cons (pv 1) (pa_cons (pv 2) (pa_cons (pv 3) (pa_cons (pv 4) (pa_cons (pv 5) pa_nil)))))))
      (pss_cons (ps_if (pt_cmpR op_eq (pe_callB call_len_seq (by rfl) m_len (by decide +kernel) (pa_cons (pv 0) pa_nil)) pe_int (nomark _))
        (pss_one (ps_ret (pe_and (pe_cmpR op_eq (pe_ix ix_tup (pv 0) pe_int (fun _ _ => rfl)) pe_str (nomark _)) (pe_one (pe_cal C_is_gap (hr.mono (by omega)) (by rfl) (pa_cons (pe_ix ix_tup (pv 0) pe_int (fun _ _ => rfl)) (pa_cons (pv 1) (pa_cons (pv 2) (pa_cons (pv 6) pa_nil)))))))))
        pss_nil)
      (pss_cons (ps_if (PW.pt (pw_or (pt_cmpR op_ne (pe_ix ix_tup (pv 0) pe_int (fun _ _ => rfl)) pe_str (nomark _)) (pw_or1 (pt_not (pt_val (pe_calN C_is_plan_n (hr.mono (by omega)) (by rfl) (pa_cons (pe_ix ix_tup (pv 0) pe_int (fun _ _ => rfl)) (pa_cons (pv 1) (pa_cons (pv 2) pa_nil))) (pk_cons (pv 3) (pk_cons (pv 4) pk_nil))))))))
        (pss_one (ps_ret pe_bl))
        pss_nil)
      (pss_cons (ps_set (i := 7) scSl.nd rfl (.inl rfl) (pe_cal C_height_table (hr.mono (by omega)) (by rfl) (pa_cons (pe_ix ix_tup (pv 0) pe_int (fun _ _ => rfl)) (pa_cons (pv 1) (pa_cons (pv 2) (pa_cons (pv 6) pa_nil))))))
      (pss_one (ps_ret (pe_and (pe_cmpR op_notN (pv 7) pe_non (nomark _)) (pe_one (pe_cmpR op_eq (pe_dget hu (pv 7) (pv 2) (fun _ _ => rfl)) (pe_cal C_cost_of (hr.mono (by omega)) (by rfl) (pa_cons (pe_ix ix_tup (pv 0) pe_int (fun _ _ => rfl)) (pa_cons (pv 5) pa_nil))) (nomark _)))))))))), ?_⟩
    rcases told with ⟨ho, b, ht, hb⟩ | ⟨o, L, ho, ch, tt, _, b1, b2, ht, pls, hl⟩
    · refine ⟨_, rfl, _, _, _, _, true, rfl, .ty "tuple", .base (.tup ht), rfl, true, rfl, if_f ?_⟩
      refine ⟨_, rfl, t, _, rfl, .inr (SqT.of ht), by show 2 ≤ sizeLine; decide, fun u nu => ?_⟩
      have su := same_new (o := .tup [.int 2, .int 3]) nu
      refine ⟨u, _, rfl, .inr (SqT.of upd_same), rfl, rfl, false, rfl, if_f ?_⟩
      refine ⟨_, rfl, _, rfl, _, rfl, _, rfl, _, rfl, W, c, p, rfl, hh.same su, fun d ls H1 s1 nd S => ?_⟩
      have ht1 := s1 _ _ (su _ _ ht)
      have hb1 : NL H1 b (reached W) := s1 _ _ (su _ _ hb)
      refine ⟨_, rfl, t, _, rfl, .inr (SqT.of ht1), rfl, true, rfl, if_t ?_⟩
      refine ⟨_, rfl, t, _, 0, .str "gap", rfl, rfl, SqT.of ht1, rfl, rfl, true, rfl, if_t ?_⟩
      exact ⟨_, rfl, t, _, 1, .ref b, rfl, rfl, SqT.of ht1, rfl, _, rfl, _, rfl, _, rfl, W, b, d, ls, rfl, ok, hh.few, hb1, ho, S, fun H2 s2 => q H2 ((su.trans s1).trans s2)⟩
    · refine ⟨_, rfl, _, _, _, _, true, rfl, .ty "tuple", .base (.tup ht), rfl, true, rfl, if_f ?_⟩
      refine ⟨_, rfl, t, _, rfl, .inr (SqT.of ht), by show 2 ≤ sizeLine; decide, fun u nu => ?_⟩
      have su := same_new (o := .tup [.int 2, .int 3]) nu
      refine ⟨u, _, rfl, .inr (SqT.of upd_same), rfl, rfl, false, rfl, if_f ?_⟩
      refine ⟨_, rfl, _, rfl, _, rfl, _, rfl, _, rfl, W, c, p, rfl, hh.same su, fun d ls H1 s1 nd S => ?_⟩
      have s01 := su.trans s1
      have ht1 := s01 _ _ ht
      have pls1 : PLst H1 b1 L := by
        obtain ⟨ts, x, y⟩ := pls
        exact ⟨ts, s01 _ _ x, y.same s01⟩
      refine ⟨_, rfl, t, _, rfl, .inr (SqT.of ht1), rfl, false, rfl, if_f ?_⟩
      refine ⟨_, rfl, t, _, 0, .str "plan", rfl, rfl, SqT.of ht1, rfl, rfl, false, rfl, if_f ?_⟩
      refine ⟨_, rfl, t, _, 1, .ref b1, rfl, rfl, SqT.of ht1, rfl, _, rfl, _, rfl, _, rfl, _, rfl, rfl, rfl, W, b1, c, L, rfl, pls1, (hh.same s01).cells, hh.few, ch, fun H2 s2 => ⟨true, rfl, if_f ?_⟩⟩
      have s02 := s01.trans s2
      have ht2 := s02 _ _ ht
      have hl2 : HL H2 b2 W := by
        obtain ⟨ts, x, y, z⟩ := hl
        exact ⟨ts, s02 _ _ x, y, fun i t x o e1 e2 e3 => s02 _ _ (z i t x o e1 e2 e3)⟩
      refine ⟨_, rfl, t, _, 2, .ref b2, rfl, rfl, SqT.of ht2, rfl, _, rfl, _, rfl, _, rfl, W, b2, d, ls, o, rfl, ok, hh.few, hl2, ho, S.same s2, fun hd H3 s3 nh hr3 => ?_⟩
      obtain ⟨kvs, hk, _, v, _⟩ := hr3.val W.e
      rw [ho] at v
      have s03 := s02.trans s3
      have pls3 : PLst H3 b1 L := by
        obtain ⟨ts, x, y⟩ := pls
        exact ⟨ts, s03 _ _ x, y.same s03⟩
      refine ⟨_, rfl, rfl, true, rfl, if_t ?_⟩
      refine ⟨_, rfl, _, rfl, hd, .int o, rfl, .inl ⟨kvs, .inl W.e, .inl hk, rfl, v.symm⟩, ?_⟩
      refine ⟨_, rfl, t, _, 1, .ref b1, rfl, rfl, SqT.of (s03 _ _ ht), rfl, _, rfl, b1, p, L, W.ps, rfl, pls3, (hh.same s03).pts, pl, fun H4 s4 => ⟨rfl, ?_⟩⟩
      show Q (V.bl (decide (V.int o = V.int (tot W.ps L)))) H4
      rw [tt, decide_eq_true rfl]
      exact q H4 (s03.trans s4)
end
end Tg

namespace Tg
open PySem PySem.Spec PyProof.Rows L2
/-! ### slices of lists of ints -/
theorem cutN_some (ns : List Int) (lo hi : Option Int) : ∃ ms : List Int, cutV (ns.map V.int) lo hi = ms.map V.int ∧ ms.length ≤ ns.length ∧ ∀ x, x ∈ ms → x ∈ ns := by
  unfold cutV
  refine ⟨(ns.drop (HT.sIx (ns.map V.int).length 0 lo)).take (HT.sIx (ns.map V.int).length (ns.map V.int).length hi - HT.sIx (ns.map V.int).length 0 lo), ?_, ?_, fun x hx => List.mem_of_mem_drop (List.mem_of_mem_take hx)⟩
  · rw [List.map_take, List.map_drop]
  · simp only [List.length_take, List.length_drop]
    omega
theorem cutN_take (ns : List Int) (i : Nat) : cutV (ns.map V.int) none (some (i : Int)) = (ns.take i).map V.int := by
  unfold cutV
  have e : HT.sIx (ns.map V.int).length (ns.map V.int).length (some (i : Int)) = min i ns.length := by
    show (if (i : Int) < 0 then ((i : Int) + ((ns.map V.int).length : Nat)).toNat else min (i : Int).toNat (ns.map V.int).length) = _
    rw [if_neg (by omega), List.length_map]
    rfl
  rw [HT.sIx_none, e, List.drop_zero, Nat.sub_zero, List.map_take]
  rw [← List.length_map (f := V.int), List.take_eq_take_iff]
  omega
theorem cutN_drop (ns : List Int) (i : Nat) : cutV (ns.map V.int) (some (i : Int)) none = (ns.drop i).map V.int := by
  unfold cutV
  have e : HT.sIx (ns.map V.int).length 0 (some (i : Int)) = min i ns.length := by
    show (if (i : Int) < 0 then ((i : Int) + ((ns.map V.int).length : Nat)).toNat else min (i : Int).toNat (ns.map V.int).length) = _
    rw [if_neg (by omega), List.length_map]
    rfl
  rw [HT.sIx_none, e, List.map_drop, List.length_map]
  rcases Nat.le_total i ns.length with c | c
  · rw [Nat.min_eq_left c]
    exact List.take_of_length_le (by rw [List.length_drop, List.length_map]; omega)
  · rw [Nat.min_eq_right c, Nat.sub_self, List.take_zero]
    exact (List.drop_eq_nil_of_le (by rw [List.length_map]; exact c)).symm
end Tg

set_option maxHeartbeats 1000000
namespace Tg
open PySem PySem.Spec PyProof.Rows L2 Pl
/-! ### _law_steps -/
def trT (u : Stp) : HO := .tup [.int u.fr, .int u.to, .int u.cost]
/-- a list of steps, as the law writes them -/
def TrL (H : Hp) (D : Addr) (us : List Stp) : Prop := ∃ ts : List Addr, H D = some (.lst (ts.map V.ref)) ∧ ts.length = us.length ∧ ∀ (i : Nat) (t : Addr) (u : Stp), ts[i]? = some t → us[i]? = some u → H t = some (trT u)
theorem TrL.same {H H' : Hp} {D : Addr} {us : List Stp} (s : Same H H') (h : TrL H D us) : TrL H' D us := by
  obtain ⟨ts, h1, h2, h3⟩ := h
  exact ⟨ts, s _ _ h1, h2, fun i t u e1 e2 => s _ _ (h3 i t u e1 e2)⟩
theorem TrL.nil {H : Hp} {D : Addr} (h : H D = some (.lst [])) : TrL H D [] := ⟨[], h, rfl, fun i t u e => by simp at e⟩
theorem TrL.put {H : Hp} {D t : Addr} {us : List Stp} {ts : List Addr} (hD : H D = some (.lst (ts.map V.ref))) (lt : ts.length = us.length) (each : ∀ (i : Nat) (t : Addr) (u : Stp), ts[i]? = some t → us[i]? = some u → H t = some (trT u)) (u : Stp) (nt : H t = none) :
    TrL (upd (upd H t (trT u)) D (.lst (ts.map V.ref ++ [.ref t]))) D (us ++ [u]) := by
  have st := same_new (o := trT u) nt
  have tD : t ≠ D := fun z => by
    rw [z, hD] at nt
    cases nt
  refine ⟨ts ++ [t], by rw [upd_same, List.map_append]; rfl, by rw [List.length_append, List.length_append, lt]; rfl, fun i b v e1 e2 => ?_⟩
  by_cases il : i < ts.length
  · rw [List.getElem?_append_left il] at e1
    rw [List.getElem?_append_left (by omega)] at e2
    have hb := each i b v e1 e2
    have bD : b ≠ D := fun z => by
      rw [z, hD] at hb
      cases hb
    rw [upd_ne bD]
    exact st _ _ hb
  · have l2 := (List.getElem?_eq_some_iff.mp e1).1
    rw [List.length_append] at l2
    have l2 : i < ts.length + 1 := l2
    have ei : i = ts.length := by omega
    rw [ei, List.getElem?_append_right (Nat.le_refl _), Nat.sub_self] at e1
    rw [ei, lt, List.getElem?_append_right (Nat.le_refl _), Nat.sub_self] at e2
    obtain rfl : t = b := Option.some.inj e1
    obtain rfl : u = v := Option.some.inj e2
    rw [upd_ne tD, upd_same]
/-- a loop over zip of two lists, n turns -/
theorem for_zipN {K : PySem.W.Frag} {a b : Addr} {xs ys : List V} {g : TG} {tb : TS} {D : Ends} {σ : L2.St} {H : Hp} (n : Nat) (lx : n ≤ xs.length) (ly : n = ys.length) (Pv : Nat → L2.St → Hp → Prop) (first : Pv 0 σ H) (keep : ∀ i σ H, Pv i σ H → SqL K H a xs ∧ SqL K H b ys)
    (round : ∀ (i : Nat) (x y : V) (T : Addr) (σ : L2.St) (H : Hp), xs[i]? = some x → ys[i]? = some y → Pv i σ H → H T = none → g (.ref T) σ (upd H T (.tup [x, y])) fun σ2 H2 => tb { D with nx := Pv (i + 1), ct := Pv (i + 1), bk := D.nx } σ2 H2) (last : ∀ σ H, Pv n σ H → D.nx σ H) : Rounds (Itz K a b) g tb D σ H := by
  refine ⟨fun i m σ H => m = n - i ∧ i ≤ n ∧ Pv i σ H, ⟨n, rfl, Nat.zero_le _, first⟩, ?_⟩
  rintro i m σ H ⟨rfl, hi, p⟩
  obtain ⟨qx, qy⟩ := keep i σ H p
  by_cases lt : i < n
  · refine .inr ⟨⟨xs, ys, xs[i], ys[i], qx, qy, List.getElem?_eq_getElem (by omega), List.getElem?_eq_getElem (by omega)⟩, Pv (i + 1), fun σ2 H2 p2 => ⟨n - (i + 1), by omega, rfl, lt, p2⟩, fun v H2 y => ?_⟩
    obtain ⟨T, x2, y2, rfl, nT, rfl, f1, f2⟩ := y
    exact round i x2 y2 T σ H (f1 xs qx) (f2 ys qy) p nT
  · obtain rfl : i = n := by omega
    exact .inl ⟨⟨xs, ys, qx, qy, .inr (by omega)⟩, last σ H p⟩
abbrev sLs : Stmt := topS 23
abbrev NLs : List Str := ["_law_world_here", "_law_a_start", "_law_a_end", "_law_a_horizon", "_law_a_cells", "_law_a_points", "_law_told", "_law_one", "_law_two", "_law_edges_here", "_law_time"]
theorem scLs : FnScope NLs ["_law_world_here"] (defScope sLs) := ⟨rfl, rfl, rfl, by decide +kernel, rfl, by decide +kernel, by decide +kernel⟩
theorem chain_count {ps : List Int} {j : Nat} {y a b : Int} (ey : ps[j]? = some y) : (ps.take (j + 1)).filter (fun y => decide (a ≤ y ∧ y < b)) = (ps.take j).filter (fun y => decide (a ≤ y ∧ y < b)) ++ if a ≤ y ∧ y < b then [y] else [] := by
  rw [List.take_add_one, ey, List.filter_append]
  congr 1
  show List.filter _ [y] = _
  rw [List.filter_cons]
  by_cases c : a ≤ y ∧ y < b
  · rw [decide_eq_true c, if_pos c]
    rfl
  · rw [decide_eq_false c, if_neg c]
    rfl
section
variable {P : Program} {w : World} {K : PySem.W.Frag} {mg : Str → Option Value} {base : Heap} {f : Addr} {fd : FuncData} {k : Nat}
def spLs (K : PySem.W.Frag) : Sp := fun vs H Q _ => ∃ (W : Wd) (t c p : Addr), vs = [.ref t] ∧ WorldR K H t W c p ∧ W.ps.length ≤ 1000 ∧ ∀ (m : Addr) (H' : Hp), Same H H' → H m = none → TrL H' m (clS W ++ ptS W) → Q (.ref m) H'
theorem ok_ls (F : Fun K "_law_steps" "_law_steps" sLs f fd) (L_edges : Cal P w K mg base k "_law_edges" ["_law_world_here"] (spLe K)) (m_zip : mg "zip" = none) (m_len : mg "len" = none) : FnOk P w K mg base CX0 (k + 1) f fd ["_law_world_here"] (spLs K) := by
  refine F.ok scLs (fun vs H Q E h => ?_) (fun cdv A outer s H vs Q E hr h => ?_)
  · obtain ⟨W, t, c, p, rfl, _⟩ := h
    rfl
  · obtain ⟨W, t, c, p, rfl, wd, many, q⟩ := h
    obtain ⟨ht, ⟨⟨ts, sq, lts, hts⟩, hp, few⟩⟩ := id wd
    refine ⟨_, pss_cons (ps_asg (pv 0) (pg_tup rfl (pgs_cons (pg_name (i := 1) scLs.nd rfl (.inr rfl)) (pgs_cons (pg_name (i := 2) scLs.nd rfl (.inr rfl)) (pgs_cons (pg_name (i := 3) scLs.nd rfl (.inl rfl)) (pgs_cons (pg_name (i := 4) scLs.nd rfl (.inl rfl)) (pgs_cons (pg_name (i := 5) scLs.nd rfl (.inl rfl)) pgs_nil)))))))
      (pss_cons (ps_setLc (i := 6) (own := [("_law_one", 7), ("_law_two", 8)]) (g := (gTup K 2 (gCons (gName 7) (gCons (gName 8) gNil)))) rfl scLs.nd rfl rfl (sw_true rfl rfl rfl (by decide +kernel)) (pi_seq (pv 4)) (blkOk_by (own := [("_law_one", 7), ("_law_two", 8)]) (N := NLs) (sc := defScope sLs) (by decide +kernel)) (fun _ _ _ _ _ => (pg_tup rfl (pgs_cons (pg_name (i := 7) scLs.nd rfl (.inl rfl)) (pgs_cons (pg_name (i := 8) scLs.nd rfl (.inl rfl)) pgs_nil)))) (fun _ _ _ _ _ => pts_one (PW.pt (pw_and (pt_cmpR op_le (pv 1) (pv 7) (nomark _)) (pw_and1 (pt_cmpR op_le (pv 8) (pv 2) (nomark _)))))) (fun _ _ _ _ _ => (pe_tup (pa_cons (pv 7) (pa_cons (pv 8) (pa_cons pe_int pa_nil))))))
      (pss_cons (ps_set (i := 9) scLs.nd rfl (.inl rfl) (pe_cal L_edges (hr.mono (by omega)) (by rfl) (pa_cons (pv 0) pa_nil)))
      (pss_cons (ps_for PassesOwn.never rfl (pi_zip (by rfl) m_zip (pa_cons (pv 9) (pa_cons (pe_slice sl_list (pv 9) (po_some pe_int) po_none) pa_nil))) (pg_tup rfl (pgs_cons (pg_name (i := 7) scLs.nd rfl (.inr rfl)) (pgs_cons (pg_name (i := 8) scLs.nd rfl (.inr rfl)) pgs_nil)))
        (pss_one (ps_if (PW.pt (pw_or (pt_cmpR op_isN (pv 3) pe_non (nomark _)) (pw_or1 (pt_cmpR op_ge (pv 7) (pv 3) (nomark _)))))
          (pss_one (ps_expr (pe_bm PySem.F.plainAttrs_list PySem.F.slot_list_append PySem.F.type_list_append mt_append (pv 6) (pa_cons (pe_tup (pa_cons (pv 7) (pa_cons (pv 8) (pa_cons (pe_callB call_len_seq (by rfl) m_len (by decide +kernel) (pa_cons (pe_lc (own := [("_law_time", 10)]) (g := (gName 10)) rfl scLs.nd (pi_seq (pv 5)) (blkOk_by (own := [("_law_time", 10)]) (N := NLs) (sc := defScope sLs) (by decide +kernel)) (fun _ _ _ _ _ => (pg_name (i := 10) scLs.nd rfl (.inl rfl))) (fun _ _ _ _ _ => pts_one (pt_chain op_le op_lt (pv 7) (pv 10) (pv 8))) (fun _ _ _ _ _ => (pv 10))) pa_nil)) pa_nil)))) pa_nil))))
          pss_nil)))
      (pss_one (ps_ret (pv 6)))))), ?_⟩
    refine ⟨_, rfl, t, _, rfl, SqT.of ht, rfl, _, _, rfl, _, _, rfl, _, _, rfl, _, _, rfl, _, _, rfl, rfl, ?_⟩
    refine ⟨_, rfl, c, rfl, lc_seq (a := c) (xs := ts.map V.ref) sq (fun D i H1 => Same H H1 ∧ TrL H1 D (clP W i)) (fun D nD => ⟨same_new nD, .nil upd_same⟩) (fun D i H1 _ h o e => h.1 _ _ e) ?_ ?_⟩
    · rintro D i x Hc nD hx ⟨sc, hl⟩
      rw [List.getElem?_map] at hx
      obtain ⟨tc, et, rfl⟩ := Option.map_eq_some_iff.mp hx
      obtain ⟨cc, ec⟩ : ∃ cc, W.cs[i]? = some cc := ⟨_, List.getElem?_eq_getElem (by rw [← lts]; exact (List.getElem?_eq_some_iff.mp et).1)⟩
      have il : i < W.cs.length := (List.getElem?_eq_some_iff.mp ec).1
      have hc := sqT_same sc (hts i tc cc et ec)
      rw [clP_step ec]
      refine ⟨tc, _, rfl, hc, rfl, _, _, rfl, _, _, rfl, rfl, rfl, ?_⟩
      have stay : (¬ (W.s ≤ cc.1 ∧ cc.2 ≤ W.e)) → Same H Hc ∧ TrL Hc D (clP W i ++ if W.s ≤ cc.1 ∧ cc.2 ≤ W.e then [⟨true, cc.1, cc.2, 1⟩] else []) := fun h => by
        rw [if_neg h, List.append_nil]
        exact ⟨sc, hl⟩
      by_cases h1 : W.s ≤ cc.1
      · refine ⟨_, rfl, _, rfl, _, _, rfl, rfl, true, congrArg V.bl (decide_eq_true h1), if_t ?_⟩
        by_cases h2 : cc.2 ≤ W.e
        · refine ⟨_, rfl, _, rfl, _, _, rfl, rfl, true, congrArg V.bl (decide_eq_true h2), if_t ?_⟩
          refine ⟨_, rfl, _, rfl, by show 3 ≤ sizeLine; decide, fun u nu => ?_⟩
          obtain ⟨us, hD, lu, each⟩ := hl
          have su := same_new (o := trT ⟨true, cc.1, cc.2, 1⟩) nu
          rw [if_pos ⟨h1, h2⟩]
          refine ⟨_, su _ _ hD, ?_, same_put nD (sc.trans su), .put hD lu each ⟨true, cc.1, cc.2, 1⟩ nu⟩
          have := clP_len W i
          rw [List.length_map]
          exact small1000 (by omega)
        · exact ⟨_, rfl, _, rfl, _, _, rfl, rfl, false, congrArg V.bl (decide_eq_false h2), if_f (stay fun z => h2 z.2)⟩
      · exact ⟨_, rfl, _, rfl, _, _, rfl, rfl, false, congrArg V.bl (decide_eq_false h1), if_f (if_f (stay fun z => h1 z.1))⟩
    · rintro D H1 nD ⟨s1, hl⟩
      have all : clP W (ts.map V.ref).length = clS W := by
        unfold clP clS ins
        rw [List.length_map, lts, List.take_length]
      rw [all] at hl
      refine ⟨_, rfl, W, t, c, p, rfl, wd.same s1, fun m H2 s2 nm hm => ?_⟩
      have ne1 := edg_pos W
      have mD : m ≠ D := fun z => by
        obtain ⟨_, e, _⟩ := hl
        rw [z, e] at nm
        cases nm
      have el := edg_len W
      refine ⟨_, rfl, _, rfl, 1, rfl, m, _, rfl, SqL.of hm, fun m2 nm2 => ?_⟩
      rw [show cutV ((edg W).map V.int) (some 1) none = ((edg W).drop 1).map V.int from cutN_drop (edg W) 1]
      have s3 := same_new (o := .lst (((edg W).drop 1).map V.int)) nm2
      have m2D : m2 ≠ D := fun z => by
        obtain ⟨_, e, _⟩ := hl
        rw [z, s2 _ _ e] at nm2
        cases nm2
      have hm3 := s3 _ _ hm
      have hp3 := sqA_same ((s1.trans s2).trans s3) hp
      refine ⟨m, m2, _, _, rfl, SqL.of hm3, SqL.of upd_same, for_zipN ((edg W).length - 1) (by rw [List.length_map]; omega) (by rw [List.length_map, List.length_drop]) (fun i σ Hc => ∃ z7 z8 z10 : Option V, σ = [some (.ref t), some (.int W.s), some (.int W.e), some (hV W.h), some (.ref c), some (.ref p), some (.ref D), z7, z8, some (.ref m), z10] ∧ Same H Hc ∧ Hc m = some (.lst ((edg W).map V.int)) ∧ Hc m2 = some (.lst (((edg W).drop 1).map V.int)) ∧ TrL Hc D (clS W ++ ptP W i)) ⟨none, none, none, rfl, (s1.trans s2).trans s3, hm3, upd_same, by rw [show clS W ++ ptP W 0 = clS W ++ [] from rfl, List.append_nil]; exact hl.same (s2.trans s3)⟩ (fun i σ Hc ⟨_, _, _, _, _, h1, h2, _⟩ => ⟨SqL.of h1, SqL.of h2⟩) ?_ ?_⟩
      · rintro i x y T σ Hc hx hy ⟨z7, z8, z10, rfl, sc, hm, hm2, hl⟩ nT
        rw [List.getElem?_map] at hx hy
        obtain ⟨a, ex, rfl⟩ := Option.map_eq_some_iff.mp hx
        obtain ⟨b, ey, rfl⟩ := Option.map_eq_some_iff.mp hy
        rw [List.getElem?_drop, Nat.add_comm] at ey
        have nx := ptP_step ex ey
        have il := (List.getElem?_eq_some_iff.mp ey).1
        have sT := same_new (o := .tup [.int a, .int b]) nT
        obtain ⟨H4, e4⟩ : ∃ H4, upd Hc T (.tup [.int a, .int b]) = H4 := ⟨_, rfl⟩
        have hT : H4 T = some (.tup [.int a, .int b]) := by
          rw [← e4]
          exact upd_same
        rw [e4] at sT ⊢
        have sc4 := sc.trans sT
        have hm4 := sT _ _ hm
        have hm24 := sT _ _ hm2
        have hl4 := hl.same sT
        refine ⟨T, _, rfl, SqT.of hT, rfl, _, _, rfl, _, _, rfl, rfl, ?_⟩
        rw [nx]
        cases hk : hok W.h a with
        | true =>
          rw [if_pos rfl]
          cases hW : W.h
          case' none =>
            refine ⟨_, rfl, rfl, true, rfl, if_t (if_t ?_)⟩
          case' some z =>
            have zx : z ≤ a := by
              rw [hW] at hk
              exact of_decide_eq_true hk
            refine ⟨_, rfl, rfl, false, rfl, if_f ⟨_, rfl, _, rfl, a, z, rfl, rfl, true, congrArg V.bl (decide_eq_true zx), if_t ?_⟩⟩
          all_goals
            rw [← hW]
            obtain ⟨us, hD, lu, each⟩ := hl4
            refine ⟨_, rfl, .inl ⟨rfl, _, SqL.of hD⟩, _, rfl, _, rfl, _, rfl, p, rfl, lc_seq (a := p) (xs := W.ps.map V.int) (sqA_same sc4 hp) (fun D3 i H1 => Same H4 H1 ∧ H1 D3 = some (.lst (((W.ps.take i).filter fun y => decide (a ≤ y ∧ y < b)).map V.int))) (fun D3 nD3 => ⟨same_new nD3, upd_same⟩) (fun D3 i H1 _ h o e => h.1 _ _ e) ?_ ?_⟩
            · rintro D3 j v2 H1 nD3 hv2 ⟨s1, hD3⟩
              rw [List.getElem?_map] at hv2
              obtain ⟨y, ey, rfl⟩ := Option.map_eq_some_iff.mp hv2
              have jl : j < W.ps.length := (List.getElem?_eq_some_iff.mp ey).1
              rw [chain_count ey]
              refine ⟨rfl, ?_⟩
              have app : ∀ c, (upd H1 D3 (.lst (((W.ps.take j).filter fun y => decide (a ≤ y ∧ y < b)).map V.int ++ [.int c]))) D3 = some (.lst (((W.ps.take j).filter (fun y => decide (a ≤ y ∧ y < b)) ++ [c]).map V.int)) := fun c => by
                rw [upd_same, List.map_append]
                rfl
              have sml : (((W.ps.take j).filter fun y => decide (a ≤ y ∧ y < b)).map V.int).length < sizeLine := by
                have := List.length_filter_le (fun y => decide (a ≤ y ∧ y < b)) (W.ps.take j)
                rw [List.length_take] at this
                rw [List.length_map]
                exact million (by omega)
              have stay : ¬ (a ≤ y ∧ y < b) → Same H4 H1 ∧ H1 D3 = some (.lst (((W.ps.take j).filter (fun y => decide (a ≤ y ∧ y < b)) ++ if a ≤ y ∧ y < b then [y] else []).map V.int)) := fun c => ⟨s1, by
                rw [if_neg c, List.append_nil]
                exact hD3⟩
              by_cases c1 : a ≤ y
              · by_cases c2 : y < b
                · refine ⟨_, rfl, _, rfl, _, _, rfl, rfl, true, congrArg V.bl (decide_eq_true c1), if_t ⟨_, rfl, _, _, rfl, rfl, true, congrArg V.bl (decide_eq_true c2), if_t ?_⟩⟩
                  rw [if_pos ⟨c1, c2⟩]
                  exact ⟨_, rfl, _, hD3, sml, same_put nD3 s1, app y⟩
                · exact ⟨_, rfl, _, rfl, _, _, rfl, rfl, true, congrArg V.bl (decide_eq_true c1), if_t ⟨_, rfl, _, _, rfl, rfl, false, congrArg V.bl (decide_eq_false c2), if_f (stay fun z => c2 z.2)⟩⟩
              · exact ⟨_, rfl, _, rfl, _, _, rfl, rfl, false, congrArg V.bl (decide_eq_false c1), if_f ⟨false, rfl, if_f (stay fun z => c1 z.1)⟩⟩
            · rintro D3 H1 nD3 ⟨s1, hD3⟩
              rw [List.length_map, List.take_length] at hD3
              have el : (((W.ps.filter fun y => decide (a ≤ y ∧ y < b)).map V.int).length : Int) = (cnt W.ps a b : Nat) := by
                rw [List.length_map]
                rfl
              refine ⟨D3, _, rfl, .inl (SqL.of hD3), by show 3 ≤ sizeLine; decide, fun u nu => ?_⟩
              rw [el]
              have su := same_new (o := trT ⟨false, a, b, cnt W.ps a b⟩) nu
              have pt := TrL.put (s1 _ _ hD) lu (fun i t u e1 e2 => s1 _ _ (each i t u e1 e2)) ⟨false, a, b, cnt W.ps a b⟩ nu
              have nD2 : H D = none := nD
              have s14 : Same H (upd (upd H1 u (trT ⟨false, a, b, cnt W.ps a b⟩)) D (.lst (us.map V.ref ++ [.ref u]))) := same_put nD2 ((sc4.trans s1).trans su)
              refine ⟨D, _, _, rfl, rfl, su _ _ (s1 _ _ hD), ?_, _, _, _, rfl, s14, ?_, ?_, ?_⟩
              · have l1 := clP_len W W.cs.length
                have l2 := ptP_len W i
                have l3 : (clS W).length ≤ W.cs.length := by
                  unfold clS ins
                  rw [List.length_map]
                  exact List.length_filter_le ..
                rw [List.length_map, lu, List.length_append]
                exact small1000 (by omega)
              · rw [upd_ne mD]
                exact su _ _ (s1 _ _ hm4)
              · rw [upd_ne m2D]
                exact su _ _ (s1 _ _ hm24)
              · rw [← List.append_assoc]
                exact pt
        | false =>
          rw [if_neg (by decide), List.append_nil]
          cases hW : W.h with
          | none =>
            rw [hW] at hk
            cases hk
          | some z =>
            have zx : ¬ z ≤ a := by
              rw [hW] at hk
              exact of_decide_eq_false hk
            refine ⟨_, rfl, rfl, false, rfl, if_f ⟨_, rfl, _, rfl, a, z, rfl, rfl, false, congrArg V.bl (decide_eq_false zx), if_f ?_⟩⟩
            rw [← hW]
            exact ⟨_, _, _, rfl, sc4, hm4, hm24, hl4⟩
      · rintro σ Hc ⟨z7, z8, z10, rfl, sc, hm, hm2, hl⟩
        rw [ptP_all rfl] at hl
        exact ⟨_, rfl, q D Hc sc nD hl⟩
end
end Tg

set_option maxHeartbeats 1000000
namespace Tg
open PySem PySem.Spec PyProof.Rows L2 Pl
/-! ### _law_costs -/
abbrev sLc : Stmt := topS 24
theorem scLc : FnScope ["_law_world_here", "_law_costs_here", "_law_at", "_law_one", "_law_two", "_law_cost"] ["_law_world_here"] (defScope sLc) := ⟨rfl, rfl, rfl, by decide +kernel, rfl, by decide +kernel, by decide +kernel⟩
/-- the steps from a among the first j of the law's -/
def fst (W : Wd) (a : Int) (j : Nat) : List Stp := ((clS W ++ ptS W).take j).filter fun t => decide (t.fr = a)
theorem fst_step {W : Wd} {a : Int} {j : Nat} {u : Stp} (e : (clS W ++ ptS W)[j]? = some u) : fst W a (j + 1) = fst W a j ++ if u.fr = a then [u] else [] := by
  unfold fst
  rw [List.take_add_one, e, List.filter_append]
  congr 1
  show List.filter _ [u] = _
  rw [List.filter_cons]
  by_cases c : u.fr = a
  · rw [decide_eq_true c, if_pos c]
    rfl
  · rw [decide_eq_false c, if_neg c]
    rfl
theorem fst_all (W : Wd) (a : Int) : fst W a (clS W ++ ptS W).length = Pl.ownL W a := by
  unfold fst Pl.ownL
  rw [List.take_length]
section
variable {P : Program} {w : World} {K : PySem.W.Frag} {mg : Str → Option Value} {base : Heap} {f : Addr} {fd : FuncData} {k : Nat}
def spLc (K : PySem.W.Frag) : Sp := fun vs H Q _ => ∃ (W : Wd) (t c p : Addr), vs = [.ref t] ∧ WorldR K H t W c p ∧ W.Ok ∧ W.ps.length ≤ 1000 ∧ ∀ (d : Addr) (H' : Hp), Same H H' → H d = none → HtR H' d (edg W) (hts W) → Q (.ref d) H'
theorem ok_lc (F : Fun K "_law_costs" "_law_costs" sLc f fd) (L_edges : Cal P w K mg base k "_law_edges" ["_law_world_here"] (spLe K)) (L_steps : Cal P w K mg base k "_law_steps" ["_law_world_here"] (spLs K)) (m_min : mg "min" = none) : FnOk P w K mg base CX0 (k + 1) f fd ["_law_world_here"] (spLc K) := by
  refine F.ok scLc (fun vs H Q E h => ?_) (fun cdv A outer s H vs Q E hr h => ?_)
  · obtain ⟨W, t, c, p, rfl, _⟩ := h
    rfl
  · obtain ⟨W, t, c, p, rfl, wd, ok, many, q⟩ := h
    have hu1 := hr.units
    have hu : (A.deeper (envOfC "_law_costs" (defScope sLc) s.heap.objs.size f cdv)).units + 1 < cLine := by omega
    refine ⟨_, pss_cons (ps_set (i := 1) scLc.nd rfl (.inl rfl) pe_dnewK)
      (pss_cons (ps_dput hu (pv 1) (pe_ix ix_tup (pv 0) pe_int (fun _ _ => rfl)) pe_int rfl)
      (pss_cons (ps_for PassesOwn.never rfl (pi_list (pe_cal L_edges (hr.mono (by omega)) (by rfl) (pa_cons (pv 0) pa_nil))) (pg_name (i := 2) scLc.nd rfl (.inl rfl))
        (pss_one (ps_for PassesOwn.never rfl (pi_list (pe_cal L_steps (hr.mono (by omega)) (by rfl) (pa_cons (pv 0) pa_nil))) (pg_tup rfl (pgs_cons (pg_name (i := 3) scLc.nd rfl (.inl rfl)) (pgs_cons (pg_name (i := 4) scLc.nd rfl (.inl rfl)) (pgs_cons (pg_name (i := 5) scLc.nd rfl (.inl rfl)) pgs_nil))))
          (pss_one (ps_if (PW.pt (pw_and (pt_cmpR op_eq (pv 3) (pv 2) (nomark _)) (pw_and1 (pt_cmp (pc_din hu (pv 2) (pv 1))))))
            (pss_one (ps_dput hu (pv 1) (pv 4) (pe_callB (call_min2 rfl) (by rfl) m_min (by decide +kernel) (pa_cons (pe_dget2 hu (pv 1) (pv 4) (pe_op op_add (pe_dget hu (pv 1) (pv 2) (fun _ _ => rfl)) (pv 5)) ⟨rfl, rfl, rfl, rfl⟩) (pa_cons (pe_op op_add (pe_dget hu (pv 1) (pv 2) (fun _ _ => rfl)) (pv 5)) pa_nil))) rfl))
            pss_nil)))))
      (pss_one (ps_ret (pv 1))))), ?_⟩
    have ht := wd.1
    have few := wd.2.few
    have el := edg_len W
    have sin : W.s ∈ edg W := edg_mem.mpr (.inl rfl)
    refine fun d nd => ?_
    have sd0 := same_new (o := .dK []) nd
    refine ⟨_, rfl, _, rfl, t, _, 0, .int W.s, rfl, rfl, SqT.of (sd0 _ _ ht), rfl, d, _, rfl, .inl ⟨[], .inl W.s, upd_same, rfl, by show 0 < sizeLine; decide, rfl⟩, ?_⟩
    obtain ⟨H1, e1⟩ : ∃ H1, upd (upd H d (.dK [])) d (.dK (putK [] (.inl W.s) (.int 0))) = H1 := ⟨_, rfl⟩
    have h1d : H1 d = some (.dK [(Sum.inl W.s, V.int 0)]) := by
      rw [← e1, upd_same]
      rfl
    have s1 : Same H H1 := fun b o e => by
      rw [← e1, upd_ne (ne_of_none e nd), upd_ne (ne_of_none e nd)]
      exact e
    rw [e1]
    have H0r : HtR H1 d (edg W) (H0 W.s) := ⟨_, h1d, ⟨[W.s], rfl, by simp, fun x hx => by rw [List.mem_singleton.mp hx]; exact sin⟩, fun x => by
      unfold H0
      by_cases c : x = W.s
      · rw [if_pos c, c]
        unfold valV
        simp
      · rw [if_neg c]
        unfold valV
        simp [Ne.symm c]⟩
    refine ⟨_, rfl, W, t, c, p, rfl, wd.same s1, fun m H2 s2 nm hm => ⟨m, rfl, ⟨_, SqL.of hm⟩, for_list (xs := (edg W).map V.int) (fun i σ Hc => ∃ z2 z3 z4 z5 : Option V, σ = [some (.ref t), some (.ref d), z2, z3, z4, z5] ∧ Kp d H2 Hc ∧ HtR Hc d (edg W) (((((edg W).take i).flatMap (Pl.ownL W)).foldl rel (H0 W.s)))) ⟨none, none, none, none, rfl, Kp.refl _ _, H0r.same s2⟩ (fun i σ Hc _ ⟨_, _, _, _, _, kc, _⟩ => SqL.of (kc _ _ ?_ hm)) ?_ ?_⟩⟩
    · intro z
      rw [z, h1d] at nm
      cases nm
    · rintro i v σ Hc hv ⟨z2, z3, z4, z5, rfl, kc, hr2⟩
      rw [List.getElem?_map] at hv
      obtain ⟨a, ea, rfl⟩ := Option.map_eq_some_iff.mp hv
      have more : ((((edg W).take (i + 1)).flatMap (Pl.ownL W)).foldl rel (H0 W.s)) = (Pl.ownL W a).foldl rel ((((edg W).take i).flatMap (Pl.ownL W)).foldl rel (H0 W.s)) := by
        rw [List.take_add_one, ea, List.flatMap_append, List.foldl_append]
        show ([a].flatMap (Pl.ownL W)).foldl rel _ = _
        rw [List.flatMap_cons, List.flatMap_nil, List.append_nil]
      rw [more]
      obtain ⟨h, eh⟩ : ∃ h, (((edg W).take i).flatMap (Pl.ownL W)).foldl rel (H0 W.s) = h := ⟨_, rfl⟩
      rw [eh] at hr2 ⊢
      have sH : Same H Hc := fun b o e => kc _ _ (ne_of_none e nd) (s2 _ _ (s1 _ _ e))
      refine ⟨_, rfl, W, t, c, p, rfl, wd.same sH, many, fun l H3 s3 nl ⟨ts, hl, lt, each⟩ => ?_⟩
      have hr3 := hr2.same s3
      have hd3 := hr3.val a
      have dl : l ≠ d := fun z => by
        obtain ⟨_, e, _⟩ := hr2
        rw [z, e] at nl
        cases nl
      refine ⟨l, rfl, ⟨_, SqL.of hl⟩, for_list (xs := ts.map V.ref) (fun j σ He => ∃ z3 z4 z5 : Option V, σ = [some (.ref t), some (.ref d), some (.int a), z3, z4, z5] ∧ Kp d H3 He ∧ HtR He d (edg W) ((fst W a j).foldl rel h)) ⟨_, _, _, rfl, Kp.refl _ _, hr3⟩ (fun j σ He _ ⟨_, _, _, _, ke, _⟩ => SqL.of (ke _ _ dl hl)) ?_ ?_⟩
      · rintro j v σ He hv ⟨z3, z4, z5, rfl, ke, hr5⟩
        rw [List.getElem?_map] at hv
        obtain ⟨b, eb, rfl⟩ := Option.map_eq_some_iff.mp hv
        obtain ⟨u, eu⟩ : ∃ u, (clS W ++ ptS W)[j]? = some u := ⟨_, List.getElem?_eq_getElem (by rw [← lt]; exact (List.getElem?_eq_some_iff.mp eb).1)⟩
        have hb0 := each j b u eb eu
        have hb : He b = some (trT u) := ke _ _ (fun z => by
          obtain ⟨_, e, _⟩ := hr3
          rw [z, e] at hb0
          cases hb0) hb0
        have um := List.mem_of_getElem? eu
        have um : u ∈ ptS W ∨ u ∈ clS W := (List.mem_append.mp um).symm
        obtain ⟨_, uto, uok, _⟩ := stp_ok ok um
        have ufw : u.fr < u.to := uok.fw
        rw [fst_step eu, List.foldl_append]
        obtain ⟨h5, e5⟩ : ∃ h5, (fst W a j).foldl rel h = h5 := ⟨_, rfl⟩
        rw [e5] at hr5 ⊢
        obtain ⟨kvs, k1, k2, k3, k4⟩ := hr5.val a
        have kto := k4 u.to
        refine ⟨b, _, rfl, SqT.of hb, rfl, _, _, rfl, _, _, rfl, _, _, rfl, rfl, ?_⟩
        by_cases c : u.fr = a
        · rw [if_pos c]
          refine ⟨_, rfl, _, rfl, rfl, true, congrArg V.bl (decide_eq_true (by rw [c])), if_t ?_⟩
          cases ha : h5 a with
          | none =>
            rw [ha] at k3
            refine ⟨_, rfl, _, rfl, d, none, rfl, .inl ⟨kvs, .inl a, .inl k1, rfl, k3.symm⟩, false, rfl, if_f ?_⟩
            refine ⟨_, _, _, rfl, ke, ?_⟩
            show HtR He d (edg W) (rel h5 u)
            rw [rel_none (by rw [c]; exact ha)]
            exact hr5
          | some g =>
            rw [ha] at k3
            refine ⟨_, rfl, _, rfl, d, some (.int g), rfl, .inl ⟨kvs, .inl a, .inl k1, rfl, k3.symm⟩, true, rfl, if_t ?_⟩
            have one : rel h5 u = fun y => if y = u.to then some (match h5 u.to with | none => g + u.cost | some o => min o (g + u.cost)) else h5 y := by
              unfold rel
              rw [show h5 u.fr = some g by rw [c]; exact ha] <;> rfl
            have fin : ∀ v : Int, v = (match h5 u.to with | none => g + u.cost | some o => min o (g + u.cost)) → HtR (upd He d (.dK (putK kvs (.inl u.to) (.int v)))) d (edg W) ([u].foldl rel h5) := fun v hv => by
              show HtR _ d (edg W) (rel h5 u)
              rw [one, ← hv]
              exact HtR.put k1 k2 k4 uto
            refine ⟨_, rfl, d, rfl, .inl ⟨_, .inl k1⟩, _, rfl, _, rfl, _, rfl, d, .int g, rfl, .inl ⟨kvs, .inl a, .inl k1, rfl, k3.symm⟩, _, rfl, _, _, rfl, rfl, (h5 u.to).map V.int, .inl ⟨kvs, .inl u.to, .inl k1, rfl, kto.symm⟩, ?_⟩
            refine ⟨_, rfl, _, rfl, d, .int g, rfl, .inl ⟨kvs, .inl a, .inl k1, rfl, k3.symm⟩, _, rfl, _, _, rfl, rfl, ?_⟩
            refine ⟨(match h5 u.to with | none => g + u.cost | some o => o), _, by cases h5 u.to <;> rfl, _, rfl, _, rfl, d, _, rfl, .inl ⟨kvs, .inl u.to, k1, rfl, small1000 (by have := k2.len; omega), rfl⟩, _, _, _, rfl, ke.trans Kp.put, fin _ ?_⟩
            cases h5 u.to with
            | none => exact if_neg (Int.lt_irrefl _)
            | some o =>
              show (if g + u.cost < o then g + u.cost else o) = min o (g + u.cost)
              by_cases lt : g + u.cost < o
              · rw [if_pos lt]
                omega
              · rw [if_neg lt]
                omega
        · rw [if_neg c]
          refine ⟨_, rfl, _, rfl, rfl, false, congrArg V.bl (decide_eq_false fun z => c (V.int.inj z)), if_f (if_f ?_)⟩
          exact ⟨_, _, _, rfl, ke, hr5⟩
      · rintro σ He ⟨z3, z4, z5, rfl, ke, hr5⟩
        rw [List.length_map, lt, fst_all] at hr5
        exact ⟨_, _, _, _, rfl, kc.trans ((Kp.of s3).trans ke), hr5⟩
    · rintro σ Hc ⟨z2, z3, z4, z5, rfl, kc, hr2⟩
      rw [List.length_map, List.take_length, law_hts ok] at hr2
      exact ⟨_, rfl, q d Hc (fun b o e => kc _ _ (ne_of_none e nd) (s2 _ _ (s1 _ _ e))) nd hr2⟩
end
end Tg

namespace Tg
open PySem PySem.Spec PyProof.Rows L2
/-! ### data that may be compared: written plainly, at most n deep, and equal to itself -/
structure Form (d : PyData) (n : Nat) : Prop where
  lay : d.canLay0 = true
  deep : d.depth ≤ n
  own : PyData.eqv d d = true
structure Forms (ds : List PyData) (n : Nat) : Prop where
  lay : PyData.canLayAll0 ds = true
  deep : PyData.depthAll ds ≤ n
  own : PyData.eqvAll ds ds = true
theorem Form.shaped {d : PyData} {n : Nat} (h : Form d n) (few : n ≤ 64) : SeqAt.shaped d = true := shaped_of h.lay (Nat.le_trans h.deep few)
theorem Form.up {d : PyData} {n m : Nat} (h : Form d n) (le : n ≤ m) : Form d m := ⟨h.lay, Nat.le_trans h.deep le, h.own⟩
theorem Form.int (i : Int) (n : Nat) : Form (.int i) n := ⟨rfl, Nat.zero_le _, by show (i == i) = true; exact beq_self_eq_true i⟩
theorem Form.bl (b : Bool) (n : Nat) : Form (.bool b) n := ⟨rfl, Nat.zero_le _, by show (b == b) = true; exact beq_self_eq_true b⟩
theorem Form.non (n : Nat) : Form .none n := ⟨rfl, Nat.zero_le _, rfl⟩
theorem Form.str {z : Str} (h : PyData.strOk z = true) (n : Nat) : Form (.str z) n := ⟨h, Nat.zero_le _, by show (z == z) = true; exact beq_self_eq_true z⟩
theorem Forms.nil (n : Nat) : Forms [] n := ⟨rfl, Nat.zero_le _, rfl⟩
theorem Forms.cons {d : PyData} {ds : List PyData} {n : Nat} (a : Form d n) (b : Forms ds n) : Forms (d :: ds) n :=
  ⟨by show (d.canLay0 && PyData.canLayAll0 ds) = true; rw [a.lay, b.lay]; rfl, Nat.max_le.mpr ⟨a.deep, b.deep⟩, by show (PyData.eqv d d && PyData.eqvAll ds ds) = true; rw [a.own, b.own]; rfl⟩
theorem Forms.of {n : Nat} : ∀ {ds : List PyData}, (∀ d, d ∈ ds → Form d n) → Forms ds n
  | [], _ => .nil n
  | d :: r, h => .cons (h d (.head _)) (.of fun e he => h e (.tail _ he))
theorem Forms.map {α : Type} {f : α → PyData} {n : Nat} (h : ∀ x, Form (f x) n) (xs : List α) : Forms (xs.map f) n := .of fun d hd => by
  obtain ⟨x, _, rfl⟩ := List.mem_map.mp hd
  exact h x
theorem Form.list {ds : List PyData} {n : Nat} (h : Forms ds n) : Form (.list ds) (n + 1) := ⟨h.lay, Nat.succ_le_succ h.deep, h.own⟩
theorem Form.tup {ds : List PyData} {n : Nat} (h : Forms ds n) : Form (.tuple ds) (n + 1) := ⟨h.lay, Nat.succ_le_succ h.deep, h.own⟩
end Tg

set_option maxHeartbeats 1000000
namespace Tg
open PySem PySem.Spec PyProof.Rows L2 Pl
/-! ### what is told, as data; it is one -/
theorem chain_last {W : Wd} {L : List Pce} {p : Pce} {a b : Int} (h : Chain W a (L ++ [p]) b) : p.2.2 = b ∧ Chain W a L p.2.1 ∧ p.2.1 < p.2.2 := by
  obtain ⟨m, h1, h2, h3, h4⟩ := chain_split h
  have h2 : p.2.1 = m := h2
  have h4 : p.2.2 = b := h4
  exact ⟨h4, h2 ▸ h1, h3.fw⟩
theorem chain_empty {W : Wd} {L : List Pce} {a : Int} (h : Chain W a L a) : L = [] := by
  have := chain_len h
  cases L with
  | nil => rfl
  | cons p r =>
    rw [List.length_cons] at this
    omega
theorem ofp_one {W : Wd} : ∀ (n : Nat) {L M : List Pce} {e : Int}, L.length = n → Chain W W.s L e → Chain W W.s M e → OfP W L → OfP W M → L = M
  | 0, L, M, e, hn, h, g, _, _ => by
    obtain rfl := List.length_eq_zero_iff.mp hn
    have z : W.s = e := h
    subst z
    exact (chain_empty g).symm
  | n + 1, L, M, e, hn, h, g, o1, o2 => by
    rcases List.eq_nil_or_concat L with rfl | ⟨L0, p, rfl⟩
    · cases hn
    · rw [List.concat_eq_append] at *
      obtain ⟨pe, pc, pf⟩ := chain_last h
      rcases List.eq_nil_or_concat M with rfl | ⟨M0, q, rfl⟩
      · have z : W.s = e := g
        have := chain_len pc
        omega
      · rw [List.concat_eq_append] at *
        obtain ⟨qe, qc, _⟩ := chain_last g
        have e1 := o1 p (List.mem_append_right _ (.head _))
        have e2 := o2 q (List.mem_append_right _ (.head _))
        rw [pe] at e1
        rw [qe, e1] at e2
        have e3 := Option.some.inj e2
        have a1 : p.1 = q.1 := (Prod.mk.inj e3).1
        have a2 : p.2.1 = q.2.1 := (Prod.mk.inj e3).2
        have pq : p = q := Prod.ext a1 (Prod.ext a2 (pe.trans qe.symm))
        subst pq
        rw [ofp_one n (L := L0) (M := M0) (by rw [List.length_append] at hn; exact Nat.succ.inj hn) pc qc (fun x hx => o1 x (List.mem_append_left _ hx)) fun x hx => o2 x (List.mem_append_left _ hx)]
theorem fit_one {W : Wd} {L M : List Pce} (h : Fit W L) (g : Fit W M) : L = M := by
  obtain ⟨L0, rfl, c1, o1⟩ := h
  obtain ⟨M0, rfl, c2, o2⟩ := g
  rw [ofp_one _ rfl c1 c2 o1 o2]
def pceD (p : Pce) : PyData := .tuple [.str (wdS p.1), .int p.2.1, .int p.2.2]
def htD (W : Wd) (x : Int) : PyData := .tuple [.int x, .int ((hts W x).getD 0)]
def gapD (W : Wd) : PyData := .tuple [.str "gap", .list ((reached W).map PyData.int)]
def planD (W : Wd) (L : List Pce) : PyData := .tuple [.str "plan", .list (L.map pceD), .list ((reached W).map (htD W))]
theorem form_pce (p : Pce) : Form (pceD p) 1 := .tup (.cons (.str (by cases p.1 <;> decide +kernel) 0) (.cons (.int _ 0) (.cons (.int _ 0) (.nil 0))))
theorem form_ht (W : Wd) (x : Int) : Form (htD W x) 1 := .tup (.cons (.int _ 0) (.cons (.int _ 0) (.nil 0)))
theorem form_gap (W : Wd) : Form (gapD W) 2 := .tup (.cons (.str (by decide +kernel) 1) (.cons (.list (.map (fun x => .int x 0) _)) (.nil 1)))
theorem form_plan (W : Wd) (L : List Pce) : Form (planD W L) 3 := .tup (.cons (.str (by decide +kernel) 2) (.cons (.list (.map form_pce _)) (.cons (.list (.map (form_ht W) _)) (.nil 2))))
/-- the data told -/
def ToldD (W : Wd) (d : PyData) : Prop := (hts W W.e = none ∧ d = gapD W) ∨ ∃ o L, hts W W.e = some o ∧ Fit W L ∧ d = planD W L
theorem told_one {W : Wd} {a b : PyData} (h : ToldD W a) (g : ToldD W b) : a = b := by
  rcases h with ⟨h1, rfl⟩ | ⟨o, L, h1, h2, rfl⟩ <;> rcases g with ⟨g1, rfl⟩ | ⟨q, M, g1, g2, rfl⟩
  · rfl
  · rw [h1] at g1
    cases g1
  · rw [h1] at g1
    cases g1
  · rw [fit_one h2 g2]
theorem told_form {W : Wd} {a : PyData} (h : ToldD W a) : Form a 3 := by
  rcases h with ⟨_, rfl⟩ | ⟨_, L, _, _, rfl⟩
  · exact (form_gap W).up (by decide)
  · exact form_plan W L
section
variable {K : PySem.W.Frag} {H : Hp}
theorem plt_dp : ∀ {ts : List Addr} {L : List Pce}, PLt H ts L → DpAll K H (ts.map V.ref) (L.map pceD)
  | [], [], _ => .nil
  | t :: ts, p :: L, h => .cons (.tup (SqT.of h.1) (.cons (.str _) (.cons (.int _) (.cons (.int _) .nil)))) (plt_dp h.2)
theorem each_dp {α : Type} {f : α → PyData} : ∀ {vs : List V} {xs : List α}, vs.length = xs.length → (∀ (i : Nat) (v : V) (x : α), vs[i]? = some v → xs[i]? = some x → Dp K H v (f x)) → DpAll K H vs (xs.map f)
  | [], [], _, _ => .nil
  | v :: vs, x :: xs, l, h => .cons (h 0 v x rfl rfl) (each_dp (Nat.succ.inj l) fun i a b e1 e2 => h (i + 1) a b e1 e2)
theorem ints_dp : ∀ ns : List Int, DpAll K H (ns.map V.int) (ns.map PyData.int)
  | [] => .nil
  | n :: r => .cons (.int n) (ints_dp r)
theorem told_dp {W : Wd} {t : Addr} (h : Gap H t W ∨ ∃ o L, Plan H t W o L) : ∃ d, Dp K H (.ref t) d ∧ ToldD W d := by
  rcases h with ⟨g, b, ht, hb⟩ | ⟨o, L, g, _, _, fit, b1, b2, ht, ⟨ts, hb1, pl⟩, us, hb2, lu, each⟩
  · exact ⟨gapD W, .tup (SqT.of ht) (.cons (.str _) (.cons (.lst (SqL.of hb) (ints_dp _)) .nil)), .inl ⟨g, rfl⟩⟩
  · refine ⟨planD W L, .tup (SqT.of ht) (.cons (.str _) (.cons (.lst (SqL.of hb1) (plt_dp pl)) (.cons (.lst (SqL.of hb2) ?_) .nil))), .inr ⟨o, L, g, fit, rfl⟩⟩
    refine each_dp (by rw [List.length_map, lu]) fun i v x e1 e2 => ?_
    rw [List.getElem?_map] at e1
    obtain ⟨u, eu, rfl⟩ := Option.map_eq_some_iff.mp e1
    obtain ⟨_, y, ey⟩ := reached_mem (List.mem_of_getElem? e2)
    have := each i u x y eu e2 ey
    refine .tup (SqT.of this) (.cons (.int _) (.cons ?_ .nil))
    rw [ey]
    exact .int y
/-- the law's cells: a list -/
def CL (K : PySem.W.Frag) (H : Hp) (c : Addr) (cs : List (Int × Int)) : Prop := ∃ ts : List Addr, H c = some (.lst (ts.map V.ref)) ∧ DpAll K H (ts.map V.ref) (cs.map pd)
theorem CL.same {H' : Hp} {c : Addr} {cs : List (Int × Int)} (s : Same H H') (h : CL K H c cs) : CL K H' c cs := by
  obtain ⟨ts, h1, h2⟩ := h
  exact ⟨ts, s _ _ h1, dpAll_same s h2⟩
theorem CL.dp {c : Addr} {cs : List (Int × Int)} (h : CL K H c cs) : Dp K H (.ref c) (.list (cs.map pd)) := by
  obtain ⟨ts, h1, h2⟩ := h
  exact .lst (SqL.of h1) h2
theorem dp_pair {v : Addr} {x : Int × Int} (h : Dp K H (.ref v) (pd x)) : SqT K H v [.int x.1, .int x.2] := by
  cases h with
  | tup a b =>
    cases b with
    | cons b1 b2 =>
      cases b1
      cases b2 with
      | cons b3 b4 =>
        cases b3
        cases b4
        exact a
theorem CL.seq {c : Addr} {cs : List (Int × Int)} {ts : List Addr} {a : Addr} (sq : SqA K H a (ts.map V.ref)) (h2 : DpAll K H (ts.map V.ref) (cs.map pd)) : CellsR K H a cs := by
  refine ⟨ts, sq, by have := dl_len h2; rw [List.length_map] at this; exact this, fun i t x e1 e2 => ?_⟩
  obtain ⟨y, ey, dy⟩ := dl_at (v := .ref t) h2 (i := i) (by rw [List.getElem?_map, e1]; rfl)
  rw [e2] at ey
  obtain rfl := Option.some.inj ey
  exact dp_pair dy
theorem CL.cells {c : Addr} {cs : List (Int × Int)} (h : CL K H c cs) : CellsR K H c cs := by
  obtain ⟨ts, h1, h2⟩ := h
  exact CL.seq (c := c) (.inl (SqL.of h1)) h2
end
end Tg

set_option maxHeartbeats 1000000
namespace Tg
open PySem PySem.Spec PyProof.Rows L2 Pl
/-! ### _law_pieces_right -/
theorem any_pd {cs : List (Int × Int)} {x : Int × Int} (h : x ∈ cs) : ((cs.map pd).any fun z => PyData.eqv z (pd x)) = true := List.any_eq_true.mpr ⟨pd x, List.mem_map.mpr ⟨x, h, rfl⟩, ref_pd x⟩
abbrev sPr : Stmt := topS 25
abbrev NPr : List Str := ["_law_world_here", "_law_a_pieces", "_law_a_start", "_law_a_end", "_law_a_horizon", "_law_a_cells", "_law_a_points", "_law_at", "_law_cost", "_law_word", "_law_one", "_law_two", "_law_time"]
theorem scLp2 : FnScope NPr ["_law_world_here", "_law_a_pieces"] (defScope sPr) := ⟨rfl, rfl, rfl, by decide +kernel, rfl, by decide +kernel, by decide +kernel⟩
theorem wd_word (c : Bool) : decide (V.str (wdS c) = V.str (Str.ofString "cell")) = c := by cases c <;> decide +kernel
section
variable {P : Program} {w : World} {K : PySem.W.Frag} {mg : Str → Option Value} {base : Heap} {f : Addr} {fd : FuncData} {k : Nat}
def spPr (K : PySem.W.Frag) : Sp := fun vs H Q _ => ∃ (W : Wd) (t c p b : Addr) (L : List Pce), vs = [.ref t, .ref b] ∧ WorldR K H t W c p ∧ CL K H c W.cs ∧ W.ps.length ≤ 1000 ∧ PLst H b L ∧ Chain W W.s L W.e ∧ ∀ H', Same H H' → Q (.int (tot W.ps L)) H'
theorem ok_pr (F : Fun K "_law_pieces_right" "_law_pieces_right" sPr f fd) (m_len : mg "len" = none) (m_int : mg "int" = none) : FnOk P w K mg base CX0 (k + 1) f fd ["_law_world_here", "_law_a_pieces"] (spPr K) := by
  refine F.ok scLp2 (fun vs H Q E h => ?_) (fun cdv A outer s H vs Q E hr h => ?_)
  · obtain ⟨W, t, c, p, b, L, rfl, _⟩ := h
    rfl
  · obtain ⟨W, t, c, p, b, L, rfl, wd, cl, many, ⟨bs, hb, pl⟩, ch, q⟩ := h
    have hu1 := hr.units
    have hu65 : (A.deeper (envOfC "_law_pieces_right" (defScope sPr) s.heap.objs.size f cdv)).units + 65 < cLine := by
      have := hr.un
      omega
    refine ⟨_, pss_cons (ps_asg (pv 0) (pg_tup rfl (pgs_cons (pg_name (i := 2) scLp2.nd rfl (.inl rfl)) (pgs_cons (pg_name (i := 3) scLp2.nd rfl (.inl rfl)) (pgs_cons (pg_name (i := 4) scLp2.nd rfl (.inl rfl)) (pgs_cons (pg_name (i := 5) scLp2.nd rfl (.inl rfl)) (pgs_cons (pg_name (i := 6) scLp2.nd rfl (.inl rfl)) pgs_nil)))))))
      (pss_cons (ps_set (i := 7) scLp2.nd rfl (.inl rfl) (pv 2))
      (pss_cons (ps_set (i := 8) scLp2.nd rfl (.inl rfl) pe_int)
      (pss_cons (ps_for PassesOwn.never rfl (pi_list (pv 1)) (pg_tup rfl (pgs_cons (pg_name (i := 9) scLp2.nd rfl (.inl rfl)) (pgs_cons (pg_name (i := 10) scLp2.nd rfl (.inr rfl)) (pgs_cons (pg_name (i := 11) scLp2.nd rfl (.inr rfl)) pgs_nil))))
        (pss_cons (ps_if (PW.pt (pw_or (pt_cmpR op_ne (pv 10) (pv 7) (nomark _)) (pw_or (pt_cmpR op_ge (pv 10) (pv 11) (nomark _)) (pw_or1 (pt_cmpR op_notIn_seq (pv 9) (pe_lst (pa_cons pe_str (pa_cons pe_str pa_nil))) (by with_unfolding_all rfl))))))
          (pss_one (ps_ret pe_non))
          pss_nil)
        (pss_cons (ps_if (PW.pt (pw_and (pt_cmpR op_eq (pv 9) pe_str (nomark _)) (pw_and1 (pt_cmpR (op_notInD hu65) (pe_tup (pa_cons (pv 10) (pa_cons (pv 11) pa_nil))) (pv 5) (by with_unfolding_all rfl)))))
          (pss_one (ps_ret pe_non))
          pss_nil)
        (pss_cons (ps_if (PW.pt (pw_and (pt_cmpR op_eq (pv 9) pe_str (nomark _)) (pw_and (pt_cmpR op_notN (pv 4) pe_non (nomark _)) (pw_and1 (pt_cmpR op_lt (pv 10) (pv 4) (nomark _))))))
          (pss_one (ps_ret pe_non))
          pss_nil)
        (pss_cons (ps_set (i := 7) scLp2.nd rfl (.inl rfl) (pv 11))
        (pss_one (ps_set (i := 8) scLp2.nd rfl (.inl rfl) (pe_op op_add (pv 8) (pe_ix ix_list (pe_lst (pa_cons (pe_callB call_len_seq (by rfl) m_len (by decide +kernel) (pa_cons (pe_lc (own := [("_law_time", 12)]) (g := (gName 12)) rfl scLp2.nd (pi_seq (pv 6)) (blkOk_by (own := [("_law_time", 12)]) (N := NPr) (sc := defScope sPr) (by decide +kernel)) (fun _ _ _ _ _ => (pg_name (i := 12) scLp2.nd rfl (.inl rfl))) (fun _ _ _ _ _ => pts_one (pt_chain op_le op_lt (pv 10) (pv 12) (pv 11))) (fun _ _ _ _ _ => (pv 12))) pa_nil)) (pa_cons pe_int pa_nil))) (pe_callTy call_int1 (by rfl) m_int (by decide +kernel) (pa_cons (pe_cmpR op_eq (pv 9) pe_str (nomark _)) pa_nil)) (fun _ _ => rfl))))))))))
      (pss_cons (ps_if (pt_cmpR op_ne (pv 7) (pv 3) (nomark _))
        (pss_one (ps_ret pe_non))
        pss_nil)
      (pss_one (ps_ret (pv 8))))))), ?_⟩
    have ht := wd.1
    have hp := wd.2.pts
    have bl := pl.len
    refine ⟨_, rfl, t, _, rfl, SqT.of ht, rfl, _, _, rfl, _, _, rfl, _, _, rfl, _, _, rfl, _, _, rfl, rfl, ?_⟩
    refine ⟨_, rfl, _, rfl, b, rfl, ⟨_, SqL.of hb⟩, for_list (xs := bs.map V.ref) (fun i σ Hc => ∃ (x : Int) (z9 z10 z11 : Option V), σ = [some (.ref t), some (.ref b), some (.int W.s), some (.int W.e), some (hV W.h), some (.ref c), some (.ref p), some (.int x), some (.int (tot W.ps (L.take i))), z9, z10, z11, none] ∧ Same H Hc ∧ Chain W x (L.drop i) W.e) ⟨_, none, none, none, rfl, Same.refl _, ch⟩ (fun i σ Hc _ ⟨_, _, _, _, _, sc, _⟩ => SqL.of (sc _ _ hb)) ?_ ?_⟩
    · rintro i v σ Hc hv ⟨x, z9, z10, z11, rfl, sc, chx⟩
      rw [List.getElem?_map] at hv
      obtain ⟨u, eu, rfl⟩ := Option.map_eq_some_iff.mp hv
      obtain ⟨pc, ep, hu0⟩ := pl.at_ eu
      obtain ⟨px, okp, chn⟩ := chain_drop ep chx
      have fw := okp.fw
      have nx : tot W.ps (L.take (i + 1)) = tot W.ps (L.take i) + cst W.ps pc := by
        rw [List.take_add_one, ep, tot_app]
        show _ + (cst W.ps pc + 0) = _
        omega
      refine ⟨u, _, rfl, SqT.of (sc _ _ hu0), rfl, _, _, rfl, _, _, rfl, _, _, rfl, rfl, ?_⟩
      refine ⟨_, rfl, _, rfl, rfl, false, congrArg V.bl (by rw [px, decide_eq_true rfl]; rfl), if_f ?_⟩
      refine ⟨_, rfl, _, rfl, _, _, rfl, rfl, false, congrArg V.bl (decide_eq_false (by omega)), if_f ?_⟩
      refine ⟨_, rfl, by show 2 ≤ sizeLine; decide, fun wl nw => ?_⟩
      have sw := same_new (o := .lst [.str "cell", .str "points"]) nw
      have flat : [V.str "cell", V.str "points"].all flatV = true := rfl
      refine ⟨wl, _, rfl, .inl (SqL.of upd_same), rfl, flat, false, ?_, if_f ?_⟩
      · generalize pc.1 = d
        cases d <;> decide +kernel
      have s1 := sc.trans sw
      have ht1 := s1 _ _ hu0
      have next : ∀ (H2 : Hp) (n : Int) (z9 z10 z11 : Option V), Same H H2 → n = cst W.ps pc → ∃ (x : Int) (y9 y10 y11 : Option V), [some (V.ref t), some (.ref b), some (.int W.s), some (.int W.e), some (hV W.h), some (.ref c), some (.ref p), some (.int pc.2.2), some (.int (tot W.ps (L.take i) + n)), z9, z10, z11, none] = [some (.ref t), some (.ref b), some (.int W.s), some (.int W.e), some (hV W.h), some (.ref c), some (.ref p), some (.int x), some (.int (tot W.ps (L.take (i + 1)))), y9, y10, y11, none] ∧ Same H H2 ∧ Chain W x (L.drop (i + 1)) W.e := fun H2 n _ _ _ s2 hn => by
        subst hn
        rw [nx]
        exact ⟨_, _, _, _, rfl, s2, chn⟩
      rcases bool_two pc.1 with h1 | h1
      · refine ⟨_, rfl, rfl, true, congrArg V.bl (by rw [wd_word, h1]), if_t ?_⟩
        refine ⟨_, rfl, _, rfl, by show 2 ≤ sizeLine; decide, fun u2 nu2 => ?_⟩
        have s2 := s1.trans (same_new (o := .tup [.int pc.2.1, .int pc.2.2]) nu2)
        refine ⟨_, rfl, pd pc.2, W.cs.map pd, pd_new upd_same, (cl.same s2).dp, (Form.tup (.cons (.int _ 0) (.cons (.int _ 0) (.nil 0)))).shaped (by decide), (pds_form W.cs).1, false, congrArg V.bl (by rw [any_pd (okp.cell h1)]; rfl), if_f ?_⟩
        refine ⟨_, rfl, rfl, false, congrArg V.bl (by rw [wd_pts, h1]; rfl), if_f (if_f ?_)⟩
        refine ⟨_, rfl, _, rfl, ?_⟩
        obtain ⟨Hx, ex⟩ : ∃ Hx, upd (upd Hc wl (.lst [.str "cell", .str "points"])) u2 (.tup [.int pc.2.1, .int pc.2.2]) = Hx := ⟨_, rfl⟩
        have sx : Same H Hx := by
          rw [← ex]
          exact s2
        rw [ex]
        refine ⟨_, rfl, p, rfl, lc_seq (a := p) (xs := W.ps.map V.int) (sqA_same sx hp) (fun D3 i H1 => Same Hx H1 ∧ H1 D3 = some (.lst (((W.ps.take i).filter fun y => decide (pc.2.1 ≤ y ∧ y < pc.2.2)).map V.int))) (fun D3 nD3 => ⟨same_new nD3, upd_same⟩) (fun D3 i H1 _ h o e => h.1 _ _ e) ?_ ?_⟩
        · rintro D3 j v2 H1 nD3 hv2 ⟨s1, hD3⟩
          rw [List.getElem?_map] at hv2
          obtain ⟨y, ey, rfl⟩ := Option.map_eq_some_iff.mp hv2
          have jl : j < W.ps.length := (List.getElem?_eq_some_iff.mp ey).1
          rw [chain_count ey]
          refine ⟨rfl, ?_⟩
          have app : ∀ c, (upd H1 D3 (.lst (((W.ps.take j).filter fun y => decide (pc.2.1 ≤ y ∧ y < pc.2.2)).map V.int ++ [.int c]))) D3 = some (.lst (((W.ps.take j).filter (fun y => decide (pc.2.1 ≤ y ∧ y < pc.2.2)) ++ [c]).map V.int)) := fun c => by
            rw [upd_same, List.map_append]
            rfl
          have sml : (((W.ps.take j).filter fun y => decide (pc.2.1 ≤ y ∧ y < pc.2.2)).map V.int).length < sizeLine := by
            have := List.length_filter_le (fun y => decide (pc.2.1 ≤ y ∧ y < pc.2.2)) (W.ps.take j)
            rw [List.length_take] at this
            rw [List.length_map]
            exact million (by omega)
          have stay : ¬ (pc.2.1 ≤ y ∧ y < pc.2.2) → Same Hx H1 ∧ H1 D3 = some (.lst (((W.ps.take j).filter (fun y => decide (pc.2.1 ≤ y ∧ y < pc.2.2)) ++ if pc.2.1 ≤ y ∧ y < pc.2.2 then [y] else []).map V.int)) := fun c => ⟨s1, by
            rw [if_neg c, List.append_nil]
            exact hD3⟩
          by_cases c1 : pc.2.1 ≤ y
          · by_cases c2 : y < pc.2.2
            · refine ⟨_, rfl, _, rfl, _, _, rfl, rfl, true, congrArg V.bl (decide_eq_true c1), if_t ⟨_, rfl, _, _, rfl, rfl, true, congrArg V.bl (decide_eq_true c2), if_t ?_⟩⟩
              rw [if_pos ⟨c1, c2⟩]
              exact ⟨_, rfl, _, hD3, sml, same_put nD3 s1, app y⟩
            · exact ⟨_, rfl, _, rfl, _, _, rfl, rfl, true, congrArg V.bl (decide_eq_true c1), if_t ⟨_, rfl, _, _, rfl, rfl, false, congrArg V.bl (decide_eq_false c2), if_f (stay fun z => c2 z.2)⟩⟩
          · exact ⟨_, rfl, _, rfl, _, _, rfl, rfl, false, congrArg V.bl (decide_eq_false c1), if_f ⟨false, rfl, if_f (stay fun z => c1 z.1)⟩⟩
        · rintro D3 H1 nD3 ⟨s1, hD3⟩
          rw [List.length_map, List.take_length] at hD3
          have el : (((W.ps.filter fun y => decide (pc.2.1 ≤ y ∧ y < pc.2.2)).map V.int).length : Int) = (cnt W.ps pc.2.1 pc.2.2 : Nat) := by
            rw [List.length_map]
            rfl
          refine ⟨D3, _, rfl, .inl (SqL.of hD3), by show 2 ≤ sizeLine; decide, fun l nl => ⟨_, rfl, rfl, .inr ⟨true, congrArg (fun b => [V.bl b]) (by rw [wd_word, h1]), ?_⟩⟩⟩
          have sl := same_new (o := .lst [.int (((W.ps.filter fun y => decide (pc.2.1 ≤ y ∧ y < pc.2.2)).map V.int).length : Nat), .int 1]) nl
          refine ⟨l, _, _, _, rfl, rfl, SqL.of upd_same, rfl, _, _, rfl, rfl, ?_⟩
          refine next _ _ _ _ _ ((sx.trans s1).trans sl) ?_
          unfold cst
          rw [h1]
          rfl
      · refine ⟨_, rfl, rfl, false, congrArg V.bl (by rw [wd_word, h1]), if_f (if_f ?_)⟩
        refine ⟨_, rfl, rfl, true, congrArg V.bl (by rw [wd_pts, h1]; rfl), if_t ?_⟩
        have hk := okp.pt h1
        cases hW : W.h
        case' none =>
          refine ⟨_, rfl, rfl, false, rfl, if_f (if_f ?_)⟩
        case' some z =>
          have zx : z ≤ pc.2.1 := by
            rw [hW] at hk
            exact of_decide_eq_true hk
          refine ⟨_, rfl, rfl, true, rfl, if_t ⟨_, rfl, _, rfl, _, _, rfl, rfl, false, congrArg V.bl (decide_eq_false (by omega)), if_f ?_⟩⟩
        all_goals
          rw [← hW]
          refine ⟨_, rfl, _, rfl, ?_⟩
          obtain ⟨Hx, ex⟩ : ∃ Hx, upd Hc wl (.lst [.str "cell", .str "points"]) = Hx := ⟨_, rfl⟩
          have sx : Same H Hx := by
            rw [← ex]
            exact s1
          rw [ex]
          refine ⟨_, rfl, p, rfl, lc_seq (a := p) (xs := W.ps.map V.int) (sqA_same sx hp) (fun D3 i H1 => Same Hx H1 ∧ H1 D3 = some (.lst (((W.ps.take i).filter fun y => decide (pc.2.1 ≤ y ∧ y < pc.2.2)).map V.int))) (fun D3 nD3 => ⟨same_new nD3, upd_same⟩) (fun D3 i H1 _ h o e => h.1 _ _ e) ?_ ?_⟩
          · rintro D3 j v2 H1 nD3 hv2 ⟨s1, hD3⟩
            rw [List.getElem?_map] at hv2
            obtain ⟨y, ey, rfl⟩ := Option.map_eq_some_iff.mp hv2
            have jl : j < W.ps.length := (List.getElem?_eq_some_iff.mp ey).1
            rw [chain_count ey]
            refine ⟨rfl, ?_⟩
            have app : ∀ c, (upd H1 D3 (.lst (((W.ps.take j).filter fun y => decide (pc.2.1 ≤ y ∧ y < pc.2.2)).map V.int ++ [.int c]))) D3 = some (.lst (((W.ps.take j).filter (fun y => decide (pc.2.1 ≤ y ∧ y < pc.2.2)) ++ [c]).map V.int)) := fun c => by
              rw [upd_same, List.map_append]
              rfl
            have sml : (((W.ps.take j).filter fun y => decide (pc.2.1 ≤ y ∧ y < pc.2.2)).map V.int).length < sizeLine := by
              have := List.length_filter_le (fun y => decide (pc.2.1 ≤ y ∧ y < pc.2.2)) (W.ps.take j)
              rw [List.length_take] at this
              rw [List.length_map]
              exact million (by omega)
            have stay : ¬ (pc.2.1 ≤ y ∧ y < pc.2.2) → Same Hx H1 ∧ H1 D3 = some (.lst (((W.ps.take j).filter (fun y => decide (pc.2.1 ≤ y ∧ y < pc.2.2)) ++ if pc.2.1 ≤ y ∧ y < pc.2.2 then [y] else []).map V.int)) := fun c => ⟨s1, by
              rw [if_neg c, List.append_nil]
              exact hD3⟩
            by_cases c1 : pc.2.1 ≤ y
            · by_cases c2 : y < pc.2.2
              · refine ⟨_, rfl, _, rfl, _, _, rfl, rfl, true, congrArg V.bl (decide_eq_true c1), if_t ⟨_, rfl, _, _, rfl, rfl, true, congrArg V.bl (decide_eq_true c2), if_t ?_⟩⟩
                rw [if_pos ⟨c1, c2⟩]
                exact ⟨_, rfl, _, hD3, sml, same_put nD3 s1, app y⟩
              · exact ⟨_, rfl, _, rfl, _, _, rfl, rfl, true, congrArg V.bl (decide_eq_true c1), if_t ⟨_, rfl, _, _, rfl, rfl, false, congrArg V.bl (decide_eq_false c2), if_f (stay fun z => c2 z.2)⟩⟩
            · exact ⟨_, rfl, _, rfl, _, _, rfl, rfl, false, congrArg V.bl (decide_eq_false c1), if_f ⟨false, rfl, if_f (stay fun z => c1 z.1)⟩⟩
          · rintro D3 H1 nD3 ⟨s1, hD3⟩
            rw [List.length_map, List.take_length] at hD3
            have el : (((W.ps.filter fun y => decide (pc.2.1 ≤ y ∧ y < pc.2.2)).map V.int).length : Int) = (cnt W.ps pc.2.1 pc.2.2 : Nat) := by
              rw [List.length_map]
              rfl
            refine ⟨D3, _, rfl, .inl (SqL.of hD3), by show 2 ≤ sizeLine; decide, fun l nl => ⟨_, rfl, rfl, .inr ⟨false, congrArg (fun b => [V.bl b]) (by rw [wd_word, h1]), ?_⟩⟩⟩
            have sl := same_new (o := .lst [.int (((W.ps.filter fun y => decide (pc.2.1 ≤ y ∧ y < pc.2.2)).map V.int).length : Nat), .int 1]) nl
            refine ⟨l, _, _, _, rfl, rfl, SqL.of upd_same, rfl, _, _, rfl, rfl, ?_⟩
            refine next _ _ _ _ _ ((sx.trans s1).trans sl) ?_
            unfold cst
            rw [h1]
            exact el
    · rintro σ Hc ⟨x, z9, z10, z11, rfl, sc, chx⟩
      rw [List.length_map, bl, List.drop_length] at chx
      have xe : x = W.e := chx
      subst xe
      refine ⟨_, rfl, _, rfl, rfl, false, congrArg V.bl (by rw [decide_eq_true rfl]; rfl), if_f ?_⟩
      rw [List.length_map, bl, List.take_length]
      exact ⟨_, rfl, q Hc sc⟩
end
end Tg

set_option maxHeartbeats 1000000
namespace Tg
open PySem PySem.Spec PyProof.Rows L2 Pl
/-! ### _law_told_right -/
theorem merged_nd : ∀ (more acc : List (Key × V)), ((acc ++ more).map (·.1)).Nodup → mergeK acc more = acc ++ more
  | [], acc, _ => (List.append_nil acc).symm
  | kv :: r, acc, nd => by
    have new : (acc.any fun y => decide (y.1 = kv.1)) = false := by
      rw [List.any_eq_false]
      intro y hy z
      have e : y.1 = kv.1 := of_decide_eq_true z
      rw [List.map_append, List.map_cons, List.nodup_append] at nd
      exact nd.2.2 y.1 (List.mem_map.mpr ⟨y, hy, rfl⟩) kv.1 List.mem_cons_self e
    have e : putK acc kv.1 kv.2 = acc ++ [kv] := by
      unfold putK
      rw [new, if_neg (by decide)]
    have z := merged_nd r (acc ++ [kv]) (by rw [List.append_assoc]; exact nd)
    unfold mergeK at z ⊢
    rw [List.foldl_cons, e, z, List.append_assoc]
    rfl
theorem paired_at {α β : Type} {F : α → β → Prop} : ∀ {as : List α} {bs : List β}, as.length = bs.length → (∀ (i : Nat) (a : α) (b : β), as[i]? = some a → bs[i]? = some b → F a b) → Paired F as bs
  | [], [], _, _ => .nil
  | a :: as, b :: bs, l, h => .cons (h 0 a b rfl rfl) (paired_at (Nat.succ.inj l) fun i x y e1 e2 => h (i + 1) x y e1 e2)
/-- heights as a dict's pairs -/
def kvH (W : Wd) (x : Int) : Key × V := (.inl x, .int ((hts W x).getD 0))
abbrev sTd : Stmt := topS 26
theorem scTd : FnScope ["_law_world_here", "_law_told", "_law_due", "_law_a_start", "_law_a_end", "_law_a_horizon", "_law_a_cells", "_law_a_points"] ["_law_world_here", "_law_told", "_law_due"] (defScope sTd) := ⟨rfl, rfl, rfl, by decide +kernel, rfl, by decide +kernel, by decide +kernel⟩
section
variable {P : Program} {w : World} {K : PySem.W.Frag} {mg : Str → Option Value} {base : Heap} {f : Addr} {fd : FuncData} {k : Nat}
def spTd (K : PySem.W.Frag) : Sp := fun vs H Q _ => ∃ (W : Wd) (t c p u : Addr), vs = [.ref t, .ref u, hV (hts W W.e)] ∧ WorldR K H t W c p ∧ CL K H c W.cs ∧ W.ps.length ≤ 1000 ∧ W.Ok ∧ (Gap H u W ∨ ∃ o L, Plan H u W o L) ∧ ∀ H', Same H H' → Q (.bl true) H'
theorem ok_td (F : Fun K "_law_told_right" "_law_told_right" sTd f fd) (L_pieces_right : Cal P w K mg base k "_law_pieces_right" ["_law_world_here", "_law_a_pieces"] (spPr K)) (C_cost_of : Cal P w K mg base k "cost_of" ["pieces", "points"] (spCo K)) (C_cost_of_k : CalK P w K mg base k "cost_of" ["pieces", "points"] ["points", "pieces"] [1, 0] (spCo K))
    (C_is_plan_n : CalN P w K mg base k "is_plan" ["pieces", "start", "end", "horizon", "cells"] 3 ["horizon", "cells"] gRow (spPl K)) (m_isinstance : mg "isinstance" = none) (m_list : mg "list" = none) (m_len : mg "len" = none) (m_dict : mg "dict" = none) : FnOk P w K mg base CX0 (k + 1) f fd ["_law_world_here", "_law_told", "_law_due"] (spTd K) := by
  refine F.ok scTd (fun vs H Q E h => ?_) (fun cdv A outer s H vs Q E hr h => ?_)
  · obtain ⟨W, t, c, p, u, rfl, _⟩ := h
    rfl
  · obtain ⟨W, t, c, p, u, rfl, wd, cl, many, ok, told, q⟩ := h
    have hu1 := hr.units
    have hu : (A.deeper (envOfC "_law_told_right" (defScope sTd) s.heap.objs.size f cdv)).units + 1 < cLine := by omega
    refine ⟨_, pss_cons (ps_asg (pv 0) (pg_tup rfl (pgs_cons (pg_name (i := 3) scTd.nd rfl (.inl rfl)) (pgs_cons (pg_name (i := 4) scTd.nd rfl (.inl rfl)) (pgs_cons (pg_name (i := 5) scTd.nd rfl (.inl rfl)) (pgs_cons (pg_name (i := 6) scTd.nd rfl (.inl rfl)) (pgs_cons (pg_name (i := 7) scTd.nd rfl (.inl rfl)) pgs_nil)))))))
      (pss_cons (ps_if (pt_cmpR op_isN (pv 2) pe_non (nomark _))
        (pss_one (ps_ret (pe_and (pe_cmpR op_eq (pe_callB call_len_seq (by rfl) m_len (by decide +kernel) (pa_cons (pv 1) pa_nil)) pe_int (nomark _)) (pe_and (pe_cmpR op_eq (pe_ix ix_tup (pv 1) pe_int (fun _ _ => rfl)) pe_str (nomark _)) (pe_one (pe_callB call_isi (by rfl) m_isinstance (by decide +kernel) (pa_cons (pe_ix ix_tup (pv 1) pe_int (fun _ _ => rfl)) (pa_cons (pe_bltn (v := .ty "list") (by rfl) m_list (by decide +kernel) rfl) pa_nil))))))))
        pss_nil)
      (pss_cons (ps_if (PW.pt (pw_or (pt_cmpR op_ne (pe_callB call_len_seq (by rfl) m_len (by decide +kernel) (pa_cons (pv 1) pa_nil)) pe_int (nomark _)) (pw_or (pt_cmpR op_ne (pe_ix ix_tup (pv 1) pe_int (fun _ _ => rfl)) pe_str (nomark _)) (pw_or (pt_not (pt_val (pe_callB call_isi (by rfl) m_isinstance (by decide +kernel) (pa_cons (pe_ix ix_tup (pv 1) pe_int (fun _ _ => rfl)) (pa_cons (pe_bltn (v := .ty "list") (by rfl) m_list (by decide +kernel) rfl) pa_nil))))) (pw_or1 (pt_not (pt_val (pe_callB call_isi (by rfl) m_isinstance (by decide +kernel) (pa_cons (pe_ix ix_tup (pv 1) pe_int (fun _ _ => rfl)) (pa_cons (pe_bltn (v := .ty "list") (by rfl) m_list (by decide +kernel) rfl) pa_nil))))))))))
        (pss_one (ps_ret pe_bl))
        pss_nil)
      (pss_cons (ps_if (PW.pt (pw_or (pt_cmpR op_ne (pe_cal L_pieces_right (hr.mono (by omega)) (by rfl) (pa_cons (pv 0) (pa_cons (pe_ix ix_tup (pv 1) pe_int (fun _ _ => rfl)) pa_nil))) (pv 2) (nomark _)) (pw_or1 (pt_cmpR op_ne (pe_cal C_cost_of (hr.mono (by omega)) (by rfl) (pa_cons (pe_ix ix_tup (pv 1) pe_int (fun _ _ => rfl)) (pa_cons (pv 7) pa_nil))) (pv 2) (nomark _)))))
        (pss_one (ps_ret pe_bl))
        pss_nil)
      (pss_cons (ps_if (PW.pt (pw_or (pt_cmpR op_ne (pe_calK C_cost_of_k (hr.mono (by omega)) (by rfl) (pk_cons (pv 7) (pk_cons (pe_ix ix_tup (pv 1) pe_int (fun _ _ => rfl)) pk_nil))) (pv 2) (nomark _)) (pw_or1 (pt_cmpR op_ne (pe_dget hu (pe_callTy (call_dictP rfl) (by rfl) m_dict (by decide +kernel) (pa_cons (pe_ix ix_tup (pv 1) pe_int (fun _ _ => rfl)) pa_nil)) (pv 4) (fun _ _ => rfl)) (pv 2) (nomark _)))))
        (pss_one (ps_ret pe_bl))
        pss_nil)
      (pss_one (ps_ret (pe_cmpR op_isBl (pe_calN C_is_plan_n (hr.mono (by omega)) (by rfl) (pa_cons (pe_ix ix_tup (pv 1) pe_int (fun _ _ => rfl)) (pa_cons (pv 3) (pa_cons (pv 4) pa_nil))) (pk_cons (pv 5) (pk_cons (pv 6) pk_nil))) pe_bl (nomark _)))))))), ?_⟩
    have ht := wd.1
    refine ⟨_, rfl, t, _, rfl, SqT.of ht, rfl, _, _, rfl, _, _, rfl, _, _, rfl, _, _, rfl, _, _, rfl, rfl, ?_⟩
    rcases told with ⟨ho, b, hu0, hb⟩ | ⟨o, L, ho, ch, tt, fit, b1, b2, hu0, pls, hl⟩
    · rw [ho]
      refine ⟨_, rfl, rfl, true, rfl, if_t ?_⟩
      refine ⟨_, rfl, u, _, rfl, .inr (SqT.of hu0), rfl, true, rfl, if_t ?_⟩
      refine ⟨_, rfl, u, _, 0, .str "gap", rfl, rfl, SqT.of hu0, rfl, rfl, true, rfl, if_t ?_⟩
      exact ⟨_, rfl, u, _, 1, .ref b, rfl, rfl, SqT.of hu0, rfl, _, _, _, _, true, rfl, .ty "list", .base (.lst hb), rfl, q H (Same.refl _)⟩
    · rw [ho]
      refine ⟨_, rfl, rfl, false, rfl, if_f ?_⟩
      have pb1 := pls
      obtain ⟨ts1, hb1, pl1⟩ := pls
      obtain ⟨ts2, hb2, l2, each⟩ := id hl
      refine ⟨_, rfl, u, _, rfl, .inr (SqT.of hu0), rfl, false, rfl, if_f ?_⟩
      refine ⟨_, rfl, u, _, 0, .str "plan", rfl, rfl, SqT.of hu0, rfl, rfl, false, rfl, if_f ?_⟩
      refine ⟨_, rfl, u, _, 1, .ref b1, rfl, rfl, SqT.of hu0, rfl, _, _, _, _, true, rfl, .ty "list", .base (.lst hb1), rfl, true, rfl, if_f ?_⟩
      refine ⟨_, rfl, u, _, 2, .ref b2, rfl, rfl, SqT.of hu0, rfl, _, _, _, _, true, rfl, .ty "list", .base (.lst hb2), rfl, true, rfl, if_f ?_⟩
      have keepP : ∀ {H2 : Hp}, Same H H2 → PLst H2 b1 L := fun s2 => ⟨ts1, s2 _ _ hb1, pl1.same s2⟩
      refine ⟨_, rfl, _, rfl, u, _, 1, .ref b1, rfl, rfl, SqT.of hu0, rfl, W, t, c, p, b1, L, rfl, wd, cl, many, pb1, ch, fun H1 s1 => ⟨_, rfl, rfl, false, ?_, if_f ?_⟩⟩
      · show V.bl (!decide (V.int (tot W.ps L) = V.int o)) = _
        rw [tt, decide_eq_true rfl]
        rfl
      refine ⟨_, rfl, u, _, 1, .ref b1, rfl, rfl, SqT.of (s1 _ _ hu0), rfl, _, rfl, b1, p, L, W.ps, rfl, keepP s1, (wd.same s1).2.pts, (by omega), fun H2 s2 => ⟨_, rfl, rfl, false, ?_, if_f ?_⟩⟩
      · show V.bl (!decide (V.int (tot W.ps L) = V.int o)) = _
        rw [tt, decide_eq_true rfl]
        rfl
      have s12 := s1.trans s2
      refine ⟨_, rfl, _, rfl, u, _, 1, .ref b1, rfl, rfl, SqT.of (s12 _ _ hu0), rfl, rfl, b1, p, L, W.ps, rfl, keepP s12, (wd.same s12).2.pts, (by omega), fun H3 s3 => ⟨_, rfl, rfl, false, ?_, if_f ?_⟩⟩
      · show V.bl (!decide (V.int (tot W.ps L) = V.int o)) = _
        rw [tt, decide_eq_true rfl]
        rfl
      have s13 := s12.trans s3
      have ru := reached_up W
      have kn : (((reached W).map (kvH W)).map (·.1)).Nodup := by
        rw [List.map_map]
        exact inl_nodup (up_nodup ru)
      refine ⟨_, rfl, u, _, 2, .ref b2, rfl, rfl, SqT.of (s13 _ _ hu0), rfl, b2, ts2, (reached W).map (kvH W), rfl, SqL.of (s13 _ _ hb2), paired_at (by rw [List.length_map, l2]) fun i a kv e1 e2 => ?_, fun d nd => ?_⟩
      · rw [List.getElem?_map] at e2
        obtain ⟨x, ex, rfl⟩ := Option.map_eq_some_iff.mp e2
        obtain ⟨_, y, ey⟩ := reached_mem (List.mem_of_getElem? ex)
        have := each i a x y e1 ex ey
        have e3 : kvH W x = (.inl x, .int y) := by
          unfold kvH
          rw [ey]
          rfl
        rw [e3]
        exact SqT.of (s13 _ _ this)
      rw [merged_nd _ [] (by rw [List.nil_append]; exact kn), List.nil_append]
      have vE : valV ((reached W).map (kvH W)) (.inl W.e) = some (.int o) := val_of kn (List.mem_map.mpr ⟨W.e, reached_of ok ho, by
        unfold kvH
        rw [ho]
        rfl⟩)
      have s4 := s13.trans (same_new (o := .dK ((reached W).map (kvH W))) nd)
      refine ⟨_, rfl, d, .int o, rfl, .inl ⟨_, .inl W.e, .inl upd_same, rfl, vE.symm⟩, _, rfl, rfl, false, ?_, if_f ?_⟩
      · show V.bl (!decide (V.int o = V.int o)) = _
        rw [decide_eq_true rfl]
        rfl
      refine ⟨_, rfl, u, _, 1, .ref b1, rfl, rfl, SqT.of (s4 _ _ hu0), rfl, _, rfl, _, rfl, _, rfl, _, rfl, rfl, rfl, W, b1, c, L, rfl, keepP s4, (wd.same s4).2.cells, wd.2.few, ch, fun H5 s5 => ⟨true, true, rfl, rfl, q H5 (s4.trans s5)⟩⟩
end
end Tg

set_option maxHeartbeats 1000000
namespace Tg
open PySem PySem.Spec PyProof.Rows L2 Pl
/-! ### _law_world -/
theorem pick_int {xs : List Int} {n : Int} (v : Int) (h : n = xs.length) (pos : 0 < n) : ∃ e, e ∈ xs ∧ atI (xs.map V.int) (v % n) = some (.int e) := by
  have h0 := Int.emod_nonneg v (show n ≠ 0 by omega)
  have h1 := Int.emod_lt_of_pos v pos
  exact atI_mem h0 (by omega)
theorem pick_h (v a b : Int) : ∃ h : Option Int, atI [V.non, .non, .int a, .int b] (v % 4) = some (hV h) := by
  have h0 := Int.emod_nonneg v (show (4 : Int) ≠ 0 by decide)
  have h1 := Int.emod_lt_of_pos v (show (0 : Int) < 4 by decide)
  obtain h | h | h | h : v % 4 = 0 ∨ v % 4 = 1 ∨ v % 4 = 2 ∨ v % 4 = 3 := by omega
  all_goals rw [h]
  · exact ⟨none, rfl⟩
  · exact ⟨none, rfl⟩
  · exact ⟨some a, rfl⟩
  · exact ⟨some b, rfl⟩
theorem refs_pd {K : PySem.W.Frag} {H : Hp} : ∀ {xs : List V} {cs : List (Int × Int)}, DpAll K H xs (cs.map pd) → ∃ ts : List Addr, xs = ts.map V.ref
  | [], [], _ => ⟨[], rfl⟩
  | x :: xs, c :: cs, .cons a b => by
    obtain ⟨ts, rfl⟩ := refs_pd b
    cases a with
    | tup h _ => exact ⟨_ :: ts, rfl⟩
theorem nc (n : Int) (h : 0 ≤ n) : n = ((n.toNat : Nat) : Int) := by omega
/-- a cell, moved -/
def shC (far : Int) (c : Int × Int) : Int × Int := (c.1 + far, c.2 + far)
abbrev sWo : Stmt := topS 21
abbrev NWo : List Str := ["_law_draws_here", "_law_a_start", "_law_a_end", "_law_a_cells", "_law_k", "_law_width", "_law_first", "_law_far", "_law_a_horizon", "_law_a_points", "_law_one", "_law_two", "_law_time"]
theorem scWo : FnScope NWo ["_law_draws_here"] (defScope sWo) := ⟨rfl, rfl, rfl, by decide +kernel, rfl, by decide +kernel, by decide +kernel⟩
section
variable {P : Program} {w : World} {K : PySem.W.Frag} {mg : Str → Option Value} {base : Heap} {f : Addr} {fd : FuncData} {k : Nat}
def spWo (K : PySem.W.Frag) : Sp := fun vs H Q _ => ∃ (q : Addr) (N : Nat), vs = [.ref q] ∧ Dr H q N ∧ N < 800000 ∧
  ∀ (W : Wd) (t c p : Addr) (H' : Hp) (N' : Nat), Kp q H H' → Dr H' q N' → N' ≤ N + 100 → WorldR K H' t W c p → CL K H' c W.cs → H c = none → NL H' p W.ps → H p = none → W.Ok → W.e - W.s ≤ 100 → W.ps.length ≤ 20 → Q (.ref t) H'
theorem ok_wo (F : Fun K "_law_world" "_law_world" sWo f fd) (L_spot : Cal P w K mg base k "_law_spot" ["_law_draws_here"] spSp) (L_next : Cal P w K mg base k "_law_next" ["_law_draws_here"] spNext) (m_range : mg "range" = none) (m_sorted : mg "sorted" = none) : FnOk P w K mg base CX0 (k + 1) f fd ["_law_draws_here"] (spWo K) := by
  refine F.ok scWo (fun vs H Q E h => ?_) (fun cdv A outer s H vs Q E hr h => ?_)
  · obtain ⟨q, N, rfl, _⟩ := h
    rfl
  · obtain ⟨q, N, rfl, dr, n8, Qd⟩ := h
    refine ⟨_, pss_cons (ps_set (i := 1) scWo.nd rfl (.inr rfl) (pe_cal L_spot (hr.mono (by omega)) (by rfl) (pa_cons (pv 0) pa_nil)))
      (pss_cons (ps_set (i := 2) scWo.nd rfl (.inl rfl) (pe_op op_add (pe_op op_add (pv 1) (pe_ix ix_list (pe_lst (pa_cons pe_int (pa_cons pe_int (pa_cons pe_int (pa_cons pe_int (pa_cons pe_int (pa_cons pe_int pa_nil))))))) (pe_op op_mod (pe_cal L_next (hr.mono (by omega)) (by rfl) (pa_cons (pv 0) pa_nil)) pe_int) (fun _ _ => rfl))) (pe_op op_mod (pe_cal L_next (hr.mono (by omega)) (by rfl) (pa_cons (pv 0) pa_nil)) pe_int)))
      (pss_cons (ps_set (i := 3) scWo.nd rfl (.inl rfl) (pe_lst pa_nil))
      (pss_cons (ps_for PassesOwn.never rfl (pi_range1 (by rfl) m_range (pa_cons (pe_op op_mod (pe_cal L_next (hr.mono (by omega)) (by rfl) (pa_cons (pv 0) pa_nil)) pe_int) pa_nil)) (pg_name (i := 4) scWo.nd rfl (.inl rfl))
        (pss_cons (ps_set (i := 5) scWo.nd rfl (.inl rfl) (pe_ix ix_list (pe_lst (pa_cons pe_int (pa_cons pe_int (pa_cons pe_int (pa_cons pe_int pa_nil))))) (pe_op op_mod (pe_cal L_next (hr.mono (by omega)) (by rfl) (pa_cons (pv 0) pa_nil)) pe_int) (fun _ _ => rfl)))
        (pss_cons (ps_set (i := 6) scWo.nd rfl (.inl rfl) (pe_op op_add (pe_op op_mul (pe_op op_fdiv (pv 1) (pv 5)) (pv 5)) (pe_op op_mul (pv 5) (pe_op op_sub (pe_op op_mod (pe_cal L_next (hr.mono (by omega)) (by rfl) (pa_cons (pv 0) pa_nil)) pe_int) pe_int))))
        (pss_one (ps_expr (pe_bm PySem.F.plainAttrs_list PySem.F.slot_list_append PySem.F.type_list_append mt_append (pv 3) (pa_cons (pe_tup (pa_cons (pv 6) (pa_cons (pe_op op_add (pv 6) (pv 5)) pa_nil))) pa_nil)))))))
      (pss_cons (ps_set (i := 7) scWo.nd rfl (.inr rfl) (pe_ix ix_list (pe_lst (pa_cons pe_int (pa_cons (pe_op op_pow pe_int pe_int) (pa_cons (pe_op op_sub pe_int (pe_op op_pow pe_int pe_int)) pa_nil)))) (pe_op op_mod (pe_cal L_next (hr.mono (by omega)) (by rfl) (pa_cons (pv 0) pa_nil)) pe_int) (fun _ _ => rfl)))
      (pss_cons (ps_set (i := 8) scWo.nd rfl (.inl rfl) (pe_ix ix_list (pe_lst (pa_cons pe_non (pa_cons pe_non (pa_cons (pv 1) (pa_cons (pe_op op_sub (pe_op op_add (pv 1) (pe_op op_mod (pe_cal L_next (hr.mono (by omega)) (by rfl) (pa_cons (pv 0) pa_nil)) pe_int)) pe_int) pa_nil))))) (pe_op op_mod (pe_cal L_next (hr.mono (by omega)) (by rfl) (pa_cons (pv 0) pa_nil)) pe_int) (fun _ _ => rfl)))
      (pss_cons (ps_setLc (i := 9) (own := [("_law_k", 4)]) (g := (gName 4)) (tt := tYes) rfl scWo.nd rfl rfl (sw_true rfl rfl rfl (by decide +kernel)) (pi_range1 (by rfl) m_range (pa_cons (pe_op op_mod (pe_cal L_next (hr.mono (by omega)) (by rfl) (pa_cons (pv 0) pa_nil)) pe_int) pa_nil)) (blkOk_by (own := [("_law_k", 4)]) (N := NWo) (sc := defScope sWo) (by decide +kernel)) (fun _ _ _ _ _ => (pg_name (i := 4) scWo.nd rfl (.inl rfl))) (fun _ _ _ _ _ => pts_nil) (fun _ _ _ _ _ => (pe_op op_add (pe_op op_sub (pv 1) pe_int) (pe_op op_mod (pe_cal L_next (hr.mono (by omega)) (by rfl) (pa_cons (pv 0) pa_nil)) pe_int))))
      (pss_cons (ps_setLc (i := 3) (own := [("_law_one", 10), ("_law_two", 11)]) (g := (gTup K 2 (gCons (gName 10) (gCons (gName 11) gNil)))) (tt := tYes) rfl scWo.nd rfl rfl (sw_true rfl rfl rfl (by decide +kernel)) (pi_list (pv 3)) (blkOk_by (own := [("_law_one", 10), ("_law_two", 11)]) (N := NWo) (sc := defScope sWo) (by decide +kernel)) (fun _ _ _ _ _ => (pg_tup rfl (pgs_cons (pg_name (i := 10) scWo.nd rfl (.inl rfl)) (pgs_cons (pg_name (i := 11) scWo.nd rfl (.inl rfl)) pgs_nil)))) (fun _ _ _ _ _ => pts_nil) (fun _ _ _ _ _ => (pe_tup (pa_cons (pe_op op_add (pv 10) (pv 7)) (pa_cons (pe_op op_add (pv 11) (pv 7)) pa_nil)))))
      (pss_cons (ps_if (pt_cmpR op_notN (pv 8) pe_non (nomark _))
        (pss_one (ps_set (i := 8) scWo.nd rfl (.inl rfl) (pe_op op_add (pv 8) (pv 7))))
        pss_nil)
      (pss_one (ps_ret (pe_tup (pa_cons (pe_op op_add (pv 1) (pv 7)) (pa_cons (pe_op op_add (pv 2) (pv 7)) (pa_cons (pv 8) (pa_cons (pv 3) (pa_cons (pe_callB cr_sortedI (by rfl) m_sorted (by decide +kernel) (pa_cons (pe_lc (own := [("_law_time", 12)]) (g := (gName 12)) (tt := tYes) rfl scWo.nd (pi_list (pv 9)) (blkOk_by (own := [("_law_time", 12)]) (N := NWo) (sc := defScope sWo) (by decide +kernel)) (fun _ _ _ _ _ => (pg_name (i := 12) scWo.nd rfl (.inl rfl))) (fun _ _ _ _ _ => pts_nil) (fun _ _ _ _ _ => (pe_op op_add (pv 12) (pv 7)))) pa_nil)) pa_nil)))))))))))))))), ?_⟩
    refine ⟨_, rfl, q, N, rfl, dr, by omega, fun a H1 k1 d1 a0 a9 => ?_⟩
    -- the end
    refine ⟨_, rfl, by show 6 ≤ sizeLine; decide, fun l1 n1 => ?_⟩
    have s1 := same_new (o := .lst [.int 0, .int 1, .int 24, .int 36, .int 48, .int 7]) n1
    refine ⟨_, rfl, q, N + 1, rfl, d1.same s1, by omega, fun v2 H2 k2 d2 _ _ => ?_⟩
    have l1q := d1.ne n1
    obtain ⟨e1, me1, at1⟩ := pick_int (xs := [0, 1, 24, 36, 48, 7]) (n := 6) v2 rfl (by decide)
    refine ⟨_, _, rfl, rfl, (by show (0 : Int) < 6; decide), l1, _, _, _, rfl, rfl, SqL.of (k2 _ _ l1q upd_same), at1, _, _, rfl, rfl, ?_⟩
    refine ⟨_, rfl, q, N + 2, rfl, d2, by omega, fun v3 H3 k3 d3 _ _ => ?_⟩
    have m30 := Int.emod_nonneg v3 (show (3 : Int) ≠ 0 by decide)
    have m31 := Int.emod_lt_of_pos v3 (show (0 : Int) < 3 by decide)
    refine ⟨_, _, rfl, rfl, (by show (0 : Int) < 3; decide), _, _, rfl, rfl, ?_⟩
    obtain ⟨b, eb⟩ : ∃ b, a + e1 + v3 % 3 = b := ⟨_, rfl⟩
    have ab : a ≤ b ∧ b - a ≤ 50 := by
      simp only [List.mem_cons, List.not_mem_nil, or_false] at me1
      omega
    show gName 2 (V.int (a + e1 + v3 % 3)) _ _ _
    rw [eb]
    have k13 : Kp q H H3 := k1.trans ((Kp.of s1).trans (k2.trans k3))
    -- the cells
    refine ⟨Nat.zero_le _, fun lc nlc => ?_⟩
    have lcq := d3.ne nlc
    have sc := same_new (o := .lst []) nlc
    refine ⟨_, rfl, q, N + 3, rfl, d3.same sc, by omega, fun v4 H4 k4 d4 _ _ => ?_⟩
    have m40 := Int.emod_nonneg v4 (show (14 : Int) ≠ 0 by decide)
    have m41 := Int.emod_lt_of_pos v4 (show (0 : Int) < 14 by decide)
    refine ⟨_, _, rfl, rfl, (by show (0 : Int) < 14; decide), (((v4 % 14).toNat : Nat) : Int), congrArg (fun n : Int => [V.int n]) (nc _ m40), by omega, by omega, for_range (lo := 0) (n := (v4 % 14).toNat) (fun i σ Hc => ∃ (z4 z5 z6 : Option V) (cs : List (Int × Int)), σ = [some (.ref q), some (.int a), some (.int b), some (.ref lc), z4, z5, z6, none, none, none, none, none, none] ∧ LD K Hc lc (cs.map pd) ∧ (∀ c, c ∈ cs → c.1 < c.2) ∧ cs.length = i ∧ Dr Hc q (N + 4 + 2 * i) ∧ (∀ c o, c ≠ q → c ≠ lc → H4 c = some o → Hc c = some o)) ⟨none, none, none, [], rfl, ⟨[], k4 _ _ lcq upd_same, .nil⟩, (fun c h => by cases h), rfl, d4, fun _ _ _ _ h => h⟩ ?_ ?_⟩
    · rintro i σ Hc hi ⟨z4, z5, z6, cs, rfl, ⟨xs, hx, dx⟩, fw, lcs, dc, kc⟩
      refine ⟨by show 4 ≤ sizeLine; decide, fun l nl => ?_⟩
      have sl := same_new (o := .lst [.int 1, .int 3, .int 12, .int 24]) nl
      have lq := dc.ne nl
      refine ⟨_, rfl, q, N + 4 + 2 * i, rfl, dc.same sl, by omega, fun w5 H5 k5 d5 _ _ => ?_⟩
      obtain ⟨wd, mw, atw⟩ := pick_int (xs := [1, 3, 12, 24]) (n := 4) w5 rfl (by decide)
      refine ⟨_, _, rfl, rfl, (by show (0 : Int) < 4; decide), l, _, _, _, rfl, rfl, SqL.of (k5 _ _ lq upd_same), atw, ?_⟩
      have wp : 0 < wd ∧ wd ≤ 24 := by
        simp only [List.mem_cons, List.not_mem_nil, or_false] at mw
        omega
      refine ⟨_, rfl, _, rfl, a, wd, rfl, rfl, ⟨wp.1, by omega⟩, _, rfl, _, wd, rfl, rfl, .inr ⟨by omega, by omega⟩, _, rfl, _, rfl, q, N + 4 + 2 * i + 1, rfl, d5, by omega, fun w6 H6 k6 d6 _ _ => ?_⟩
      refine ⟨_, _, rfl, rfl, (by show (0 : Int) < 6; decide), _, _, rfl, rfl, wd, _, rfl, rfl, .inl ⟨by omega, by omega⟩, _, _, rfl, rfl, ?_⟩
      obtain ⟨x, ex⟩ : ∃ x, a / wd * wd + wd * (w6 % 6 - 1) = x := ⟨_, rfl⟩
      show gName 6 (V.int (a / wd * wd + wd * (w6 % 6 - 1))) _ _ _
      rw [ex]
      have kq : Kp q Hc H6 := (Kp.of sl).trans (k5.trans k6)
      have hx6 := kq _ _ lcq hx
      refine ⟨_, rfl, .inl ⟨rfl, _, SqL.of hx6⟩, _, rfl, _, rfl, _, rfl, _, _, rfl, rfl, by show 2 ≤ sizeLine; decide, fun t nt => ?_⟩
      have st := same_new (o := .tup [.int x, .int (x + wd)]) nt
      obtain ⟨H7, e7⟩ : ∃ H7, upd H6 t (.tup [.int x, .int (x + wd)]) = H7 := ⟨_, rfl⟩
      have ht7 : H7 t = some (.tup [.int x, .int (x + wd)]) := by
        rw [← e7]
        exact upd_same
      rw [e7] at st ⊢
      have hx7 := st _ _ hx6
      obtain ⟨_, _, _, hq, _⟩ := id dc
      have kt : KT Hc H7 := (KT.kp kq hq nfix_lst).trans (KT.of st)
      have xl := dl_len dx
      refine ⟨lc, _, _, rfl, rfl, hx7, small1000 (by omega), _, _, _, cs ++ [(x, x + wd)], rfl, ?_, fun c hc => ?_, by rw [List.length_append, lcs]; rfl, ?_, fun c o n1 n2 e => ?_⟩
      · rw [List.map_append]
        exact .snoc kt hx7 dx (td_pds cs) (pd_new (x := (x, x + wd)) ht7) (td_pd (x, x + wd))
      · rcases List.mem_append.mp hc with h | h
        · exact fw c h
        · rw [List.mem_singleton.mp h]
          show x < x + wd
          omega
      · obtain ⟨y1, y2, y3, y4, y5, y6⟩ := d6
        refine ⟨y1, y2, y3, ?_, y5, by omega⟩
        rw [upd_ne lcq.symm]
        exact st _ _ y4
      · rw [upd_ne n2]
        exact st _ _ (kq _ _ n1 (kc c o n1 n2 e))
    · rintro σ Hc ⟨z4, z5, z6, cs, rfl, hl, fw, lcs, dc, kc⟩
      have free : ∀ {G G' : Hp} {c : Addr}, Kp q G G' → c ≠ q → G' c = none → G c = none := fun {G G' c} kk ne nn => by
        cases e : G c with
        | none => rfl
        | some o =>
          have := kk c o ne e
          rw [nn] at this
          cases this
      have nlcH : H lc = none := free k13 lcq nlc
      have few : cs.length ≤ 14 := by omega
      have kHc : Kp q H Hc := fun c o n1 e => kc c o n1 (ne_of_none e nlcH) (k4 _ _ n1 (sc _ _ (k13 _ _ n1 e)))
      obtain ⟨M, eM⟩ : ∃ M, N + 4 + 2 * (v4 % 14).toNat = M := ⟨_, rfl⟩
      have Mb : M ≤ N + 32 := by omega
      rw [eM] at dc
      -- far
      refine ⟨10, 12, rfl, rfl, ⟨by decide, by decide, by decide⟩, 10, 12, rfl, rfl, ⟨by decide, by decide, by decide⟩, _, _, rfl, rfl, by show 3 ≤ sizeLine; decide, fun l5 n5 => ?_⟩
      have s5 := same_new (o := .lst [.int 0, .int (10 ^ 12), .int (0 - 10 ^ 12)]) n5
      refine ⟨_, rfl, q, M, rfl, dc.same s5, by omega, fun v5 H5 k5 d5 _ _ => ?_⟩
      obtain ⟨far, mfar, atf⟩ := pick_int (xs := [0, 10 ^ 12, 0 - 10 ^ 12]) (n := 3) v5 rfl (by decide)
      refine ⟨_, _, rfl, rfl, (by show (0 : Int) < 3; decide), l5, _, _, _, rfl, rfl, SqL.of (k5 _ _ (dc.ne n5) upd_same), atf, ?_⟩
      have kH5 : Kp q H H5 := kHc.trans ((Kp.of s5).trans k5)
      have kc5 : Kp q Hc H5 := (Kp.of s5).trans k5
      -- the horizon
      refine ⟨_, rfl, _, rfl, _, rfl, q, M + 1, rfl, d5, by omega, fun v6 H6 k6 d6 _ _ => ?_⟩
      refine ⟨_, _, rfl, rfl, (by show (0 : Int) < 40; decide), _, _, rfl, rfl, _, _, rfl, rfl, by show 4 ≤ sizeLine; decide, fun l6 n6 => ?_⟩
      have s6 := same_new (o := .lst [.non, .non, .int a, .int (a + v6 % 40 - 4)]) n6
      refine ⟨_, rfl, q, M + 2, rfl, d6.same s6, by omega, fun v7 H7 k7 d7 _ _ => ?_⟩
      obtain ⟨h, ath⟩ := pick_h v7 a (a + v6 % 40 - 4)
      refine ⟨_, _, rfl, rfl, (by show (0 : Int) < 4; decide), l6, _, _, _, rfl, rfl, SqL.of (k7 _ _ (d6.ne n6) upd_same), ath, ?_⟩
      have kc7 : Kp q Hc H7 := kc5.trans (k6.trans ((Kp.of s6).trans k7))
      -- the points
      refine ⟨_, rfl, q, M + 3, rfl, d7, by omega, fun v8 H8 k8 d8 _ _ => ?_⟩
      have m80 := Int.emod_nonneg v8 (show (20 : Int) ≠ 0 by decide)
      have m81 := Int.emod_lt_of_pos v8 (show (0 : Int) < 20 by decide)
      have kc8 : Kp q Hc H8 := kc7.trans k8
      refine ⟨_, _, rfl, rfl, (by show (0 : Int) < 20; decide), (((v8 % 20).toNat : Nat) : Int), congrArg (fun n : Int => [V.int n]) (nc _ m80), by omega, by omega, fun D nD => lc_range (n := (v8 % 20).toNat) (fun i Hz => Kp q H8 Hz ∧ Dr Hz q (M + 4 + i) ∧ ∃ ns : List Int, NL Hz D ns ∧ ns.length = i) ⟨Kp.of (same_new nD), d8.same (same_new nD), [], upd_same, rfl⟩ ?_ ?_⟩
      · rintro i Hz hi ⟨kz, dz, ns, hD, ln⟩
        refine ⟨rfl, yes_b (if_t ⟨_, rfl, _, _, rfl, rfl, _, rfl, q, M + 4 + i, rfl, dz, by omega, fun v9 H9 k9 d9 _ _ => ?_⟩)⟩
        have Dq := d8.ne nD
        have hD9 := k9 _ _ Dq hD
        refine ⟨_, _, rfl, rfl, (by show (0 : Int) < 60; decide), _, _, rfl, rfl, _, hD9, by rw [List.length_map]; exact small1000 (by omega), fun c o n1 e => ?_, ?_, ns ++ [a - 3 + v9 % 60], ?_, by rw [List.length_append, ln]; rfl⟩
        · rw [upd_ne (ne_of_none e nD)]
          exact k9 _ _ n1 (kz _ _ n1 e)
        · obtain ⟨y1, y2, y3, y4, y5, y6⟩ := d9
          refine ⟨y1, y2, y3, ?_, y5, by omega⟩
          rw [upd_ne Dq.symm]
          exact y4
        · unfold NL
          rw [upd_same, List.map_append]
          rfl
      · rintro H9 ⟨k9, d9, ns, hD, ln⟩
        have kc9 : Kp q Hc H9 := kc8.trans k9
        obtain ⟨xs, hx, dx⟩ := hl
        obtain ⟨ts, rfl⟩ := refs_pd dx
        obtain ⟨_, _, _, hq, _⟩ := id dc
        have hx9 := kc9 _ _ lcq hx
        have dx9 := dpAll_kt (KT.kp kc9 hq nfix_lst) dx (td_pds cs)
        refine ⟨_, rfl, lc, rfl, ⟨_, SqL.of hx9⟩, fun D2 nD2 => walked_l (K := K) (a := lc) (xs := ts.map V.ref) (fun i Hz => Same H9 Hz ∧ LD K Hz D2 (((cs.take i).map (shC far)).map pd)) ⟨same_new nD2, [], upd_same, .nil⟩ (fun i Hz h => SqL.of (h.1 _ _ hx9)) ?_ ?_⟩
        · rintro i v Hz hv ⟨sz, xs2, hD2, dx2⟩
          rw [List.getElem?_map] at hv
          obtain ⟨t, et, rfl⟩ := Option.map_eq_some_iff.mp hv
          obtain ⟨c, ec, dc2⟩ := dl_at (v := .ref t) dx9 (i := i) (by rw [List.getElem?_map, et]; rfl)
          refine ⟨t, _, rfl, sqT_same sz (dp_pair dc2), rfl, _, _, rfl, _, _, rfl, rfl, rfl, yes_b (if_t ⟨_, rfl, _, rfl, _, _, rfl, rfl, _, rfl, _, rfl, _, _, rfl, rfl, by show 2 ≤ sizeLine; decide, fun u nu => ?_⟩)⟩
          have su := same_new (o := .tup [.int (c.1 + far), .int (c.2 + far)]) nu
          have xl := dl_len dx2
          rw [List.length_map, List.length_take] at xl
          refine ⟨_, su _ _ hD2, small1000 (by omega), same_put nD2 (sz.trans su), ?_⟩
          rw [List.take_add_one, ec, List.map_append, List.map_append]
          exact .snoc (KT.of su) (su _ _ hD2) dx2 (td_pds _) (pd_new (x := shC far c) upd_same) (td_pd (shC far c))
        · rintro H10 ⟨s10, hl10⟩
          have tl : (cs.take (ts.map V.ref).length) = cs := by
            rw [dl_len dx, List.take_length]
          rw [tl] at hl10
          have hD10 := s10 _ _ hD
          cases h
          case' none =>
            obtain ⟨h2, eh2⟩ : ∃ h2 : Option Int, hV none = hV h2 := ⟨none, rfl⟩
            refine ⟨_, rfl, rfl, false, rfl, if_f ?_⟩
          case' some z =>
            obtain ⟨h2, eh2⟩ : ∃ h2 : Option Int, V.int (z + far) = hV h2 := ⟨some (z + far), rfl⟩
            refine ⟨_, rfl, rfl, true, rfl, if_t ⟨_, rfl, _, rfl, _, _, rfl, rfl, ?_⟩⟩
          all_goals
            refine ⟨_, rfl, _, rfl, _, _, rfl, rfl, _, rfl, _, rfl, _, _, rfl, rfl, _, rfl, _, rfl, _, rfl, D, rfl, ⟨_, SqL.of hD10⟩, fun D3 nD3 => walked_l (K := K) (a := D) (xs := ns.map V.int) (fun i Hz => Same H10 Hz ∧ NL Hz D3 ((ns.take i).map fun x => x + far)) ⟨same_new nD3, upd_same⟩ (fun i Hz h => SqL.of (h.1 _ _ hD10)) ?_ ?_⟩
            · rintro i v Hz hv ⟨sz, hD3⟩
              rw [List.getElem?_map] at hv
              obtain ⟨x, ex, rfl⟩ := Option.map_eq_some_iff.mp hv
              have il := (List.getElem?_eq_some_iff.mp ex).1
              refine ⟨rfl, yes_b (if_t ⟨_, rfl, _, rfl, _, _, rfl, rfl, _, hD3, ?_, same_put nD3 sz, ?_⟩)⟩
              · rw [List.length_map, List.length_map, List.length_take]
                exact small1000 (by omega)
              · unfold NL
                rw [upd_same, List.take_add_one, ex, List.map_append, List.map_append]
                rfl
            · rintro H11 ⟨s11, hD3⟩
              rw [List.length_map, List.take_length] at hD3
              refine ⟨D3, _, rfl, SqL.of hD3, fun ns2 pp pm up np => ⟨by show 5 ≤ sizeLine; decide, fun t nt => ?_⟩⟩
              have s12 := same_new (o := .lst (ns2.map V.int)) np
              have s13 := same_new (o := .tup [.int (a + far), .int (b + far), hV h2, .ref D2, .ref pp]) nt
              dsimp only
              rw [eh2]
              have sl := (s11.trans s12).trans s13
              have kall : Kp q H9 _ := Kp.of (s10.trans sl)
              have kH9 : Kp q H H9 := kHc.trans kc9
              have D2q : D2 ≠ q := d9.ne nD2
              have ppn := (s10.trans s11).free np
              have ppq : pp ≠ q := d9.ne ppn
              have cl : CL K H10 D2 ((cs.map (shC far)).map id) := by
                obtain ⟨ys, y1, y2⟩ := hl10
                obtain ⟨us, rfl⟩ := refs_pd y2
                exact ⟨us, y1, by rw [List.map_id]; exact y2⟩
              rw [List.map_id] at cl
              have cl13 := cl.same sl
              refine Qd ⟨a + far, b + far, h2, cs.map (shC far), ns2⟩ t D2 pp _ (M + 4 + (v8 % 20).toNat) (kH9.trans kall) ((d9.same s10).same sl) (by omega) ⟨upd_same, cl13.cells, .inl (SqL.of (s13 _ _ upd_same)), by rw [List.length_map]; omega⟩ cl13 (free kH9 D2q nD2) (s13 _ _ upd_same) (free kH9 ppq ppn) ⟨by show a + far ≤ b + far; omega, fun c hc => ?_⟩ (by show b + far - (a + far) ≤ 100; omega) ?_
              · obtain ⟨c0, h0, rfl⟩ := List.mem_map.mp hc
                have := fw c0 h0
                show c0.1 + far < c0.2 + far
                omega
              · show ns2.length ≤ 20
                rw [pm.length_eq, List.length_map]
                omega
end
end Tg

set_option maxHeartbeats 1000000
namespace Tg
open PySem PySem.Spec PyProof.Rows L2 Pl
/-! ### the points in another order -/
/-- the world with its points in another order -/
def wP (W : Wd) (qs : List Int) : Wd := ⟨W.s, W.e, W.h, W.cs, qs⟩
section
variable {W : Wd} {qs : List Int}
theorem wP_pt (h : qs.Perm W.ps) : ptS (wP W qs) = ptS W := by
  unfold ptS
  apply List.map_congr_left
  intro x _
  show (⟨false, x.1, x.2, ((cnt qs x.1 x.2 : Nat) : Int)⟩ : Stp) = ⟨false, x.1, x.2, ((cnt W.ps x.1 x.2 : Nat) : Int)⟩
  rw [cnt_perm h]
theorem wP_own (h : qs.Perm W.ps) (a : Int) : own (wP W qs) a = own W a := by
  unfold own
  rw [wP_pt h]
  rfl
theorem wP_fin (h : qs.Perm W.ps) : fin (wP W qs) = fin W := by
  unfold fin Pl.PS
  rw [show own (wP W qs) = own W from funext (wP_own h)]
  rfl
theorem wP_hts (h : qs.Perm W.ps) : hts (wP W qs) = hts W := by
  unfold hts
  rw [wP_fin h]
theorem wP_pcs (h : qs.Perm W.ps) : pcs (wP W qs) = pcs W := by
  unfold pcs
  rw [wP_fin h]
theorem wP_rea (h : qs.Perm W.ps) : reached (wP W qs) = reached W := by
  unfold reached
  rw [wP_hts h]
  rfl
theorem wP_chain : ∀ {L : List Pce} {a b : Int}, Chain (wP W qs) a L b → Chain W a L b
  | [], _, _, h => h
  | _ :: _, _, _, h => ⟨h.1, ⟨h.2.1.fw, h.2.1.cell, h.2.1.pt⟩, wP_chain h.2.2⟩
theorem wP_tot (h : qs.Perm W.ps) (L : List Pce) : tot qs L = tot W.ps L := by
  unfold tot
  rw [List.map_congr_left fun p _ => ?_]
  unfold cst
  rw [cnt_perm h]
theorem wP_fit (h : qs.Perm W.ps) {L : List Pce} (f : Fit (wP W qs) L) : Fit W L := by
  obtain ⟨L0, e, c, o⟩ := f
  exact ⟨L0, e, wP_chain c, fun p hp => by rw [← wP_pcs h]; exact o p hp⟩
theorem wP_told (h : qs.Perm W.ps) {H : Hp} {t : Addr} (g : Gap H t (wP W qs) ∨ ∃ o L, Plan H t (wP W qs) o L) : Gap H t W ∨ ∃ o L, Plan H t W o L := by
  rcases g with ⟨a, b, ht, hb⟩ | ⟨o, L, a, c, tt, f, b1, b2, ht, pl, ⟨ts, x1, x2, x3⟩⟩
  · rw [wP_hts h] at a
    rw [wP_rea h] at hb
    exact .inl ⟨a, b, ht, hb⟩
  · rw [wP_hts h] at a
    refine .inr ⟨o, L, a, wP_chain c, ?_, wP_fit h f, b1, b2, ht, pl, ts, x1, ?_, fun i t x o e1 e2 e3 => x3 i t x o e1 ?_ ?_⟩
    · rw [← wP_tot h]
      exact tt
    · rw [wP_rea h] at x2
      exact x2
    · rw [wP_rea h]
      exact e2
    · rw [wP_hts h]
      exact e3
theorem wP_ok (ok : W.Ok) : (wP W qs).Ok := ⟨ok.se, ok.fw⟩
end
/-- two parts the other way about, and backwards -/
theorem turn_perm (ps : List Int) (n : Nat) : ((ps.drop n ++ ps.take n).reverse).Perm ps :=
  (List.reverse_perm _).trans ((List.perm_append_comm).trans (by rw [List.take_append_drop]))
theorem map_cutD (ps : List Int) (n : Nat) : (ps.drop n).map V.int ++ (ps.take n).map V.int = (ps.drop n ++ ps.take n).map V.int := (List.map_append ..).symm
theorem map_rev (ps : List Int) : (ps.map V.int).reverse = ps.reverse.map V.int := (List.map_reverse ..).symm
end Tg

/-! a derivation with a told precondition in the place of the one that is read off -/
namespace Tg
open PySem PySem.Spec PyProof.Rows L2
theorem pss_by {X : Cx} {rest : List Stmt} {u R : TS} (h : PSs X rest u) (hr : ∀ D σ H, R D σ H → u D σ H) : PSs X rest R := ⟨fun pins s σ H D I hw => h.run pins s σ H D I (hr D σ H hw)⟩
theorem pe_by {X : Cx} {e : Expr} {u R : TE} (h : PE X e u) (hr : ∀ σ H Q, R σ H Q → u σ H Q) : PE X e R := ⟨fun pins s σ H Q I hw => h.run pins s σ H Q I (hr σ H Q hw)⟩
theorem pt_by {X : Cx} {e : Expr} {u R : TT} (h : PT X e u) (hr : ∀ σ H Q, R σ H Q → u σ H Q) : PT X e R := ⟨fun pins s σ H Q I hw => h.run pins s σ H Q I (hr σ H Q hw)⟩
end Tg

set_option maxHeartbeats 2000000
namespace Tg
open PySem PySem.Spec PyProof.Rows L2 Pl
/-! ### _law_right -/
abbrev sRi : Stmt := topS 27
abbrev NRi : List Str := ["_law_draws_here", "_law_world_here", "_law_a_start", "_law_a_end", "_law_a_horizon", "_law_a_cells", "_law_a_points", "_law_due", "_law_at", "_law_handed", "_law_told"]
theorem scRi : FnScope NRi ["_law_draws_here"] (defScope sRi) := ⟨rfl, rfl, rfl, by decide +kernel, rfl, by decide +kernel, by decide +kernel⟩
abbrev NL5 : List Str := ["start", "end", "horizon", "cells", "points"]
abbrev NS6 : List Str := ["thing", "start", "end", "horizon", "cells", "points"]
abbrev NP5 : List Str := ["pieces", "start", "end", "horizon", "cells"]
/-- () as a default -/
def Emp (K : PySem.W.Frag) (T : Addr) : Prop := ∀ H : Hp, SqT K H T []
theorem Emp.cells {K : PySem.W.Frag} {T : Addr} (h : Emp K T) (H : Hp) : CellsR K H T [] := ⟨[], .inr (h H), rfl, fun i t c e => by simp at e⟩
theorem Emp.pts {K : PySem.W.Frag} {T : Addr} (h : Emp K T) (H : Hp) : PtsR K H T [] := .inr (h H)
theorem reached_point {s : Int} : reached ⟨s, s, none, [], []⟩ = [s] := by
  have ok : (⟨s, s, none, [], []⟩ : Wd).Ok := ⟨Int.le_refl _, fun c h => by cases h⟩
  refine up_unique (reached_up _) (List.pairwise_singleton _ _) fun x => ?_
  rw [List.mem_singleton]
  constructor
  · intro h
    have := edg_in ok (reached_mem h).1
    have h1 : s ≤ x := this.1
    have h2 : x ≤ s := this.2
    omega
  · rintro rfl
    exact reached_of ok (hts_inv ok).start
theorem bare_there {s e : Int} (le : s ≤ e) : ∃ o, hts ⟨s, e, none, [], []⟩ e = some o := by
  have ok : (⟨s, e, none, [], []⟩ : Wd).Ok := ⟨le, fun c h => by cases h⟩
  by_cases c : s = e
  · subst c
    exact ⟨0, (hts_inv ok).start⟩
  · have ee : edg ⟨s, e, none, [], []⟩ = [s, e] := by
      refine up_unique (edg_up _) (List.pairwise_cons.mpr ⟨fun y hy => by rw [List.mem_singleton.mp hy]; omega, List.pairwise_singleton _ _⟩) fun x => ?_
      rw [edg_mem, List.mem_cons, List.mem_singleton]
      constructor
      · rintro (h | h | ⟨c, h, _⟩)
        · exact .inl h
        · exact .inr h
        · cases (mem_ins.mp h).1
      · rintro (h | h)
        · exact .inl h
        · exact .inr (.inl h)
    have pm : (⟨false, s, e, ((cnt [] s e : Nat) : Int)⟩ : Stp) ∈ ptS ⟨s, e, none, [], []⟩ := by
      unfold ptS
      rw [ee]
      exact .head _
    obtain ⟨o, h, _⟩ := hts_tight ok (.inl pm) (g := 0) (hts_inv ok).start
    exact ⟨o, h⟩
theorem bare_tot {s e : Int} : ∀ {L : List Pce} {a b : Int}, Chain ⟨s, e, none, [], []⟩ a L b → tot [] L = 0
  | [], _, _, _ => rfl
  | p :: r, a, b, h => by
    rw [tot_cons, bare_tot h.2.2]
    unfold cst
    cases hp : p.1 with
    | true => cases h.2.1.cell hp
    | false => rfl
/-- what is still to be asked once the told plan was held against the world -/
abbrev bRi : List Stmt := defBody sRi
theorem CL.kp {K : PySem.W.Frag} {H H' : Hp} {c q : Addr} {cs : List (Int × Int)} {xs : List V} (h : CL K H c cs) (k : Kp q H H') (hq : H q = some (.lst xs)) (ne : c ≠ q) : CL K H' c cs := by
  obtain ⟨ts, h1, h2⟩ := h
  exact ⟨ts, k _ _ ne h1, dpAll_kt (KT.kp k hq nfix_lst) h2 (td_pds cs)⟩
section
variable {P : Program} {w : World} {K : PySem.W.Frag} {mg : Str → Option Value} {base : Heap} {f : Addr} {fd : FuncData} {k : Nat} {T1 T2 T3 T4 T5 : Addr} {cdv : Value} {A : Around} {outer : List Env} {s : Shared} {H0 : Hp} {E : XK}
def spRi : Sp := fun vs H Q _ => ∃ (q : Addr) (N : Nat), vs = [.ref q] ∧ Dr H q N ∧ N < 700000 ∧ ∀ H', Kp q H H' → Q (.bl true) H'
def R12 (K : PySem.W.Frag) : TS := fun D σ H => ∃ (W : Wd) (q t c p : Addr) (qs : List Int) (z7 z8 z9 z10 : Option V), σ = [some (.ref q), some (.ref t), some (.int W.s), some (.int W.e), some (hV W.h), some (.ref c), some (.ref p), z7, z8, z9, z10] ∧ CL K H c W.cs ∧ NL H p qs ∧ W.Ok ∧ W.e - W.s ≤ 100 ∧ ∀ H', Same H H' → D.rt (.bl true) H'
theorem ri_12 (hr : Room k (A.deeper (envOfC "_law_right" (defScope sRi) s.heap.objs.size f cdv))) (C_least_plan_d : CalN P w K mg base k "least_plan" NL5 2 [] (fun vs _ => vs ++ [.non, .ref T1, .ref T2]) (spLp K)) (E1 : Emp K T1) (E2 : Emp K T2) (C_shows_least_d : CalN P w K mg base k "shows_least" NS6 3 [] (fun vs _ => vs ++ [.non, .ref T3, .ref T4]) (spSl K)) (E3 : Emp K T3) (E4 : Emp K T4)
    (C_is_plan_d : CalN P w K mg base k "is_plan" NP5 3 [] (fun vs _ => vs ++ [.non, .ref T5]) (spPl K)) (E5 : Emp K T5) (C_cost_of : Cal P w K mg base k "cost_of" ["pieces", "points"] (spCo K)) :
    PSs (cxOf CX0 P w K mg base NRi "_law_right" (defScope sRi) f cdv A outer s H0 E).nox (bRi.drop 12) (R12 K) := by
  have hu64 : (A.deeper (envOfC "_law_right" (defScope sRi) s.heap.objs.size f cdv)).units + 64 < cLine := by
    have := hr.un
    omega
  refine pss_by (pss_cons (ps_if (pt_cmpR op_notBl (pe_calN C_shows_least_d (hr.mono (by omega)) (by rfl) (pa_cons (pe_tup (pa_cons pe_str (pa_cons (pe_lst pa_nil) (pa_cons (pe_lst (pa_cons (pe_tup (pa_cons (pv 2) (pa_cons pe_int pa_nil))) pa_nil)) pa_nil)))) (pa_cons (pv 2) (pa_cons (pv 2) pa_nil))) pk_nil) pe_bl (nomark _))
        (pss_one (ps_ret pe_bl))
        pss_nil)
      (pss_cons (ps_if (pt_cmpR op_notBl (pe_calN C_is_plan_d (hr.mono (by omega)) (by rfl) (pa_cons (pe_lst pa_nil) (pa_cons (pv 2) (pa_cons (pv 2) pa_nil))) pk_nil) pe_bl (nomark _))
        (pss_one (ps_ret pe_bl))
        pss_nil)
      (pss_cons (ps_if (PW.pt (pw_and (pt_cmpR op_isN (pv 4) pe_non (nomark _)) (pw_and (pt_cmpR (op_eqD hu64) (pv 5) (pe_lst pa_nil) (nomark _)) (pw_and1 (pt_cmpR (op_eqD hu64) (pv 6) (pe_lst pa_nil) (nomark _))))))
        (pss_one (ps_ret (pe_and (pe_cmpR op_eq (pe_ix ix_tup (pe_calN C_least_plan_d (hr.mono (by omega)) (by rfl) (pa_cons (pv 2) (pa_cons (pv 3) pa_nil)) pk_nil) pe_int (fun _ _ => rfl)) pe_str (nomark _)) (pe_one (pe_cmpR op_eq (pe_cal C_cost_of (hr.mono (by omega)) (by rfl) (pa_cons (pe_ix ix_tup (pe_calN C_least_plan_d (hr.mono (by omega)) (by rfl) (pa_cons (pv 2) (pa_cons (pv 3) pa_nil)) pk_nil) pe_int (fun _ _ => rfl)) (pa_cons (pe_lst pa_nil) pa_nil))) pe_int (nomark _))))))
        pss_nil)
      (pss_one (ps_ret pe_bl))))) ?_
  rintro D σ H ⟨W, q, t, c, p, qs, z7, z8, z9, z10, rfl, cl, nlp, ok, span, Qd⟩
  have ok0 : (⟨W.s, W.s, none, [], []⟩ : Wd).Ok := ⟨Int.le_refl _, fun c h => by cases h⟩
  refine ⟨Nat.zero_le _, fun a na => ?_⟩
  have sa := same_new (o := .lst []) na
  refine ⟨_, rfl, by show 2 ≤ sizeLine; decide, fun b nb => ?_⟩
  have sb := same_new (o := .tup [.int W.s, .int 0]) nb
  refine ⟨by show 1 ≤ sizeLine; decide, fun l nl => ?_⟩
  have sl := same_new (o := .lst [.ref b]) nl
  refine ⟨by show 3 ≤ sizeLine; decide, fun u nu => ?_⟩
  have su := same_new (o := .tup [.str "plan", .ref a, .ref l]) nu
  refine ⟨_, rfl, _, rfl, rfl, rfl, ⟨W.s, W.s, none, [], []⟩, u, T3, T4, rfl, ⟨E3.cells _, E4.pts _, Nat.zero_le _⟩, ok0, Nat.zero_le _, .inr ⟨0, [], (hts_inv ok0).start, rfl, rfl, ⟨[], rfl, rfl, fun p hp => by cases hp⟩, a, l, upd_same, ⟨[], su _ _ (sl _ _ (sb _ _ upd_same)), trivial⟩, [b], su _ _ upd_same, by rw [reached_point]; rfl, fun i t x o e1 e2 e3 => ?_⟩, fun H1 s1 => ⟨true, true, rfl, rfl, false, rfl, if_f ?_⟩⟩
  · rw [reached_point] at e2
    cases i with
    | zero =>
      obtain rfl : b = t := Option.some.inj e1
      obtain rfl : W.s = x := Option.some.inj e2
      have z := (hts_inv ok0).start
      have z : some (0 : Int) = some o := z.symm.trans e3
      obtain rfl := Option.some.inj z
      exact su _ _ (sl _ _ upd_same)
    | succ i => cases e1
  have s01 : Same H H1 := (((sa.trans sb).trans sl).trans su).trans s1
  refine ⟨Nat.zero_le _, fun a2 na2 => ?_⟩
  have sa2 := same_new (o := .lst []) na2
  refine ⟨_, rfl, _, rfl, rfl, rfl, ⟨W.s, W.s, none, [], []⟩, a2, T5, [], rfl, ⟨[], upd_same, trivial⟩, E5.cells _, Nat.zero_le _, rfl, fun H2 s2 => ⟨true, true, rfl, rfl, false, rfl, if_f ?_⟩⟩
  have s02 := (s01.trans sa2).trans s2
  cases hW : W.h with
  | some z => exact ⟨_, rfl, rfl, false, rfl, if_f (if_f (Qd H2 s02))⟩
  | none =>
    refine ⟨_, rfl, rfl, true, rfl, if_t ?_⟩
    refine ⟨_, rfl, Nat.zero_le _, fun a3 na3 => ?_⟩
    have s03 := s02.trans (same_new (o := .lst []) na3)
    refine ⟨.list (W.cs.map pd), .list [], (cl.same s03).dp, .lst (SqL.of upd_same) .nil, (pds_form W.cs).1, rfl, W.cs.isEmpty, congrArg V.bl ?_, ?_⟩
    · cases W.cs <;> rfl
    cases hc : W.cs.isEmpty with
    | false => exact if_f (if_f (Qd _ s03))
    | true =>
      refine if_t ⟨_, rfl, Nat.zero_le _, fun a4 na4 => ?_⟩
      have s04 := s03.trans (same_new (o := .lst []) na4)
      refine ⟨.list (qs.map PyData.int), .list [], .lst (SqL.of (s04 _ _ nlp)) (ints_dp qs), .lst (SqL.of upd_same) .nil, shaped_ints qs, rfl, qs.isEmpty, congrArg V.bl ?_, ?_⟩
      · cases qs <;> rfl
      cases hq : qs.isEmpty with
      | false => exact if_f (Qd _ s04)
      | true =>
        have ok1 : (⟨W.s, W.e, none, [], []⟩ : Wd).Ok := ⟨ok.se, fun c h => by cases h⟩
        obtain ⟨o1, there⟩ := bare_there ok.se
        refine if_t ⟨_, rfl, _, rfl, rfl, rfl, ⟨W.s, W.e, none, [], []⟩, T1, T2, rfl, ⟨E1.cells _, E2.pts _, Nat.zero_le _⟩, ok1, (by show W.e - W.s ≤ 1000000; omega), fun u5 H5 s5 nu5 told5 => ?_⟩
        rcases told5 with ⟨no, _⟩ | ⟨o5, L5, _, _, _, _, b51, b52, hu5, _⟩
        · rw [no] at there
          cases there
        refine ⟨u5, _, 0, .str "plan", rfl, rfl, SqT.of hu5, rfl, rfl, true, rfl, if_t ?_⟩
        refine ⟨_, rfl, _, rfl, rfl, rfl, ⟨W.s, W.e, none, [], []⟩, T1, T2, rfl, ⟨E1.cells _, E2.pts _, Nat.zero_le _⟩, ok1, (by show W.e - W.s ≤ 1000000; omega), fun u6 H6 s6 nu6 told6 => ?_⟩
        rcases told6 with ⟨no, _⟩ | ⟨o6, L6, _, ch6, _, _, b61, b62, hu6, pl6, _⟩
        · rw [no] at there
          cases there
        refine ⟨u6, _, 1, .ref b61, rfl, rfl, SqT.of hu6, rfl, Nat.zero_le _, fun a7 na7 => ?_⟩
        have s7 := same_new (o := .lst []) na7
        obtain ⟨ts6, hb6, pt6⟩ := pl6
        refine ⟨b61, a7, L6, [], rfl, ⟨ts6, s7 _ _ hb6, pt6.same s7⟩, .inl (SqL.of upd_same), Nat.zero_le _, fun H8 s8 => ⟨rfl, ?_⟩⟩
        show D.rt (V.bl (decide (V.int (tot [] L6) = V.int 0))) H8
        rw [bare_tot ch6, decide_eq_true rfl]
        exact Qd H8 ((((s04.trans s5).trans s6).trans s7).trans s8)
theorem ok_ri (F : Fun K "_law_right" "_law_right" sRi f fd) (L_world : Cal P w K mg base k "_law_world" ["_law_draws_here"] (spWo K)) (L_costs : Cal P w K mg base k "_law_costs" ["_law_world_here"] (spLc K)) (L_next : Cal P w K mg base k "_law_next" ["_law_draws_here"] spNext) (L_told_right : Cal P w K mg base k "_law_told_right" ["_law_world_here", "_law_told", "_law_due"] (spTd K))
    (C_least_plan_n : CalN P w K mg base k "least_plan" NL5 2 ["horizon", "cells", "points"] gRow (spLp K)) (C_least_plan_k : CalK P w K mg base k "least_plan" NL5 ["end", "start", "points", "cells", "horizon"] [1, 0, 4, 3, 2] (spLp K)) (C_least_plan_d : CalN P w K mg base k "least_plan" NL5 2 [] (fun vs _ => vs ++ [.non, .ref T1, .ref T2]) (spLp K)) (E1 : Emp K T1) (E2 : Emp K T2)
    (C_shows_least_n : CalN P w K mg base k "shows_least" NS6 3 ["horizon", "cells", "points"] gRow (spSl K)) (C_shows_least_k : CalK P w K mg base k "shows_least" NS6 ["thing", "end", "start", "points", "cells", "horizon"] [0, 2, 1, 5, 4, 3] (spSl K)) (C_shows_least_d : CalN P w K mg base k "shows_least" NS6 3 [] (fun vs _ => vs ++ [.non, .ref T3, .ref T4]) (spSl K)) (E3 : Emp K T3) (E4 : Emp K T4)
    (C_is_plan_k : CalK P w K mg base k "is_plan" NP5 ["end", "pieces", "start", "cells", "horizon"] [1, 2, 0, 4, 3] (spPl K)) (C_is_plan_d : CalN P w K mg base k "is_plan" NP5 3 [] (fun vs _ => vs ++ [.non, .ref T5]) (spPl K)) (E5 : Emp K T5) (C_cost_of : Cal P w K mg base k "cost_of" ["pieces", "points"] (spCo K))
    (m_len : mg "len" = none) (m_list : mg "list" = none) (m_tuple : mg "tuple" = none) (m_isinstance : mg "isinstance" = none) : FnOk P w K mg base CX0 (k + 1) f fd ["_law_draws_here"] spRi := by
  refine F.ok scRi (fun vs H Q E h => ?_) (fun cdv A outer s H vs Q E hr h => ?_)
  · obtain ⟨q, N, rfl, _⟩ := h
    rfl
  · obtain ⟨q, N, rfl, dr, n7, Qd⟩ := h
    have hu : (A.deeper (envOfC "_law_right" (defScope sRi) s.heap.objs.size f cdv)).units + 65 < cLine := by
      have := hr.un
      omega
    have hu64 : (A.deeper (envOfC "_law_right" (defScope sRi) s.heap.objs.size f cdv)).units + 64 < cLine := by omega
    have hu1 : (A.deeper (envOfC "_law_right" (defScope sRi) s.heap.objs.size f cdv)).units + 1 < cLine := by omega
    refine ⟨_, pss_cons (ps_set (i := 1) scRi.nd rfl (.inl rfl) (pe_cal L_world (hr.mono (by omega)) (by rfl) (pa_cons (pv 0) pa_nil)))
      (pss_cons (ps_asg (pv 1) (pg_tup rfl (pgs_cons (pg_name (i := 2) scRi.nd rfl (.inl rfl)) (pgs_cons (pg_name (i := 3) scRi.nd rfl (.inl rfl)) (pgs_cons (pg_name (i := 4) scRi.nd rfl (.inl rfl)) (pgs_cons (pg_name (i := 5) scRi.nd rfl (.inl rfl)) (pgs_cons (pg_name (i := 6) scRi.nd rfl (.inl rfl)) pgs_nil)))))))
      (pss_cons (ps_set (i := 7) scRi.nd rfl (.inl rfl) (pe_dget1 hu1 (pe_cal L_costs (hr.mono (by omega)) (by rfl) (pa_cons (pv 1) pa_nil)) (pv 3) ⟨rfl, rfl, rfl, rfl⟩))
      (pss_cons (ps_set (i := 8) scRi.nd rfl (.inl rfl) (pe_op op_mod (pe_cal L_next (hr.mono (by omega)) (by rfl) (pa_cons (pv 0) pa_nil)) (pe_op op_add (pe_callB call_len_seq (by rfl) m_len (by decide +kernel) (pa_cons (pv 6) pa_nil)) pe_int)))
      (pss_cons (ps_set (i := 6) scRi.nd rfl (.inl rfl) (pe_revL (pe_op op_cat (pe_slice sl_list (pv 6) (po_some (pv 8)) po_none) (pe_slice sl_list (pv 6) po_none (po_some (pv 8)))) (po_some (pe_un un_neg pe_int))))
      (pss_cons (ps_set (i := 9) scRi.nd rfl (.inl rfl) (pe_tup (pa_cons (pe_callTy call_list_of (by rfl) m_list (by decide +kernel) (pa_cons (pv 5) pa_nil)) (pa_cons (pe_callTy call_list_of (by rfl) m_list (by decide +kernel) (pa_cons (pv 6) pa_nil)) pa_nil))))
      (pss_cons (ps_set (i := 10) scRi.nd rfl (.inl rfl) (pe_calN C_least_plan_n (hr.mono (by omega)) (by rfl) (pa_cons (pv 2) (pa_cons (pv 3) pa_nil)) (pk_cons (pv 4) (pk_cons (pe_ix ix_tup (pv 9) pe_int (fun _ _ => rfl)) (pk_cons (pe_ix ix_tup (pv 9) pe_int (fun _ _ => rfl)) pk_nil)))))
      (pss_cons (ps_if (PW.pt (pw_or (pt_not (pt_val (pe_callB call_isi (by rfl) m_isinstance (by decide +kernel) (pa_cons (pv 10) (pa_cons (pe_bltn (v := .ty "tuple") (by rfl) m_tuple (by decide +kernel) rfl) pa_nil))))) (pw_or (pt_not (pt_val (pe_cal L_told_right (hr.mono (by omega)) (by rfl) (pa_cons (pv 1) (pa_cons (pv 10) (pa_cons (pv 7) pa_nil)))))) (pw_or1 (pt_cmpR (op_neD hu64) (pv 9) (pe_tup (pa_cons (pv 5) (pa_cons (pv 6) pa_nil))) (nomark _))))))
        (pss_one (ps_ret pe_bl))
        pss_nil)
      (pss_cons (ps_if (pt_cmpR op_notBl (pe_calN C_shows_least_n (hr.mono (by omega)) (by rfl) (pa_cons (pv 10) (pa_cons (pv 2) (pa_cons (pv 3) pa_nil))) (pk_cons (pv 4) (pk_cons (pv 5) (pk_cons (pv 6) pk_nil)))) pe_bl (nomark _))
        (pss_one (ps_ret pe_bl))
        pss_nil)
      (pss_cons (ps_if (pt_cmpR (op_neD hu64) (pe_calK C_least_plan_k (hr.mono (by omega)) (by rfl) (pk_cons (pv 3) (pk_cons (pv 2) (pk_cons (pe_callTy call_tuple_of (by rfl) m_tuple (by decide +kernel) (pa_cons (pv 6) pa_nil)) (pk_cons (pe_callTy call_tuple_of (by rfl) m_tuple (by decide +kernel) (pa_cons (pv 5) pa_nil)) (pk_cons (pv 4) pk_nil)))))) (pv 10) (nomark _))
        (pss_one (ps_ret pe_bl))
        pss_nil)
      (pss_cons (ps_if (pt_cmpR op_notBl (pe_calK C_shows_least_k (hr.mono (by omega)) (by rfl) (pk_cons (pv 10) (pk_cons (pv 3) (pk_cons (pv 2) (pk_cons (pv 6) (pk_cons (pv 5) (pk_cons (pv 4) pk_nil))))))) pe_bl (nomark _))
        (pss_one (ps_ret pe_bl))
        pss_nil)
      (pss_cons (ps_if (pt_cmpR op_notN (pv 7) pe_non (nomark _))
        (pss_one (ps_if (pt_cmpR op_notBl (pe_calK C_is_plan_k (hr.mono (by omega)) (by rfl) (pk_cons (pv 3) (pk_cons (pe_ix ix_tup (pv 10) pe_int (fun _ _ => rfl)) (pk_cons (pv 2) (pk_cons (pv 5) (pk_cons (pv 4) pk_nil)))))) pe_bl (nomark _))
          (pss_one (ps_ret pe_bl))
          pss_nil))
        pss_nil)
      (ri_12 (hr.mono (by omega)) C_least_plan_d E1 E2 C_shows_least_d E3 E4 C_is_plan_d E5 C_cost_of)))))))))))), ?_⟩
    refine ⟨_, rfl, q, N, rfl, dr, by omega, fun W t c p H1 N1 k1 d1 nb wd cl nc1 nlp np ok span few => ?_⟩
    obtain ⟨ht, hand⟩ := id wd
    refine ⟨_, rfl, t, _, rfl, SqT.of ht, rfl, _, _, rfl, _, _, rfl, _, _, rfl, _, _, rfl, _, _, rfl, rfl, ?_⟩
    refine ⟨_, rfl, W, t, c, p, rfl, wd, ok, by omega, fun d H2 s2 nd hr2 => ?_⟩
    obtain ⟨kvs, hk, _, ve, _⟩ := hr2.val W.e
    refine ⟨d, rfl, .inl ⟨_, .inl hk⟩, _, rfl, _, .inl ⟨kvs, .inl W.e, .inl hk, rfl, ve.symm⟩, ?_⟩
    have due : ((hts W W.e).map V.int).getD .non = hV (hts W W.e) := by cases hts W W.e <;> rfl
    rw [due]
    have nlp2 := s2 _ _ nlp
    refine ⟨_, rfl, q, N1, rfl, d1.same s2, by omega, fun v H3 k3 d3 v0 v9 => ?_⟩
    have pq : p ≠ q := dr.ne np
    have cq : c ≠ q := dr.ne nc1
    have nlp3 := k3 _ _ pq nlp2
    obtain ⟨_, _, _, hq1, _⟩ := id d1
    have tq : t ≠ q := fun z => by
      rw [z, hq1] at ht
      cases ht
    have cl3 : CL K H3 c W.cs := (cl.same s2).kp k3 (s2 _ _ hq1) cq
    have ht3 := k3 _ _ tq (s2 _ _ ht)
    have wd3 : WorldR K H3 t W c p := ⟨ht3, cl3.cells, .inl (SqL.of nlp3), hand.few⟩
    have kH3 : Kp q H H3 := k1.trans ((Kp.of s2).trans k3)
    refine ⟨_, rfl, p, _, rfl, .inl (SqL.of nlp3), _, _, rfl, rfl, _, _, rfl, rfl, (by show (0 : Int) < ((W.ps.map V.int).length : Nat) + 1; omega), ?_⟩
    obtain ⟨n, en⟩ : ∃ n : Nat, v % ((((W.ps.map V.int).length : Nat) : Int) + 1) = (n : Int) := ⟨_, nc _ (Int.emod_nonneg _ (by omega))⟩
    show gName 8 (V.int (v % ((((W.ps.map V.int).length : Nat) : Int) + 1))) _ _ _
    rw [en]
    -- the points in another order
    refine ⟨_, rfl, _, rfl, (n : Int), rfl, p, _, rfl, SqL.of nlp3, fun l1 nl1 => ?_⟩
    rw [cutN_drop W.ps n]
    have e1 := same_new (o := .lst ((W.ps.drop n).map V.int)) nl1
    refine ⟨_, rfl, _, rfl, (n : Int), rfl, p, _, rfl, SqL.of (e1 _ _ nlp3), fun l2 nl2 => ?_⟩
    rw [cutN_take W.ps n]
    have e2 := same_new (o := .lst ((W.ps.take n).map V.int)) nl2
    refine ⟨l1, l2, _, _, rfl, rfl, e2 _ _ upd_same, upd_same, ?_, fun l3 nl3 => ?_⟩
    · rw [List.length_map, List.length_map, List.length_drop, List.length_take]
      exact Nat.le_of_lt (small1000 (by omega))
    rw [map_cutD]
    have e3 := same_new (o := .lst ((W.ps.drop n ++ W.ps.take n).map V.int)) nl3
    refine ⟨1, rfl, _, rfl, rfl, l3, _, rfl, SqL.of upd_same, fun l4 nl4 => ?_⟩
    rw [map_rev]
    obtain ⟨qs, eqs⟩ : ∃ qs, (W.ps.drop n ++ W.ps.take n).reverse = qs := ⟨_, rfl⟩
    have pm : qs.Perm W.ps := eqs ▸ turn_perm W.ps n
    rw [eqs]
    have e4 := same_new (o := .lst (qs.map V.int)) nl4
    obtain ⟨H4, eH4⟩ : ∃ H4, upd (upd (upd (upd H3 l1 (.lst ((W.ps.drop n).map V.int))) l2 (.lst ((W.ps.take n).map V.int))) l3 (.lst ((W.ps.drop n ++ W.ps.take n).map V.int))) l4 (.lst (qs.map V.int)) = H4 := ⟨_, rfl⟩
    have s4 : Same H3 H4 := by
      rw [← eH4]
      exact ((e1.trans e2).trans e3).trans e4
    have hl4 : NL H4 l4 qs := by
      rw [← eH4]
      exact upd_same
    rw [eH4]
    have lq : qs.length ≤ 20 := by
      rw [pm.length_eq]
      exact few
    -- what is handed
    obtain ⟨ts, hc4, dx4⟩ := cl3.same s4
    refine ⟨_, rfl, c, _, rfl, .inl (SqL.of hc4), fun l5 nl5 => ?_⟩
    have e5 := same_new (o := .lst (ts.map V.ref)) nl5
    refine ⟨_, rfl, l4, _, rfl, .inl (SqL.of (e5 _ _ hl4)), fun l6 nl6 => ⟨by show 2 ≤ sizeLine; decide, fun tu ntu => ?_⟩⟩
    have e6 := same_new (o := .lst (qs.map V.int)) nl6
    have e7 := same_new (o := .tup [.ref l5, .ref l6]) ntu
    obtain ⟨H5, eH5⟩ : ∃ H5, upd (upd (upd H4 l5 (.lst (ts.map V.ref))) l6 (.lst (qs.map V.int))) tu (.tup [.ref l5, .ref l6]) = H5 := ⟨_, rfl⟩
    have s5 : Same H4 H5 := by
      rw [← eH5]
      exact (e5.trans e6).trans e7
    have hl5 : H5 l5 = some (.lst (ts.map V.ref)) := by
      rw [← eH5]
      exact e7 _ _ (e6 _ _ upd_same)
    have hl6 : NL H5 l6 qs := by
      rw [← eH5]
      exact e7 _ _ upd_same
    have htu : H5 tu = some (.tup [.ref l5, .ref l6]) := by
      rw [← eH5]
      exact upd_same
    rw [eH5]
    have cl5 : CL K H5 l5 W.cs := ⟨ts, hl5, dpAll_same s5 dx4⟩
    have okP : (wP W qs).Ok := wP_ok ok
    refine ⟨_, rfl, _, rfl, _, rfl, _, rfl, tu, _, 0, .ref l5, rfl, rfl, SqT.of htu, rfl, _, rfl, tu, _, 1, .ref l6, rfl, rfl, SqT.of htu, rfl, rfl, rfl, wP W qs, l5, l6, rfl, ⟨cl5.cells, .inl (SqL.of hl6), hand.few⟩, okP, (by show W.e - W.s ≤ 1000000; omega), fun u H6 s6 nu told => ?_⟩
    have toldW := wP_told pm told
    obtain ⟨xu, hux⟩ : ∃ xs, H6 u = some (.tup xs) := by
      rcases told with ⟨_, b, h, _⟩ | ⟨_, _, _, _, _, _, b1, b2, h, _⟩
      · exact ⟨_, h⟩
      · exact ⟨_, h⟩
    have s36 := (s4.trans s5).trans s6
    refine ⟨_, rfl, _, _, _, _, true, rfl, .ty "tuple", .base (.tup hux), rfl, true, rfl, if_f ?_⟩
    refine ⟨_, rfl, _, rfl, _, rfl, W, t, c, p, u, rfl, wd3.same s36, cl3.same s36, by omega, ok, toldW, fun H7 s7 => ⟨true, rfl, if_f ?_⟩⟩
    have s57 := s6.trans s7
    have s37 := s36.trans s7
    have cl7 := cl3.same s37
    have nl7 : NL H7 l4 qs := s57 _ _ (s5 _ _ hl4)
    refine ⟨_, rfl, _, rfl, _, rfl, by show 2 ≤ sizeLine; decide, fun tv ntv => ?_⟩
    have e8 := same_new (o := .tup [.ref c, .ref l4]) ntv
    have fm : Form (.tuple [.list (W.cs.map pd), .list (qs.map PyData.int)]) 3 := .tup (.cons (.list (.map (f := pd) (fun x => .tup (.cons (.int x.1 0) (.cons (.int x.2 0) (.nil 0)))) _)) (.cons (Form.up (.list (.map (fun x => .int x 0) _)) (by decide)) (.nil 2)))
    refine ⟨.tuple [.list (W.cs.map pd), .list (qs.map PyData.int)], .tuple [.list (W.cs.map pd), .list (qs.map PyData.int)], .tup (SqT.of (e8 _ _ (s57 _ _ htu))) (.cons (cl5.same (s57.trans e8)).dp (.cons (.lst (SqL.of (e8 _ _ (s57 _ _ hl6))) (ints_dp qs)) .nil)), .tup (SqT.of upd_same) (.cons (cl7.same e8).dp (.cons (.lst (SqL.of (e8 _ _ nl7)) (ints_dp qs)) .nil)), fm.shaped (by decide), fm.shaped (by decide), false, congrArg V.bl (by rw [fm.own]; rfl), if_f ?_⟩
    obtain ⟨H8, eH8⟩ : ∃ H8, upd H7 tv (.tup [.ref c, .ref l4]) = H8 := ⟨_, rfl⟩
    rw [eH8] at e8 ⊢
    have keepT : ∀ {Ha Hb : Hp} {V0 : Wd}, Same Ha Hb → (Gap Ha u V0 ∨ ∃ o L, Plan Ha u V0 o L) → (Gap Hb u V0 ∨ ∃ o L, Plan Hb u V0 o L) := fun sm g => by
      rcases g with ⟨a, b, h1, h2⟩ | ⟨o, L, a, c1, c2, c3, b1, b2, h1, ⟨y1, y2, y3⟩, z1, z2, z3, z4⟩
      · exact .inl ⟨a, b, sm _ _ h1, sm _ _ h2⟩
      · exact .inr ⟨o, L, a, c1, c2, c3, b1, b2, sm _ _ h1, ⟨y1, sm _ _ y2, y3.same sm⟩, z1, sm _ _ z2, z3, fun i t x o e1 e2 e3 => sm _ _ (z4 i t x o e1 e2 e3)⟩
    have s68 := s7.trans e8
    have s38 := s37.trans e8
    have cl8 := cl7.same e8
    have nl8 := e8 _ _ nl7
    refine ⟨_, rfl, _, rfl, _, rfl, _, rfl, _, rfl, _, rfl, rfl, rfl, wP W qs, u, c, l4, rfl, ⟨cl8.cells, .inl (SqL.of nl8), hand.few⟩, okP, (by show qs.length ≤ 1000000; omega), keepT s68 told, fun H9 s9 => ⟨true, true, rfl, rfl, false, rfl, if_f ?_⟩⟩
    have s39 := s38.trans s9
    have cl9 := cl8.same s9
    have nl9 := s9 _ _ nl8
    have told9 := keepT (s68.trans s9) told
    refine ⟨_, rfl, _, rfl, _, rfl, l4, _, rfl, .inl ⟨SqL.of nl9, fun tp ntp => ?_⟩⟩
    have e10 := same_new (o := .tup (qs.map V.int)) ntp
    obtain ⟨us, hc9, dx9⟩ := id cl9
    refine ⟨_, rfl, c, _, rfl, .inl ⟨SqL.of (e10 _ _ hc9), fun tc ntc => ?_⟩⟩
    have e11 := same_new (o := .tup (us.map V.ref)) ntc
    have s911 := e10.trans e11
    refine ⟨_, rfl, rfl, wP W qs, tc, tp, rfl, ⟨CL.seq (c := tc) (.inr (SqT.of upd_same)) (dpAll_same s911 dx9), .inr (SqT.of (e11 _ _ upd_same)), hand.few⟩, okP, (by show W.e - W.s ≤ 1000000; omega), fun u2 H12 s12 nu2 told2 => ?_⟩
    have s912 := s911.trans s12
    have told12 := keepT s912 told9
    obtain ⟨da, dpa, tda⟩ := told_dp told12
    obtain ⟨db, dpb, tdb⟩ := told_dp told2
    have dab := told_one tda tdb
    subst dab
    have fa := told_form tda
    refine ⟨_, rfl, da, da, dpb, dpa, fa.shaped (by decide), fa.shaped (by decide), false, congrArg V.bl (by rw [fa.own]; rfl), if_f ?_⟩
    have s312 := s39.trans s912
    have cl12 := cl9.same s912
    have nl12 := s912 _ _ nl9
    refine ⟨_, rfl, _, rfl, _, rfl, _, rfl, _, rfl, _, rfl, rfl, wP W qs, u, c, l4, rfl, ⟨cl12.cells, .inl (SqL.of nl12), hand.few⟩, okP, (by show qs.length ≤ 1000000; omega), told12, fun H13 s13 => ⟨true, true, rfl, rfl, false, rfl, if_f ?_⟩⟩
    have cl13 := cl12.same s13
    have nl13 := s13 _ _ nl12
    have fin : ∀ H14, Same H13 H14 → Kp q H H14 := fun H14 s14 => kH3.trans (Kp.of ((s312.trans s13).trans s14))
    have toldW13 : Gap H13 u W ∨ ∃ o L, Plan H13 u W o L := wP_told pm (keepT s13 told12)
    rcases toldW13 with ⟨ho, _⟩ | ⟨o, L, ho, ch, _, _, b1, b2, hu13, pl13, _⟩
    · rw [ho]
      refine ⟨_, rfl, rfl, false, rfl, if_f ?_⟩
      exact ⟨W, q, t, c, l4, qs, _, _, _, _, rfl, cl13, nl13, ok, span, fun H14 s14 => Qd H14 (fin H14 s14)⟩
    · rw [ho]
      refine ⟨_, rfl, rfl, true, rfl, if_t ?_⟩
      refine ⟨_, rfl, _, rfl, u, _, 1, .ref b1, rfl, rfl, SqT.of hu13, rfl, _, rfl, _, rfl, _, rfl, rfl, W, b1, c, L, rfl, pl13, cl13.cells, hand.few, ch, fun H14 s14 => ⟨true, true, rfl, rfl, false, rfl, if_f ?_⟩⟩
      exact ⟨W, q, t, c, l4, qs, _, _, _, _, rfl, cl13.same s14, s14 _ _ nl13, ok, span, fun H15 s15 => Qd H15 (fin H15 (s14.trans s15))⟩
end
end Tg

namespace Tg
open PySem PySem.Spec PyProof.Rows L2 Pl
/-! ### law -/
abbrev sLaw : Stmt := topS 28
theorem scLaw : FnScope ["_law_script", "_law_cell"] ["_law_script"] (defScope sLaw) := ⟨rfl, rfl, rfl, by decide +kernel, rfl, by decide +kernel, by decide +kernel⟩
section
variable {P : Program} {w : World} {K : PySem.W.Frag} {mg : Str → Option Value} {base : Heap} {f : Addr} {fd : FuncData} {k : Nat}
def spLaw (K : PySem.W.Frag) : Sp := fun vs H Q _ => ∃ (a : Addr) (ns : List Int), vs = [.ref a] ∧ SqL K H a (ns.map V.int) ∧ ns.length ≤ 63 ∧ ∀ H', Q (.bl true) H'
theorem ok_law (F : Fun K "law" "law" sLaw f fd) (L_draws : Cal P w K mg base k "_law_draws" ["_law_cell"] spDraws) (L_right : Cal P w K mg base k "_law_right" ["_law_draws_here"] spRi) : FnOk P w K mg base CX0 (k + 1) f fd ["_law_script"] (spLaw K) := by
  refine F.ok scLaw (fun vs H Q E h => ?_) (fun cdv A outer s H vs Q E hr h => ?_)
  · obtain ⟨a, ns, rfl, _⟩ := h
    rfl
  · obtain ⟨a, ns, rfl, hS, hlen, q⟩ := h
    refine ⟨_, pss_cons (ps_for PassesOwn.never rfl (pi_list (pe_op op_cat (pe_slice sl_list (pv 0) po_none (po_some pe_int)) (pe_lst (pa_cons pe_int pa_nil)))) (pg_name (i := 1) scLaw.nd rfl (.inl rfl))
        (pss_one (ps_if (pt_not (pt_val (pe_cal L_right (hr.mono (by omega)) (by rfl) (pa_cons (pe_cal L_draws (hr.mono (by omega)) (by rfl) (pa_cons (pv 1) pa_nil)) pa_nil))))
          (pss_one (ps_ret pe_bl))
          pss_nil)))
      (pss_one (ps_ret pe_bl)), ?_⟩
    obtain ⟨ms, em, lm, _⟩ := cutN_some ns none (some 8)
    refine ⟨_, rfl, 8, rfl, a, _, rfl, hS, fun l1 n1 => ?_⟩
    rw [em]
    refine ⟨(by show 1 ≤ sizeLine; decide), fun l2 n2 => ?_⟩
    have s2 := same_new (o := .lst [.int 0]) n2
    refine ⟨l1, l2, _, _, rfl, rfl, s2 _ _ upd_same, upd_same, Nat.le_of_lt (small1000 (by rw [List.length_map]; show ms.length + 1 ≤ 1000; omega)), fun l3 n3 => ?_⟩
    have e3 : (ms.map V.int ++ [V.int 0]) = (ms ++ [0]).map V.int := by
      rw [List.map_append]
      rfl
    rw [e3]
    obtain ⟨H3, eH3⟩ : ∃ H3, upd (upd (upd H l1 (.lst (ms.map V.int))) l2 (.lst [.int 0])) l3 (.lst ((ms ++ [0]).map V.int)) = H3 := ⟨_, rfl⟩
    have m3 : H3 l3 = some (.lst ((ms ++ [0]).map V.int)) := by
      rw [← eH3]
      exact upd_same
    rw [eH3]
    refine ⟨l3, rfl, ⟨_, SqL.of m3⟩, for_list (K := K) (a := l3) (xs := (ms ++ [0]).map V.int) (fun i σ Hc => ∃ z1 : Option V, σ = [some (.ref a), z1] ∧ Same H3 Hc) ⟨none, rfl, Same.refl _⟩ (fun i σ Hc _ ⟨_, _, sc⟩ => SqL.of (sc _ _ m3)) ?_ ?_⟩
    · rintro i xv σ Hc hx ⟨z1, rfl, sc⟩
      rw [List.getElem?_map] at hx
      obtain ⟨c, _, rfl⟩ := Option.map_eq_some_iff.mp hx
      refine ⟨_, rfl, c, rfl, fun p x b np => ⟨p, 0, rfl, ⟨x, 0, b, upd_same, by omega, by omega⟩, by omega, fun H4 k4 => ⟨true, rfl, if_f ⟨_, rfl, ?_⟩⟩⟩⟩
      exact Kp.same (sc.trans (same_new np)) (sc.free np) k4
    · rintro σ Hc ⟨_, rfl, _⟩
      exact q Hc
end
end Tg

namespace Tg
open PySem PySem.Spec PyProof.Rows L2
section
variable {K : PySem.W.Frag} {f : Addr} {fd : FuncData} {T1 T2 : Addr}
abbrev FKw (K : PySem.W.Frag) (x : Str) (st : Stmt) (kws : List (Str × V)) (f : Addr) (fd : FuncData) : Prop := FunD K x x (defArgs st) (defBody st) (defScope st) [] kws f fd
abbrev kw3 (T1 T2 : Addr) : List (Str × V) := [("horizon", .non), ("cells", .ref T1), ("points", .ref T2)]
abbrev kw2 (T1 : Addr) : List (Str × V) := [("horizon", .non), ("cells", .ref T1)]
theorem lp_n (F : FKw K "least_plan" sLp (kw3 T1 T2) f fd) : ∃ g, KBn K fd NL5 2 ["horizon", "cells", "points"] g gRow := by
  obtain ⟨mv, h⟩ := F.kbinds0 (ps := NL5) 2 ["horizon", "cells", "points"] [] (fun us _ ws => us ++ ws) (fun z => nomatch z) (fun q hq => nomatch hq) (fun h1 _ h3 => h1.append h3) (fun D doc pm an cdv ct us mv ws h1 h2 h3 => match us, mv, ws, h1, h2, h3 with | [_, _], [], [_, _, _], _, _, _ => rfl)
  exact ⟨_, h⟩
theorem lp_k (F : FKw K "least_plan" sLp (kw3 T1 T2) f fd) : KBn K fd NL5 0 ["end", "start", "points", "cells", "horizon"] (fun _ ws => prm [1, 0, 4, 3, 2] ws) (fun _ zs => prm [1, 0, 4, 3, 2] zs) := by
  obtain ⟨mv, h⟩ := F.kbinds0 (ps := NL5) 0 ["end", "start", "points", "cells", "horizon"] [] (fun _ _ ws => prm [1, 0, 4, 3, 2] ws) (fun z => nomatch z) (fun q hq => nomatch hq) (fun _ _ h3 => prm_rel h3 _) (fun D doc pm an cdv ct us mv ws h1 h2 h3 => match us, mv, ws, h1, h2, h3 with | [], [], [_, _, _, _, _], _, _, _ => rfl)
  exact h
theorem lp_d (F : FKw K "least_plan" sLp (kw3 T1 T2) f fd) : ∃ g, KBn K fd NL5 2 [] g (fun vs _ => vs ++ [.non, .ref T1, .ref T2]) := by
  obtain ⟨mv, h⟩ := F.kbinds0 (ps := NL5) 2 [] (kw3 T1 T2) (fun us ms _ => us ++ ms) (fun z => nomatch z) (fun q hq => hq) (fun h1 h2 _ => h1.append h2) (fun D doc pm an cdv ct us mv ws h1 h2 h3 => match us, mv, ws, h1, h2, h3 with | [_, _], [_, _, _], [], _, _, _ => ⟨_, _, _, _, _, _, rfl, rfl, _, _, _, _, _, _, rfl, rfl, _, _, _, _, _, _, rfl, rfl, rfl⟩)
  exact ⟨_, h⟩
theorem sl_n (F : FKw K "shows_least" sSl (kw3 T1 T2) f fd) : ∃ g, KBn K fd NS6 3 ["horizon", "cells", "points"] g gRow := by
  obtain ⟨mv, h⟩ := F.kbinds0 (ps := NS6) 3 ["horizon", "cells", "points"] [] (fun us _ ws => us ++ ws) (fun z => nomatch z) (fun q hq => nomatch hq) (fun h1 _ h3 => h1.append h3) (fun D doc pm an cdv ct us mv ws h1 h2 h3 => match us, mv, ws, h1, h2, h3 with | [_, _, _], [], [_, _, _], _, _, _ => rfl)
  exact ⟨_, h⟩
theorem sl_k (F : FKw K "shows_least" sSl (kw3 T1 T2) f fd) : KBn K fd NS6 0 ["thing", "end", "start", "points", "cells", "horizon"] (fun _ ws => prm [0, 2, 1, 5, 4, 3] ws) (fun _ zs => prm [0, 2, 1, 5, 4, 3] zs) := by
  obtain ⟨mv, h⟩ := F.kbinds0 (ps := NS6) 0 ["thing", "end", "start", "points", "cells", "horizon"] [] (fun _ _ ws => prm [0, 2, 1, 5, 4, 3] ws) (fun z => nomatch z) (fun q hq => nomatch hq) (fun _ _ h3 => prm_rel h3 _) (fun D doc pm an cdv ct us mv ws h1 h2 h3 => match us, mv, ws, h1, h2, h3 with | [], [], [_, _, _, _, _, _], _, _, _ => rfl)
  exact h
theorem sl_d (F : FKw K "shows_least" sSl (kw3 T1 T2) f fd) : ∃ g, KBn K fd NS6 3 [] g (fun vs _ => vs ++ [.non, .ref T1, .ref T2]) := by
  obtain ⟨mv, h⟩ := F.kbinds0 (ps := NS6) 3 [] (kw3 T1 T2) (fun us ms _ => us ++ ms) (fun z => nomatch z) (fun q hq => hq) (fun h1 h2 _ => h1.append h2) (fun D doc pm an cdv ct us mv ws h1 h2 h3 => match us, mv, ws, h1, h2, h3 with | [_, _, _], [_, _, _], [], _, _, _ => ⟨_, _, _, _, _, _, rfl, rfl, _, _, _, _, _, _, rfl, rfl, _, _, _, _, _, _, rfl, rfl, rfl⟩)
  exact ⟨_, h⟩
theorem ip_n (F : FKw K "is_plan" sPl (kw2 T1) f fd) : ∃ g, KBn K fd NP5 3 ["horizon", "cells"] g gRow := by
  obtain ⟨mv, h⟩ := F.kbinds0 (ps := NP5) 3 ["horizon", "cells"] [] (fun us _ ws => us ++ ws) (fun z => nomatch z) (fun q hq => nomatch hq) (fun h1 _ h3 => h1.append h3) (fun D doc pm an cdv ct us mv ws h1 h2 h3 => match us, mv, ws, h1, h2, h3 with | [_, _, _], [], [_, _], _, _, _ => rfl)
  exact ⟨_, h⟩
theorem ip_k (F : FKw K "is_plan" sPl (kw2 T1) f fd) : KBn K fd NP5 0 ["end", "pieces", "start", "cells", "horizon"] (fun _ ws => prm [1, 2, 0, 4, 3] ws) (fun _ zs => prm [1, 2, 0, 4, 3] zs) := by
  obtain ⟨mv, h⟩ := F.kbinds0 (ps := NP5) 0 ["end", "pieces", "start", "cells", "horizon"] [] (fun _ _ ws => prm [1, 2, 0, 4, 3] ws) (fun z => nomatch z) (fun q hq => nomatch hq) (fun _ _ h3 => prm_rel h3 _) (fun D doc pm an cdv ct us mv ws h1 h2 h3 => match us, mv, ws, h1, h2, h3 with | [], [], [_, _, _, _, _], _, _, _ => rfl)
  exact h
theorem ip_d (F : FKw K "is_plan" sPl (kw2 T1) f fd) : ∃ g, KBn K fd NP5 3 [] g (fun vs _ => vs ++ [.non, .ref T1]) := by
  obtain ⟨mv, h⟩ := F.kbinds0 (ps := NP5) 3 [] (kw2 T1) (fun us ms _ => us ++ ms) (fun z => nomatch z) (fun q hq => hq) (fun h1 h2 _ => h1.append h2) (fun D doc pm an cdv ct us mv ws h1 h2 h3 => match us, mv, ws, h1, h2, h3 with | [_, _, _], [_, _], [], _, _, _ => ⟨_, _, _, _, _, _, rfl, rfl, _, _, _, _, _, _, rfl, rfl, rfl⟩)
  exact ⟨_, h⟩
theorem co_k (F : Fun K "cost_of" "cost_of" sCo f fd) : KBn K fd ["pieces", "points"] 0 ["points", "pieces"] (fun _ ws => prm [1, 0] ws) (fun _ zs => prm [1, 0] zs) := by
  obtain ⟨_, _, kV, doc, pm, an, cdv, ct, _, rfl, _, _⟩ := F.ex
  exact ⟨fun s us ws _ h0 h2 => match us, ws, h0, h2 with | [], [_, _], _, _ => .of_eq rfl, fun _ r => prm_rel r _⟩
end
/-! ### what the top has written; the law's own head -/
set_option maxHeartbeats 0 in
theorem all_mk {l : PySem.W.OpenLaw} {w : World} {K : PySem.W.Frag} {h : Heap} {mg : Str → Option Value} {fa  f1 f2 f3 f4 f5 f6 f7 f8 f9 f10 f11 f12 f13 f14 f15 f16 f17 f18 f19 f20 f21 f22 f23 f24 f25 f26 : Addr} {KDA KDB KDC T1 T2 T3 T4 T5 : Addr} {cT1 : Value} {dT1 : Option Addr} {itT1 : Array Value} {nT1 : Nat} {sT1 : Array (Option Value)} {cT2 : Value} {dT2 : Option Addr} {itT2 : Array Value} {nT2 : Nat} {sT2 : Array (Option Value)} {cT3 : Value} {dT3 : Option Addr} {itT3 : Array Value} {nT3 : Nat} {sT3 : Array (Option Value)} {cT4 : Value} {dT4 : Option Addr} {itT4 : Array Value} {nT4 : Nat} {sT4 : Array (Option Value)} {cT5 : Value} {dT5 : Option Addr} {itT5 : Array Value} {nT5 : Nat} {sT5 : Array (Option Value)} (X : K.In h) (G : h.Ns mainGlobals mg) (hfa : mg "law" = some (.ref fa))
    {od1 an1 od2 an2 od3 an3 od4 an4 od5 an5 od6 an6 od7 an7 od8 an8 od9 an9 od10 an10 od11 an11 od12 an12 od13 an13 od14 an14 od15 an15 od16 an16 od17 an17 od18 an18 od19 an19 od20 an20 od21 an21 od22 an22 od23 an23 od24 an24 od25 an25 od26 an26 : Option Addr} {sl1 sl2 sl3 sl4 sl5 sl6 sl7 sl8 sl9 sl10 sl11 sl12 sl13 sl14 sl15 sl16 sl17 sl18 sl19 sl20 sl21 sl22 sl23 sl24 sl25 sl26 : Array (Option Value)} {oc1 kV1 dc1 pm1 cd1 ct1 oc2 kV2 dc2 pm2 cd2 ct2 oc3 kV3 dc3 pm3 cd3 ct3 oc4 kV4 dc4 pm4 cd4 ct4 oc5 kV5 dc5 pm5 cd5 ct5 oc6 kV6 dc6 pm6 cd6 ct6 oc7 kV7 dc7 pm7 cd7 ct7 oc8 dc8 pm8 cd8 ct8 oc9 kV9 dc9 pm9 cd9 ct9 oc10 dc10 pm10 cd10 ct10 oc11 kV11 dc11 pm11 cd11 ct11 oc12 kV12 dc12 pm12 cd12 ct12 oc13 kV13 dc13 pm13 cd13 ct13 oc14 kV14 dc14 pm14 cd14 ct14 oc15 dc15 pm15 cd15 ct15 oc16 kV16 dc16 pm16 cd16 ct16 oc17 kV17 dc17 pm17 cd17 ct17 oc18 kV18 dc18 pm18 cd18 ct18 oc19 kV19 dc19 pm19 cd19 ct19 oc20 kV20 dc20 pm20 cd20 ct20 oc21 kV21 dc21 pm21 cd21 ct21 oc22 kV22 dc22 pm22 cd22 ct22 oc23 kV23 dc23 pm23 cd23 ct23 oc24 kV24 dc24 pm24 cd24 ct24 oc25 kV25 dc25 pm25 cd25 ct25 oc26 kV26 dc26 pm26 cd26 ct26 : Value}
    (a1 : PySem.W.nsIn K mainGlobals "is_whole" = some (some (.ref f1)))
    (l1 : K.lookup f1 = some ⟨oc1, od1, .func (PySem.W.fnOf "is_whole" "is_whole" (defArgs sWh) (defBody sWh) (defScope sWh) .none kV1 dc1 pm1 an1 cd1 ct1), sl1⟩)
    (c1 : PySem.W.codeIn K cd1 "is_whole" = true)
    (k1 : PySem.W.keepIn K (.ref f1) = true)
    (a2 : PySem.W.nsIn K mainGlobals "edges_of" = some (some (.ref f2)))
    (l2 : K.lookup f2 = some ⟨oc2, od2, .func (PySem.W.fnOf "edges_of" "edges_of" (defArgs sEd) (defBody sEd) (defScope sEd) .none kV2 dc2 pm2 an2 cd2 ct2), sl2⟩)
    (c2 : PySem.W.codeIn K cd2 "edges_of" = true)
    (k2 : PySem.W.keepIn K (.ref f2) = true)
    (a3 : PySem.W.nsIn K mainGlobals "counts_below" = some (some (.ref f3)))
    (l3 : K.lookup f3 = some ⟨oc3, od3, .func (PySem.W.fnOf "counts_below" "counts_below" (defArgs sCb) (defBody sCb) (defScope sCb) .none kV3 dc3 pm3 an3 cd3 ct3), sl3⟩)
    (c3 : PySem.W.codeIn K cd3 "counts_below" = true)
    (k3 : PySem.W.keepIn K (.ref f3) = true)
    (a4 : PySem.W.nsIn K mainGlobals "steps_from" = some (some (.ref f4)))
    (l4 : K.lookup f4 = some ⟨oc4, od4, .func (PySem.W.fnOf "steps_from" "steps_from" (defArgs sSf) (defBody sSf) (defScope sSf) .none kV4 dc4 pm4 an4 cd4 ct4), sl4⟩)
    (c4 : PySem.W.codeIn K cd4 "steps_from" = true)
    (k4 : PySem.W.keepIn K (.ref f4) = true)
    (a5 : PySem.W.nsIn K mainGlobals "walked" = some (some (.ref f5)))
    (l5 : K.lookup f5 = some ⟨oc5, od5, .func (PySem.W.fnOf "walked" "walked" (defArgs sWk) (defBody sWk) (defScope sWk) .none kV5 dc5 pm5 an5 cd5 ct5), sl5⟩)
    (c5 : PySem.W.codeIn K cd5 "walked" = true)
    (k5 : PySem.W.keepIn K (.ref f5) = true)
    (a6 : PySem.W.nsIn K mainGlobals "traced" = some (some (.ref f6)))
    (l6 : K.lookup f6 = some ⟨oc6, od6, .func (PySem.W.fnOf "traced" "traced" (defArgs sTr) (defBody sTr) (defScope sTr) .none kV6 dc6 pm6 an6 cd6 ct6), sl6⟩)
    (c6 : PySem.W.codeIn K cd6 "traced" = true)
    (k6 : PySem.W.keepIn K (.ref f6) = true)
    (a7 : PySem.W.nsIn K mainGlobals "with_whole_points" = some (some (.ref f7)))
    (l7 : K.lookup f7 = some ⟨oc7, od7, .func (PySem.W.fnOf "with_whole_points" "with_whole_points" (defArgs sWw) (defBody sWw) (defScope sWw) .none kV7 dc7 pm7 an7 cd7 ct7), sl7⟩)
    (c7 : PySem.W.codeIn K cd7 "with_whole_points" = true)
    (k7 : PySem.W.keepIn K (.ref f7) = true)
    (a8 : PySem.W.nsIn K mainGlobals "least_plan" = some (some (.ref f8)))
    (l8 : K.lookup f8 = some ⟨oc8, od8, .func (PySem.W.fnOf "least_plan" "least_plan" (defArgs sLp) (defBody sLp) (defScope sLp) .none (.ref KDA) dc8 pm8 an8 cd8 ct8), sl8⟩)
    (dA_horizon : PySem.W.nsIn K KDA "horizon" = some (some .none))
    (dA_cells : PySem.W.nsIn K KDA "cells" = some (some (.ref T1)))
    (dA_points : PySem.W.nsIn K KDA "points" = some (some (.ref T2)))
    (c8 : PySem.W.codeIn K cd8 "least_plan" = true)
    (k8 : PySem.W.keepIn K (.ref f8) = true)
    (a9 : PySem.W.nsIn K mainGlobals "is_piece" = some (some (.ref f9)))
    (l9 : K.lookup f9 = some ⟨oc9, od9, .func (PySem.W.fnOf "is_piece" "is_piece" (defArgs sPi) (defBody sPi) (defScope sPi) .none kV9 dc9 pm9 an9 cd9 ct9), sl9⟩)
    (c9 : PySem.W.codeIn K cd9 "is_piece" = true)
    (k9 : PySem.W.keepIn K (.ref f9) = true)
    (a10 : PySem.W.nsIn K mainGlobals "is_plan" = some (some (.ref f10)))
    (l10 : K.lookup f10 = some ⟨oc10, od10, .func (PySem.W.fnOf "is_plan" "is_plan" (defArgs sPl) (defBody sPl) (defScope sPl) .none (.ref KDC) dc10 pm10 an10 cd10 ct10), sl10⟩)
    (dC_horizon : PySem.W.nsIn K KDC "horizon" = some (some .none))
    (dC_cells : PySem.W.nsIn K KDC "cells" = some (some (.ref T5)))
    (c10 : PySem.W.codeIn K cd10 "is_plan" = true)
    (k10 : PySem.W.keepIn K (.ref f10) = true)
    (a11 : PySem.W.nsIn K mainGlobals "cost_of" = some (some (.ref f11)))
    (l11 : K.lookup f11 = some ⟨oc11, od11, .func (PySem.W.fnOf "cost_of" "cost_of" (defArgs sCo) (defBody sCo) (defScope sCo) .none kV11 dc11 pm11 an11 cd11 ct11), sl11⟩)
    (c11 : PySem.W.codeIn K cd11 "cost_of" = true)
    (k11 : PySem.W.keepIn K (.ref f11) = true)
    (a12 : PySem.W.nsIn K mainGlobals "is_height" = some (some (.ref f12)))
    (l12 : K.lookup f12 = some ⟨oc12, od12, .func (PySem.W.fnOf "is_height" "is_height" (defArgs sIh) (defBody sIh) (defScope sIh) .none kV12 dc12 pm12 an12 cd12 ct12), sl12⟩)
    (c12 : PySem.W.codeIn K cd12 "is_height" = true)
    (k12 : PySem.W.keepIn K (.ref f12) = true)
    (a13 : PySem.W.nsIn K mainGlobals "height_table" = some (some (.ref f13)))
    (l13 : K.lookup f13 = some ⟨oc13, od13, .func (PySem.W.fnOf "height_table" "height_table" (defArgs sHt) (defBody sHt) (defScope sHt) .none kV13 dc13 pm13 an13 cd13 ct13), sl13⟩)
    (c13 : PySem.W.codeIn K cd13 "height_table" = true)
    (k13 : PySem.W.keepIn K (.ref f13) = true)
    (a14 : PySem.W.nsIn K mainGlobals "is_gap" = some (some (.ref f14)))
    (l14 : K.lookup f14 = some ⟨oc14, od14, .func (PySem.W.fnOf "is_gap" "is_gap" (defArgs sGa) (defBody sGa) (defScope sGa) .none kV14 dc14 pm14 an14 cd14 ct14), sl14⟩)
    (c14 : PySem.W.codeIn K cd14 "is_gap" = true)
    (k14 : PySem.W.keepIn K (.ref f14) = true)
    (a15 : PySem.W.nsIn K mainGlobals "shows_least" = some (some (.ref f15)))
    (l15 : K.lookup f15 = some ⟨oc15, od15, .func (PySem.W.fnOf "shows_least" "shows_least" (defArgs sSl) (defBody sSl) (defScope sSl) .none (.ref KDB) dc15 pm15 an15 cd15 ct15), sl15⟩)
    (dB_horizon : PySem.W.nsIn K KDB "horizon" = some (some .none))
    (dB_cells : PySem.W.nsIn K KDB "cells" = some (some (.ref T3)))
    (dB_points : PySem.W.nsIn K KDB "points" = some (some (.ref T4)))
    (c15 : PySem.W.codeIn K cd15 "shows_least" = true)
    (k15 : PySem.W.keepIn K (.ref f15) = true)
    (a16 : PySem.W.nsIn K mainGlobals "_law_draws" = some (some (.ref f16)))
    (l16 : K.lookup f16 = some ⟨oc16, od16, .func (PySem.W.fnOf "_law_draws" "_law_draws" (defArgs sDraws) (defBody sDraws) (defScope sDraws) .none kV16 dc16 pm16 an16 cd16 ct16), sl16⟩)
    (c16 : PySem.W.codeIn K cd16 "_law_draws" = true)
    (k16 : PySem.W.keepIn K (.ref f16) = true)
    (a17 : PySem.W.nsIn K mainGlobals "_law_next" = some (some (.ref f17)))
    (l17 : K.lookup f17 = some ⟨oc17, od17, .func (PySem.W.fnOf "_law_next" "_law_next" (defArgs sNext) (defBody sNext) (defScope sNext) .none kV17 dc17 pm17 an17 cd17 ct17), sl17⟩)
    (c17 : PySem.W.codeIn K cd17 "_law_next" = true)
    (k17 : PySem.W.keepIn K (.ref f17) = true)
    (a18 : PySem.W.nsIn K mainGlobals "_law_spot" = some (some (.ref f18)))
    (l18 : K.lookup f18 = some ⟨oc18, od18, .func (PySem.W.fnOf "_law_spot" "_law_spot" (defArgs sSp) (defBody sSp) (defScope sSp) .none kV18 dc18 pm18 an18 cd18 ct18), sl18⟩)
    (c18 : PySem.W.codeIn K cd18 "_law_spot" = true)
    (k18 : PySem.W.keepIn K (.ref f18) = true)
    (a19 : PySem.W.nsIn K mainGlobals "_law_world" = some (some (.ref f19)))
    (l19 : K.lookup f19 = some ⟨oc19, od19, .func (PySem.W.fnOf "_law_world" "_law_world" (defArgs sWo) (defBody sWo) (defScope sWo) .none kV19 dc19 pm19 an19 cd19 ct19), sl19⟩)
    (c19 : PySem.W.codeIn K cd19 "_law_world" = true)
    (k19 : PySem.W.keepIn K (.ref f19) = true)
    (a20 : PySem.W.nsIn K mainGlobals "_law_edges" = some (some (.ref f20)))
    (l20 : K.lookup f20 = some ⟨oc20, od20, .func (PySem.W.fnOf "_law_edges" "_law_edges" (defArgs sLe) (defBody sLe) (defScope sLe) .none kV20 dc20 pm20 an20 cd20 ct20), sl20⟩)
    (c20 : PySem.W.codeIn K cd20 "_law_edges" = true)
    (k20 : PySem.W.keepIn K (.ref f20) = true)
    (a21 : PySem.W.nsIn K mainGlobals "_law_steps" = some (some (.ref f21)))
    (l21 : K.lookup f21 = some ⟨oc21, od21, .func (PySem.W.fnOf "_law_steps" "_law_steps" (defArgs sLs) (defBody sLs) (defScope sLs) .none kV21 dc21 pm21 an21 cd21 ct21), sl21⟩)
    (c21 : PySem.W.codeIn K cd21 "_law_steps" = true)
    (k21 : PySem.W.keepIn K (.ref f21) = true)
    (a22 : PySem.W.nsIn K mainGlobals "_law_costs" = some (some (.ref f22)))
    (l22 : K.lookup f22 = some ⟨oc22, od22, .func (PySem.W.fnOf "_law_costs" "_law_costs" (defArgs sLc) (defBody sLc) (defScope sLc) .none kV22 dc22 pm22 an22 cd22 ct22), sl22⟩)
    (c22 : PySem.W.codeIn K cd22 "_law_costs" = true)
    (k22 : PySem.W.keepIn K (.ref f22) = true)
    (a23 : PySem.W.nsIn K mainGlobals "_law_pieces_right" = some (some (.ref f23)))
    (l23 : K.lookup f23 = some ⟨oc23, od23, .func (PySem.W.fnOf "_law_pieces_right" "_law_pieces_right" (defArgs sPr) (defBody sPr) (defScope sPr) .none kV23 dc23 pm23 an23 cd23 ct23), sl23⟩)
    (c23 : PySem.W.codeIn K cd23 "_law_pieces_right" = true)
    (k23 : PySem.W.keepIn K (.ref f23) = true)
    (a24 : PySem.W.nsIn K mainGlobals "_law_told_right" = some (some (.ref f24)))
    (l24 : K.lookup f24 = some ⟨oc24, od24, .func (PySem.W.fnOf "_law_told_right" "_law_told_right" (defArgs sTd) (defBody sTd) (defScope sTd) .none kV24 dc24 pm24 an24 cd24 ct24), sl24⟩)
    (c24 : PySem.W.codeIn K cd24 "_law_told_right" = true)
    (k24 : PySem.W.keepIn K (.ref f24) = true)
    (a25 : PySem.W.nsIn K mainGlobals "_law_right" = some (some (.ref f25)))
    (l25 : K.lookup f25 = some ⟨oc25, od25, .func (PySem.W.fnOf "_law_right" "_law_right" (defArgs sRi) (defBody sRi) (defScope sRi) .none kV25 dc25 pm25 an25 cd25 ct25), sl25⟩)
    (c25 : PySem.W.codeIn K cd25 "_law_right" = true)
    (k25 : PySem.W.keepIn K (.ref f25) = true)
    (a26 : PySem.W.nsIn K mainGlobals "law" = some (some (.ref f26)))
    (l26 : K.lookup f26 = some ⟨oc26, od26, .func (PySem.W.fnOf "law" "law" (defArgs sLaw) (defBody sLaw) (defScope sLaw) .none kV26 dc26 pm26 an26 cd26 ct26), sl26⟩)
    (c26 : PySem.W.codeIn K cd26 "law" = true)
    (k26 : PySem.W.keepIn K (.ref f26) = true)
    (z_range : PySem.W.nsIn K mainGlobals "range" = some none)
    (z_len : PySem.W.nsIn K mainGlobals "len" = some none)
    (z_min : PySem.W.nsIn K mainGlobals "min" = some none)
    (z_int : PySem.W.nsIn K mainGlobals "int" = some none)
    (z_list : PySem.W.nsIn K mainGlobals "list" = some none)
    (z_zip : PySem.W.nsIn K mainGlobals "zip" = some none)
    (z_sorted : PySem.W.nsIn K mainGlobals "sorted" = some none)
    (z_set : PySem.W.nsIn K mainGlobals "set" = some none)
    (z_isinstance : PySem.W.nsIn K mainGlobals "isinstance" = some none)
    (z_bool : PySem.W.nsIn K mainGlobals "bool" = some none)
    (z_tuple : PySem.W.nsIn K mainGlobals "tuple" = some none)
    (z_dict : PySem.W.nsIn K mainGlobals "dict" = some none)
    (z_all : PySem.W.nsIn K mainGlobals "all" = some none)
    (lT1 : K.lookup T1 = some ⟨cT1, dT1, .seq itT1 nT1, sT1⟩)
    (cT_1 : cT1 = .type "tuple")
    (nT_1 : itT1.size ≤ sizeLine)
    (vT1 : Vals [] itT1.toList)
    (lT2 : K.lookup T2 = some ⟨cT2, dT2, .seq itT2 nT2, sT2⟩)
    (cT_2 : cT2 = .type "tuple")
    (nT_2 : itT2.size ≤ sizeLine)
    (vT2 : Vals [] itT2.toList)
    (lT3 : K.lookup T3 = some ⟨cT3, dT3, .seq itT3 nT3, sT3⟩)
    (cT_3 : cT3 = .type "tuple")
    (nT_3 : itT3.size ≤ sizeLine)
    (vT3 : Vals [] itT3.toList)
    (lT4 : K.lookup T4 = some ⟨cT4, dT4, .seq itT4 nT4, sT4⟩)
    (cT_4 : cT4 = .type "tuple")
    (nT_4 : itT4.size ≤ sizeLine)
    (vT4 : Vals [] itT4.toList)
    (lT5 : K.lookup T5 = some ⟨cT5, dT5, .seq itT5 nT5, sT5⟩)
    (cT_5 : cT5 = .type "tuple")
    (nT_5 : itT5.size ≤ sizeLine)
    (vT5 : Vals [] itT5.toList)
    : ∃ fd : FuncData, (∀ (s : Shared) (v : Value), BindsTo s fd ⟨[v], []⟩ [("_law_script", v)]) ∧ ∀ base : Heap, K.In base → base.Ns mainGlobals mg → FnOk l.prog w K mg base CX0 6 fa fd ["_law_script"] (spLaw K) := by
  have e := hfa.symm.trans (PySem.W.mg_of X G a26)
  cases e
  have F1 := fun_mk (st := sWh) l1 c1 k1
  have F2 := fun_mk (st := sEd) l2 c2 k2
  have F3 := fun_mk (st := sCb) l3 c3 k3
  have F4 := fun_mk (st := sSf) l4 c4 k4
  have F5 := fun_mk (st := sWk) l5 c5 k5
  have F6 := fun_mk (st := sTr) l6 c6 k6
  have F7 := fun_mk (st := sWw) l7 c7 k7
  have F8 := fun_mk (st := sLp) l8 c8 k8
  have FD8 : FKw K "least_plan" sLp (kw3 T1 T2) f8 _ := ⟨⟨oc8, od8, .none, .ref KDA, dc8, pm8, an8, cd8, ct8, sl8, rfl, l8, c8, .inl ⟨rfl, rfl⟩, .inr ⟨KDA, rfl, fun q lack => by
    simp only [List.mem_cons, List.not_mem_nil, or_false] at lack
    rcases lack with rfl | rfl | rfl
    · exact ⟨_, dA_horizon, rfl⟩
    · exact ⟨_, dA_cells, rfl⟩
    · exact ⟨_, dA_points, rfl⟩⟩⟩, k8⟩
  have F9 := fun_mk (st := sPi) l9 c9 k9
  have F10 := fun_mk (st := sPl) l10 c10 k10
  have FD10 : FKw K "is_plan" sPl (kw2 T5) f10 _ := ⟨⟨oc10, od10, .none, .ref KDC, dc10, pm10, an10, cd10, ct10, sl10, rfl, l10, c10, .inl ⟨rfl, rfl⟩, .inr ⟨KDC, rfl, fun q lack => by
    simp only [List.mem_cons, List.not_mem_nil, or_false] at lack
    rcases lack with rfl | rfl
    · exact ⟨_, dC_horizon, rfl⟩
    · exact ⟨_, dC_cells, rfl⟩⟩⟩, k10⟩
  have F11 := fun_mk (st := sCo) l11 c11 k11
  have F12 := fun_mk (st := sIh) l12 c12 k12
  have F13 := fun_mk (st := sHt) l13 c13 k13
  have F14 := fun_mk (st := sGa) l14 c14 k14
  have F15 := fun_mk (st := sSl) l15 c15 k15
  have FD15 : FKw K "shows_least" sSl (kw3 T3 T4) f15 _ := ⟨⟨oc15, od15, .none, .ref KDB, dc15, pm15, an15, cd15, ct15, sl15, rfl, l15, c15, .inl ⟨rfl, rfl⟩, .inr ⟨KDB, rfl, fun q lack => by
    simp only [List.mem_cons, List.not_mem_nil, or_false] at lack
    rcases lack with rfl | rfl | rfl
    · exact ⟨_, dB_horizon, rfl⟩
    · exact ⟨_, dB_cells, rfl⟩
    · exact ⟨_, dB_points, rfl⟩⟩⟩, k15⟩
  have F16 := fun_mk (st := sDraws) l16 c16 k16
  have F17 := fun_mk (st := sNext) l17 c17 k17
  have F18 := fun_mk (st := sSp) l18 c18 k18
  have F19 := fun_mk (st := sWo) l19 c19 k19
  have F20 := fun_mk (st := sLe) l20 c20 k20
  have F21 := fun_mk (st := sLs) l21 c21 k21
  have F22 := fun_mk (st := sLc) l22 c22 k22
  have F23 := fun_mk (st := sPr) l23 c23 k23
  have F24 := fun_mk (st := sTd) l24 c24 k24
  have F25 := fun_mk (st := sRi) l25 c25 k25
  have F26 := fun_mk (st := sLaw) l26 c26 k26
  have b1 := F1.binds (ps := ["thing"]) fun _ _ _ _ _ _ us hl => match us, hl with | [_], _ => rfl
  have b2 := F2.binds (ps := ["start", "end", "cells"]) fun _ _ _ _ _ _ us hl => match us, hl with | [_, _, _], _ => rfl
  have b3 := F3.binds (ps := ["edges", "points"]) fun _ _ _ _ _ _ us hl => match us, hl with | [_, _], _ => rfl
  have b4 := F4.binds (ps := ["start", "end", "horizon", "cells", "points"]) fun _ _ _ _ _ _ us hl => match us, hl with | [_, _, _, _, _], _ => rfl
  have b5 := F5.binds (ps := ["steps", "start"]) fun _ _ _ _ _ _ us hl => match us, hl with | [_, _], _ => rfl
  have b6 := F6.binds (ps := ["pieces", "start", "end"]) fun _ _ _ _ _ _ us hl => match us, hl with | [_, _, _], _ => rfl
  have b7 := F7.binds (ps := ["pieces"]) fun _ _ _ _ _ _ us hl => match us, hl with | [_], _ => rfl
  have b9 := F9.binds (ps := ["thing"]) fun _ _ _ _ _ _ us hl => match us, hl with | [_], _ => rfl
  have b11 := F11.binds (ps := ["pieces", "points"]) fun _ _ _ _ _ _ us hl => match us, hl with | [_, _], _ => rfl
  have b12 := F12.binds (ps := ["thing"]) fun _ _ _ _ _ _ us hl => match us, hl with | [_], _ => rfl
  have b13 := F13.binds (ps := ["thing", "start", "end", "steps"]) fun _ _ _ _ _ _ us hl => match us, hl with | [_, _, _, _], _ => rfl
  have b14 := F14.binds (ps := ["thing", "start", "end", "steps"]) fun _ _ _ _ _ _ us hl => match us, hl with | [_, _, _, _], _ => rfl
  have b16 := F16.binds (ps := ["_law_cell"]) fun _ _ _ _ _ _ us hl => match us, hl with | [_], _ => rfl
  have b17 := F17.binds (ps := ["_law_draws_here"]) fun _ _ _ _ _ _ us hl => match us, hl with | [_], _ => rfl
  have b18 := F18.binds (ps := ["_law_draws_here"]) fun _ _ _ _ _ _ us hl => match us, hl with | [_], _ => rfl
  have b19 := F19.binds (ps := ["_law_draws_here"]) fun _ _ _ _ _ _ us hl => match us, hl with | [_], _ => rfl
  have b20 := F20.binds (ps := ["_law_world_here"]) fun _ _ _ _ _ _ us hl => match us, hl with | [_], _ => rfl
  have b21 := F21.binds (ps := ["_law_world_here"]) fun _ _ _ _ _ _ us hl => match us, hl with | [_], _ => rfl
  have b22 := F22.binds (ps := ["_law_world_here"]) fun _ _ _ _ _ _ us hl => match us, hl with | [_], _ => rfl
  have b23 := F23.binds (ps := ["_law_world_here", "_law_a_pieces"]) fun _ _ _ _ _ _ us hl => match us, hl with | [_, _], _ => rfl
  have b24 := F24.binds (ps := ["_law_world_here", "_law_told", "_law_due"]) fun _ _ _ _ _ _ us hl => match us, hl with | [_, _, _], _ => rfl
  have b25 := F25.binds (ps := ["_law_draws_here"]) fun _ _ _ _ _ _ us hl => match us, hl with | [_], _ => rfl
  have g1 := PySem.W.mg_of X G a1
  have g2 := PySem.W.mg_of X G a2
  have g3 := PySem.W.mg_of X G a3
  have g4 := PySem.W.mg_of X G a4
  have g5 := PySem.W.mg_of X G a5
  have g6 := PySem.W.mg_of X G a6
  have g7 := PySem.W.mg_of X G a7
  have g8 := PySem.W.mg_of X G a8
  have g9 := PySem.W.mg_of X G a9
  have g10 := PySem.W.mg_of X G a10
  have g11 := PySem.W.mg_of X G a11
  have g12 := PySem.W.mg_of X G a12
  have g13 := PySem.W.mg_of X G a13
  have g14 := PySem.W.mg_of X G a14
  have g15 := PySem.W.mg_of X G a15
  have g16 := PySem.W.mg_of X G a16
  have g17 := PySem.W.mg_of X G a17
  have g18 := PySem.W.mg_of X G a18
  have g19 := PySem.W.mg_of X G a19
  have g20 := PySem.W.mg_of X G a20
  have g21 := PySem.W.mg_of X G a21
  have g22 := PySem.W.mg_of X G a22
  have g23 := PySem.W.mg_of X G a23
  have g24 := PySem.W.mg_of X G a24
  have g25 := PySem.W.mg_of X G a25
  have m_range := PySem.W.mg_none_of X G z_range
  have m_len := PySem.W.mg_none_of X G z_len
  have m_min := PySem.W.mg_none_of X G z_min
  have m_int := PySem.W.mg_none_of X G z_int
  have m_list := PySem.W.mg_none_of X G z_list
  have m_zip := PySem.W.mg_none_of X G z_zip
  have m_sorted := PySem.W.mg_none_of X G z_sorted
  have m_set := PySem.W.mg_none_of X G z_set
  have m_isinstance := PySem.W.mg_none_of X G z_isinstance
  have m_bool := PySem.W.mg_none_of X G z_bool
  have m_tuple := PySem.W.mg_none_of X G z_tuple
  have m_dict := PySem.W.mg_none_of X G z_dict
  have m_all := PySem.W.mg_none_of X G z_all
  refine ⟨PySem.W.fnOf "law" "law" (defArgs sLaw) (defBody sLaw) (defScope sLaw) .none kV26 dc26 pm26 an26 cd26 ct26, fun s v => .of_eq rfl, fun base _ _ => ?_⟩
  have WH : ∀ j, Cal l.prog w K mg base (j + 1) "is_whole" ["thing"] spWh := fun j => ⟨f1, _, ok_wh F1 m_isinstance m_int m_bool, g1, k1, b1⟩
  have ED : ∀ j, Cal l.prog w K mg base (j + 1) "edges_of" ["start", "end", "cells"] (spEd K) := fun j => ⟨f2, _, ok_ed F2 m_sorted m_set, g2, k2, b2⟩
  have CB : ∀ j, Cal l.prog w K mg base (j + 1) "counts_below" ["edges", "points"] (spCb K) := fun j => ⟨f3, _, ok_cb F3 m_sorted m_len, g3, k3, b3⟩
  have SF : ∀ j, Cal l.prog w K mg base (j + 2) "steps_from" ["start", "end", "horizon", "cells", "points"] (spSf K) := fun j => ⟨f4, _, ok_sf (k := j + 1) F4 (ED j) (CB j) m_len m_range, g4, k4, b4⟩
  have WK : ∀ j, Cal l.prog w K mg base (j + 1) "walked" ["steps", "start"] spWk := fun j => ⟨f5, _, ok_wk F5, g5, k5, b5⟩
  have TR : ∀ j, Cal l.prog w K mg base (j + 1) "traced" ["pieces", "start", "end"] spTr := fun j => ⟨f6, _, ok_tr F6, g6, k6, b6⟩
  have WW : ∀ j, Cal l.prog w K mg base (j + 1) "with_whole_points" ["pieces"] spWw := fun j => ⟨f7, _, ok_ww F7, g7, k7, b7⟩
  have LPo : ∀ j, FnOk l.prog w K mg base CX0 (j + 3) f8 _ ["start", "end", "horizon", "cells", "points"] (spLp K) := fun j => ok_lpn (k := j + 2) F8 (SF j) (WK (j + 1)) (TR (j + 1)) (WW (j + 1)) m_sorted
  have PI_ : ∀ j, Cal l.prog w K mg base (j + 2) "is_piece" ["thing"] spPi := fun j => ⟨f9, _, ok_pi (k := j + 1) F9 (WH j) m_isinstance m_tuple m_len, g9, k9, b9⟩
  have IPo : ∀ j, FnOk l.prog w K mg base CX0 (j + 3) f10 _ ["pieces", "start", "end", "horizon", "cells"] (spPl K) := fun j => ok_pln (k := j + 2) F10 (PI_ j) m_isinstance m_list
  have CO : ∀ j, Cal l.prog w K mg base (j + 1) "cost_of" ["pieces", "points"] (spCo K) := fun j => ⟨f11, _, ok_co F11 m_len, g11, k11, b11⟩
  have IH : ∀ j, Cal l.prog w K mg base (j + 2) "is_height" ["thing"] spIh := fun j => ⟨f12, _, ok_ih (k := j + 1) F12 (WH j) m_isinstance m_tuple m_len, g12, k12, b12⟩
  have HT_ : ∀ j, Cal l.prog w K mg base (j + 3) "height_table" ["thing", "start", "end", "steps"] spHt := fun j => ⟨f13, _, ok_ht (k := j + 2) F13 (IH j) m_isinstance m_list m_all m_len, g13, k13, b13⟩
  have GA : ∀ j, Cal l.prog w K mg base (j + 2) "is_gap" ["thing", "start", "end", "steps"] spGa := fun j => ⟨f14, _, ok_ga (k := j + 1) F14 (WH j) m_isinstance m_list m_all m_len, g14, k14, b14⟩
  obtain ⟨q1, z1⟩ := lp_n FD8
  obtain ⟨q2, z2⟩ := lp_d FD8
  obtain ⟨q3, z3⟩ := sl_n FD15
  obtain ⟨q4, z4⟩ := sl_d FD15
  obtain ⟨q5, z5⟩ := ip_n FD10
  obtain ⟨q6, z6⟩ := ip_d FD10
  have IPn : ∀ j, CalN l.prog w K mg base (j + 3) "is_plan" NP5 3 ["horizon", "cells"] gRow (spPl K) := fun j => ⟨f10, _, _, IPo j, g10, k10, z5⟩
  have SLo : ∀ j, FnOk l.prog w K mg base CX0 (j + 4) f15 _ ["thing", "start", "end", "horizon", "cells", "points"] (spSl K) := fun j => ok_sl (k := j + 3) F15 (SF (j + 1)) (GA (j + 1)) (IPn j) (HT_ j) (CO (j + 2)) m_isinstance m_tuple m_len
  have DR_ : ∀ j, Cal l.prog w K mg base (j + 1) "_law_draws" ["_law_cell"] spDraws := fun j => ⟨f16, _, ok_draws F16, g16, k16, b16⟩
  have NX : ∀ j, Cal l.prog w K mg base (j + 1) "_law_next" ["_law_draws_here"] spNext := fun j => ⟨f17, _, ok_next F17, g17, k17, b17⟩
  have SP_ : ∀ j, Cal l.prog w K mg base (j + 2) "_law_spot" ["_law_draws_here"] spSp := fun j => ⟨f18, _, ok_sp (k := j + 1) F18 (NX j), g18, k18, b18⟩
  have WO : ∀ j, Cal l.prog w K mg base (j + 3) "_law_world" ["_law_draws_here"] (spWo K) := fun j => ⟨f19, _, ok_wo (k := j + 2) F19 (SP_ j) (NX (j + 1)) m_range m_sorted, g19, k19, b19⟩
  have LE : ∀ j, Cal l.prog w K mg base (j + 1) "_law_edges" ["_law_world_here"] (spLe K) := fun j => ⟨f20, _, ok_le F20 m_sorted m_set, g20, k20, b20⟩
  have LS : ∀ j, Cal l.prog w K mg base (j + 2) "_law_steps" ["_law_world_here"] (spLs K) := fun j => ⟨f21, _, ok_ls (k := j + 1) F21 (LE j) m_zip m_len, g21, k21, b21⟩
  have LC : ∀ j, Cal l.prog w K mg base (j + 3) "_law_costs" ["_law_world_here"] (spLc K) := fun j => ⟨f22, _, ok_lc (k := j + 2) F22 (LE (j + 1)) (LS j) m_min, g22, k22, b22⟩
  have PR_ : ∀ j, Cal l.prog w K mg base (j + 1) "_law_pieces_right" ["_law_world_here", "_law_a_pieces"] (spPr K) := fun j => ⟨f23, _, ok_pr F23 m_len m_int, g23, k23, b23⟩
  have TD_ : ∀ j, Cal l.prog w K mg base (j + 4) "_law_told_right" ["_law_world_here", "_law_told", "_law_due"] (spTd K) := fun j => ⟨f24, _, ok_td (k := j + 3) F24 (PR_ (j + 2)) (CO (j + 2)) ⟨f11, _, ok_co F11 m_len, g11, k11, co_k F11⟩ (IPn j) m_isinstance m_list m_len m_dict, g24, k24, b24⟩
  have e1 : Emp K T1 := fun H => .inr ⟨_, itT1, nT1, lT1, cT_1, rfl, nT_1, vT1⟩
  have e2 : Emp K T2 := fun H => .inr ⟨_, itT2, nT2, lT2, cT_2, rfl, nT_2, vT2⟩
  have e3 : Emp K T3 := fun H => .inr ⟨_, itT3, nT3, lT3, cT_3, rfl, nT_3, vT3⟩
  have e4 : Emp K T4 := fun H => .inr ⟨_, itT4, nT4, lT4, cT_4, rfl, nT_4, vT4⟩
  have e5 : Emp K T5 := fun H => .inr ⟨_, itT5, nT5, lT5, cT_5, rfl, nT_5, vT5⟩
  have RI : ∀ j, Cal l.prog w K mg base (j + 5) "_law_right" ["_law_draws_here"] spRi := fun j => ⟨f25, _, ok_ri (k := j + 4) F25 (WO (j + 1)) (LC (j + 1)) (NX (j + 3)) (TD_ j) ⟨f8, _, _, LPo (j + 1), g8, k8, z1⟩ ⟨f8, _, LPo (j + 1), g8, k8, lp_k FD8⟩ ⟨f8, _, _, LPo (j + 1), g8, k8, z2⟩ e1 e2 ⟨f15, _, _, SLo j, g15, k15, z3⟩ ⟨f15, _, SLo j, g15, k15, sl_k FD15⟩ ⟨f15, _, _, SLo j, g15, k15, z4⟩ e3 e4 ⟨f10, _, IPo (j + 1), g10, k10, ip_k FD10⟩ ⟨f10, _, _, IPo (j + 1), g10, k10, z6⟩ e5 (CO (j + 3)) m_len m_list m_tuple m_isinstance, g25, k25, b25⟩
  exact ok_law (k := 5) F26 (DR_ 4) (RI 0)
end Tg
open PySem PySem.W PyProof.Rows
set_option maxRecDepth 100000 in
set_option maxHeartbeats 0 in
theorem PySem.Challenge.cw_timegranary_k34_plans_of_least_cost_holds : PySem.Challenge.rw_timegranary_k34_plans_of_least_cost.Holds := by
  w_on; o_law; k_head; (case hw => w_witness2)
  k_fill
  refine L2.walk_of (l := PySem.Challenge.rw_timegranary_k34_plans_of_least_cost) (n := 63) (k := 6) (x := "_law_script") (CX := fun _ => L2.CX0) (sp := fun w => Tg.spLaw _) rfl (by decide) rfl ⟨rfl, by decide, by decide⟩ (fun w h Y => PySem.W.kIn_of Y) ?F (fun _ _ a ns hl _ hS => ⟨a, ns, rfl, hS, hl, fun _ => rfl⟩) (fun _ _ _ _ _ h => h)
  case F =>
    intro w mg fa h KX G hmg
    refine' Tg.all_mk KX G hmg ?a1 ?l1 ?c1 ?k1 ?a2 ?l2 ?c2 ?k2 ?a3 ?l3 ?c3 ?k3 ?a4 ?l4 ?c4 ?k4 ?a5 ?l5 ?c5 ?k5 ?a6 ?l6 ?c6 ?k6 ?a7 ?l7 ?c7 ?k7 ?a8 ?l8 ?dA_horizon ?dA_cells ?dA_points ?c8 ?k8 ?a9 ?l9 ?c9 ?k9 ?a10 ?l10 ?dC_horizon ?dC_cells ?c10 ?k10 ?a11 ?l11 ?c11 ?k11 ?a12 ?l12 ?c12 ?k12 ?a13 ?l13 ?c13 ?k13 ?a14 ?l14 ?c14 ?k14 ?a15 ?l15 ?dB_horizon ?dB_cells ?dB_points ?c15 ?k15 ?a16 ?l16 ?c16 ?k16 ?a17 ?l17 ?c17 ?k17 ?a18 ?l18 ?c18 ?k18 ?a19 ?l19 ?c19 ?k19 ?a20 ?l20 ?c20 ?k20 ?a21 ?l21 ?c21 ?k21 ?a22 ?l22 ?c22 ?k22 ?a23 ?l23 ?c23 ?k23 ?a24 ?l24 ?c24 ?k24 ?a25 ?l25 ?c25 ?k25 ?a26 ?l26 ?c26 ?k26 ?z_range ?z_len ?z_min ?z_int ?z_list ?z_zip ?z_sorted ?z_set ?z_isinstance ?z_bool ?z_tuple ?z_dict ?z_all ?lT1 ?cT_1 ?nT_1 ?vT1 ?lT2 ?cT_2 ?nT_2 ?vT2 ?lT3 ?cT_3 ?nT_3 ?vT3 ?lT4 ?cT_4 ?nT_4 ?vT4 ?lT5 ?cT_5 ?nT_5 ?vT5
    (case a1 => k_is); (case l1 => k_is); (case c1 => k_is); (case k1 => k_is); (case a2 => k_is); (case l2 => k_is)
    (case c2 => k_is); (case k2 => k_is); (case a3 => k_is); (case l3 => k_is); (case c3 => k_is); (case k3 => k_is)
    (case a4 => k_is); (case l4 => k_is); (case c4 => k_is); (case k4 => k_is); (case a5 => k_is); (case l5 => k_is)
    (case c5 => k_is); (case k5 => k_is); (case a6 => k_is); (case l6 => k_is); (case c6 => k_is); (case k6 => k_is)
    (case a7 => k_is); (case l7 => k_is); (case c7 => k_is); (case k7 => k_is); (case a8 => k_is); (case l8 => k_is); (case dA_horizon => k_is); (case dA_cells => k_is); (case dA_points => k_is)
    (case c8 => k_is); (case k8 => k_is); (case a9 => k_is); (case l9 => k_is); (case c9 => k_is); (case k9 => k_is)
    (case a10 => k_is); (case l10 => k_is); (case dC_horizon => k_is); (case dC_cells => k_is); (case c10 => k_is); (case k10 => k_is); (case a11 => k_is); (case l11 => k_is)
    (case c11 => k_is); (case k11 => k_is); (case a12 => k_is); (case l12 => k_is); (case c12 => k_is); (case k12 => k_is)
    (case a13 => k_is); (case l13 => k_is); (case c13 => k_is); (case k13 => k_is); (case a14 => k_is); (case l14 => k_is)
    (case c14 => k_is); (case k14 => k_is); (case a15 => k_is); (case l15 => k_is); (case dB_horizon => k_is); (case dB_cells => k_is); (case dB_points => k_is); (case c15 => k_is); (case k15 => k_is)
    (case a16 => k_is); (case l16 => k_is); (case c16 => k_is); (case k16 => k_is); (case a17 => k_is); (case l17 => k_is)
    (case c17 => k_is); (case k17 => k_is); (case a18 => k_is); (case l18 => k_is); (case c18 => k_is); (case k18 => k_is)
    (case a19 => k_is); (case l19 => k_is); (case c19 => k_is); (case k19 => k_is); (case a20 => k_is); (case l20 => k_is)
    (case c20 => k_is); (case k20 => k_is); (case a21 => k_is); (case l21 => k_is); (case c21 => k_is); (case k21 => k_is)
    (case a22 => k_is); (case l22 => k_is); (case c22 => k_is); (case k22 => k_is); (case a23 => k_is); (case l23 => k_is)
    (case c23 => k_is); (case k23 => k_is); (case a24 => k_is); (case l24 => k_is); (case c24 => k_is); (case k24 => k_is)
    (case a25 => k_is); (case l25 => k_is); (case c25 => k_is); (case k25 => k_is); (case a26 => k_is); (case l26 => k_is)
    (case c26 => k_is); (case k26 => k_is); (case z_range => k_is); (case z_len => k_is); (case z_min => k_is); (case z_int => k_is)
    (case z_list => k_is); (case z_zip => k_is); (case z_sorted => k_is); (case z_set => k_is); (case z_isinstance => k_is); (case z_bool => k_is)
    (case z_tuple => k_is); (case z_dict => k_is); (case z_all => k_is); (case lT1 => k_is); (case cT_1 => rfl); (case nT_1 => decide +kernel)
    (case vT1 => exact .nil); (case lT2 => k_is); (case cT_2 => rfl); (case nT_2 => decide +kernel); (case vT2 => exact .nil); (case lT3 => k_is)
    (case cT_3 => rfl); (case nT_3 => decide +kernel); (case vT3 => exact .nil); (case lT4 => k_is); (case cT_4 => rfl); (case nT_4 => decide +kernel)
    (case vT4 => exact .nil); (case lT5 => k_is); (case cT_5 => rfl); (case nT_5 => decide +kernel); (case vT5 => exact .nil)

