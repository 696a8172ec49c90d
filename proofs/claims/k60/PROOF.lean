import PyProof.Rows.All
import Wide.All
import OpenK.AllK
import Wide.FinOn
import HandS.ForMost
import HandS.Conv
import HandS.Wide
import HandS.IsInst
import HandS.Defaults
import HandS.Iter
import HandS.Walk
import HandS.Zip
import KE.GoesNew
import KE.GoesMore
import KE.GoesEnum
import KE.KIndexOf
import HandS.Exc
import HandS.ExcInit
import HandS.ExcIs
import HandS.ExcField
import HandS.ExcValue
import KE.KExcIs
import KE.KTryMore
import HandS.WordsExc
import HandS.ExcOwn
import HandS.WideBits
import KE.IntBitsLaws
import PySem.Challenge.RW_timegranary_k60_keeps
import HandS.TupAny
import HandS.TupMul
import HandS.MakeKw
set_option Elab.async false
set_option linter.all false
set_option maxRecDepth 100000
namespace Tg
open PySem PySem.Spec PyProof.Rows L2

/-! ### rules of my own: a call by keywords alone; list(range(a, b, c)) -/
section
variable {X : Cx} {CX : CXT} {k : Nat} {f : Addr} {fd : FuncData} {ps ks : List Str} {sp : Sp} {E : XK} {x : Str} {p pos : Pos} {kws : List Keyword} {tk : TA}
  {g : List Value → List Value → List Value} {gV : List V → List V → List V}
def tKw0 (n : Nat) (sp : Sp) (gV : List V → List V → List V) (E : XK) (tk : TA) : TE :=
  fun σ H Q => tk σ H fun zs H2 => zs.length = n ∧ sp (gV [] zs) H2 Q E
theorem pe_kw0 (F : FnOk X.prog X.w X.K X.mg X.base CX k f fd ps sp) (room : Room k X.A) (gl : Gl X x) (at_x : X.mg x = some (.ref f)) (kept : PySem.W.keepIn X.K (.ref f) = true) (binds : KBn X.K fd ps 0 ks g gV) (lets : Passes CX X E) (vals : PK X kws tk)
    (named : (backToKw pos (keywordEach kws X.env)).all (·.1.isSome) = true := by rfl) (names : (backToKw pos (keywordEach kws X.env)).filterMap (·.1) = ks := by rfl) (nodebug : (x == ("__debug__" : Str)) = false := by decide)
    (nostar : ((backTo pos (starEach [] X.env)).any (·.1) || (backToKw pos (keywordEach kws X.env)).any (·.1.isNone)) = false := by rfl) : PE X (.Call (.Name x p) [] kws pos) (tKw0 ks.length sp gV E tk) := by
  constructor
  intro pins s σ H Q I read
  refine wpAny_Call_Name_kw (ld_glob I gl at_x (PySem.W.callWith_KW0 (h₀ := X.base) I.ok.mod.kin kept named (thn (vals.run pos pins s σ H _ I read) fun ws s2 y => ?_) nostar) nodebug)
  obtain ⟨zs, H2, J, rel, many, h⟩ := y
  rw [names]
  exact ⟨J.kIn, run_fnN (us := []) (vs := []) F room binds lets J .nil rel rfl many h⟩
end

/-- two keywords, the second parameter's first -/
def sw2 {α : Type} : List α → List α
  | [y, x] => [x, y]
  | _ => []
/-- three keywords, the parameters' from the last on -/
def sw3 {α : Type} : List α → List α
  | [z, y, x] => [x, y, z]
  | _ => []
theorem sw2_rel : ∀ {zs : List V} {ws : List Value}, Vals zs ws → Vals (sw2 zs) (sw2 ws)
  | _, _, .nil => .nil
  | _, _, .cons _ .nil => .nil
  | _, _, .cons a (.cons b .nil) => .cons b (.cons a .nil)
  | _, _, .cons _ (.cons _ (.cons _ _)) => .nil
theorem sw3_rel : ∀ {zs : List V} {ws : List Value}, Vals zs ws → Vals (sw3 zs) (sw3 ws)
  | _, _, .nil => .nil
  | _, _, .cons _ .nil => .nil
  | _, _, .cons _ (.cons _ .nil) => .nil
  | _, _, .cons a (.cons b (.cons c .nil)) => .cons c (.cons b (.cons a .nil))
  | _, _, .cons _ (.cons _ (.cons _ (.cons _ _))) => .nil

section
variable {X : Cx} {a b c : Expr} {ta : TA}
def rg3 (a c : Int) (n : Nat) : List V := (List.range n).map fun i => V.int (a + (i : Nat) * c)
theorem rg3_length (a c : Int) (n : Nat) : (rg3 a c n).length = n := by
  simp [rg3]
def R3 (a b c : Int) (n : Nat) : Prop :=
  c ≠ 0 ∧ c.natAbs.log2 < 9000 ∧ Builtin.Range.small a b c = true ∧ Builtin.Range.rangeSize a b c = n ∧ n ≤ 2 ^ 24
def tLst3 (ta : TA) : TE := fun σ H Q => ta σ H fun vs H1 => ∃ (a b c : Int) (n : Nat), vs = [.int a, .int b, .int c] ∧ R3 a b c n ∧
  ∀ q, H1 q = none → Q (.ref q) (upd H1 q (.lst (rg3 a c n)))
theorem pe_lst3 {p p2 pos pos2 : Pos} (calm : X.calm = true) (gl : Gl X "list") (nl : X.mg "list" = none) (gr : Gl X "range") (nr : X.mg "range" = none) (args : PA X [a, b, c] ta)
    (one : starEach [a, b, c] X.env = (false, eval a X.env) :: starEach [b, c] X.env := by rfl) (nostar : (backTo pos2 (starEach [b, c] X.env)).any (·.1) = false := by rfl)
    (whole : starEach [.Call (.Name "range" p2) [a, b, c] [] pos2] X.env = (false, eval (.Call (.Name "range" p2) [a, b, c] [] pos2) X.env) :: starEach [] X.env := by rfl) :
    PE X (.Call (.Name "list" p) [.Call (.Name "range" p2) [a, b, c] [] pos2] [] pos) (tLst3 ta) := by
  constructor
  intro pins s σ H Q I read
  refine Call_ (ld_blt I gl nl boot_list (PyProof.Rows.callWith_type1 (args_cons (Call_ (ld_blt I gr nr boot_range (PyProof.Rows.callWith_type1 (thn (args.run pos2 pins s σ H _ I read) fun us s1 y => ?_) one nostar))) whole) whole))
  obtain ⟨zs, H1, J, rel, i, j, k, n, e, ⟨c0, c1, c2, c3, c4⟩, h⟩ := y
  subst e
  match us, rel with
  | [_, _, _], .cons ⟨t, ei⟩ (.cons ⟨u, ej⟩ (.cons ⟨v, ek⟩ .nil)) =>
    subst ei
    subst ej
    subst ek
    refine call_range_3 c0 (args_nil ?_) (.inl (PyProof.noPylong_of_log2 c1))
    obtain ⟨hx, ehx⟩ : ∃ hx, hx = s1.heap.push { cls := .type "range", data := .fields #[.int i t, .int j u, .int k v] } := ⟨_, rfl⟩
    have J2 : Inv X pins σ H1 { s1 with heap := hx } := by
      rw [ehx]
      exact J.kept (t' := s1.toks) fun _ _ z => Heap.get?_push_of_some _ z
    rw [← ehx]
    refine call_list_range (s := { s1 with heap := hx }) (n := n) (J2.ok.hd calm) (by rw [ehx]; exact IsRange.new ..) c2 c3 c4 fun h' tk acc cc kp made items => ?_
    have len : acc.toList.length = n := Array.length_toList.trans items.1
    have vals : Vals (rg3 i k n) acc.toList := by
      have z := vals_of_get acc.toList (fun m : Nat => V.int (i + m * k)) fun m w hw => by
        obtain ⟨tw, ew⟩ := items.2 m w (by rw [← hw, Array.getElem?_toList])
        exact ⟨tw, ew⟩
      rw [len] at z
      exact z
    refine ⟨.ref hx.objs.size, upd H1 hx.objs.size (.lst (rg3 i k n)), J2.laid kp (Nat.le_refl _) (show ObjOk X.prog X.w _ _ _ (.lst (rg3 i k n)) from ⟨?_, acc.toList, cc, vals, ?_⟩), rfl, h _ (J2.hok.fresh (Nat.le_refl _))⟩
    · rw [rg3_length, sizeLine_eq]
      omega
    · rw [Array.toArray_toList]
      exact made
end

/-! ### lists of ints, compared -/
theorem dp_ints {K : PySem.W.Frag} {H : Hp} : ∀ ns : List Int, DpAll K H (ns.map V.int) (ns.map PyData.int)
  | [] => .nil
  | n :: r => .cons (.int n) (dp_ints r)
theorem lay_ints : ∀ ns : List Int, PyData.canLayAll0 (ns.map PyData.int) = true
  | [] => rfl
  | n :: r => by
    show (true && PyData.canLayAll0 (r.map PyData.int)) = true
    rw [lay_ints r]
    rfl
theorem depth_ints : ∀ ns : List Int, PyData.depthAll (ns.map PyData.int) = 0
  | [] => rfl
  | n :: r => by
    show max 0 (PyData.depthAll (r.map PyData.int)) = 0
    rw [depth_ints r]
    rfl
theorem shaped_ints (ns : List Int) : SeqAt.shaped (.list (ns.map PyData.int)) = true := by
  unfold SeqAt.shaped
  have h1 : PyData.canLay0 (.list (ns.map PyData.int)) = true := lay_ints ns
  have h2 : PyData.depth (.list (ns.map PyData.int)) = 1 := by
    show PyData.depthAll (ns.map PyData.int) + 1 = 1
    rw [depth_ints]
  rw [h1, h2]
  rfl
theorem eqv_ints : ∀ ns : List Int, PyData.eqvAll (ns.map PyData.int) (ns.map PyData.int) = true
  | [] => rfl
  | n :: r => by
    show ((n == n) && PyData.eqvAll (r.map PyData.int) (r.map PyData.int)) = true
    rw [eqv_ints r, beq_self_eq_true]
    rfl
theorem dp_lst {K : PySem.W.Frag} {H : Hp} {a : Addr} {ns : List Int} (h : SqL K H a (ns.map V.int)) : Dp K H (.ref a) (.list (ns.map PyData.int)) := .lst h (dp_ints ns)
end Tg

namespace Tg
open PySem PySem.Spec PyProof.Rows L2
/-! ### defs, methods and classes as a caller needs them -/
section
variable (P : Program) (w : World) (K : PySem.W.Frag) (mg : Str → Option Value) (base : Heap)
/-- the def x is there, and keeps sp by level k -/
def Cal (k : Nat) (x : Str) (ps : List Str) (sp : Sp) : Prop := ∃ f fd, FnOk P w K mg base CX0 k f fd ps sp ∧ mg x = some (.ref f) ∧ PySem.W.keepIn K (.ref f) = true ∧ Binds K fd ps []
/-- the places that is tells, out of a list -/
def prm {α : Type} (is : List Nat) (zs : List α) : List α := is.filterMap fun i => zs[i]?
/-- the same with keywords alone, ks in this order; is: the places of the parameters among them -/
def CalK (k : Nat) (x : Str) (ps ks : List Str) (is : List Nat) (sp : Sp) : Prop := ∃ f fd, FnOk P w K mg base CX0 k f fd ps sp ∧ mg x = some (.ref f) ∧ PySem.W.keepIn K (.ref f) = true ∧ KBn K fd ps 0 ks (fun _ ws => prm is ws) (fun _ zs => prm is zs)
/-- a method of the class C -/
def CalM (k : Nat) (C : Addr) (m : Str) (ps : List Str) (sp : Sp) : Prop := ∃ f fd, FnOk P w K mg base CX0 k f fd ps sp ∧ Meth K C m f ∧ Binds K fd ps []
def CalMK (k : Nat) (C : Addr) (m : Str) (ps ks : List Str) (is : List Nat) (sp : Sp) : Prop := ∃ f fd, FnOk P w K mg base CX0 k f fd ps sp ∧ Meth K C m f ∧ KBn K fd ps 1 ks (fun us ws => us ++ prm is ws) (fun vs zs => vs ++ prm is zs)
/-- a class, by its __init__ -/
def CalC (k : Nat) (x : Str) (C : Addr) (ps : List Str) (sp : Sp) : Prop := ∃ f fd, FnOk P w K mg base CX0 k f fd ps sp ∧ mg x = some (.ref C) ∧ Mk K C f ∧ Binds K fd ps []
end
theorem vals_at : ∀ {zs : List V} {ws : List Value}, Vals zs ws → ∀ i : Nat, (zs[i]? = none ∧ ws[i]? = none) ∨ ∃ z w, zs[i]? = some z ∧ ws[i]? = some w ∧ RelV z w
  | _, _, .nil, i => .inl ⟨by simp, by simp⟩
  | _, _, .cons a b, i => by
    cases i with
    | zero => exact .inr ⟨_, _, rfl, rfl, a⟩
    | succ i => exact vals_at b i
theorem prm_rel {zs : List V} {ws : List Value} (h : Vals zs ws) : ∀ is : List Nat, Vals (prm is zs) (prm is ws)
  | [] => .nil
  | i :: r => by
    have ih := prm_rel h r
    unfold prm at ih ⊢
    rcases vals_at h i with ⟨h1, h2⟩ | ⟨z, w, h1, h2, h3⟩
    · rw [List.filterMap_cons_none h1, List.filterMap_cons_none h2]
      exact ih
    · rw [List.filterMap_cons_some h1, List.filterMap_cons_some h2]
      exact .cons h3 ih
section
variable {X : Cx} {k : Nat} {ps ks : List Str} {is : List Nat} {sp : Sp} {x m : Str} {C : Addr} {o e : Expr} {es : List Expr} {p pos apos : Pos} {kws : List Keyword} {ta t tk : TA} {to : TE}
theorem pe_cal (c : Cal X.prog X.w X.K X.mg X.base k x ps sp) (hr : Room k X.A) (gl : Gl X x) (ha : PA X (e :: es) t) (hdb : (x == ("__debug__" : Str)) = false := by decide)
    (he : starEach (e :: es) X.env = (false, eval e X.env) :: starEach es X.env := by rfl) (hpl : (backTo pos (starEach es X.env)).any (·.1) = false := by rfl) : PE X (.Call (.Name x p) (e :: es) [] pos) (tCall sp [] E0 t) := by
  obtain ⟨f, fd, F, hm, hk, hb⟩ := c
  exact pe_call F hr gl hm hk hb .nil pass0 ha hdb he hpl
theorem pe_calK (c : CalK X.prog X.w X.K X.mg X.base k x ps ks is sp) (hr : Room k X.A) (gl : Gl X x) (vals : PK X kws tk)
    (named : (backToKw pos (keywordEach kws X.env)).all (·.1.isSome) = true := by rfl) (names : (backToKw pos (keywordEach kws X.env)).filterMap (·.1) = ks := by rfl) (nodebug : (x == ("__debug__" : Str)) = false := by decide)
    (nostar : ((backTo pos (starEach [] X.env)).any (·.1) || (backToKw pos (keywordEach kws X.env)).any (·.1.isNone)) = false := by rfl) :
    PE X (.Call (.Name x p) [] kws pos) (tKw0 ks.length sp (fun _ zs => prm is zs) E0 tk) := by
  obtain ⟨f, fd, F, hm, hk, hb⟩ := c
  exact pe_kw0 F hr gl hm hk hb pass0 vals named names nodebug nostar
theorem pe_calM {pl : Sem Bool} (he : PE X o to) (cl : Cls X.K C) (c : CalM X.prog X.w X.K X.mg X.base k C m ps sp) (hr : Room k X.A) (ha : PA X (e :: es) t)
    (hst : starEach (e :: es) X.env = (false, eval e X.env) :: starEach es X.env := by rfl) (hpl : (backTo pos (starEach es X.env)).any (·.1) = false := by rfl) (ht : eval (.Call (.Attribute o m apos) (e :: es) [] pos) X.env = (do let ov ← eval o X.env; standAt apos.atName; let (f, first) ← holding [ov] (getMethod ov m pl); callWith pos f first (backTo pos (starEach (e :: es) X.env)) (backToKw pos (keywordEach [] X.env))) := by rfl) :
    PE X (.Call (.Attribute o m apos) (e :: es) [] pos) (tMeth C m sp [] E0 to t) := by
  obtain ⟨f, fd, F, hm, hb⟩ := c
  exact pe_meth (pl := pl) he cl hm F hr hb .nil pass0 ha hst hpl ht
theorem pe_calM0 {pl : Sem Bool} (he : PE X o to) (cl : Cls X.K C) (c : CalM X.prog X.w X.K X.mg X.base k C m ps sp) (hr : Room k X.A)
    (ht : eval (.Call (.Attribute o m apos) [] [] pos) X.env = (do let ov ← eval o X.env; standAt apos.atName; let (f, first) ← holding [ov] (getMethod ov m pl); callWith pos f first (backTo pos (starEach [] X.env)) (backToKw pos (keywordEach [] X.env))) := by rfl) :
    PE X (.Call (.Attribute o m apos) [] [] pos) (tMeth C m sp [] E0 to tNil) := by
  obtain ⟨f, fd, F, hm, hb⟩ := c
  exact pe_meth0 (pl := pl) he cl hm F hr hb .nil pass0 ht
/-- o.m(k = v, ..) -/
def tMethK (C : Addr) (m : Str) (n : Nat) (sp : Sp) (is : List Nat) (E : XK) (to : TE) (tk : TA) : TE := fun σ H Q => to σ H fun x H1 => ∃ a dx fs, x = .ref a ∧ H1 a = some (.ins C dx fs) ∧ fs.lookup m = none ∧ tk σ H1 fun zs H2 => zs.length = n ∧ sp (x :: prm is zs) H2 Q E
theorem pe_calMK {pl : Sem Bool} (he : PE X o to) (cl : Cls X.K C) (c : CalMK X.prog X.w X.K X.mg X.base k C m ps ks is sp) (hr : Room k X.A) (vals : PK X kws tk)
    (named : (backToKw pos (keywordEach kws X.env)).all (·.1.isSome) = true := by rfl) (names : (backToKw pos (keywordEach kws X.env)).filterMap (·.1) = ks := by rfl)
    (nostar : ((backTo pos (starEach [] X.env)).any (·.1) || (backToKw pos (keywordEach kws X.env)).any (·.1.isNone)) = false := by rfl)
    (ht : eval (.Call (.Attribute o m apos) [] kws pos) X.env = (do let ov ← eval o X.env; standAt apos.atName; let (f, first) ← holding [ov] (getMethod ov m pl); callWith pos f first (backTo pos (starEach [] X.env)) (backToKw pos (keywordEach kws X.env))) := by rfl) :
    PE X (.Call (.Attribute o m apos) [] kws pos) (tMethK C m ks.length sp is E0 to tk) := by
  obtain ⟨f, fd, F, hm, hb⟩ := c
  constructor
  intro pins s σ H Q I read
  refine PySem.W.methodCall_KW (pl := pl) (thn (he.run pins s σ H _ I read) fun u s1 ⟨x, H1, I1, rx, a, dx, fs, ex, ea, l, q⟩ => ?_) ht
  subst ex
  obtain rfl : u = .ref a := rx
  refine getmeth_ok I1 ea cl hm l ?_
  refine PySem.W.callWith_KW0 (first := [.ref a]) (h₀ := X.base) I.ok.mod.kin hm.kp named (thn (vals.run pos pins s1 σ H1 _ I1 q) fun ws s2 y => ?_) nostar
  obtain ⟨zs, H2, J, rel, many, h⟩ := y
  rw [names]
  exact ⟨J.kIn, run_fnN (E := E0) (us := [.ref a]) (vs := [.ref a]) F hr hb pass0 J (.cons rfl .nil) rel rfl many h⟩
theorem pe_calC0 (c : CalC X.prog X.w X.K X.mg X.base k x C ps sp) (hr : Room (k + 1) X.A) (gl : Gl X x) (hdb : (x == ("__debug__" : Str)) = false := by decide) : PE X (.Call (.Name x p) [] [] pos) (tMake C sp [] E0 tNil) := by
  obtain ⟨f, fd, F, hm, M, hb⟩ := c
  exact pe_make0 M F hr gl hm hb .nil pass0 hdb
theorem pe_calC (c : CalC X.prog X.w X.K X.mg X.base k x C ps sp) (hr : Room (k + 1) X.A) (gl : Gl X x) (ha : PA X (e :: es) t) (hdb : (x == ("__debug__" : Str)) = false := by decide)
    (he : starEach (e :: es) X.env = (false, eval e X.env) :: starEach es X.env := by rfl) (hpl : (backTo pos (starEach es X.env)).any (·.1) = false := by rfl) : PE X (.Call (.Name x p) (e :: es) [] pos) (tMake C sp [] E0 t) := by
  obtain ⟨f, fd, F, hm, M, hb⟩ := c
  exact pe_make M F hr gl hm hb .nil pass0 ha hdb he hpl
end
end Tg

namespace Tg
open PySem PySem.Spec PyProof.Rows L2
/-! ### the heap: what stands -/
/-- all but p stands as it stood -/
def Kp (p : Addr) (H H' : Hp) : Prop := ∀ b o, b ≠ p → H b = some o → H' b = some o
theorem Kp.refl (p : Addr) (H : Hp) : Kp p H H := fun _ _ _ h => h
theorem Kp.trans {p : Addr} {H H1 H2 : Hp} (a : Kp p H H1) (b : Kp p H1 H2) : Kp p H H2 := fun c o hc h => b c o hc (a c o hc h)
theorem Kp.of {p : Addr} {H H' : Hp} (s : Same H H') : Kp p H H' := fun c o _ h => s c o h
theorem Kp.put {p : Addr} {H : Hp} {o : HO} : Kp p H (upd H p o) := fun c u hc h => by
  rw [upd_ne hc]
  exact h
/-- what is new stays apart -/
theorem Kp.same {p : Addr} {H H1 H2 : Hp} (s : Same H H1) (n : H p = none) (k : Kp p H1 H2) : Same H H2 := fun b o h => k b o (ne_of_none h n) (s b o h)
theorem same_new {H : Hp} {p : Addr} {o : HO} (h : H p = none) : Same H (upd H p o) := fun b x e => by
  rw [upd_ne (ne_of_none e h)]
  exact e
theorem same_put {H H' : Hp} {D : Addr} {o : HO} (n : H D = none) (s : Same H H') : Same H (upd H' D o) := fun b x e => by
  rw [upd_ne (ne_of_none e n)]
  exact s _ _ e
/-- what can't be changed: tuples, and what is locked -/
def Fix : HO → Prop
  | .tup _ => True
  | .frz _ _ => True
  | _ => False
/-- all that can't be changed stands -/
def KT (H H' : Hp) : Prop := ∀ a o, Fix o → H a = some o → H' a = some o
theorem KT.refl (H : Hp) : KT H H := fun _ _ _ h => h
theorem KT.trans {H H1 H2 : Hp} (a : KT H H1) (b : KT H1 H2) : KT H H2 := fun c o f h => b c o f (a c o f h)
theorem KT.of {H H' : Hp} (s : Same H H') : KT H H' := fun c o _ h => s c o h
theorem KT.kp {p : Addr} {H H' : Hp} {o : HO} (k : Kp p H H') (h : H p = some o) (n : ¬ Fix o) : KT H H' := fun a u f e => k a u (fun z => n (by
  rw [z, h] at e
  cases e
  exact f)) e
theorem KT.put {p : Addr} {H : Hp} {o u : HO} (h : H p = some o) (n : ¬ Fix o) : KT H (upd H p u) := KT.kp Kp.put h n
theorem KT.new {p : Addr} {H : Hp} {u : HO} (h : H p = none) : KT H (upd H p u) := KT.of (same_new h)
theorem nfix_lst {xs : List V} : ¬ Fix (.lst xs) := fun z => z
theorem nfix_dK {xs : List (Key × V)} : ¬ Fix (.dK xs) := fun z => z
theorem nfix_ins {C dx : Addr} {fs : List (Str × V)} : ¬ Fix (.ins C dx fs) := fun z => z
/-! ### data -/
theorem rd_same {H H' : Hp} {a : Addr} {o : HO} (s : Same H H') (h : Rd H a o) : Rd H' a o := by
  rcases h with h | ⟨ob, h⟩
  · exact .inl (s _ _ h)
  · exact .inr ⟨ob, s _ _ h⟩
theorem sqL_same {K : PySem.W.Frag} {H H' : Hp} {a : Addr} {xs : List V} (s : Same H H') (h : SqL K H a xs) : SqL K H' a xs := h.imp (rd_same s) id
theorem sqT_same {K : PySem.W.Frag} {H H' : Hp} {a : Addr} {xs : List V} (s : Same H H') (h : SqT K H a xs) : SqT K H' a xs := h.imp (rd_same s) id
theorem sqT_kt {K : PySem.W.Frag} {H H' : Hp} {a : Addr} {xs : List V} (s : KT H H') (h : SqT K H a xs) : SqT K H' a xs := by
  refine h.imp (fun h => ?_) id
  rcases h with h | ⟨ob, h⟩
  · exact .inl (s _ _ trivial h)
  · exact .inr ⟨ob, s _ _ trivial h⟩
mutual
theorem dp_same {K : PySem.W.Frag} {H H' : Hp} (s : Same H H') : ∀ {x : V} {d : PyData}, Dp K H x d → Dp K H' x d
  | _, _, .non => .non
  | _, _, .bl b => .bl b
  | _, _, .int i => .int i
  | _, _, .str z => .str z
  | _, _, .lst a b => .lst (sqL_same s a) (dpAll_same s b)
  | _, _, .tup a b => .tup (sqT_same s a) (dpAll_same s b)
theorem dpAll_same {K : PySem.W.Frag} {H H' : Hp} (s : Same H H') : ∀ {xs : List V} {ds : List PyData}, DpAll K H xs ds → DpAll K H' xs ds
  | _, _, .nil => .nil
  | _, _, .cons a b => .cons (dp_same s a) (dpAll_same s b)
end
/-- no list and no dict in it -/
inductive TD : PyData → Prop
  | non : TD .none
  | bl (b : Bool) : TD (.bool b)
  | int (i : Int) : TD (.int i)
  | str (z : Str) : TD (.str z)
  | tup {ds : List PyData} : (∀ d, d ∈ ds → TD d) → TD (.tuple ds)
mutual
theorem dp_kt {K : PySem.W.Frag} {H H' : Hp} (s : KT H H') : ∀ {x : V} {d : PyData}, Dp K H x d → TD d → Dp K H' x d
  | _, _, .non, _ => .non
  | _, _, .bl b, _ => .bl b
  | _, _, .int i, _ => .int i
  | _, _, .str z, _ => .str z
  | _, _, .lst _ _, t => nomatch t
  | _, _, .tup a b, .tup t => .tup (sqT_kt s a) (dpAll_kt s b t)
theorem dpAll_kt {K : PySem.W.Frag} {H H' : Hp} (s : KT H H') : ∀ {xs : List V} {ds : List PyData}, DpAll K H xs ds → (∀ d, d ∈ ds → TD d) → DpAll K H' xs ds
  | _, _, .nil, _ => .nil
  | _, _, .cons a b, t => .cons (dp_kt s a (t _ List.mem_cons_self)) (dpAll_kt s b fun d hd => t d (List.mem_cons_of_mem _ hd))
end
theorem dpAll_len {K : PySem.W.Frag} {H : Hp} : ∀ {xs : List V} {ds : List PyData}, DpAll K H xs ds → xs.length = ds.length
  | _, _, .nil => rfl
  | _, _, .cons _ b => congrArg Nat.succ (dpAll_len b)
theorem dpAll_at {K : PySem.W.Frag} {H : Hp} : ∀ {xs : List V} {ds : List PyData}, DpAll K H xs ds → ∀ (i : Nat) (x : V), xs[i]? = some x → ∃ d, ds[i]? = some d ∧ Dp K H x d
  | _, _, .nil => fun i x h => by simp at h
  | _, _, .cons a b => fun i x h => by
    cases i with
    | zero =>
      simp only [Option.some.injEq, List.getElem?_cons_zero] at h
      subst h
      exact ⟨_, rfl, a⟩
    | succ i =>
      rw [List.getElem?_cons_succ] at h ⊢
      exact dpAll_at b i x h
theorem dpAll_tk {K : PySem.W.Frag} {H : Hp} : ∀ {xs : List V} {ds : List PyData}, DpAll K H xs ds → ∀ (i : Nat) (d : PyData), ds[i]? = some d → ∃ x, xs[i]? = some x ∧ Dp K H x d
  | _, _, .nil => fun i x h => by simp at h
  | _, _, .cons a b => fun i x h => by
    cases i with
    | zero =>
      simp only [Option.some.injEq, List.getElem?_cons_zero] at h
      subst h
      exact ⟨_, rfl, a⟩
    | succ i =>
      rw [List.getElem?_cons_succ] at h ⊢
      exact dpAll_tk b i x h
theorem dpAll_app {K : PySem.W.Frag} {H : Hp} : ∀ {xs ys : List V} {ds es : List PyData}, DpAll K H xs ds → DpAll K H ys es → DpAll K H (xs ++ ys) (ds ++ es)
  | _, _, _, _, .nil, h => h
  | _, _, _, _, .cons a b, h => .cons a (dpAll_app b h)
theorem dpAll_snoc {K : PySem.W.Frag} {H : Hp} {xs : List V} {ds : List PyData} {y : V} {e : PyData} (h : DpAll K H xs ds) (a : Dp K H y e) : DpAll K H (xs ++ [y]) (ds ++ [e]) := dpAll_app h (.cons a .nil)
/-- a list of data that can't be changed itself -/
def LD (K : PySem.W.Frag) (H : Hp) (a : Addr) (ds : List PyData) : Prop := ∃ xs, H a = some (.lst xs) ∧ DpAll K H xs ds
theorem LD.dp {K : PySem.W.Frag} {H : Hp} {a : Addr} {ds : List PyData} (h : LD K H a ds) : Dp K H (.ref a) (.list ds) := by
  obtain ⟨xs, h1, h2⟩ := h
  exact .lst (SqL.of h1) h2
theorem LD.same {K : PySem.W.Frag} {H H' : Hp} {a : Addr} {ds : List PyData} (s : Same H H') (h : LD K H a ds) : LD K H' a ds := by
  obtain ⟨xs, h1, h2⟩ := h
  exact ⟨xs, s _ _ h1, dpAll_same s h2⟩
/-- where the list itself stands and all tuples do -/
theorem LD.kt {K : PySem.W.Frag} {H H' : Hp} {a : Addr} {ds : List PyData} (s : KT H H') (e : ∀ o, H a = some o → H' a = some o) (t : ∀ d, d ∈ ds → TD d) (h : LD K H a ds) : LD K H' a ds := by
  obtain ⟨xs, h1, h2⟩ := h
  exact ⟨xs, e _ h1, dpAll_kt s h2 t⟩
theorem LD.kp {K : PySem.W.Frag} {H H' : Hp} {a p : Addr} {o : HO} {ds : List PyData} (k : Kp p H H') (hp : H p = some o) (n : ¬ Fix o) (ne : a ≠ p) (t : ∀ d, d ∈ ds → TD d) (h : LD K H a ds) : LD K H' a ds :=
  h.kt (KT.kp k hp n) (fun u e => k _ _ ne e) t
/-- one more at the end -/
theorem LD.snoc {K : PySem.W.Frag} {H H1 : Hp} {a : Addr} {xs : List V} {ds : List PyData} {y : V} {e : PyData} (k : KT H H1) (h1 : H1 a = some (.lst xs)) (hd : DpAll K H xs ds) (t : ∀ d, d ∈ ds → TD d) (hy : Dp K H1 y e) (te : TD e) :
    LD K (upd H1 a (.lst (xs ++ [y]))) a (ds ++ [e]) :=
  ⟨_, upd_same, dpAll_snoc (dpAll_kt (k.trans (KT.put h1 nfix_lst)) hd t) (dp_kt (KT.put h1 nfix_lst) hy te)⟩
theorem shaped_of {d : PyData} (h1 : d.canLay0 = true) (h2 : d.depth ≤ 64) : SeqAt.shaped d = true := by
  unfold SeqAt.shaped
  rw [h1, decide_eq_true h2]
  rfl
theorem if_f {A B : Prop} (h : B) : if false = true then A else B := by
  rw [if_neg (by decide)]
  exact h
theorem if_t {A B : Prop} (h : A) : if true = true then A else B := by
  rw [if_pos rfl]
  exact h
theorem atI_mem {xs : List Int} {i : Int} (h0 : 0 ≤ i) (h1 : i < xs.length) : ∃ v, v ∈ xs ∧ atI (xs.map V.int) i = some (.int v) := by
  have hn : i.toNat < xs.length := by omega
  obtain ⟨j, rfl⟩ : ∃ j : Nat, i = (j : Int) := ⟨i.toNat, by omega⟩
  have hj : j < xs.length := by omega
  refine ⟨xs[j], List.getElem_mem hj, atI_nat ?_⟩
  rw [List.getElem?_map, List.getElem?_eq_getElem hj]
  rfl
end Tg

namespace Tg
open PySem PySem.Spec PyProof.Rows L2
/-! ### a new thing that is only read from now on -/
section
variable {X : Cx} {e : Expr} {t : TE}
def tFrz (t : TE) : TE := fun σ H Q => t σ H fun x H1 => ∃ d u, x = .ref d ∧ H1 d = some u ∧ Mut (some u) ∧ ∀ od, Q x (upd H1 d (.frz od u))
theorem pe_frz (h : PE X e t) : PE X e (tFrz t) := by
  constructor
  intro pins s σ H Q I read
  refine thn (h.run pins s σ H _ I read) fun v s1 y => ?_
  obtain ⟨x, H1, J, r, d, u, ex, hd, mu, q⟩ := y
  obtain ⟨od, J2⟩ := J.lock hd mu
  exact ⟨x, _, J2, r, q od⟩
/-- a statement that is never reached -/
theorem ps_dead {st : Stmt} : PS X st (fun _ _ _ => False) := ⟨fun _ _ _ _ _ _ h => h.elim⟩
end
end Tg

namespace Tg
open PySem PySem.Spec PyProof.Rows L2
/-! ### enumerate(t), t a tuple -/
set_option maxHeartbeats 1000000 in
theorem enum1_new {v : Value} {o : Obj} {Ok : Heap → Prop} (B : Begins v o Ok) :
    Meets (Builtin.«enumerate.__new__» ⟨[.type "enumerate", v], []⟩) (fun _ R s => Ok s.heap ∧ R (.ok (.ret (.ref (s.heap.push o).objs.size))) { s with heap := (s.heap.push o).push { cls := .type "enumerate", data := .fields #[.none, .bool false, .ref s.heap.objs.size, rawInt 0, .none, .none] } }) :=
  .of_wp fun prog w A R s want => by
    obtain ⟨hp, g, d, tk, os⟩ := s; obtain ⟨ok, want⟩ := want
    have isub := sub_enumerate
    have it0 : ∀ {A' : Around} {E : Value → Shared → Prop} {Q : Value → Shared → Prop}, Q (.ref hp.objs.size) ⟨hp.push o, g, d, tk, os⟩ → wpAny (model prog w) A' (pyIter v) Q E ⟨hp, g, d, tk, os⟩ := fun q => B.iter prog w _ _ ⟨hp, g, d, tk, os⟩ _ ok q
    wp_walk using it0
    apply wpAny_stack_any; intro fr; apply wpAny_pure
    split
    · rename_i c _ _ _ _ _
      cases (c == Value.type "enumerate") <;> (wp_walk using it0; exact ⟨_, rfl, want⟩)
    · wp_walk using it0; exact ⟨_, rfl, want⟩
theorem enum1_made {prog : Program} {w : World} {A : Around} {E : Value → Shared → Prop} {s : Shared} {v : Value} {o : Obj} {Ok : Heap → Prop} {Q : Value → Shared → Prop} (B : Begins v o Ok) (ok : Ok s.heap)
    (h : ∀ h', IsEnum h' (s.heap.objs.size + 1) s.heap.objs.size 0 .none → h'.get? s.heap.objs.size = some o → (∀ b o, s.heap.get? b = some o → h'.get? b = some o) → Q (.ref (s.heap.objs.size + 1)) { s with heap := h' }) :
    wpAny (model prog w) A (call (.type "enumerate") [v]) Q E s := by
  refine callType_new F.called_enumerate (by decide) (F.typeCall_enumerate_1 _) (F.newCall_enumerate_1 _) (fun obj => F.args_object_init_2 obj _) F.entry_enumerate_new (enum1_new B) ⟨ok, ?_⟩
  have more : (s.heap.push o).objs.size = s.heap.objs.size + 1 := by rw [Heap.size_push]
  show _ ∧ _
  rw [more]
  have he : IsEnum ((s.heap.push o).push { cls := .type "enumerate", data := .fields #[.none, .bool false, .ref s.heap.objs.size, rawInt 0, .none, .none] }) (s.heap.objs.size + 1) s.heap.objs.size 0 .none := by
    have z := Heap.get?_push_size (s.heap.push o) (o := { cls := .type "enumerate", data := .fields #[.none, .bool false, .ref s.heap.objs.size, rawInt 0, .none, .none] }) rfl
    rw [more] at z
    exact z
  exact ⟨⟨_, he, rfl⟩, h _ he (Heap.get?_push_of_some _ (Heap.get?_push_size _ B.free)) fun b o x => Heap.get?_push_of_some _ (Heap.get?_push_of_some _ x)⟩
/-- the tuple at a, each item with its place in a new pair -/
def IteT (K : PySem.W.Frag) (a : Addr) : It :=
  ⟨fun i H => ∃ (xs : List V) (x : V), SqT K H a xs ∧ xs[i]? = some x,
    fun i H v H' => ∃ T x, v = .ref T ∧ H T = none ∧ H' = upd H T (.tup [.int (i : Nat), x]) ∧ ∀ xs, SqT K H a xs → xs[i]? = some x,
    fun i H => ∃ xs : List V, SqT K H a xs ∧ xs.length = i⟩
theorem apart_ti {h : Heap} {a it : Addr} {items : Array Value} {i : Nat} (h1 : h.IsTuple a items) (h2 : h.IsTupleIter it a i) : a ≠ it := fun z => by
  obtain ⟨o, e, c, _⟩ := h1
  obtain ⟨o2, e2, c2, _⟩ := h2
  rw [z, e2] at e
  cases e
  rw [c2] at c
  exact absurd c (by decide)
theorem apart_te {h : Heap} {a e it : Addr} {items : Array Value} {k : Int} {old : Value} (h1 : h.IsTuple a items) (h2 : IsEnum h e it k old) : e ≠ a := fun z => by
  obtain ⟨o, e1, c, _⟩ := h1
  have h3 : h.get? a = _ := z ▸ h2
  rw [h3] at e1
  cases e1
  have c' : Value.type "enumerate" = Value.type "tuple" := c
  exact absurd c' (by decide)
theorem turn_enumT {P : Program} {w : World} {K : PySem.W.Frag} {elts : List Expr} {kk : Nat} {tpos : Pos} (a e it : Addr) :
    Turn P w K (.Tuple elts kk tpos) (IteT K a) [e, it] e (fun i h => (∃ old, IsEnum h e it (0 + (i : Int)) old) ∧ h.IsTupleIter it a i ∧ e ≠ it) where
  mem := List.mem_cons_self
  obj := fun i h st b hb => by
    obtain ⟨⟨old, he⟩, ⟨o, ho, _, hd⟩, _⟩ := st
    rw [List.mem_cons, List.mem_singleton] at hb
    rcases hb with rfl | rfl
    · exact ⟨_, he, fun v q => nomatch q⟩
    · exact ⟨o, ho, fun v q => by rw [hd] at q; cases q⟩
  keep := fun i h h' st k => ⟨st.1.imp fun old he => k e List.mem_cons_self _ he, st.2.1.at fun o q => k it (List.mem_cons_of_mem _ List.mem_cons_self) o q, st.2.2⟩
  item := by
    rintro X rfl rfl rfl hc i pins s σ H E I hf ⟨⟨old, he⟩, hit, hne⟩ ⟨xs, x, hq, hx⟩
    obtain ⟨its, rv, ist, _⟩ := I.tuple hq
    obtain ⟨u, hu, ru⟩ := Vals.get rv hx
    have isT : s.heap.IsTuple a its.toArray := ist
    have n1 := apart_ti isT hit
    have n2 := apart_te isT he
    have hil : i < its.toArray.size := by
      have := (List.getElem?_eq_some_iff.mp hu).1
      simpa using this
    have calm : X.A.in1.handled = none := by
      have := I.ok.hd hc
      simp [this]
    have G := GoesN.enumFrom (prog := X.prog) (w := X.w) (A := X.A) (elts := elts) (x1 := kk) (pos := tpos) 0 (Draws.tuple (prog := X.prog) (w := X.w) calm it a n1 its.toArray) e hne (by simp [hne, n2]) List.mem_cons_self
    refine G.goes i s _ E hil ⟨⟨old, he⟩, hit, isT⟩ fun v h' tk hy st' hk _ => ?_
    obtain ⟨T, t, u', ev, hT, hp, isp⟩ := hy
    obtain rfl : u' = u := by
      have z : its.toArray[i]? = some u' := hp
      rw [List.getElem?_toArray, hu] at z
      exact (Option.some.inj z).symm
    have new : ObjOk X.prog X.w (upd H T (.tup [.int (i : Nat), x])) h' T (.tup [.int (i : Nat), x]) := by
      refine ⟨by show 2 ≤ sizeLine; decide, [.int (0 + (i : Int)) t, u'], .cons ⟨_, by rw [Int.zero_add]⟩ (.cons ru .nil), isp⟩
    have J : Inv X pins σ (upd H T (.tup [.int (i : Nat), x])) { s with heap := h', toks := tk } := I.turnedNew (ch := [e, it]) (fun b ob hb q => hk b ob hb q) hf hT new
    refine ⟨.ref T, _, J, by rw [ev]; rfl, ⟨T, x, rfl, I.hok.fresh hT, rfl, fun ys hy => by rw [I.tuple_inj hy hq]; exact hx⟩, ⟨?_, st'.2.1, hne⟩, fun b hb => ?_⟩
    · obtain ⟨old2, he2⟩ := st'.1
      exact ⟨old2, he2⟩
    · have lt : b < s.heap.objs.size := by
        rw [List.mem_cons, List.mem_singleton] at hb
        rcases hb with rfl | rfl
        · exact Heap.lt_size he
        · obtain ⟨_, q, _⟩ := hit
          exact Heap.lt_size q
      rw [upd_ne (Nat.ne_of_lt (Nat.lt_of_lt_of_le lt hT))]
      exact (hf b hb).1
  done := by
    rintro X rfl rfl rfl hc i pins s σ H E I hf ⟨⟨old, he⟩, hit, hne⟩ ⟨xs, hq, hx⟩
    obtain ⟨its, rv, ist, _⟩ := I.tuple hq
    have isT : s.heap.IsTuple a its.toArray := ist
    have n1 := apart_ti isT hit
    have n2 := apart_te isT he
    have calm : X.A.in1.handled = none := by
      have := I.ok.hd hc
      simp [this]
    have ei : its.toArray.size = i := by
      rw [← hx, rv.length]
      simp
    have G := GoesN.enumFrom (prog := X.prog) (w := X.w) (A := X.A) (elts := elts) (x1 := kk) (pos := tpos) 0 (Draws.tuple (prog := X.prog) (w := X.w) calm it a n1 its.toArray) e hne (by simp [hne, n2]) List.mem_cons_self
    refine G.stops s _ E (by rw [ei]; exact ⟨⟨old, he⟩, hit, isT⟩) fun h' tk hk _ => ?_
    exact I.turnedL (t' := tk) (ch := [e, it]) (fun b ob hb q => hk b ob hb q) hf
  self := fun A i s Q E st q => by
    obtain ⟨⟨old, he⟩, _⟩ := st
    exact wpAny_pyIter_enum he q
end Tg

namespace Tg
open PySem PySem.Spec PyProof.Rows L2
def iEnumT (K : PySem.W.Frag) (ta : TA) : TI := fun σ H R => ta σ H fun vs H1 => ∃ (a : Addr) (xs : List V), vs = [.ref a] ∧ SqT K H1 a xs ∧ R (IteT K a) H1
theorem pi_enumT {X : Cx} {e : Expr} {ta : TA} {p pos tpos : Pos} {elts : List Expr} {kk : Nat} (hg : Gl X "enumerate") (hm : X.mg "enumerate" = none) (ha : PA X [e] ta) (hs : starEach [e] X.env = [(false, eval e X.env)] := by rfl) :
    PI X (.Tuple elts kk tpos) (.Call (.Name "enumerate" p) [e] [] pos) (iEnumT X.K ta) := by
  constructor
  intro pins s σ H R I told
  refine Call_ (ld_blt I hg hm boot_enumerate (callWith_type1 (thn (ha.run pos pins s σ H _ I told) fun us s1 come => ?_) hs rfl))
  obtain ⟨_, H1, I1, r1, a, xs, rfl, hq, q⟩ := come
  cases r1 with
  | cons r rr =>
    cases rr
    cases r
    obtain ⟨its, rv, ist, _⟩ := I1.tuple hq
    have isT : s1.heap.IsTuple a its.toArray := ist
    refine enum1_made (begins_tuple a its.toArray) isT fun h' he hit hk => wpAny_pyIter_enum he ?_
    have I2 := I1.kept (t' := s1.toks) hk
    refine ⟨s1.heap.objs.size + 1, [s1.heap.objs.size + 1, s1.heap.objs.size], _, _, H1, rfl, I2, turn_enumT a (s1.heap.objs.size + 1) s1.heap.objs.size, ⟨⟨.none, he⟩, ⟨_, hit, rfl, rfl⟩, Nat.succ_ne_self _⟩, fun b hb => ?_, q⟩
    have late : s1.heap.objs.size ≤ b := by
      rw [List.mem_cons, List.mem_singleton] at hb
      rcases hb with rfl | rfl
      · exact Nat.le_succ _
      · exact Nat.le_refl _
    exact I1.fpOk late (I1.hok.fresh late)
theorem walk_enumT {K : PySem.W.Frag} {a : Addr} {xs : List V} : Walk (IteT K a) xs.length (fun H => SqT K H a xs) (YPair (fun i => some (.int (i : Nat))) (fun i => xs[i]?)) := by
  refine ⟨fun i _ hi q => ⟨xs, xs[i], q, by simp [hi]⟩, fun _ q => ⟨xs, q, rfl⟩, fun i _ _ _ _ q ⟨T, x, e, n, l, at_i⟩ => ?_⟩
  exact ⟨T, .int (i : Nat), x, e, n, l, rfl, at_i xs q⟩
theorem walk_zipTT {K : PySem.W.Frag} {a b : Addr} {xs ys : List V} (hl : xs.length = ys.length) : Walk (RZ.ItzT K a b) xs.length (fun H => SqT K H a xs ∧ SqT K H b ys) (YPair (fun i => xs[i]?) (fun i => ys[i]?)) := by
  refine ⟨fun i _ hi q => ⟨xs, ys, xs[i], ys[i]'(hl ▸ hi), q.1, q.2, by simp [hi], by simp [hl ▸ hi]⟩, fun _ q => ⟨xs, ys, q.1, q.2, .inl (Nat.le_refl _)⟩, fun i _ _ _ _ q ⟨T, x, z, e, n, l, one, two⟩ => ?_⟩
  exact ⟨T, x, z, e, n, l, one xs q.1, two ys q.2⟩
/-! ### zip of three tuples -/
def Itz3 (K : PySem.W.Frag) (a b c : Addr) : It :=
  ⟨fun i H => ∃ (xs ys zs : List V) (x y z : V), SqT K H a xs ∧ SqT K H b ys ∧ SqT K H c zs ∧ xs[i]? = some x ∧ ys[i]? = some y ∧ zs[i]? = some z,
    fun i H v H' => ∃ T x y z, v = .ref T ∧ H T = none ∧ H' = upd H T (.tup [x, y, z]) ∧ (∀ xs, SqT K H a xs → xs[i]? = some x) ∧ (∀ ys, SqT K H b ys → ys[i]? = some y) ∧ ∀ zs, SqT K H c zs → zs[i]? = some z,
    fun i H => ∃ xs ys zs : List V, SqT K H a xs ∧ SqT K H b ys ∧ SqT K H c zs ∧ min (min xs.length ys.length) zs.length = i⟩
theorem mem56 {z TI TO i1 i2 i3 e : Addr} (h : e ∈ [z, TO, i1, i2, i3]) : e ∈ [z, TI, TO, i1, i2, i3] := by
  rw [List.mem_cons] at h ⊢
  exact h.imp id fun q => List.mem_cons_of_mem _ q
theorem turn_zip3T {P : Program} {w : World} {K : PySem.W.Frag} {elts : List Expr} {kk : Nat} {tpos : Pos} {z TI TO i1 i2 i3 a b c : Addr} (S : ZipSep3 z TI TO i1 i2 i3 [i1, a] [i2, b] [i3, c]) (n1 : a ≠ i1) (n2 : b ≠ i2) (n3 : c ≠ i3) :
    Turn P w K (.Tuple elts kk tpos) (Itz3 K a b c) [z, TI, TO, i1, i2, i3] z (fun i h => IsZip h z TI TO .none ∧ IsTupOf3 h TI (.ref i1) (.ref i2) (.ref i3) ∧ (∃ a1 a2 a3, IsTupOf3 h TO a1 a2 a3) ∧ h.IsTupleIter i1 a i ∧ h.IsTupleIter i2 b i ∧ h.IsTupleIter i3 c i) where
  mem := List.mem_cons_self
  obj := fun i h st e he => by
    obtain ⟨hz, hTI, ⟨_, _, _, hTO⟩, ⟨o1, e1, _, d1⟩, ⟨o2, e2, _, d2⟩, ⟨o3, e3, _, d3⟩⟩ := st
    simp only [List.mem_cons, List.not_mem_nil, or_false] at he
    rcases he with rfl | rfl | rfl | rfl | rfl | rfl
    · exact ⟨_, hz, fun v q => nomatch q⟩
    · exact ⟨_, hTI, fun v q => nomatch q⟩
    · exact ⟨_, hTO, fun v q => nomatch q⟩
    · exact ⟨o1, e1, fun v q => by rw [d1] at q; cases q⟩
    · exact ⟨o2, e2, fun v q => by rw [d2] at q; cases q⟩
    · exact ⟨o3, e3, fun v q => by rw [d3] at q; cases q⟩
  keep := fun i h h' st k => by
    obtain ⟨hz, hTI, ⟨a1, a2, a3, hTO⟩, h1, h2, h3⟩ := st
    exact ⟨k z (by simp) _ hz, k TI (by simp) _ hTI, ⟨a1, a2, a3, k TO (by simp) _ hTO⟩, h1.at fun o q => k i1 (by simp) o q, h2.at fun o q => k i2 (by simp) o q, h3.at fun o q => k i3 (by simp) o q⟩
  item := by
    rintro X rfl rfl rfl hc i pins s σ H E I hf ⟨hz, hTI, hTO, h1, h2, h3⟩ ⟨xs, ys, zs, x, y, u, hqx, hqy, hqz, hx, hy, hu⟩
    obtain ⟨l1, rv1, p1, _⟩ := I.tuple hqx
    obtain ⟨l2, rv2, p2, _⟩ := I.tuple hqy
    obtain ⟨l3, rv3, p3, _⟩ := I.tuple hqz
    obtain ⟨u1, hu1, ru1⟩ := rv1.get hx
    obtain ⟨u2, hu2, ru2⟩ := Vals.get rv2 hy
    obtain ⟨u3, hu3, ru3⟩ := rv3.get hu
    have q1 : s.heap.IsTuple a l1.toArray := p1
    have q2 : s.heap.IsTuple b l2.toArray := p2
    have q3 : s.heap.IsTuple c l3.toArray := p3
    have g1 := (List.getElem?_eq_some_iff.mp hu1).1
    have g2 := (List.getElem?_eq_some_iff.mp hu2).1
    have g3 := (List.getElem?_eq_some_iff.mp hu3).1
    have calm : X.A.in1.handled = none := by
      have := I.ok.hd hc
      simp [this]
    have G := GoesN.zip3 (prog := X.prog) (w := X.w) (A := X.A) (elts := elts) (x1 := kk) (pos := tpos) S (Draws.tuple (prog := X.prog) (w := X.w) calm i1 a n1 l1.toArray) (Draws.tuple (prog := X.prog) (w := X.w) calm i2 b n2 l2.toArray) (Draws.tuple (prog := X.prog) (w := X.w) calm i3 c n3 l3.toArray)
    refine G.goes i s _ E (by simp only [List.size_toArray]; omega) ⟨hz, hTI, hTO, ⟨h1, q1⟩, ⟨h2, q2⟩, ⟨h3, q3⟩⟩ fun v h' tk hyl st' hk _ => ?_
    obtain ⟨T, v1, v2, v3, ev, hT, w1, w2, w3, isp⟩ := hyl
    obtain rfl : v1 = u1 := by
      have w1' : l1.toArray[i]? = some v1 := w1
      rw [List.getElem?_toArray, hu1] at w1'
      exact (Option.some.inj w1').symm
    obtain rfl : v2 = u2 := by
      have w2' : l2.toArray[i]? = some v2 := w2
      rw [List.getElem?_toArray, hu2] at w2'
      exact (Option.some.inj w2').symm
    obtain rfl : v3 = u3 := by
      have w3' : l3.toArray[i]? = some v3 := w3
      rw [List.getElem?_toArray, hu3] at w3'
      exact (Option.some.inj w3').symm
    have new : ObjOk X.prog X.w (upd H T (.tup [x, y, u])) h' T (.tup [x, y, u]) :=
      ⟨by show 3 ≤ sizeLine; decide, [v1, v2, v3], .cons ru1 (.cons ru2 (.cons ru3 .nil)), isp⟩
    have J : Inv X pins σ (upd H T (.tup [x, y, u])) { s with heap := h', toks := tk } := I.turnedNew (ch := [z, TI, TO, i1, i2, i3]) (fun e ob hb q => hk e ob (fun hm => hb (mem56 hm)) q) hf hT new
    obtain ⟨sz, sTI, sTO, s1, s2, s3⟩ := st'
    refine ⟨.ref T, _, J, by rw [ev]; rfl, ⟨T, x, y, u, rfl, I.hok.fresh hT, rfl, fun l hl => by rw [I.tuple_inj hl hqx]; exact hx, fun l hl => by rw [I.tuple_inj hl hqy]; exact hy, fun l hl => by rw [I.tuple_inj hl hqz]; exact hu⟩, ⟨sz, sTI, sTO, s1.1, s2.1, s3.1⟩, fun e he => ?_⟩
    have lt : e < s.heap.objs.size := by
      obtain ⟨_, _, _, hTO⟩ := hTO
      obtain ⟨_, e1, _⟩ := h1
      obtain ⟨_, e2, _⟩ := h2
      obtain ⟨_, e3, _⟩ := h3
      simp only [List.mem_cons, List.not_mem_nil, or_false] at he
      rcases he with rfl | rfl | rfl | rfl | rfl | rfl
      · exact Heap.lt_size hz
      · exact Heap.lt_size hTI
      · exact Heap.lt_size hTO
      · exact Heap.lt_size e1
      · exact Heap.lt_size e2
      · exact Heap.lt_size e3
    rw [upd_ne (Nat.ne_of_lt (Nat.lt_of_lt_of_le lt hT))]
    exact (hf e he).1
  done := by
    rintro X rfl rfl rfl hc i pins s σ H E I hf ⟨hz, hTI, hTO, h1, h2, h3⟩ ⟨xs, ys, zs, hqx, hqy, hqz, hn⟩
    obtain ⟨l1, rv1, p1, _⟩ := I.tuple hqx
    obtain ⟨l2, rv2, p2, _⟩ := I.tuple hqy
    obtain ⟨l3, rv3, p3, _⟩ := I.tuple hqz
    have q1 : s.heap.IsTuple a l1.toArray := p1
    have q2 : s.heap.IsTuple b l2.toArray := p2
    have q3 : s.heap.IsTuple c l3.toArray := p3
    have calm : X.A.in1.handled = none := by
      have := I.ok.hd hc
      simp [this]
    have G := GoesN.zip3 (prog := X.prog) (w := X.w) (A := X.A) (elts := elts) (x1 := kk) (pos := tpos) S (Draws.tuple (prog := X.prog) (w := X.w) calm i1 a n1 l1.toArray) (Draws.tuple (prog := X.prog) (w := X.w) calm i2 b n2 l2.toArray) (Draws.tuple (prog := X.prog) (w := X.w) calm i3 c n3 l3.toArray)
    have ei : min (min l1.toArray.size l2.toArray.size) l3.toArray.size = i := by
      rw [← hn, rv1.length, rv2.length, rv3.length]
      simp
    refine G.stops s _ E (by rw [ei]; exact ⟨hz, hTI, hTO, ⟨h1, q1⟩, ⟨h2, q2⟩, ⟨h3, q3⟩⟩) fun h' tk hk _ => ?_
    exact I.turnedL (t' := tk) (ch := [z, TI, TO, i1, i2, i3]) (fun e ob hb q => hk e ob (fun hm => hb (mem56 hm)) q) hf
  self := fun _ _ _ _ _ st => wpAny_pyIter_zip st.1
def iZip3 (K : PySem.W.Frag) (ta : TA) : TI := fun σ H R => ta σ H fun vs H1 => ∃ a b c xs ys zs, vs = [.ref a, .ref b, .ref c] ∧ SqT K H1 a xs ∧ SqT K H1 b ys ∧ SqT K H1 c zs ∧ R (Itz3 K a b c) H1
theorem pi_zip3T {X : Cx} {e e2 e3 : Expr} {ta : TA} {p pos tpos : Pos} {elts : List Expr} {kk : Nat} (hg : Gl X "zip") (hm : X.mg "zip" = none) (ha : PA X [e, e2, e3] ta)
    (hs : starEach [e, e2, e3] X.env = (false, eval e X.env) :: starEach [e2, e3] X.env := by rfl) (hpl : (backTo pos (starEach [e2, e3] X.env)).any (·.1) = false := by rfl) :
    PI X (.Tuple elts kk tpos) (.Call (.Name "zip" p) [e, e2, e3] [] pos) (iZip3 X.K ta) := by
  constructor
  intro pins s σ H R I told
  refine Call_ (ld_blt I hg hm boot_zip (callWith_type1 (thn (ha.run pos pins s σ H _ I told) fun us s1 come => ?_) hs hpl))
  obtain ⟨_, H1, I1, r1, a, b, c, xs, ys, zs, rfl, hqx, hqy, hqz, q⟩ := come
  cases r1 with
  | cons r rr =>
  cases rr with
  | cons r' rr =>
  cases rr with
  | cons r'' rr =>
    cases rr
    cases r
    cases r'
    cases r''
    obtain ⟨l1, rv1, p1, _⟩ := I1.tuple hqx
    obtain ⟨l2, rv2, p2, _⟩ := I1.tuple hqy
    obtain ⟨l3, rv3, p3, _⟩ := I1.tuple hqz
    have q1 : s1.heap.IsTuple a l1.toArray := p1
    have q2 : s1.heap.IsTuple b l2.toArray := p2
    have q3 : s1.heap.IsTuple c l3.toArray := p3
    obtain ⟨o1, e1, _⟩ := id q1
    obtain ⟨o2, e2, _⟩ := id q2
    obtain ⟨o3, e3, _⟩ := id q3
    have la : a < s1.heap.objs.size := Heap.lt_size e1
    have lb : b < s1.heap.objs.size := Heap.lt_size e2
    have lc : c < s1.heap.objs.size := Heap.lt_size e3
    refine zip_begins3 (begins_tuple a l1.toArray) (begins_tuple b l2.toArray) (begins_tuple c l3.toArray) q1 q2 q3 fun h' hz hTI hTO t1 t2 t3 _ hk => wpAny_pyIter_zip hz ?_
    have I2 := I1.kept (t' := s1.toks) hk
    refine ⟨s1.heap.objs.size + 5, [s1.heap.objs.size + 5, s1.heap.objs.size + 3, s1.heap.objs.size + 4, s1.heap.objs.size, s1.heap.objs.size + 1, s1.heap.objs.size + 2], _, _, H1, rfl, I2,
      turn_zip3T (zip_sep3 (N := s1.heap.objs.size) (fp1 := [a]) (fp2 := [b]) (fp3 := [c]) (fun d hd => by simp at hd; rw [hd]; exact la) (fun d hd => by simp at hd; rw [hd]; exact lb) (fun d hd => by simp at hd; rw [hd]; exact lc)) (Nat.ne_of_lt la) (Nat.ne_of_lt (Nat.lt_succ_of_lt lb)) (Nat.ne_of_lt (Nat.lt_succ_of_lt (Nat.lt_succ_of_lt lc))),
      ⟨hz, hTI, ⟨_, _, _, hTO⟩, ⟨_, t1, rfl, rfl⟩, ⟨_, t2, rfl, rfl⟩, ⟨_, t3, rfl, rfl⟩⟩, fun d hd => ?_, q⟩
    have late : s1.heap.objs.size ≤ d := by
      simp only [List.mem_cons, List.not_mem_nil, or_false] at hd
      rcases hd with rfl | rfl | rfl | rfl | rfl | rfl
      · exact Nat.le_add_right _ _
      · exact Nat.le_add_right _ _
      · exact Nat.le_add_right _ _
      · exact Nat.le_refl _
      · exact Nat.le_add_right _ _
      · exact Nat.le_add_right _ _
    exact I1.fpOk late (I1.hok.fresh late)
def YTri (xs ys zs : List V) : Nat → Hp → V → Hp → Prop := fun i H v H' => ∃ T x y z, v = .ref T ∧ H T = none ∧ H' = upd H T (.tup [x, y, z]) ∧ xs[i]? = some x ∧ ys[i]? = some y ∧ zs[i]? = some z
theorem walk_zip3T {K : PySem.W.Frag} {a b c : Addr} {xs ys zs : List V} (h1 : ys.length = xs.length) (h2 : zs.length = xs.length) : Walk (Itz3 K a b c) xs.length (fun H => SqT K H a xs ∧ SqT K H b ys ∧ SqT K H c zs) (YTri xs ys zs) := by
  refine ⟨fun i _ hi q => ⟨xs, ys, zs, xs[i], ys[i]'(h1.symm ▸ hi), zs[i]'(h2.symm ▸ hi), q.1, q.2.1, q.2.2, by simp [hi], by simp [h1.symm ▸ hi], by simp [h2.symm ▸ hi]⟩, fun _ q => ⟨xs, ys, zs, q.1, q.2.1, q.2.2, by omega⟩, fun i H v H' _ q y => ?_⟩
  obtain ⟨T, x, y, z, e1, e2, e3, f1, f2, f3⟩ := y
  exact ⟨T, x, y, z, e1, e2, e3, f1 xs q.1, f2 ys q.2.1, f3 zs q.2.2⟩
/-! ### t.index(x), t a tuple of ints -/
theorem mt_tup_indexI {X : Cx} : MtR X "tuple.index" (fun x xs H Q => ∃ p, ∃ ns : List Int, ∃ k, x = .ref p ∧ xs = [.int k] ∧ SqT X.K H p (ns.map V.int) ∧ k ∈ ns ∧ Q (.int (ns.idxOf k : Nat)) H) := by
  rintro pins s σ H _ _ v us Q I rx rs ⟨p, ns, k, rfl, rfl, hq, hk, q⟩
  cases rx
  obtain ⟨_, rfl, t, rfl⟩ := vals1 rs
  have ⟨its, r, pl, hz⟩ := I.tuple hq
  have isT : s.heap.IsTuple p its.toArray := pl
  have hi : IntsAre its ns := by
    clear hq isT pl hz hk q
    induction ns generalizing its with
    | nil => cases r; exact .nil
    | cons n ns ih =>
      cases r with
      | cons r1 rr =>
        obtain ⟨t', rfl⟩ := r1
        exact .cons _ _ (ih _ rr)
  exact PySem.SeqAt.tuple_index_ints isT hi hk ⟨.int (ns.idxOf k : Nat), H, I.tok _, ⟨_, rfl⟩, q⟩
end Tg

namespace Tg
open PySem PySem.Spec PyProof.Rows L2
/-! ### tuples known to have no dict of their own -/
section
variable {X : Cx}
def tTupF (t : TA) : TE := fun σ H Q => t σ H fun xs H1 => xs.length ≤ sizeLine ∧ ∀ (p : Addr) (ob : Obj), ob.dict = none → H1 p = none → Q (.ref p) (upd H1 p (.frz ob (.tup xs)))
theorem pe_tupF {es : List Expr} {t : TA} {x1 : Nat} {pos : Pos} (h : PA X es t) : PE X (.Tuple es x1 pos) (tTupF t) := by
  constructor
  intro pins s σ H Q I read
  refine wpAny_Tuple_spliced (thn (h.run pos pins s σ H _ I read) fun us s1 y => ?_)
  obtain ⟨xs, H1, J, rel, small, q⟩ := y
  refine ⟨by rw [← rel.length]; exact small, ?_⟩
  have fine : ObjOk X.prog X.w (upd H1 s1.heap.objs.size (.frz { cls := .type "tuple", data := .seq us.toArray } (.tup xs))) (s1.heap.push { cls := .type "tuple", data := .seq us.toArray }) s1.heap.objs.size (.frz { cls := .type "tuple", data := .seq us.toArray } (.tup xs)) :=
    ⟨Heap.get?_push_size _ rfl, small, us, rel, IsTup.new _ _⟩
  exact ⟨.ref s1.heap.objs.size, _, J.laid (t' := s1.toks) (fun b o e => Heap.get?_push_of_some _ e) (Nat.le_refl _) fine, rfl, q _ _ rfl (J.hok.fresh (Nat.le_refl _))⟩
/-- x.m(..), x such a tuple -/
def tBMF (r : V → List V → Hp → VK → Prop) (to : TE) (t : TA) : TE := fun σ H Q => to σ H fun x H1 => (∃ (a : Addr) (ob : Obj) (xs : List V), x = .ref a ∧ ob.dict = none ∧ H1 a = some (.frz ob (.tup xs))) ∧ t σ H1 fun zs H2 => r x zs H2 Q
theorem pe_bmF {o e : Expr} {es : List Expr} {to : TE} {t : TA} {name : Str} {apos cpos : Pos} {id : String} {r : V → List V → Hp → VK → Prop} (slot : Slot "tuple" name id) (kind : typeOf (.builtin id) = pure (.type "method_descriptor")) (meth : MtR X id r) (ho : PE X o to) (ha : PA X (e :: es) t)
    (base : attributeBase o name X.env (eval o X.env) = eval o X.env := by rfl)
    (few : ((backTo cpos (starEach (e :: es) X.env)).all (fun x => !x.1) && (backToKw cpos (keywordEach [] X.env)).all (fun x => x.1.isSome) && decide ((e :: es).length + ([] : List Keyword).length + (if ([] : List Keyword).isEmpty then 0 else 1) < 30)) = true := by rfl)
    (line : (apos.endLine == cpos.line) = true := by rfl) (star : starEach (e :: es) X.env = (false, eval e X.env) :: starEach es X.env := by rfl) (plain : (backTo cpos (starEach es X.env)).any (·.1) = false := by rfl) :
    PE X (.Call (.Attribute o name apos) (e :: es) [] cpos) (tBMF r to t) := by
  constructor
  intro pins s σ H Q I read
  refine wpAny_Call_method_late base few line rfl (thn (ho.run pins s σ H _ I read) fun v s1 y => ?_)
  obtain ⟨x, H1, J, rx, ⟨a, ob, xs, rfl, nod, ea⟩, q⟩ := y
  cases rx
  obtain ⟨obj, small, its, rel, o2, eo, cls, n, data⟩ := J.hok a _ ea
  have eo2 : ob = o2 := by
    rw [obj] at eo
    exact Option.some.inj eo
  refine ⟨"tuple", id, PySem.F.plainAttrs_tuple, slot, kind, ⟨o2, eo, cls⟩, fun b eb => ?_, ?_⟩
  · cases eb
    exact ⟨ob, obj, nod⟩
  · have args := ha.run cpos pins s1 σ H1 _ J q
    rw [star] at args ⊢
    refine Calls.callWith_builtin (by show (false || (backTo cpos (starEach es X.env)).any (·.1)) = false; rw [plain] <;> rfl) (Calls.evalArgs_plain (thn args fun us s2 y => ?_))
    obtain ⟨zs, H2, J2, r2, q2⟩ := y
    exact meth pins s2 σ H2 (.ref a) zs (.ref a) us Q J2 rfl r2 q2
end
/-- such a tuple of numbers -/
def NdT (H : Hp) (a : Addr) (xs : List V) : Prop := ∃ ob : Obj, ob.dict = none ∧ H a = some (.frz ob (.tup xs))
theorem NdT.sq {K : PySem.W.Frag} {H : Hp} {a : Addr} {xs : List V} (h : NdT H a xs) : SqT K H a xs := by
  obtain ⟨ob, _, e⟩ := h
  exact .inl (.inr ⟨ob, e⟩)
theorem NdT.kt {H H' : Hp} {a : Addr} {xs : List V} (h : NdT H a xs) (k : KT H H') : NdT H' a xs := by
  obtain ⟨ob, n, e⟩ := h
  exact ⟨ob, n, k _ _ trivial e⟩
theorem NdT.same {H H' : Hp} {a : Addr} {xs : List V} (h : NdT H a xs) (k : Same H H') : NdT H' a xs := h.kt (KT.of k)
end Tg

set_option maxHeartbeats 2000000
namespace Tg
open PySem PySem.Spec PyProof.Rows L2
/-! ### a caught exception that is kept in a name: try: .. except T as e: kept = e -/
/-- the exception of the class cls, its dict at d, at a -/
def ExV (cls : Value) (d : Option Addr) (a : Addr) : HO := .ext fun h => ∃ (oe : Obj) (vs : Array Value), h.get? a = some oe ∧ Zc cls d oe ∧ oe.data = .fields vs
theorem exV_ok {P : Program} {w : World} {H : Hp} {h : Heap} {a : Addr} {cls : Value} {d : Option Addr} {oe : Obj} {vs : Array Value} (e : h.get? a = some oe) (z : Zc cls d oe) (q : oe.data = .fields vs) : ObjOk P w H h a (ExV cls d a) := by
  refine ⟨⟨oe, vs, e, z, q⟩, ⟨oe, e⟩, fun h1 h2 y st => ?_⟩
  obtain ⟨o1, v1, e1, z1, q1⟩ := y
  exact ⟨o1, v1, st _ e1, z1, q1⟩
section
variable {X : Cx} {pins : List (Addr × Obj)} {σ : L2.St} {H : Hp} {s : Shared}
theorem track {a : Addr} {oe : Obj} {vs : Array Value} {o : HO} (I : Inv X pins σ H s) (h0 : X.s_0.heap.get? a = none) (he : s.heap.get? a = some oe) (hd : oe.data = .fields vs) (na : H a = none)
    (nL : a ≠ X.env.locals) (np : ∀ p, p ∈ X.pn ++ pins → p.1 ≠ a) (new : ObjOk X.prog X.w (upd H a o) s.heap a o) : Inv X pins σ (upd H a o) s where
  ok := I.ok
  os := I.os
  bare := I.bare
  base := {
    keep := I.base.keep
    slot := I.base.slot
    free := fun b u q n x => by
      rw [upd_ne (fun z => by rw [z, h0] at q; cases q)]
      exact I.base.free b u q n x
    there := I.base.there
    tups := fun b xs q => by
      have y := I.base.tups b xs q
      rw [upd_ne (ne_of_none y na)]
      exact y
    frzs := fun b u xs q => by
      have y := I.base.frzs b u xs q
      rw [upd_ne (ne_of_none y na)]
      exact y
    tbls := fun b ps q => by
      obtain ⟨m, y⟩ := I.base.tbls b ps q
      refine ⟨m, ?_⟩
      rw [upd_ne (ne_of_none y na)]
      exact y }
  loc := I.loc
  cell := I.cell
  free := by
    rw [upd_ne nL.symm]
    exact I.free
  freeC := fun x c e => by
    have nc : c ≠ a := fun z => by
      obtain ⟨v, y⟩ := I.cell x c e
      obtain ⟨oc, y1, y2⟩ := y
      rw [z, he] at y1
      cases y1
      rw [hd] at y2
      cases y2
    rw [upd_ne nc]
    exact I.freeC x c e
  pin := fun p hp => by
    obtain ⟨y1, y2, y3⟩ := I.pin p hp
    refine ⟨y1, ?_, y3⟩
    rw [upd_ne (np p hp)]
    exact y2
  hok := I.hok.laidN (fun _ _ z => z) na new
  len := I.len
/-- what is wanted of an exception of the body: its class is one that the clause takes; it is kept in slot j -/
def wKeep (Mt : Value → Prop) (i j : Nat) (D : Ends) : WX := fun cls d σ H => Mt cls ∧ ∀ a, H a = none → D.nx (((σ.set i (some (.ref a))).set j (some (.ref a))).set i none) (upd H a (ExV cls d a))
/-- the clause's test: its value takes each exception of such a class -/
def Tests (X : Cx) (test : Expr) (Mt : Value → Prop) : Prop := ∀ (a : Addr) (oe : Obj) (pn : List (Addr × Obj)) (s : Shared) (σ : L2.St) (H : Hp) (Q : Value → Shared → Prop) (E : Value → Shared → Prop),
  Inv (X.suite a ((a, oe) :: pn)) [] σ H s → s.heap.get? a = some oe → Mt oe.cls →
  (∀ (c : Value) (s' : Shared), (∀ b o, s.heap.get? b = some o → s'.heap.get? b = some o) → s'.os = s.os → s'.gens = s.gens → PySem.W.Looks (model X.prog X.w) s'.heap (excMatches (.ref a) c) true → Q c s') →
    wpAny (model X.prog X.w) (X.A.mark (some (.ref a))) (eval test X.env) Q E s
theorem flying_keeps {B : Heap} {l : List Env} {a : Addr} {Z : Obj → Prop} {h h' : Heap} (k : ∀ b o, h.get? b = some o → h'.get? b = some o) (f : HandSPX.FlyingZ B l a Z h) : HandSPX.FlyingZ B l a Z h' := by
  obtain ⟨f1, f2, f3, oe, vs, T, oT, ts, y1, y2, y3, y4, y5, y6, y7, y8, y9⟩ := f
  exact ⟨fun b o e => k _ _ (f1 b o e), f2, Heap.FunFrames.of_keeps (fun b o e _ => ⟨o, k _ _ e, rfl⟩) f3, oe, vs, T, oT, ts, k _ _ y1, y2, y3, y4, y5, y6, k _ _ y7, y8, y9⟩
variable {n y : Str} {i j : Nat} {body : List Stmt} {test : Expr} {py pn' ps' pos pos' : Pos} {tb : WX → TS} {Mt : Value → Prop}
/-- a try's body, whatever is wished of the exceptions that leave it -/
def Bodies (X : Cx) (body : List Stmt) (tb : WX → TS) : Prop := ∀ W pn xe, Takes (X.tr pn xe) W → PassesOwn (model X.prog X.w) X.A X.env xe → PSs (X.tr pn xe) body (tb W)
/-- the same state, one thing more (or less) pinned -/
theorem repin {Y Z : Cx} {p q : List (Addr × Obj)} (I : Inv Y p σ H s) (ok : Z.Ok) (e : Z = { Y with A := Z.A, calm := Z.calm, pn := Z.pn, xe := Z.xe }) (sub : ∀ r, r ∈ Z.pn ++ q → r ∈ Y.pn ++ p) : Inv Z q σ H s := by
  obtain ⟨_, f2, f3, f4, f5, f6, f7, f8, f9, f10, f11⟩ := I
  rw [e] at ok sub ⊢
  exact ⟨ok, f2, f3, f4, f5, f6, f7, f8, fun r hr => f9 r (sub r hr), f10, f11⟩
theorem ps_try_keep (top : X.stack = X.env :: X.outer) (own : X.env.frame = some X.env.locals) (noex : X.ex = []) (nd : X.N.Nodup) (at_i : X.N[i]? = some n) (at_j : X.N[j]? = some y) (loc_n : X.env.scope.names.lookup n = some .local)
    (loc_y : X.env.scope.names.lookup y = some .local) (takes : Tests X test Mt) (bodies : Bodies X body tb) (nodebug : (n == ("__debug__" : Str)) = false := by decide) (noclass : (n == ("__classdict__" : Str)) = false := by decide) :
    PS X (.Try body [.ExceptHandler (some test) (some n) [.Assign [.Name y py] (.Name n pn') ps'] pos'] [] [] pos) (fun D σ H => tb (wKeep Mt i j D) D σ H) := by
  constructor
  intro pins s σ H D I read
  have frames := I.ok.frames.trans (congrArg some top)
  refine wpAny_Try_except (wpAny_mono ((bodies (wKeep Mt i j D) (X.pn ++ pins) _ (fun u s' air => ?_) PassesOwn.looking).run [] s σ H D (I.toTry _) read) (fun f s1 z => ?_) (fun _ _ z => z))
  · obtain ⟨a, B, s0, _, σ0, H0, cls, d, rfl, J0, ground, up, sky, na, os, gens, takes_it, wish⟩ := air
    have J : Inv X pins σ0 H0 s0 := J0.ofTry I.ok
    rw [show (X.tr (X.pn ++ pins) _).stack = X.env :: X.outer from top] at sky ground
    refine Sky.land Zc.steady frames own sky fun h3 fly3 up3 => ?_
    have J3 := J.landed (s' := { s' with heap := h3 }) (B := B) (by rw [top]; exact ground) fly3.1 (up.trans up3) os gens
    obtain ⟨o3, v3, get3, kind3, data3⟩ := fly3.there
    -- it is none of the frames, and it wasn't there ahead of the try
    have noframe : a ∉ frs (X.env :: X.outer) := fun m => by
      obtain ⟨_, _, e, nofields⟩ := fly3.2.2.1.mem m
      cases get3.symm.trans e
      exact nofields _ data3
    have noloc : a ≠ X.env.locals := fun z => noframe (by
      rw [z]
      exact List.mem_filterMap.mpr ⟨X.env, List.mem_cons_self, own⟩)
    have noouter : a ∉ X.fs := fun m => noframe (by
      obtain ⟨env, h1, h2⟩ := List.mem_filterMap.mp m
      exact List.mem_filterMap.mpr ⟨env, .tail _ h1, h2⟩)
    have new0 : s0.heap.get? a = none := by
      rcases q : s0.heap.get? a with _ | o
      · rfl
      · exact nomatch (ground a o q noframe).symm.trans fly3.2.1
    have new : X.s_0.heap.get? a = none := by
      rcases q : X.s_0.heap.get? a with _ | o
      · rfl
      · exact (J.base.there a o q (by rw [noex]; exact List.not_mem_nil)).elim fun _ z => nomatch z.symm.trans new0
    have nopin : ∀ p, p ∈ X.pn ++ pins → p.1 ≠ a := fun p m z => by
      have there := (J.pin p m).1
      rw [z, new0] at there
      cases there
    refine wpAny_handleBy_cons (codeAny_handlers_test (takes a o3 _ _ σ0 H0 _ _ (J3.suite get3 data3 na noloc noouter) get3 (by rw [kind3.1]; exact takes_it) fun c s4 kp4 os4 gens4 match4 => match4.here ?_)) (fun z => nomatch z)
    refine codeAny_handlers_suite_as (HandSPX.lands_againZ (flying_keeps kp4 fly3) fun h5 fly5 up5 => ?_)
    have up4 : h3.UpToSlots s4.heap := fun b o z _ => ⟨o.slots, kp4 _ _ z⟩
    have J5 := J.landed (s' := { s4 with heap := h5 }) (B := B) (by rw [top]; exact ground) fly5.1 (((up.trans up3).trans up4).trans up5) (os4.trans os) (by rw [show ({ s4 with heap := h5 } : Shared).gens = s4.gens from rfl, gens4]; exact gens)
    obtain ⟨o5, v5, get5, kind5, data5⟩ := fly5.there
    refine store_ok (X := X.suite a ((a, o5) :: (X.pn ++ pins))) (v := .ref a) (J5.suite get5 data5 na noloc noouter) nd at_i (.inl loc_n) rfl (fun s6 J6 => ?_) (.inr loc_n)
    -- kept = e
    have keep : PSs (X.suite a ((a, o5) :: (X.pn ++ pins))) [.Assign [.Name y py] (.Name n pn') ps'] (tAsg (tVar i) (gName j)) := pss_one (ps_set nd at_j (.inl loc_y) (pe_var at_i (.inl loc_n) nodebug noclass) (by rfl) (.inr loc_y))
    have short : i < σ0.length := by
      rw [J.len]
      exact (List.getElem?_eq_some_iff.mp at_i).1
    refine wpAny_mono (keep.run [] s6 _ H0 { nx := fun σ7 H7 => σ7 = (σ0.set i (some (.ref a))).set j (some (.ref a)) ∧ H0 = H7, rt := fun _ _ => False, bk := fun _ _ => False, ct := fun _ _ => False } J6 ⟨.ref a, by rw [List.getElem?_set_self short], rfl, rfl⟩) (fun f s7 z => ?_) (fun _ _ z => z.elim)
    match f, z with
    | .next, ⟨_, _, J7, e7, eH⟩ =>
      subst e7
      subst eH
      refine gone_ok (repin (q := (a, o5) :: pins) J7 I.ok rfl fun r m => ?_) nd at_i loc_n fun s8 J8 => ?_
      · refine List.mem_append_left _ ?_
        rcases List.mem_append.mp m with m | m
        · exact .tail _ (List.mem_append_left _ m)
        · cases m with
          | head => exact .head _
          | tail _ m => exact .tail _ (List.mem_append_right _ m)
      · have get8 := (J8.pin (a, o5) (List.mem_append_right _ (.head _))).1
        have J9 : Inv X pins (((σ0.set i (some (.ref a))).set j (some (.ref a))).set i none) H0 s8 := repin J8 I.ok rfl fun r m => by
          rcases List.mem_append.mp m with m | m
          · exact List.mem_append_left _ m
          · exact List.mem_append_right _ (.tail _ m)
        exact ⟨_, _, track J9 new get8 data5 na noloc nopin (exV_ok get8 kind5 data5), wish a na⟩
    | .brk, ⟨_, _, _, z⟩ => exact z.elim
    | .cont, ⟨_, _, _, z⟩ => exact z.elim
    | .ret _, ⟨_, _, _, _, _, z⟩ => exact z.elim
  · match f, z with
    | .next, ⟨σ1, H1, J1, z⟩ => exact wpAny_execs_nil ⟨σ1, H1, J1.ofTry I.ok, z⟩
    | .brk, ⟨σ1, H1, J1, z⟩ => exact ⟨σ1, H1, J1.ofTry I.ok, z⟩
    | .cont, ⟨σ1, H1, J1, z⟩ => exact ⟨σ1, H1, J1.ofTry I.ok, z⟩
    | .ret _, ⟨v, σ1, H1, J1, rel, z⟩ => exact ⟨v, σ1, H1, J1.ofTry I.ok, rel, z⟩
end
end Tg

set_option maxHeartbeats 2000000
namespace Tg
open PySem PySem.Spec PyProof.Rows L2
section
variable {X : Cx} {x1 x2 x3 x4 : Str} {c1 c2 c3 c4 : Value} {p1 p2 p3 p4 pos : Pos}
theorem tests_one (hc : Names X x1 c1) : Tests X (.Name x1 p1) (fun cls => PySem.W.exmOne X.K cls c1 = some true) := by
  intro a oe pn s σ H Q E I he mt h
  have LT : PySem.W.Looks (model X.prog X.w) s.heap (typeOf (.ref a)) oe.cls := fun A Q E s k q => wpAny_typeOf_ref (k _ _ he) q
  have LM := PySem.W.exm_one (M := model X.prog X.w) I.kIn LT mt
  have told := h c1 s (fun _ _ z => z) rfl rfl LM
  rcases hc with ⟨gl, nodebug, own | ⟨none_, boot, noname⟩⟩
  · exact ld_glob (X := X.suite a ((a, oe) :: pn)) I gl own told nodebug
  · exact ld_blt (X := X.suite a ((a, oe) :: pn)) I gl none_ boot told noname nodebug
/-- own classes named one after the other -/
structure Glb (X : Cx) (x : Str) (c : Value) : Prop where
  gl : Gl X x
  mg : X.mg x = some c
  db : (x == ("__debug__" : Str)) = false := by decide
theorem glb_args {a : Addr} {oe : Obj} {pn : List (Addr × Obj)} {s : Shared} {σ : L2.St} {H : Hp} {E : Value → Shared → Prop} {pos : Pos} (I : Inv (X.suite a ((a, oe) :: pn)) [] σ H s) :
    ∀ {xs : List (Str × Pos)} {cs : List Value} {Q : List Value → Shared → Prop}, Paired (fun x c => Glb X x.1 c) xs cs → Q cs s →
      wpAny (model X.prog X.w) (X.A.mark (some (.ref a))) (spliced (backTo pos (starEach (xs.map fun x => .Name x.1 x.2) X.env))) Q E s
  | _, _, Q, .nil, q => args_nil q
  | (x, p) :: xs, c :: cs, Q, .cons g r, q => by
    refine args_cons (ld_glob (X := X.suite a ((a, oe) :: pn)) I g.gl g.mg (glb_args I r q) g.db) rfl
theorem tests_tup {xs : List (Str × Pos)} {cs : List Value} {kt : Nat} (hp : Paired (fun x c => Glb X x.1 c) xs cs) (hl : cs.length ≤ sizeLine)
    (hm : ∀ {h : Heap} {a tp : Addr} {cls : Value}, X.K.In h → PySem.W.Looks (model X.prog X.w) h (typeOf (.ref a)) cls → h.get? tp = some { cls := .type "tuple", data := .seq cs.toArray } → PySem.W.exmAny X.K cls cs = some true → PySem.W.Looks (model X.prog X.w) h (excMatches (.ref a) (.ref tp)) true) :
    Tests X (.Tuple (xs.map fun x => .Name x.1 x.2) kt pos) (fun cls => PySem.W.exmAny X.K cls cs = some true) := by
  intro a oe pn s σ H Q E I he mt h
  refine wpAny_Tuple_spliced (glb_args I hp ⟨hl, ?_⟩)
  have kk : ∀ b o, s.heap.get? b = some o → (s.heap.push { cls := .type "tuple", data := .seq cs.toArray }).get? b = some o := fun b o e => Heap.get?_push_of_some _ e
  have LT : PySem.W.Looks (model X.prog X.w) (s.heap.push { cls := .type "tuple", data := .seq cs.toArray }) (typeOf (.ref a)) oe.cls := fun A Q E s k q => wpAny_typeOf_ref (k _ _ (kk _ _ he)) q
  exact h _ _ kk rfl rfl (hm (I.kIn.keeps kk) LT (Heap.get?_push_size _ rfl) mt)
theorem tests_2 {kt : Nat} (h1 : Glb X x1 c1) (h2 : Glb X x2 c2) : Tests X (.Tuple [.Name x1 p1, .Name x2 p2] kt pos) (fun cls => PySem.W.exmAny X.K cls [c1, c2] = some true) :=
  tests_tup (xs := [(x1, p1), (x2, p2)]) (.cons h1 (.cons h2 .nil)) (by show 2 ≤ sizeLine; decide) fun X LT hp mt => PySem.W.exm_tup2 X LT hp mt
theorem tests_3 {kt : Nat} (h1 : Glb X x1 c1) (h2 : Glb X x2 c2) (h3 : Glb X x3 c3) : Tests X (.Tuple [.Name x1 p1, .Name x2 p2, .Name x3 p3] kt pos) (fun cls => PySem.W.exmAny X.K cls [c1, c2, c3] = some true) :=
  tests_tup (xs := [(x1, p1), (x2, p2), (x3, p3)]) (.cons h1 (.cons h2 (.cons h3 .nil))) (by show 3 ≤ sizeLine; decide) fun X LT hp mt => PySem.W.exm_tup3 X LT hp mt
theorem tests_4 {kt : Nat} (h1 : Glb X x1 c1) (h2 : Glb X x2 c2) (h3 : Glb X x3 c3) (h4 : Glb X x4 c4) : Tests X (.Tuple [.Name x1 p1, .Name x2 p2, .Name x3 p3, .Name x4 p4] kt pos) (fun cls => PySem.W.exmAny X.K cls [c1, c2, c3, c4] = some true) :=
  tests_tup (xs := [(x1, p1), (x2, p2), (x3, p3), (x4, p4)]) (.cons h1 (.cons h2 (.cons h3 (.cons h4 .nil)))) (by show 4 ≤ sizeLine; decide) fun X LT hp mt => PySem.W.exm_tup4 X LT hp mt
end
/-! ### what is asked of it later: a field, isinstance -/
section
variable {X : Cx} {e : Expr} {te : TE} {pos : Pos} {n : Str}
/-- kept.f -/
def tExf (K : PySem.W.Frag) (f : Str) (te : TE) : TE := fun σ H Q => te σ H fun x H1 => ∃ (a C dd : Addr) (fs : List (Str × V)) (v : V), x = .ref a ∧ H1 a = some (ExV (.ref C) (some dd) a) ∧ XfC K C ∧ PySem.W.findIn K (.ref C) f = some none ∧ H1 dd = some (.xd fs) ∧ fs.lookup f = some v ∧ Q v H1
theorem exV_inst {a C dd : Addr} {fs : List (Str × V)} {pins : List (Addr × Obj)} {σ : L2.St} {H : Hp} {s : Shared} (I : Inv X pins σ H s) (ea : H a = some (ExV (.ref C) (some dd) a)) (ed : H dd = some (.xd fs)) :
    ∃ (oe od : Obj) (m : Str → Option Value), PySem.W.InstAt s.heap a oe C (some od) ∧ (∀ f, RelO (fs.lookup f) (m f)) ∧ ∀ x, PySem.W.lookIn x od = some (m x) := by
  obtain ⟨⟨oe, vs, he, hz, hd⟩, _, _⟩ := (show ObjOk X.prog X.w H s.heap a (ExV (.ref C) (some dd) a) from I.hok a _ ea)
  obtain ⟨m, ns, rel⟩ := (show ObjOk X.prog X.w H s.heap dd (.xd fs) from I.hok dd _ ed)
  obtain ⟨od, get, look⟩ := lookIn_ns ns
  exact ⟨oe, od, m, ⟨he, hz.1, by unfold PySem.W.notCls; rw [hd] <;> rfl, by rw [hz.2]; exact get⟩, rel, look⟩
theorem pe_exf (he : PE X e te) (base : attributeBase e n X.env (eval e X.env) = eval e X.env := by rfl) : PE X (.Attribute e n pos) (tExf X.K n te) := by
  constructor
  intro pins s σ H Q I read
  refine attr_of base (thn (he.run pins s σ H _ I read) fun u s1 z => ?_)
  obtain ⟨_, H1, J, ru, a, C, dd, fs, v, rfl, ea, T, none_, ed, is_v, told⟩ := z
  obtain rfl : u = .ref a := ru
  obtain ⟨oe, od, m, inst, rel, look⟩ := exV_inst J ea ed
  have there := rel n
  rw [is_v] at there
  obtain ⟨w, mw, rw_⟩ := RelO.some_of there
  exact HandSPX.exc_get J.kIn inst T.ga T.gg T.exC (PySem.W.findObj_own T.hdC none_ rfl ((look n).trans (congrArg some mw))) (handed_of rw_) ⟨v, H1, J.tok _, rw_, told⟩
theorem cls_some {K : PySem.W.Frag} {D : Addr} (h : PySem.W.hasDictIn K D = true) : (PySem.W.clsIn K D).isSome = true := by
  obtain ⟨cd, hc, _⟩ := PySem.W.any_some h
  rw [hc]
  rfl
/-- isinstance(kept, c) -/
def rIsV (K : PySem.W.Frag) : List V → Hp → VK → Prop := fun xs H Q => ∃ (a D dd : Addr) (fs : List (Str × V)) (c : V) (cv : Value) (b : Bool), xs = [.ref a, c] ∧ H a = some (ExV (.ref D) (some dd) a) ∧ H dd = some (.xd fs) ∧ ExcC K D ∧ ClsV c cv ∧ PySem.W.kitOne K (.ref D) cv = some b ∧ Q (.bl b) H
theorem call_isV : CallR X (.builtin "isinstance") (rIsV X.K) := by
  rintro pins s σ H _ us Q I rel ⟨a, D, dd, fs, c, cv, b, rfl, ea, ed, C, cls, kit, told⟩
  match us, rel with
  | [_, _], .cons ra (.cons rc .nil) =>
    cases ra
    cases cls.eq rc
    obtain ⟨_, _, _, inst, _⟩ := exV_inst I ea ed
    exact PySem.W.kia_one (PySem.W.kitx_exc (cls_some C.hd) C.hg C.hk C.hs C.ha C.hn C.ht C.hm) I.kIn inst kit (fun z => nomatch z) fun tk => ⟨.bl b, H, I.tok tk, rfl, told⟩
/-- isinstance(kept, (c1, c2, ..)) -/
def rIsVT (K : PySem.W.Frag) : List V → Hp → VK → Prop := fun xs H Q => ∃ (a D dd tp : Addr) (fs : List (Str × V)) (cs : List V) (us : List Value) (b : Bool), xs = [.ref a, .ref tp] ∧ H a = some (ExV (.ref D) (some dd) a) ∧ H dd = some (.xd fs) ∧ ExcC K D ∧
  H tp = some (.tup cs) ∧ Paired ClsV cs us ∧ PySem.W.kitAny K (.ref D) us = some b ∧ Q (.bl b) H
theorem call_isVT : CallR X (.builtin "isinstance") (rIsVT X.K) := by
  rintro pins s σ H _ us Q I rel ⟨a, D, dd, tp, fs, cs, ws, b, rfl, ea, ed, C, tup, cls, kit, told⟩
  match us, rel with
  | [_, _], .cons ra (.cons rt .nil) =>
    cases ra
    cases rt
    obtain ⟨_, _, _, inst, _⟩ := exV_inst I ea ed
    obtain ⟨_, items, ri, ⟨oc, od, dt, sl⟩, get, is_tup, m, is_seq⟩ := (show ObjOk X.prog X.w H s.heap tp (.tup cs) from I.hok tp _ tup)
    cases ClsV.all cls ri
    cases is_tup
    cases is_seq
    exact PySem.W.kia_tup (PySem.W.kitx_exc (cls_some C.hd) C.hg C.hk C.hs C.ha C.hn C.ht C.hm) I.kIn inst get kit (fun z => nomatch z) fun tk => ⟨.bl b, H, I.tok tk, rfl, told⟩
end
end Tg

set_option maxHeartbeats 2000000
namespace Tg
open PySem PySem.Spec PyProof.Rows L2
/-! ### class X(ValueError): def __init__(self, at): ValueError.__init__(self, "..") ; self.at = at -/
def inCls (s : Stmt) (i : Nat) : Stmt := match s with
  | .ClassDef _ _ _ body _ _ _ _ _ _ _ => body.getD i (.Pass ⟨0, 0, 0, 0⟩)
  | _ => .Pass ⟨0, 0, 0, 0⟩
/-- what __init__ leaves: the field in a new dict -/
def spErr (C : Addr) (f : Str) : Sp := fun vs H Q _ => ∃ (a : Addr) (v : V), vs = [.ref a, v] ∧ H a = some (exo a C none) ∧ ∀ dx, H dx = none → dx ≠ a → Q .non (upd (upd H dx (exd dx [(f, v)])) a (exo a C (some dx)))
/-- what raise X(v) then leads to -/
theorem err_read {C : Addr} {f : Str} {ta : TE} {σ : L2.St} {H : Hp} {Q : XK} (h : ta σ H fun v H1 => ∀ (d : Addr) (H' : Hp), Same H1 H' → H1 d = none → H' d = some (.xd [(f, v)]) → Q (.ref C) (some d) H')
    (mono : ∀ {Q Q' : VK}, (∀ v H1, Q v H1 → Q' v H1) → ta σ H Q → ta σ H Q') : tMkO C (spErr C f) [] (tCons ta tNil) σ H Q := by
  refine mono (fun v H1 q => ⟨by show 1 ≤ 1000; decide, fun a na => ?_⟩) h
  refine ⟨a, v, rfl, upd_same, fun dx nd da => ⟨rfl, dx, [(f, v)], upd_same, ?_, ?_, ?_⟩⟩
  · rw [upd_ne da, upd_same]
  · rw [upd_ne da] at nd
    exact nd
  · have nd' : H1 dx = none := by
      rw [upd_ne da] at nd
      exact nd
    refine q dx _ (fun b o e => ?_) nd' upd_same
    have nb : b ≠ dx := ne_of_none e nd'
    have nba : b ≠ a := ne_of_none e na
    rw [upd_ne nb, del_ne nba, upd_ne nba, upd_ne nb, upd_ne nba]
    exact e
end Tg

set_option maxHeartbeats 2000000
namespace Tg
open PySem PySem.Spec PyProof.Rows L2
/-! ### a call by keywords that may raise, in a try -/
section
variable {X : Cx} {CX : CXT} {k : Nat} {f : Addr} {fd : FuncData} {ps ks : List Str} {sp : Sp} {E : L2.St → XK} {x : Str} {p pos : Pos} {kws : List Keyword} {tk : TA} {g : List Value → List Value → List Value} {gV : List V → List V → List V}
theorem pe_kwS (F : FnOk X.prog X.w X.K X.mg X.base CX k f fd ps sp) (room : Room k X.A) (gl : Gl X x) (at_x : X.mg x = some (.ref f)) (kept : PySem.W.keepIn X.K (.ref f) = true) (binds : KBn X.K fd ps 0 ks g gV) (lets : ∀ σ, PassesAt CX X σ (E σ)) (vals : PK X kws tk)
    (named : (backToKw pos (keywordEach kws X.env)).all (·.1.isSome) = true := by rfl) (names : (backToKw pos (keywordEach kws X.env)).filterMap (·.1) = ks := by rfl) (nodebug : (x == ("__debug__" : Str)) = false := by decide)
    (nostar : ((backTo pos (starEach [] X.env)).any (·.1) || (backToKw pos (keywordEach kws X.env)).any (·.1.isNone)) = false := by rfl) : PE X (.Call (.Name x p) [] kws pos) (fun σ H Q => tk σ H fun zs H2 => zs.length = ks.length ∧ sp (gV [] zs) H2 Q (E σ)) := by
  constructor
  intro pins s σ H Q I read
  refine wpAny_Call_Name_kw (ld_glob I gl at_x (PySem.W.callWith_KW0 (h₀ := X.base) I.ok.mod.kin kept named (thn (vals.run pos pins s σ H _ I read) fun ws s2 y => ?_) nostar) nodebug)
  obtain ⟨zs, H2, J, rel, many, told⟩ := y
  rw [names]
  refine ⟨J.kIn, wpAny_call (codeAny_mono (F.run X.A X.stack s2 H2 ⟨[], ks.zip ws⟩ (g [] ws) (gV [] zs) Q (E σ) room J.env0 (binds.to s2 [] ws J.kIn rfl (rel.length.symm.trans many)) (binds.rel (vs := []) (us := []) .nil rel) told) fun a s' z => ?_)⟩
  match a, z with
  | .error e, z => exact lets σ pins H2 s2 e s' J z
  | .ok (.ret u), z => exact J.after z
end
end Tg

set_option maxHeartbeats 2000000
namespace Tg
open PySem PySem.Spec PyProof.Rows L2
/-! ### own errors, and classes whose __init__ may raise, as a caller needs them -/
section
variable (P : Program) (w : World) (K : PySem.W.Frag) (mg : Str → Option Value) (base : Heap)
/-- the error x, of the class C over ValueError, made of one thing that is its field fld -/
def CalE (k : Nat) (x : Str) (C : Addr) (fld : Str) : Prop := ∃ fI fdI, OexC K C ∧ PySem.W.findIn K (.ref C) "__init__" = some (some (.ref fI)) ∧ PySem.W.typeIn K (.ref fI) = some (.type "function") ∧
  FnOk P w K mg base CX0 k fI fdI ["self", fld] (spErr C fld) ∧ Binds K fdI ["self", fld] [] ∧ mg x = some (.ref C)
/-- a def that may raise -/
def CalR (k : Nat) (x : Str) (ps : List Str) (sp : Sp) : Prop := ∃ f fd, FnOk P w K mg base (L2.CX P w) k f fd ps sp ∧ mg x = some (.ref f) ∧ PySem.W.keepIn K (.ref f) = true ∧ Binds K fd ps []
def CalRK (k : Nat) (x : Str) (ps ks : List Str) (is : List Nat) (sp : Sp) : Prop := ∃ f fd, FnOk P w K mg base (L2.CX P w) k f fd ps sp ∧ mg x = some (.ref f) ∧ PySem.W.keepIn K (.ref f) = true ∧ KBn K fd ps 0 ks (fun _ ws => prm is ws) (fun _ zs => prm is zs)
/-- a class whose __init__ may raise -/
def CalRC (k : Nat) (x : Str) (C : Addr) (ps : List Str) (sp : Sp) : Prop := ∃ f fd, FnOk P w K mg base (L2.CX P w) k f fd ps sp ∧ mg x = some (.ref C) ∧ Mk K C f ∧ Binds K fd ps []
def CalRCK (k : Nat) (x : Str) (C : Addr) (ps ks : List Str) (is : List Nat) (sp : Sp) : Prop := ∃ f fd, FnOk P w K mg base (L2.CX P w) k f fd ps sp ∧ mg x = some (.ref C) ∧ Mk K C f ∧ KBn K fd ps 1 ks (fun us ws => us ++ prm is ws) (fun vs zs => vs ++ prm is zs)
end
section
variable {X : Cx} {k : Nat} {ps ks : List Str} {is : List Nat} {sp : Sp} {x fld : Str} {C : Addr} {e : Expr} {es : List Expr} {p pos : Pos} {kws : List Keyword} {ta : TE} {t tk : TA} {W : WX}
theorem pm_err (c : CalE X.prog X.w X.K X.mg X.base k x C fld) (room : Room (k + 1) X.A) (gl : Gl X x) (he : PE X e ta) (nodebug : (x == ("__debug__" : Str)) = false := by decide)
    (star : starEach [e] X.env = (false, eval e X.env) :: starEach [] X.env := by rfl) : PMk X (.Call (.Name x p) [e] [] pos) (tMkO C (spErr C fld) [] (tCons ta tNil)) := by
  obtain ⟨fI, fdI, T, iC, tI, F, b, m⟩ := c
  exact pmk_oex T iC tI F room b .nil (fun _ _ _ _ _ _ _ z => z.elim) gl m (pa_cons he pa_nil star) nodebug star
/-- raise x(e), out of the def -/
def tErr (C : Addr) (fld : Str) (ta : TE) (E : XK) : TS := fun _ σ H => ta σ H fun v H1 => ∀ (d : Addr) (H' : Hp), Same H1 H' → H1 d = none → H' d = some (.xd [(fld, v)]) → E (.ref C) (some d) H'
/-- a call that may raise, in a def that lets it out -/
def tCalR (sp : Sp) (E : XK) (t : TA) : TE := fun σ H Q => t σ H fun vs H1 => sp vs H1 Q E
theorem pe_calR {E : XK} (c : CalR X.prog X.w X.K X.mg X.base k x ps sp) (hr : Room k X.A) (gl : Gl X x) (lets : Passes (L2.CX X.prog X.w) X E) (ha : PA X (e :: es) t) (nodebug : (x == ("__debug__" : Str)) = false := by decide)
    (star : starEach (e :: es) X.env = (false, eval e X.env) :: starEach es X.env := by rfl) (plain : (backTo pos (starEach es X.env)).any (·.1) = false := by rfl) : PE X (.Call (.Name x p) (e :: es) [] pos) (tCall sp [] E t) := by
  obtain ⟨f, fd, F, m, kp, b⟩ := c
  exact pe_call F hr gl m kp b .nil lets ha nodebug star plain
/-- the same in a try -/
theorem pe_calT (c : CalR X.prog X.w X.K X.mg X.base k x ps sp) (hr : Room k X.A) (gl : Gl X x) (tks : Takes X W) (ha : PA X (e :: es) t) (nodebug : (x == ("__debug__" : Str)) = false := by decide)
    (star : starEach (e :: es) X.env = (false, eval e X.env) :: starEach es X.env := by rfl) (plain : (backTo pos (starEach es X.env)).any (·.1) = false := by rfl) : PE X (.Call (.Name x p) (e :: es) [] pos) (tCallS sp (WE W) t) := by
  obtain ⟨f, fd, F, m, kp, b⟩ := c
  exact pe_callS F hr gl m kp b (fun σ => passAt tks σ) ha nodebug star plain
def tKwT (n : Nat) (sp : Sp) (is : List Nat) (W : WX) (tk : TA) : TE := fun σ H Q => tk σ H fun zs H2 => zs.length = n ∧ sp (prm is zs) H2 Q (WE W σ)
theorem pe_calKT (c : CalRK X.prog X.w X.K X.mg X.base k x ps ks is sp) (hr : Room k X.A) (gl : Gl X x) (tks : Takes X W) (vals : PK X kws tk)
    (named : (backToKw pos (keywordEach kws X.env)).all (·.1.isSome) = true := by rfl) (names : (backToKw pos (keywordEach kws X.env)).filterMap (·.1) = ks := by rfl) (nodebug : (x == ("__debug__" : Str)) = false := by decide)
    (nostar : ((backTo pos (starEach [] X.env)).any (·.1) || (backToKw pos (keywordEach kws X.env)).any (·.1.isNone)) = false := by rfl) : PE X (.Call (.Name x p) [] kws pos) (tKwT ks.length sp is W tk) := by
  obtain ⟨f, fd, F, m, kp, b⟩ := c
  exact pe_kwS (E := WE W) F hr gl m kp b (fun σ => passAt tks σ) vals named names nodebug nostar
/-! ### C(..), whose __init__ may raise, in a try -/
theorem made_or_raised {CX : CXT} {f : Addr} {fd : FuncData} {pins : List (Addr × Obj)} {σ : L2.St} {H : Hp} {s : Shared} {Q : VK} {E : L2.St → XK} {us zs : List Value} {kwv : List (Str × Value)} {vs : List V} (M : Mk X.K C f) (F : FnOk X.prog X.w X.K X.mg X.base CX k f fd ps sp)
    (room : Room (k + 1) X.A) (lets : PassesAt CX X σ (E σ)) (I : Inv X pins σ H s) (bound : ∀ s2 : Shared, X.K.In s2.heap → BindsTo s2 fd ⟨.ref (s.heap.objs.size + 1) :: us, kwv⟩ (ps.zip zs)) (rel : Vals (.ref (s.heap.objs.size + 1) :: vs) zs)
    (told : ∀ a d, H a = none → H d = none → d ≠ a → sp (.ref a :: vs) (upd (upd H d (.own a)) a (.ins C d [])) (fun v H2 => v = .non ∧ Q (.ref a) H2) (E σ)) : wpAny (model X.prog X.w) X.A (call (.ref C) us kwv) (EP X pins σ Q) X.xe s := by
  have new := I.made (C := C)
  have now := told _ _ (I.hok.fresh (Nat.le_succ s.heap.objs.size)) (I.hok.fresh (Nat.le_refl s.heap.objs.size)) (Nat.ne_of_lt (Nat.lt_succ_self _))
  have ran := F.run _ X.stack _ _ _ zs _ _ (E σ) (room.make C us kwv) (new.env0.make C us kwv) (bound _ new.kIn) rel now
  refine wpAny_call (make_map (f := f) I.kIn M.makes M.init (beq_iff_eq.mp M.fn) (codeAny_mono ran fun out s' z => ?_))
  match out, z with
  | .error err, z => exact lets pins _ _ err s' new z
  | .ok (.ret u), z =>
    obtain ⟨_, H3, J, r, rfl, q⟩ := new.after z
    exact ⟨r, .ref (s.heap.objs.size + 1), H3, J, rfl, q⟩
def tMkT (C : Addr) (sp : Sp) (W : WX) (t : TA) : TE := fun σ H Q => t σ H fun vs H1 => ∀ a d, H1 a = none → H1 d = none → d ≠ a → sp (.ref a :: vs) (upd (upd H1 d (.own a)) a (.ins C d [])) (fun v H2 => v = .non ∧ Q (.ref a) H2) (WE W σ)
theorem pe_mkT (c : CalRC X.prog X.w X.K X.mg X.base k x C ps sp) (room : Room (k + 1) X.A) (gl : Gl X x) (tks : Takes X W) (ha : PA X (e :: es) t) (nodebug : (x == ("__debug__" : Str)) = false := by decide)
    (star : starEach (e :: es) X.env = (false, eval e X.env) :: starEach es X.env := by rfl) (plain : (backTo pos (starEach es X.env)).any (·.1) = false := by rfl) : PE X (.Call (.Name x p) (e :: es) [] pos) (tMkT C sp W t) := by
  obtain ⟨f, fd, F, m, M, b⟩ := c
  constructor
  intro pins s σ H Q I read
  refine wpAny_Call_Name_kw (ld_glob I gl m (PySem.W.callWith_K (h₀ := X.base) I.ok.mod.kin M.kp (thn (ha.run pos pins s σ H _ I read) fun us s1 y => ?_) star plain) nodebug)
  obtain ⟨vs, H1, J, rel, told⟩ := y
  refine ⟨J.kIn, made_or_raised (E := WE W) (zs := .ref (s1.heap.objs.size + 1) :: us) M F room (passAt tks σ) J (fun s2 kin => ?_) (.cons rfl rel) told⟩
  have many : (V.ref (s1.heap.objs.size + 1) :: vs).length = ps.length := F.len _ _ _ _ (told _ _ (J.hok.fresh (Nat.le_succ s1.heap.objs.size)) (J.hok.fresh (Nat.le_refl s1.heap.objs.size)) (Nat.ne_of_lt (Nat.lt_succ_self _)))
  have z := b s2 (.ref (s1.heap.objs.size + 1) :: us) kin (by rw [List.append_nil, List.length_cons, ← rel.length]; exact many)
  rw [List.append_nil] at z
  exact z
def tMkKT (C : Addr) (n : Nat) (sp : Sp) (is : List Nat) (W : WX) (tk : TA) : TE := fun σ H Q => tk σ H fun zs H1 => zs.length = n ∧ ∀ a d, H1 a = none → H1 d = none → d ≠ a → sp (.ref a :: prm is zs) (upd (upd H1 d (.own a)) a (.ins C d [])) (fun v H2 => v = .non ∧ Q (.ref a) H2) (WE W σ)
theorem pe_mkKT (c : CalRCK X.prog X.w X.K X.mg X.base k x C ps ks is sp) (room : Room (k + 1) X.A) (gl : Gl X x) (tks : Takes X W) (vals : PK X kws tk)
    (named : (backToKw pos (keywordEach kws X.env)).all (·.1.isSome) = true := by rfl) (names : (backToKw pos (keywordEach kws X.env)).filterMap (·.1) = ks := by rfl) (nodebug : (x == ("__debug__" : Str)) = false := by decide)
    (nostar : ((backTo pos (starEach [] X.env)).any (·.1) || (backToKw pos (keywordEach kws X.env)).any (·.1.isNone)) = false := by rfl) : PE X (.Call (.Name x p) [] kws pos) (tMkKT C ks.length sp is W tk) := by
  obtain ⟨f, fd, F, m, M, b⟩ := c
  constructor
  intro pins s σ H Q I read
  refine wpAny_Call_Name_kw (ld_glob I gl m (PySem.W.callWith_KW0 (h₀ := X.base) I.ok.mod.kin M.kp named (thn (vals.run pos pins s σ H _ I read) fun ws s1 y => ?_) nostar) nodebug)
  obtain ⟨zs, H1, J, rel, many, told⟩ := y
  rw [names]
  exact ⟨J.kIn, made_or_raised (E := WE W) (us := []) (zs := .ref (s1.heap.objs.size + 1) :: prm is ws) M F room (passAt tks σ) J (fun s2 kin => b.to s2 [.ref (s1.heap.objs.size + 1)] ws kin rfl (rel.length.symm.trans many)) (.cons rfl (prm_rel rel is)) told⟩
end
end Tg

namespace Tg
open PySem PySem.Spec PyProof.Rows L2
/-! ### the text -/
def topS (i : Nat) : Stmt := PySem.Challenge.pw_timegranary_k60_keeps.main.body.getD i (.Pass ⟨0, 0, 0, 0⟩)
abbrev sMixed : Stmt := topS 25
abbrev sPurse : Stmt := topS 26
abbrev sDraw : Stmt := topS 27
theorem scMixed : FnScope ["_law_cell", "_law_k", "_law_number"] ["_law_cell", "_law_k"] (defScope sMixed) := ⟨rfl, rfl, rfl, by decide +kernel, rfl, by decide +kernel, by decide +kernel⟩
theorem scPurse : FnScope ["_law_script", "_law_at", "_law_cell", "_law_cut", "_law_k"] ["_law_script", "_law_at"] (defScope sPurse) := ⟨rfl, rfl, rfl, by decide +kernel, rfl, by decide +kernel, by decide +kernel⟩
theorem scDraw : FnScope ["_law_purse_here", "_law_out_of", "_law_drawn", "_law_number", "_law_k"] ["_law_purse_here", "_law_out_of"] (defScope sDraw) := ⟨rfl, rfl, rfl, by decide +kernel, rfl, by decide +kernel, by decide +kernel⟩
/-! ### purses: what is drawn from -/
/-- a purse at p, from which at most n were drawn -/
def Pu (H : Hp) (p : Addr) (n : Nat) : Prop := ∃ a c k : Int, H p = some (.lst [.int a, .int c, .int k]) ∧ 0 ≤ k ∧ k ≤ n
theorem Pu.same {H H' : Hp} {p : Addr} {n : Nat} (s : Same H H') (h : Pu H p n) : Pu H' p n := by
  obtain ⟨a, c, k, e, r⟩ := h
  exact ⟨a, c, k, s _ _ e, r⟩
theorem Pu.ne {H : Hp} {p l : Addr} {n : Nat} (d : Pu H p n) (h : H l = none) : l ≠ p := fun z => by
  obtain ⟨_, _, _, z2, _⟩ := d
  rw [z, z2] at h
  cases h
theorem Pu.kt {H H' : Hp} {p : Addr} {n : Nat} (d : Pu H p n) (k : Kp p H H') : KT H H' := by
  obtain ⟨_, _, _, z2, _⟩ := d
  exact KT.kp k z2 nfix_lst
theorem Pu.mono {H : Hp} {p : Addr} {n m : Nat} (d : Pu H p n) (h : n ≤ m) : Pu H p m := by
  obtain ⟨a, c, k, e, r0, r1⟩ := d
  exact ⟨a, c, k, e, r0, by omega⟩
section
variable {P : Program} {w : World} {K : PySem.W.Frag} {mg : Str → Option Value} {base : Heap}
def spMixed : Sp := fun vs H Q _ => ∃ c k : Int, vs = [.int c, .int k] ∧ 0 ≤ k ∧ k < 2 ^ 40 ∧ ∀ v : Int, Q (.int v) H
theorem ok_mixed {f : Addr} {fd : FuncData} {k : Nat} (F : Fun K "_law_mixed" "_law_mixed" sMixed f fd) : FnOk P w K mg base CX0 (k + 1) f fd ["_law_cell", "_law_k"] spMixed := by
  refine F.ok scMixed (fun vs H Q E h => ?_) (fun cdv A outer s H vs Q E hr h => ?_)
  · obtain ⟨c, k, rfl, _⟩ := h
    rfl
  · obtain ⟨c, k, rfl, k0, k1, q⟩ := h
    refine ⟨_, pss_cons (ps_set (i := 2) scMixed.nd rfl (.inl rfl) (pe_op op_mod (pe_op op_add (pe_op op_add (pe_op op_add (pe_op op_mul (pv 0) pe_int) (pe_op op_mul (pe_op op_mul pe_int (pv 1)) (pv 1))) (pv 1)) pe_int) pe_int))
      (pss_cons (ps_set (i := 2) scMixed.nd rfl (.inl rfl) (pe_op op_mod (pe_op op_add (pe_op op_mul (pv 2) (pv 2)) pe_int) pe_int))
      (pss_one (ps_ret (pe_op op_mod (pe_op op_mul (pv 2) pe_int) pe_int)))), ?_⟩
    refine ⟨_, rfl, _, _, rfl, rfl, .inr ⟨by decide, by decide⟩, _, rfl, _, _, rfl, rfl, .inl ⟨by decide, by decide⟩, _, rfl, _, _, rfl, rfl, .inr ⟨by omega, by omega⟩, _, _, rfl, rfl, _, rfl, _, _, rfl, rfl, _, _, rfl, rfl, _, _, rfl, rfl, (by show (0 : Int) < 2147483647; decide), ?_⟩
    generalize (c * 1103515245 + 7919 * k * k + k + 1) = y
    have y0 := Int.emod_nonneg y (show (2147483647 : Int) ≠ 0 by decide)
    have y1 := Int.emod_lt_of_pos y (show (0 : Int) < 2147483647 by decide)
    refine ⟨_, rfl, _, rfl, _, _, rfl, rfl, .inl ⟨by omega, by omega⟩, _, _, rfl, rfl, _, _, rfl, rfl, (by show (0 : Int) < 2147483629; decide), ?_⟩
    exact ⟨_, rfl, _, _, rfl, rfl, .inr ⟨by decide, by decide⟩, _, _, rfl, rfl, (by show (0 : Int) < 2147483587; decide), q _⟩
def spDraw : Sp := fun vs H Q _ => ∃ (p : Addr) (n : Nat) (m : Int), vs = [.ref p, .int m] ∧ Pu H p n ∧ n < 2 ^ 38 ∧ 0 < m ∧ m < 2 ^ 50 ∧
  ∀ (v : Int) (H' : Hp), Kp p H H' → Pu H' p (n + 2) → 0 ≤ v → v < m → Q (.int v) H'
theorem ok_draw {f : Addr} {fd : FuncData} {k : Nat} (F : Fun K "_law_draw" "_law_draw" sDraw f fd) (C_mixed : Cal P w K mg base k "_law_mixed" ["_law_cell", "_law_k"] spMixed) (m_range : mg "range" = none) :
    FnOk P w K mg base CX0 (k + 1) f fd ["_law_purse_here", "_law_out_of"] spDraw := by
  refine F.ok scDraw (fun vs H Q E h => ?_) (fun cdv A outer s H vs Q E hr h => ?_)
  · obtain ⟨p, n, m, rfl, _⟩ := h
    rfl
  · obtain ⟨p, n, m, rfl, ⟨a, c, k, hp, k0, k1⟩, hn, m0, m1, q⟩ := h
    refine ⟨_, pss_cons (ps_if (pt_cmpR op_gt (pe_ix ix_list (pv 0) pe_int (fun _ _ => rfl)) pe_int (nomark _))
        (pss_cons (ps_set (i := 2) scDraw.nd rfl (.inl rfl) (pe_op op_mod (pe_ix ix_list (pv 0) pe_int (fun _ _ => rfl)) (pv 1)))
        (pss_cons (ps_asg (pe_op op_fdivW (pe_ix ix_list (pv 0) pe_int (fun _ _ => rfl)) (pv 1)) (pg_sub (pv 0) pe_int set_list))
        (pss_one (ps_ret (pv 2)))))
        pss_nil)
      (pss_cons (ps_set (i := 3) scDraw.nd rfl (.inl rfl) pe_int)
      (pss_cons (ps_for PassesOwn.never rfl (pi_range1 (by rfl) m_range (pa_cons (pe_op op_add pe_int (pe_op op_fdiv (pe_bits (pv 1)) pe_int)) pa_nil)) (pg_name (i := 4) scDraw.nd rfl (.inl rfl))
        (pss_cons (ps_asg (pe_op op_add (pe_ix ix_list (pv 0) pe_int (fun _ _ => rfl)) pe_int) (pg_sub (pv 0) pe_int set_list))
        (pss_one (ps_set (i := 3) scDraw.nd rfl (.inl rfl) (pe_op op_add (pe_op op_mul (pv 3) pe_int) (pe_cal C_mixed (hr.mono (by omega)) (by rfl) (pa_cons (pe_ix ix_list (pv 0) pe_int (fun _ _ => rfl)) (pa_cons (pe_ix ix_list (pv 0) pe_int (fun _ _ => rfl)) pa_nil))))))))
      (pss_one (ps_ret (pe_op op_mod (pv 3) (pv 1)))))), ?_⟩
    have e0 := Int.emod_nonneg a (show m ≠ 0 by omega)
    have e1 := Int.emod_lt_of_pos a m0
    refine ⟨_, rfl, p, _, 0, .int a, rfl, rfl, SqL.of hp, rfl, _, _, rfl, rfl, _, rfl, ite2 (fun g => ?_) (fun g => ?_)⟩
    · refine ⟨_, rfl, p, _, 0, .int a, rfl, rfl, SqL.of hp, rfl, _, rfl, _, _, rfl, rfl, m0, ?_⟩
      refine ⟨_, rfl, p, _, 0, .int a, rfl, rfl, SqL.of hp, rfl, _, rfl, _, _, rfl, rfl, wide_div (b := 50) m0 (by omega) (by decide) (by decide), _, rfl, p, _, 0, 0, rfl, rfl, hp, rfl, _, rfl, ?_⟩
      exact q _ _ Kp.put ⟨_, _, _, upd_same, k0, by omega⟩ e0 e1
    · have b0 : Builtin.Int.intBits m ≤ 50 := intBits_le_iff.mpr (by omega)
      refine ⟨_, rfl, _, rfl, _, _, rfl, rfl, ⟨by decide, by decide⟩, _, _, rfl, rfl, _, rfl, ?_, ?_, ?_⟩
      · omega
      · omega
      · obtain ⟨cn, ec⟩ : ∃ cn : Nat, (1 + ((Builtin.Int.intBits m : Nat) : Int) / 30).toNat = cn := ⟨_, rfl⟩
        have c2 : cn ≤ 2 := by omega
        rw [ec]
        refine for_range (n := cn) (fun i σ H2 => ∃ (num k' : Int) (z : Option V), σ = [some (.ref p), some (.int m), none, some (.int num), z] ∧ Kp p H H2 ∧ H2 p = some (.lst [.int a, .int c, .int k']) ∧ 0 ≤ k' ∧ k' ≤ n + i) ?_ ?_ ?_
        · exact ⟨0, k, none, rfl, Kp.refl _ _, hp, k0, by omega⟩
        · rintro i σ H2 hi ⟨num, k', z, rfl, kp, h2, k0', k1'⟩
          refine ⟨_, rfl, p, _, 2, .int k', rfl, rfl, SqL.of h2, rfl, _, _, rfl, rfl, _, rfl, p, _, 2, 2, rfl, rfl, h2, rfl, ?_⟩
          have h3 : (upd H2 p (.lst [.int a, .int c, .int (k' + 1)])) p = some (.lst [.int a, .int c, .int (k' + 1)]) := upd_same
          refine ⟨_, rfl, _, _, rfl, rfl, .inr ⟨by decide, by decide⟩, _, rfl, p, _, 1, .int c, rfl, rfl, SqL.of h3, rfl, _, rfl, p, _, 2, .int (k' + 1), rfl, rfl, SqL.of h3, rfl, c, k' + 1, rfl, by omega, by omega, fun v => ?_⟩
          exact ⟨_, _, rfl, rfl, _, _, _, rfl, kp.trans Kp.put, h3, by omega, by omega⟩
        · rintro σ H2 ⟨num, k', z, rfl, kp, h2, k0', k1'⟩
          refine ⟨_, rfl, _, rfl, _, _, rfl, rfl, m0, ?_⟩
          exact q _ _ kp ⟨_, _, _, h2, k0', by omega⟩ (Int.emod_nonneg _ (by omega)) (Int.emod_lt_of_pos _ m0)
def spPurse (K : PySem.W.Frag) : Sp := fun vs H Q _ => ∃ (sa : Addr) (ns : List Int) (at_ : Int), vs = [.ref sa, .int at_] ∧ SqL K H sa (ns.map V.int) ∧ ns.length ≤ 63 ∧ 0 ≤ at_ ∧ at_ ≤ 1000 ∧
  ∀ (p : Addr) (H' : Hp), Same H H' → H p = none → Pu H' p 1000000 → Q (.ref p) H'
theorem cut_ints (ns : List Int) (lo hi : Option Int) : ∃ ms : List Int, cutV (ns.map V.int) lo hi = ms.map V.int ∧ ms.length ≤ ns.length := by
  unfold cutV
  refine ⟨(ns.drop (HT.sIx (ns.map V.int).length 0 lo)).take (HT.sIx (ns.map V.int).length (ns.map V.int).length hi - HT.sIx (ns.map V.int).length 0 lo), ?_, ?_⟩
  · rw [List.map_take, List.map_drop]
  · rw [List.length_take, List.length_drop]
    omega
theorem ok_purse {f : Addr} {fd : FuncData} {k : Nat} (F : Fun K "_law_purse" "_law_purse" sPurse f fd) (m_range : mg "range" = none) (m_max : mg "max" = none) :
    FnOk P w K mg base CX0 (k + 1) f fd ["_law_script", "_law_at"] (spPurse K) := by
  refine F.ok scPurse (fun vs H Q E h => ?_) (fun cdv A outer s H vs Q E hr h => ?_)
  · obtain ⟨sa, ns, at_, rfl, _⟩ := h
    rfl
  · obtain ⟨sa, ns, at_, rfl, hS, hl, a0, a1, q⟩ := h
    refine ⟨_, pss_cons (ps_set (i := 2) scPurse.nd rfl (.inl rfl) (pe_ix ix_list (pe_op op_cat (pe_slice sl_list (pv 0) (po_some (pv 1)) (po_some (pe_op op_add (pv 1) pe_int))) (pe_lst (pa_cons pe_int pa_nil))) pe_int (fun _ _ => rfl)))
      (pss_cons (ps_set (i := 3) scPurse.nd rfl (.inl rfl) (pe_op op_pow pe_int pe_int))
      (pss_cons (ps_for PassesOwn.never rfl (pi_range1 (by rfl) m_range (pa_cons pe_int pa_nil)) (pg_name (i := 4) scPurse.nd rfl (.inl rfl))
        (pss_one (ps_set (i := 3) scPurse.nd rfl (.inl rfl) (pe_op op_mulW (pv 3) (pv 3)))))
      (pss_one (ps_ret (pe_lst (pa_cons (pe_op op_mod (pe_callB (call_max2 rfl) (by rfl) m_max boot_max (pa_cons (pe_op op_sub (pv 2) (pe_op op_pow pe_int pe_int)) (pa_cons pe_int pa_nil))) (pv 3)) (pa_cons (pe_op op_mod (pv 2) pe_int) (pa_cons (pe_op op_mul pe_int (pv 1)) pa_nil)))))))), ?_⟩
    obtain ⟨ms, em, lm⟩ := cut_ints ns (some at_) (some (at_ + 1))
    refine ⟨_, rfl, _, rfl, at_, rfl, _, rfl, _, _, rfl, rfl, at_ + 1, rfl, sa, _, rfl, hS, fun l1 n1 => ?_⟩
    rw [em]
    refine ⟨by show 1 ≤ sizeLine; decide, fun l2 n2 => ?_⟩
    have s1 : Same H (upd H l1 (.lst (ms.map V.int))) := same_new n1
    have s2 := same_new (o := .lst [.int 0]) n2
    have m1 : (upd (upd H l1 (.lst (ms.map V.int))) l2 (.lst [.int 0])) l1 = some (.lst (ms.map V.int)) := s2 _ _ upd_same
    refine ⟨l1, l2, _, _, rfl, rfl, m1, upd_same, ?_, fun l3 n3 => ?_⟩
    · rw [List.length_map]
      exact Nat.le_of_lt (small1000 (by show ms.length + 1 ≤ 1000; omega))
    · have s3 := same_new (o := .lst (ms.map V.int ++ [.int 0])) n3
      obtain ⟨c, ec⟩ : ∃ c : Int, atI (ms.map V.int ++ [.int 0]) 0 = some (.int c) := by
        cases ms with
        | nil => exact ⟨0, rfl⟩
        | cons x r =>
          refine ⟨x, ?_⟩
          show atI _ ((0 : Nat) : Int) = _
          exact atI_nat rfl
      have s4 : Same H (upd (upd (upd H l1 (.lst (ms.map V.int))) l2 (.lst [.int 0])) l3 (.lst (ms.map V.int ++ [.int 0]))) := (s1.trans s2).trans s3
      refine ⟨l3, _, 0, .int c, rfl, rfl, SqL.of upd_same, ec, ?_⟩
      refine ⟨10, 60, rfl, rfl, ⟨by decide, by decide, by decide⟩, ?_⟩
      revert s4
      generalize upd (upd (upd H l1 (.lst (ms.map V.int))) l2 (.lst [.int 0])) l3 (.lst (ms.map V.int ++ [.int 0])) = H4
      intro s4
      refine ⟨5, rfl, by decide, by decide, for_range (n := 5) (fun i σ H2 => ∃ (x : Int) (y : Option V), σ = [some (.ref sa), some (.int at_), some (.int c), some (.int x), y] ∧ H2 = H4 ∧ 0 < x ∧ x.natAbs < 2 ^ (200 * 2 ^ i)) ?_ ?_ ?_⟩
      · exact ⟨_, none, rfl, rfl, by decide, by decide⟩
      · rintro i σ H2 hi ⟨x, y, rfl, rfl, hx, hb⟩
        refine ⟨_, rfl, _, rfl, x, x, rfl, rfl, ?_, x * x, _, rfl, rfl, Int.mul_pos hx hx, ?_⟩
        · have h7 : 2 ^ i ≤ 2 ^ 6 := Nat.pow_le_pow_right (by decide) (by omega)
          have h0 : 0 < 2 ^ i := Nat.pow_pos (by decide)
          exact wide_mul hb hb (by omega) (by omega) (by omega)
        · have e := wide_lt hb hb
          rw [show 200 * 2 ^ (i + 1) = 200 * 2 ^ i + 200 * 2 ^ i by rw [Nat.pow_succ]; omega]
          exact e
      · rintro σ H2 ⟨x, y, rfl, rfl, hx, _⟩
        refine ⟨_, rfl, 10, 18, rfl, rfl, ⟨by decide, by decide, by decide⟩, _, _, rfl, rfl, _, _, rfl, _, rfl, _, _, rfl, rfl, hx, _, rfl, _, _, rfl, rfl, (by show (0 : Int) < 2147483647; decide), _, rfl, _, _, rfl, rfl, .inl ⟨by decide, by decide⟩, by show 3 ≤ sizeLine; decide, fun p np => ?_⟩
        exact q p _ (s4.trans (same_new np)) (s4.free np) ⟨_, _, _, upd_same, by omega, by omega⟩
end
end Tg

namespace Tg
open PySem PySem.Spec PyProof.Rows L2
abbrev sCellOf : Stmt := topS 12
abbrev sWhole : Stmt := topS 14
abbrev sCkW : Stmt := topS 17
abbrev sCkw : Stmt := topS 18
abbrev sKeep : Stmt := topS 20
abbrev sCkK : Stmt := topS 21
abbrev sHB : Stmt := topS 22
theorem scCellOf : FnScope ["time", "width"] ["time", "width"] (defScope sCellOf) := ⟨rfl, rfl, rfl, by decide +kernel, rfl, by decide +kernel, by decide +kernel⟩
theorem scWhole : FnScope ["thing"] ["thing"] (defScope sWhole) := ⟨rfl, rfl, rfl, by decide +kernel, rfl, by decide +kernel, by decide +kernel⟩
theorem scCkW : FnScope ["widths", "at", "width"] ["widths"] (defScope sCkW) := ⟨rfl, rfl, rfl, by decide +kernel, rfl, by decide +kernel, by decide +kernel⟩
theorem scCkw : FnScope ["widths", "width"] ["widths", "width"] (defScope sCkw) := ⟨rfl, rfl, rfl, by decide +kernel, rfl, by decide +kernel, by decide +kernel⟩
theorem scKeep : FnScope ["keep", "ahead"] ["keep", "ahead"] (defScope sKeep) := ⟨rfl, rfl, rfl, by decide +kernel, rfl, by decide +kernel, by decide +kernel⟩
theorem scCkK : FnScope ["keeps", "many", "ahead", "at", "keep"] ["keeps", "many"] (defScope sCkK) := ⟨rfl, rfl, rfl, by decide +kernel, rfl, by decide +kernel, by decide +kernel⟩
theorem scHB : FnScope ["horizon", "now", "keep", "width", "reached"] ["horizon", "now", "keep", "width"] (defScope sHB) := ⟨rfl, rfl, rfl, by decide +kernel, rfl, by decide +kernel, by decide +kernel⟩
theorem if_n {c : Bool} {A B : Prop} (h : c = false) (b : B) : if c = true then A else B := by
  subst h
  exact if_f b
theorem if_y {c : Bool} {A B : Prop} (h : c = true) (a : A) : if c = true then A else B := by
  subst h
  exact if_t a
theorem vi_ne {i j : Int} (h : i ≠ j) : decide (V.int i = V.int j) = false := decide_eq_false fun z => h (V.int.inj z)
theorem at_pred {xs : List V} {i : Nat} {v : V} (h : xs[i]? = some v) : atI xs (((i + 1 : Nat) : Int) - 1) = some v := by
  rw [show (((i + 1 : Nat) : Int) - 1) = ((i : Nat) : Int) by omega]
  exact atI_nat h
/-! ### numbers or None -/
def vo : Option Int → V
  | none => .non
  | some i => .int i
/-- widths as the check lets them by -/
structure WOk (ws : List Int) : Prop where
  ne : ws ≠ []
  le : ws.length ≤ 4
  pos : ∀ (i : Nat) (x : Int), ws[i]? = some x → 1 ≤ x ∧ x ≤ 10 ^ 13
  up : ∀ (i : Nat) (x y : Int), ws[i]? = some x → ws[i + 1]? = some y → y ≠ x ∧ y % x = 0
/-- one keep may stand behind another -/
def Stp (a b : Option Int) : Prop := ∀ y, b = some y → ∃ x, a = some x ∧ x ≤ y
structure KOk (ks : List (Option Int)) : Prop where
  fst : ∀ x, ks[0]? = some x → Stp (some 0) x
  up : ∀ (i : Nat) (x y : Option Int), ks[i]? = some x → ks[i + 1]? = some y → Stp x y
/-- the horizon behind a now -/
def hb (h : Option Int) (now : Int) (k : Option Int) (w : Int) : Option Int :=
  match k with
  | none => none
  | some k => some (match h with | none => (now - k) - (now - k) % w | some x => if now - k - (now - k) % w > x then now - k - (now - k) % w else x)
section
variable {P : Program} {w : World} {K : PySem.W.Frag} {mg : Str → Option Value} {base : Heap}
def spCell : Sp := fun vs H Q _ => ∃ t d : Int, vs = [.int t, .int d] ∧ 0 < d ∧ Q (.int (t - t % d)) H
theorem ok_cell {f : Addr} {fd : FuncData} {k : Nat} (F : Fun K "cell_of" "cell_of" sCellOf f fd) : FnOk P w K mg base CX0 (k + 1) f fd ["time", "width"] spCell := by
  refine F.ok scCellOf (fun vs H Q E h => ?_) (fun cdv A outer s H vs Q E hr h => ?_)
  · obtain ⟨t, d, rfl, _⟩ := h
    rfl
  · obtain ⟨t, d, rfl, d0, q⟩ := h
    refine ⟨_, pss_one (ps_ret (pe_op op_sub (pv 0) (pe_op op_mod (pv 0) (pv 1)))), ?_⟩
    exact ⟨_, rfl, _, rfl, _, rfl, _, _, rfl, rfl, d0, _, _, rfl, rfl, q⟩
def spWhole : Sp := fun vs H Q _ => ∃ t : Int, vs = [.int t] ∧ Q (.bl true) H
theorem ok_whole {f : Addr} {fd : FuncData} {k : Nat} (F : Fun K "is_whole" "is_whole" sWhole f fd) (m_isinstance : mg "isinstance" = none) (m_int : mg "int" = none) (m_bool : mg "bool" = none) : FnOk P w K mg base CX0 (k + 1) f fd ["thing"] spWhole := by
  refine F.ok scWhole (fun vs H Q E h => ?_) (fun cdv A outer s H vs Q E hr h => ?_)
  · obtain ⟨t, rfl, _⟩ := h
    rfl
  · obtain ⟨t, rfl, q⟩ := h
    refine ⟨_, pss_one (ps_ret (pe_and (pe_callB call_isi (by rfl) m_isinstance (by decide +kernel) (pa_cons (pv 0) (pa_cons (pe_bltn (v := .ty "int") (by rfl) m_int (by decide +kernel) rfl) pa_nil))) (pe_one (pe_not (pe_callB call_isi (by rfl) m_isinstance (by decide +kernel) (pa_cons (pv 0) (pa_cons (pe_bltn (v := .ty "bool") (by rfl) m_bool (by decide +kernel) rfl) pa_nil))))))), ?_⟩
    refine ⟨_, rfl, _, _, _, _, true, rfl, .ty "int", .base (.int t), rfl, true, rfl, if_t ?_⟩
    exact ⟨_, rfl, _, _, _, _, false, rfl, .ty "bool", .base (.int t), rfl, _, rfl, q⟩
def spCkW (K : PySem.W.Frag) : Sp := fun vs H Q _ => ∃ (a : Addr) (ws : List Int), vs = [.ref a] ∧ SqT K H a (ws.map V.int) ∧ WOk ws ∧ ∀ H', Same H H' → Q .non H'
theorem ok_ckW {f : Addr} {fd : FuncData} {k : Nat} (F : Fun K "check_widths" "check_widths" sCkW f fd) (C_is_whole : Cal P w K mg base k "is_whole" ["thing"] spWhole) {z : Tok} (g_MOST_WIDTHS : mg "MOST_WIDTHS" = some (.int 4 z)) (m_len : mg "len" = none) (m_enumerate : mg "enumerate" = none) :
    FnOk P w K mg base CX0 (k + 1) f fd ["widths"] (spCkW K) := by
  refine F.ok scCkW (fun vs H Q E h => ?_) (fun cdv A outer s H vs Q E hr h => ?_)
  · obtain ⟨a, ws, rfl, _⟩ := h
    rfl
  · obtain ⟨a, ws, rfl, ha, ok, q⟩ := h
    refine ⟨_, pss_cons (ps_if (pt_cmpR op_eq (pe_callB call_len_seq (by rfl) m_len (by decide +kernel) (pa_cons (pv 0) pa_nil)) pe_int (nomark _))
        (pss_one ps_dead)
        pss_nil)
      (pss_one (ps_for PassesOwn.never rfl (pi_enumT (by rfl) m_enumerate (pa_cons (pv 0) pa_nil)) (pg_tup rfl (pgs_cons (pg_name (i := 1) scCkW.nd rfl (.inl rfl)) (pgs_cons (pg_name (i := 2) scCkW.nd rfl (.inl rfl)) pgs_nil)))
        (pss_cons (ps_if (PW.pt (pw_or (pt_cmpR op_eq (pv 1) (pe_glob (v := .int 4) rfl g_MOST_WIDTHS ⟨_, rfl⟩) (nomark _)) (pw_or (pt_not (pt_val (pe_cal C_is_whole (hr.mono (by omega)) (by rfl) (pa_cons (pv 2) pa_nil)))) (pw_or1 (pt_cmpR op_lt (pv 2) pe_int (nomark _))))))
          (pss_one ps_dead)
          pss_nil)
        (pss_one (ps_if (PW.pt (pw_and (pt_cmpR op_gt (pv 1) pe_int (nomark _)) (pw_and1 (PW.pt (pw_or (pt_cmpR op_eq (pv 2) (pe_ix ix_tup (pv 0) (pe_op op_sub (pv 1) pe_int) (fun _ _ => rfl)) (nomark _)) (pw_or1 (pt_cmpR op_gt (pe_op op_mod (pv 2) (pe_ix ix_tup (pv 0) (pe_op op_sub (pv 1) pe_int) (fun _ _ => rfl))) pe_int (nomark _))))))))
          (pss_one ps_dead)
          pss_nil))))), ?_⟩
    have hl : (ws.map V.int).length = ws.length := List.length_map ..
    have l0 : 0 < ws.length := List.length_pos_iff.mpr ok.ne
    refine ⟨_, rfl, a, _, rfl, .inr ha, rfl, _, rfl, if_n (vi_ne (by rw [hl]; omega)) ?_⟩
    refine ⟨_, rfl, a, _, rfl, ha, for_it (walk_enumT (K := K) (a := a) (xs := ws.map V.int)) (fun i σ H2 => ∃ z1 z2 : Option V, σ = [some (.ref a), z1, z2] ∧ Same H H2) ⟨none, none, rfl, Same.refl _⟩ ?_ ?_ ?_⟩
    · rintro i σ H2 _ ⟨z1, z2, _, s2⟩
      exact sqT_same s2 ha
    · rintro i x σ H2 H3 hi ⟨z1, z2, rfl, s2⟩ ⟨T, x1, x2, rfl, nT, rfl, e1, e2⟩
      cases e1
      replace e2 : (ws.map V.int)[i]? = some x2 := e2
      rw [List.getElem?_map] at e2
      obtain ⟨y, hy, rfl⟩ := Option.map_eq_some_iff.mp e2
      have s3 : Same H (upd H2 T (.tup [.int (i : Nat), .int y])) := s2.trans (same_new nT)
      have ha3 := sqT_same s3 ha
      have yp := ok.pos i y hy
      have il : i < 4 := by
        have := ok.le
        rw [hl] at hi
        omega
      refine ⟨T, _, rfl, SqT.of upd_same, rfl, _, _, rfl, _, _, rfl, rfl, ?_⟩
      refine ⟨_, rfl, rfl, _, rfl, if_n (vi_ne (by omega)) ⟨_, rfl, y, rfl, true, rfl, if_f ⟨_, rfl, _, _, rfl, rfl, _, rfl, if_n (decide_eq_false (by omega)) ?_⟩⟩⟩
      cases i with
      | zero => exact ⟨_, rfl, _, _, rfl, rfl, _, rfl, if_n (decide_eq_false (by omega)) (if_f ⟨_, _, rfl, s3⟩)⟩
      | succ i =>
        obtain ⟨x, hx⟩ : ∃ x, ws[i]? = some x := ⟨ws[i]'(by rw [hl] at hi; omega), List.getElem?_eq_getElem _⟩
        have xp := ok.pos i x hx
        obtain ⟨u1, u2⟩ := ok.up i x y hx hy
        have ex : atI (ws.map V.int) (((i + 1 : Nat) : Int) - 1) = some (.int x) := at_pred (by rw [List.getElem?_map, hx]; rfl)
        refine ⟨_, rfl, _, _, rfl, rfl, _, rfl, if_y (decide_eq_true (by omega)) ?_⟩
        refine ⟨_, rfl, _, rfl, _, rfl, _, _, rfl, rfl, a, _, _, .int x, rfl, rfl, ha3, ex, rfl, _, rfl, if_n (vi_ne u1) ?_⟩
        refine ⟨_, rfl, _, rfl, _, rfl, _, _, rfl, rfl, a, _, _, .int x, rfl, rfl, ha3, ex, _, _, rfl, rfl, (by omega), _, _, rfl, rfl, _, rfl, if_n (decide_eq_false (by omega)) ?_⟩
        exact ⟨_, _, rfl, s3⟩
    · rintro σ H2 ⟨z1, z2, rfl, s2⟩
      exact q _ s2
def spCkw (K : PySem.W.Frag) : Sp := fun vs H Q _ => ∃ (a : Addr) (ws : List Int) (x : Int), vs = [.ref a, .int x] ∧ SqT K H a (ws.map V.int) ∧ x ∈ ws ∧ Q .non H
theorem inV_mem {ws : List Int} {x : Int} (h : x ∈ ws) : inV (.int x) (ws.map V.int) = true := by
  unfold inV
  rw [List.any_map, List.any_eq_true]
  exact ⟨x, h, by show eqV (V.int x) (V.int x) = true; simp [eqV]⟩
theorem flat_ints (ws : List Int) : (ws.map V.int).all flatV = true := by
  rw [List.all_map, List.all_eq_true]
  exact fun _ _ => rfl
theorem ok_ckw {f : Addr} {fd : FuncData} {k : Nat} (F : Fun K "check_width" "check_width" sCkw f fd) : FnOk P w K mg base CX0 (k + 1) f fd ["widths", "width"] (spCkw K) := by
  refine F.ok scCkw (fun vs H Q E h => ?_) (fun cdv A outer s H vs Q E hr h => ?_)
  · obtain ⟨a, ws, x, rfl, _⟩ := h
    rfl
  · obtain ⟨a, ws, x, rfl, ha, hx, q⟩ := h
    refine ⟨_, pss_one (ps_if (pt_cmpR op_notIn_seq (pv 1) (pv 0) (by with_unfolding_all rfl))
        (pss_one ps_dead)
        pss_nil), ?_⟩
    refine ⟨_, rfl, _, rfl, a, _, rfl, .inr ha, rfl, flat_ints ws, _, rfl, if_n ?_ q⟩
    show (!inV (.int x) (ws.map V.int)) = false
    rw [inV_mem hx]
    rfl
def spHB : Sp := fun vs H Q _ => ∃ (h : Option Int) (now : Int) (kp : Option Int) (d : Int), vs = [vo h, .int now, vo kp, .int d] ∧ 0 < d ∧ Q (vo (hb h now kp d)) H
theorem ok_hb {f : Addr} {fd : FuncData} {k : Nat} (F : Fun K "horizon_behind" "horizon_behind" sHB f fd) (C_cell_of : Cal P w K mg base k "cell_of" ["time", "width"] spCell) (m_max : mg "max" = none) : FnOk P w K mg base CX0 (k + 1) f fd ["horizon", "now", "keep", "width"] spHB := by
  refine F.ok scHB (fun vs H Q E h => ?_) (fun cdv A outer s H vs Q E hr h => ?_)
  · obtain ⟨h, now, kp, d, rfl, _⟩ := h
    rfl
  · obtain ⟨h, now, kp, d, rfl, d0, q⟩ := h
    refine ⟨_, pss_cons (ps_if (pt_cmpR op_isN (pv 2) pe_non (nomark _))
        (pss_one (ps_ret pe_non))
        pss_nil)
      (pss_cons (ps_set (i := 4) scHB.nd rfl (.inl rfl) (pe_cal C_cell_of (hr.mono (by omega)) (by rfl) (pa_cons (pe_op op_sub (pv 1) (pv 2)) (pa_cons (pv 3) pa_nil))))
      (pss_one (ps_ret (pe_ifExp (pt_cmpR op_isN (pv 0) pe_non (nomark _)) (pv 4) (pe_callB (call_max2 rfl) (by rfl) m_max boot_max (pa_cons (pv 0) (pa_cons (pv 4) pa_nil))))))), ?_⟩
    cases kp with
    | none => exact ⟨_, rfl, rfl, _, rfl, if_y rfl q⟩
    | some kp =>
      refine ⟨_, rfl, rfl, _, rfl, if_n rfl ⟨_, rfl, _, rfl, _, _, rfl, rfl, _, rfl, _, _, rfl, d0, ?_⟩⟩
      cases h with
      | none => exact ⟨_, rfl, rfl, _, rfl, if_y rfl ⟨_, rfl, q⟩⟩
      | some x => exact ⟨_, rfl, rfl, _, rfl, if_n rfl ⟨_, rfl, _, rfl, _, _, rfl, q⟩⟩
end
end Tg

namespace Tg
open PySem PySem.Spec PyProof.Rows L2
abbrev sErrK : Stmt := inClass (topS 8) 0
abbrev sInit : Stmt := inClass (topS 23) 0
theorem scErrK : FnScope ["self", "at"] ["self", "at"] (defScope sErrK) := ⟨rfl, rfl, rfl, by decide +kernel, rfl, by decide +kernel, by decide +kernel⟩
theorem scInit : FnScope ["self", "widths", "keeps"] ["self", "widths", "keeps"] (defScope sInit) := ⟨rfl, rfl, rfl, by decide +kernel, rfl, by decide +kernel, by decide +kernel⟩
/-! ### the mathematics: the first wrong keep -/
/-- may the keep b stand behind a -/
def okB (a b : Option Int) : Bool :=
  match b with
  | none => true
  | some y => match a with
    | none => false
    | some x => decide (x ≤ y)
def wr (many : Nat) : Nat → Option Int → List (Option Int) → Option Nat
  | i, _, [] => if i < many then some i else none
  | i, a, b :: ks => if decide (i = many) = true ∨ okB a b = false then some i else wr many (i + 1) b ks
/-- the place of the first that is wrong -/
def wrong (ks : List (Option Int)) (many : Nat) : Option Nat := wr many 0 (some 0) ks
theorem wr_drop {many : Nat} {ks : List (Option Int)} {i : Nat} {a b : Option Int} (h : ks[i]? = some b) : wr many i a (ks.drop i) = if decide (i = many) = true ∨ okB a b = false then some i else wr many (i + 1) b (ks.drop (i + 1)) := by
  obtain ⟨l, rfl⟩ := List.getElem?_eq_some_iff.mp h
  rw [List.drop_eq_getElem_cons l]
  rfl
theorem wr_end {many : Nat} {ks : List (Option Int)} {a : Option Int} : wr many ks.length a (ks.drop ks.length) = if ks.length < many then some ks.length else none := by
  rw [List.drop_length]
  rfl
/-- where none is wrong there are just so many -/
theorem wr_len {many : Nat} : ∀ {ks : List (Option Int)} {i : Nat} {a : Option Int}, i ≤ many → wr many i a ks = none → i + ks.length = many
  | [], i, a, le, h => by
    unfold wr at h
    split at h
    · cases h
    · show i = many
      omega
  | b :: ks, i, a, le, h => by
    unfold wr at h
    split at h
    · cases h
    · rename_i c
      have ne : i ≠ many := fun z => c (.inl (decide_eq_true z))
      have := wr_len (ks := ks) (i := i + 1) (a := b) (by omega) h
      rw [List.length_cons]
      omega
section
variable {P : Program} {w : World} {K : PySem.W.Frag} {mg : Str → Option Value} {base : Heap} {C CK : Addr}
theorem ok_errK {f : Addr} {fd : FuncData} {k : Nat} (F : Fun K "__init__" "NoKeep.__init__" sErrK f fd) (T : OexC K CK) (hno : PySem.W.findIn K (.ref CK) "at" = some none) (mV : mg "ValueError" = none)
    (vV : PySem.W.findCls K (.type "ValueError") (.type "type") "__init__" = some (.val (.builtin "ValueError.__init__"))) : FnOk P w K mg base CX0 (k + 1) f fd ["self", "at"] (spErr CK "at") := by
  refine F.ok scErrK (fun vs H Q E h => ?_) (fun cdv A outer s H vs Q E hr h => ?_)
  · obtain ⟨a, v, rfl, _⟩ := h
    rfl
  · obtain ⟨a, v, rfl, ha, q⟩ := h
    refine ⟨_, pss_cons (ps_expr (pe_veinit (by rfl) mV vV (pa_cons (pv 0) (pa_cons pe_str pa_nil)))) (pss_one (ps_ost (pv 0) (pv 1))), ?_⟩
    exact ⟨_, rfl, a, CK, _, rfl, by show 1 ≤ 1000; decide, T, ha, _, rfl, _, rfl, a, CK, rfl, T, hno, .inl ⟨ha, fun dx nd da => q dx nd da⟩⟩
def spKeep : Sp := fun vs H Q _ => ∃ (a b : Option Int), vs = [vo b, vo a] ∧ Q (.bl (okB a b)) H
theorem ok_keep {f : Addr} {fd : FuncData} {k : Nat} (F : Fun K "is_keep" "is_keep" sKeep f fd) (C_is_whole : Cal P w K mg base k "is_whole" ["thing"] spWhole) : FnOk P w K mg base CX0 (k + 1) f fd ["keep", "ahead"] spKeep := by
  refine F.ok scKeep (fun vs H Q E h => ?_) (fun cdv A outer s H vs Q E hr h => ?_)
  · obtain ⟨a, b, rfl, _⟩ := h
    rfl
  · obtain ⟨a, b, rfl, q⟩ := h
    refine ⟨_, pss_cons (ps_if (pt_cmpR op_isN (pv 0) pe_non (nomark _))
        (pss_one (ps_ret pe_bl))
        pss_nil)
      (pss_one (ps_ret (pe_and (pe_cal C_is_whole (hr.mono (by omega)) (by rfl) (pa_cons (pv 0) pa_nil)) (pe_and (pe_cmpR op_notN (pv 1) pe_non (nomark _)) (pe_one (pe_cmpR op_ge (pv 0) (pv 1) (nomark _))))))), ?_⟩
    cases b with
    | none => exact ⟨_, rfl, rfl, _, rfl, if_y rfl q⟩
    | some y =>
      cases a with
      | none => exact ⟨_, rfl, rfl, _, rfl, if_n rfl ⟨_, rfl, y, rfl, true, rfl, if_t ⟨_, rfl, rfl, false, rfl, if_f q⟩⟩⟩
      | some x => exact ⟨_, rfl, rfl, _, rfl, if_n rfl ⟨_, rfl, y, rfl, true, rfl, if_t ⟨_, rfl, rfl, true, rfl, if_t ⟨_, rfl, _, rfl, _, _, rfl, rfl, q⟩⟩⟩⟩
def spCkK (K : PySem.W.Frag) (CK : Addr) : Sp := fun vs H Q E => ∃ (a : Addr) (ks : List (Option Int)) (many : Nat), vs = [.ref a, .int many] ∧ SqT K H a (ks.map vo) ∧
  (wrong ks many = none → ∀ H', Same H H' → Q .non H') ∧ (∀ i, wrong ks many = some i → ∀ H' d, Same H H' → H d = none → H' d = some (.xd [("at", .int (i : Nat))]) → E (.ref CK) (some d) H')
theorem ok_ckK {f : Addr} {fd : FuncData} {k : Nat} (F : Fun K "check_keeps" "check_keeps" sCkK f fd) (C_is_keep : Cal P w K mg base k "is_keep" ["keep", "ahead"] spKeep) (C_err : CalE P w K mg base k "NoKeep" CK "at") (m_len : mg "len" = none) (m_enumerate : mg "enumerate" = none) :
    FnOk P w K mg base (L2.CX P w) (k + 2) f fd ["keeps", "many"] (spCkK K CK) := by
  refine F.okX scCkK (fun vs H Q E h => ?_) (fun cdv A outer s H vs Q E hr h => ?_)
  · obtain ⟨a, ks, many, rfl, _⟩ := h
    rfl
  · obtain ⟨a, ks, many, rfl, ha, qY, qN⟩ := h
    refine ⟨_, pss_cons (ps_set (i := 2) scCkK.nd rfl (.inl rfl) pe_int)
      (pss_cons (ps_for (passes_of rfl) rfl (pi_enumT (by rfl) m_enumerate (pa_cons (pv 0) pa_nil)) (pg_tup rfl (pgs_cons (pg_name (i := 3) scCkK.nd rfl (.inl rfl)) (pgs_cons (pg_name (i := 4) scCkK.nd rfl (.inl rfl)) pgs_nil)))
        (pss_cons (ps_if (PW.pt (pw_or (pt_cmpR op_eq (pv 3) (pv 1) (nomark _)) (pw_or1 (pt_not (pt_val (pe_cal C_is_keep (hr.mono (by omega)) (by rfl) (pa_cons (pv 4) (pa_cons (pv 2) pa_nil))))))))
          (pss_one (ps_raise rfl (takes_of rfl rfl rfl rfl) (pm_err C_err hr (by rfl) (pv 3))))
          pss_nil)
        (pss_one (ps_set (i := 2) scCkK.nd rfl (.inl rfl) (pv 4)))))
      (pss_one (ps_if (pt_cmpR op_lt (pe_callB call_len_seq (by rfl) m_len (by decide +kernel) (pa_cons (pv 0) pa_nil)) (pv 1) (nomark _))
        (pss_one (ps_raise rfl (takes_of rfl rfl rfl rfl) (pm_err C_err hr (by rfl) (pe_callB call_len_seq (by rfl) m_len (by decide +kernel) (pa_cons (pv 0) pa_nil)))))
        pss_nil))), ?_⟩
    have hl : (ks.map vo).length = ks.length := List.length_map ..
    refine ⟨_, rfl, a, _, rfl, ha, for_it (walk_enumT (K := K) (a := a) (xs := ks.map vo)) (fun i σ H2 => ∃ (x : Option Int) (z1 z2 : Option V), σ = [some (.ref a), some (.int many), some (vo x), z1, z2] ∧ Same H H2 ∧ wrong ks many = wr many i x (ks.drop i)) ⟨some 0, none, none, rfl, Same.refl _, rfl⟩ ?_ ?_ ?_⟩
    · rintro i σ H2 _ ⟨_, z1, z2, _, s2, _⟩
      exact sqT_same s2 ha
    · rintro i x σ H2 H3 hi ⟨ah, z1, z2, rfl, s2, st⟩ ⟨T, x1, x2, rfl, nT, rfl, e1, e2⟩
      cases e1
      replace e2 : (ks.map vo)[i]? = some x2 := e2
      rw [List.getElem?_map] at e2
      obtain ⟨y, hy, rfl⟩ := Option.map_eq_some_iff.mp e2
      have s3 : Same H (upd H2 T (.tup [.int (i : Nat), vo y])) := s2.trans (same_new nT)
      rw [wr_drop hy] at st
      refine ⟨T, _, rfl, SqT.of upd_same, rfl, _, _, rfl, _, _, rfl, rfl, ?_⟩
      have bad : (decide (i = many) = true ∨ okB ah y = false) → ∀ (d : Addr) (H' : Hp), Same (upd H2 T (.tup [.int (i : Nat), vo y])) H' → (upd H2 T (.tup [.int (i : Nat), vo y])) d = none → H' d = some (.xd [("at", .int (i : Nat))]) → E (.ref CK) (some d) H' := fun c d H' s' nd hd => by
        rw [if_pos c] at st
        exact qN i st H' d (s3.trans s') (s3.free nd) hd
      refine ⟨_, rfl, _, rfl, rfl, _, rfl, ite2 (fun g => ?_) (fun g => ?_)⟩
      · have g1 : decide (i = many) = true := decide_eq_true (by
          have := V.int.inj (of_decide_eq_true g)
          omega)
        exact if_t (err_read ⟨_, rfl, fun d H' s' nd hd => bad (.inl g1) d H' s' nd hd⟩ fun {Q Q'} hq ⟨v, e, q⟩ => ⟨v, e, hq _ _ q⟩)
      · have g1 : ¬ decide (i = many) = true := fun z => g (decide_eq_true (by rw [of_decide_eq_true z]))
        refine ⟨_, rfl, _, rfl, ah, y, rfl, okB ah y, rfl, ?_⟩
        cases c : okB ah y with
        | false => exact if_t (err_read ⟨_, rfl, fun d H' s' nd hd => bad (.inr c) d H' s' nd hd⟩ fun {Q Q'} hq ⟨v, e, q⟩ => ⟨v, e, hq _ _ q⟩)
        | true =>
          refine if_f ⟨_, rfl, y, _, _, rfl, s3, ?_⟩
          rw [st, if_neg (fun z => z.elim g1 fun z => by rw [c] at z; cases z)]
    · rintro σ H2 ⟨ah, z1, z2, rfl, s2, st⟩
      rw [hl, wr_end] at st
      refine ⟨_, rfl, a, _, rfl, .inr (sqT_same s2 ha), _, rfl, _, _, rfl, rfl, _, rfl, ite2 (fun g => ?_) (fun g => ?_)⟩
      · have g1 : ks.length < many := by
          have z := of_decide_eq_true g
          rw [hl] at z
          omega
        rw [if_pos g1] at st
        refine err_read ⟨_, rfl, a, _, rfl, .inr (sqT_same s2 ha), fun d H' s' nd hd => ?_⟩ fun {Q Q'} hq ⟨v, e, a, xs, e1, e2, q⟩ => ⟨v, e, a, xs, e1, e2, hq _ _ q⟩
        rw [hl] at hd
        exact qN _ st H' d (s2.trans s') (s2.free nd) hd
      · have g1 : ¬ ks.length < many := fun z => g (decide_eq_true (by rw [hl]; omega))
        rw [if_neg g1] at st
        exact qY st _ s2
end
end Tg

namespace Tg
open PySem PySem.Spec PyProof.Rows L2
abbrev sExp : Stmt := inClass (topS 23) 1
abbrev sGone : Stmt := inClass (topS 23) 2
abbrev NEx : List Str := ["self", "now", "steps", "horizon", "keep", "step"]
theorem scExp : FnScope NEx ["self", "now"] (defScope sExp) := ⟨rfl, rfl, rfl, by decide +kernel, rfl, by decide +kernel, by decide +kernel⟩
theorem scGone : FnScope ["self", "width"] ["self", "width"] (defScope sGone) := ⟨rfl, rfl, rfl, by decide +kernel, rfl, by decide +kernel, by decide +kernel⟩
/-- a Keeping in the heap -/
def KpO (C : Addr) (H : Hp) (e wa ka ha : Addr) : Prop := ∃ dx, H e = some (.ins C dx [("widths", .ref wa), ("keeps", .ref ka), ("horizons", .ref ha)])
structure TKeep (K : PySem.W.Frag) (C : Addr) : Prop where
  cl : Cls K C
  nw : NoAttr K C "widths"
  nk : NoAttr K C "keeps"
  nh : NoAttr K C "horizons"
/-- the width of a grade -/
def wAt (ws : List Int) (i : Nat) : Int := ws.getD (min i (ws.length - 1)) 1
def newH (ws : List Int) (ks hs : List (Option Int)) (now : Int) : List (Option Int) := (List.range (ws.length + 1)).map fun i => hb (hs.getD i none) now (ks.getD i none) (wAt ws i)
theorem gD {xs : List Int} {i : Nat} {d : Int} (h : i < xs.length) : xs.getD i d = xs[i] := by
  rw [List.getD_eq_getElem?_getD, List.getElem?_eq_getElem h]
  rfl
/-- t[lo:hi] and t + u, wherever they come to stand -/
def rSlU (K : PySem.W.Frag) : V → Option Int → Option Int → Hp → VK → Prop := fun x lo hi H Q => ∃ a xs, x = .ref a ∧ SqT K H a xs ∧ ∀ p H', Same H H' → SqT K H' p (cutV xs lo hi) → Q (.ref p) H'
theorem sl_tupU {X : Cx} : SlR X (rSlU X.K) := by
  rintro pins s σ H _ v vl vu lo hi sl Q I rx hs pl pu ⟨a, xs, rfl, hx, q⟩
  refine sl_tupA pins s σ H _ v vl vu lo hi sl Q I rx hs pl pu ⟨a, xs, rfl, hx, fun c => q a H (Same.refl _) ?_, fun c p np => q p _ (same_new np) (SqT.of upd_same)⟩
  have e : cutV xs lo hi = xs := by
    unfold cutV
    rw [c.1, c.2, List.drop_zero, Nat.sub_zero, List.take_length]
  rw [e]
  exact hx
def rCatU (K : PySem.W.Frag) : R2 := fun x y H Q => ∃ a b xs ys, x = .ref a ∧ y = .ref b ∧ SqT K H a xs ∧ SqT K H b ys ∧ xs.length + ys.length ≤ sizeLine ∧ ∀ p H', Same H H' → SqT K H' p (xs ++ ys) → Q (.ref p) H'
theorem op_catU {X : Cx} : OpR X (binaryOp .Add) (rCatU X.K) := by
  rintro pins s σ H _ _ v u Q I rx ry ⟨a, b, xs, ys, rfl, rfl, ha, hb, hz, q⟩
  refine op_catA pins s σ H _ _ v u Q I rx ry ⟨a, b, xs, ys, rfl, rfl, ha, hb, hz, fun e => q b H (Same.refl _) (by rw [e]; exact hb), fun _ e => q a H (Same.refl _) (by rw [e, List.append_nil]; exact ha), fun _ _ p np => q p _ (same_new np) (SqT.of upd_same)⟩
def wLast (ws : List Int) : Int := ws.getD (ws.length - 1) 1
theorem ws_end {ws : List Int} (h : ws ≠ []) : ws.drop (ws.length - 1) = [wLast ws] := by
  have l0 : 0 < ws.length := List.length_pos_iff.mpr h
  rw [List.drop_eq_getElem_cons (by omega), show ws.length - 1 + 1 = ws.length by omega, List.drop_length]
  unfold wLast
  rw [gD (by omega)]
theorem steps_at {ws : List Int} (h : ws ≠ []) {i : Nat} (hi : i < ws.length + 1) : (ws ++ [wLast ws])[i]? = some (wAt ws i) := by
  have l0 : 0 < ws.length := List.length_pos_iff.mpr h
  unfold wAt
  by_cases c : i < ws.length
  · rw [List.getElem?_append_left c, show min i (ws.length - 1) = i by omega, gD c, List.getElem?_eq_getElem c]
  · rw [List.getElem?_append_right (by omega), show i - ws.length = 0 by omega, show min i (ws.length - 1) = ws.length - 1 by omega]
    rfl
theorem wAt_pos {ws : List Int} (ok : WOk ws) (i : Nat) : 1 ≤ wAt ws i ∧ wAt ws i ≤ 10 ^ 13 := by
  have l0 : 0 < ws.length := List.length_pos_iff.mpr ok.ne
  refine ok.pos (min i (ws.length - 1)) _ ?_
  unfold wAt
  rw [gD (by omega), List.getElem?_eq_getElem (by omega)]
theorem getD_of {α : Type} {xs : List α} {i : Nat} {d x : α} (h : xs[i]? = some x) : xs.getD i d = x := by
  rw [List.getD_eq_getElem?_getD, h]
  rfl
theorem map_at {α : Type} {f : α → V} {xs : List α} {i : Nat} {v : V} (h : (xs.map f)[i]? = some v) : ∃ x, xs[i]? = some x ∧ v = f x := by
  rw [List.getElem?_map] at h
  obtain ⟨x, h1, h2⟩ := Option.map_eq_some_iff.mp h
  exact ⟨x, h1, h2.symm⟩
theorem newH_len (ws : List Int) (ks hs : List (Option Int)) (now : Int) : (newH ws ks hs now).length = ws.length + 1 := by
  simp only [newH, List.length_map, List.length_range]
theorem newH_at {ws : List Int} {ks hs : List (Option Int)} {now : Int} {i : Nat} {h k : Option Int} (e1 : hs[i]? = some h) (e2 : ks[i]? = some k) (hi : i < ws.length + 1) : (newH ws ks hs now)[i]? = some (hb h now k (wAt ws i)) := by
  unfold newH
  rw [List.getElem?_map, List.getElem?_range hi]
  show some (hb (hs.getD i none) now (ks.getD i none) (wAt ws i)) = _
  rw [getD_of e1, getD_of e2]
section
variable {P : Program} {w : World} {K : PySem.W.Frag} {mg : Str → Option Value} {base : Heap} {C CK : Addr}
def spInit (K : PySem.W.Frag) (C CK : Addr) : Sp := fun vs H Q E => ∃ (p dx wa ka : Addr) (ws : List Int) (ks : List (Option Int)), vs = [.ref p, .ref wa, .ref ka] ∧ H p = some (.ins C dx []) ∧ SqT K H wa (ws.map V.int) ∧ WOk ws ∧ SqT K H ka (ks.map vo) ∧
  (wrong ks (ws.length + 1) = none → ∀ (ha : Addr) (H' : Hp), KpO C H' p wa ka ha → H' ha = some (.tup ((List.replicate ks.length none).map vo)) → Kp p H H' → Q .non H') ∧
  (∀ i, wrong ks (ws.length + 1) = some i → ∀ H' d, Same H H' → H d = none → H' d = some (.xd [("at", .int (i : Nat))]) → E (.ref CK) (some d) H')
theorem rep_none (n : Nat) : (List.replicate n [V.non]).flatten = (List.replicate n none).map vo := by
  induction n with
  | zero => rfl
  | succ n ih =>
    rw [List.replicate_succ, List.flatten_cons, ih, List.replicate_succ]
    rfl
theorem ok_init {f : Addr} {fd : FuncData} {k : Nat} (F : Fun K "__init__" "Keeping.__init__" sInit f fd) (T : TKeep K C) (C_check_widths : Cal P w K mg base k "check_widths" ["widths"] (spCkW K)) (C_check_keeps : CalR P w K mg base k "check_keeps" ["keeps", "many"] (spCkK K CK)) (m_len : mg "len" = none) (m_tuple : mg "tuple" = none) :
    FnOk P w K mg base (L2.CX P w) (k + 1) f fd ["self", "widths", "keeps"] (spInit K C CK) := by
  refine F.okX scInit (fun vs H Q E h => ?_) (fun cdv A outer s H vs Q E hr h => ?_)
  · obtain ⟨p, dx, wa, ka, ws, ks, rfl, _⟩ := h
    rfl
  · obtain ⟨p, dx, wa, ka, ws, ks, rfl, hp, hw, wok, hk, qY, qN⟩ := h
    refine ⟨_, pss_cons (ps_expr (pe_cal C_check_widths (hr.mono (by omega)) (by rfl) (pa_cons (pv 1) pa_nil)))
      (pss_cons (ps_expr (pe_calR (E := E) C_check_keeps (hr.mono (by omega)) (by rfl) (passes_call (takes_of rfl rfl rfl rfl) (fun _ _ _ _ z => z)) (pa_cons (pv 2) (pa_cons (pe_op op_add (pe_callB call_len_seq (by rfl) m_len (by decide +kernel) (pa_cons (pv 1) pa_nil)) pe_int) pa_nil))))
      (pss_cons (ps_fld (pv 0) (pe_callTy call_tuple_of (by rfl) m_tuple (by decide +kernel) (pa_cons (pv 1) pa_nil)) rfl)
      (pss_cons (ps_fld (pv 0) (pe_callTy call_tuple_of (by rfl) m_tuple (by decide +kernel) (pa_cons (pv 2) pa_nil)) rfl)
      (pss_one (ps_fld (pv 0) (pe_op op_repT (pe_tup (pa_cons pe_non pa_nil)) (pe_callB call_len_seq (by rfl) m_len (by decide +kernel) (pa_cons (pe_fld (pv 0) rfl) pa_nil))) rfl))))), ?_⟩
    have l0 : 0 < ws.length := List.length_pos_iff.mpr wok.ne
    have l4 := wok.le
    have lw : (ws.map V.int).length = ws.length := List.length_map ..
    have lk : (ks.map vo).length = ks.length := List.length_map ..
    refine ⟨_, rfl, wa, ws, rfl, hw, wok, fun H1 s1 => ?_⟩
    refine ⟨_, rfl, _, rfl, wa, _, rfl, .inr (sqT_same s1 hw), _, _, rfl, rfl, ka, ks, ws.length + 1, (by rw [lw]; rfl), sqT_same s1 hk, fun g H2 s2 => ?_, fun i g H2 d s2 nd hd => qN i g H2 d (s1.trans s2) (s1.free nd) hd⟩
    have hl : ks.length = ws.length + 1 := by
      have z := wr_len (Nat.zero_le _) g
      omega
    have q := qY g
    have s12 := s1.trans s2
    have hp2 := s12 _ _ hp
    refine ⟨_, rfl, wa, _, rfl, .inr ⟨sqT_same s12 hw, _, rfl, p, C, dx, [], rfl, hp2, T.cl, T.nw, (by show 0 < 1000; decide), ?_⟩⟩
    obtain ⟨H3, e3⟩ : ∃ H3, upd H2 p (.ins C dx (putF "widths" (.ref wa) [])) = H3 := ⟨_, rfl⟩
    have hp3 : H3 p = some (.ins C dx [("widths", .ref wa)]) := by
      rw [← e3]
      exact upd_same
    have k3 : Kp p H H3 := by
      rw [← e3]
      exact (Kp.of s12).trans Kp.put
    have kt3 : KT H H3 := KT.kp k3 hp nfix_ins
    rw [e3]
    refine ⟨_, rfl, ka, _, rfl, .inr ⟨sqT_kt kt3 hk, _, rfl, p, C, dx, _, rfl, hp3, T.cl, T.nk, (by show 1 < 1000; decide), ?_⟩⟩
    obtain ⟨H4, e4⟩ : ∃ H4, upd H3 p (.ins C dx (putF "keeps" (.ref ka) [("widths", .ref wa)])) = H4 := ⟨_, rfl⟩
    have hp4 : H4 p = some (.ins C dx [("widths", .ref wa), ("keeps", .ref ka)]) := by
      rw [← e4]
      exact upd_same
    have k4 : Kp p H H4 := by
      rw [← e4]
      exact k3.trans Kp.put
    have kt4 : KT H H4 := KT.kp k4 hp nfix_ins
    rw [e4]
    refine ⟨by show 1 ≤ sizeLine; decide, fun t nt => ?_⟩
    have s5 := same_new (o := .tup [.non]) nt
    have hp5 := s5 _ _ hp4
    refine ⟨_, rfl, p, C, dx, _, .ref ka, rfl, hp5, T.cl, T.nk, rfl, ka, _, rfl, .inr (sqT_same s5 (sqT_kt kt4 hk)), ?_⟩
    refine ⟨t, _, [.non], rfl, rfl, SqT.of upd_same, (fun z => nomatch z), by rw [lk]; omega, by rw [lk]; omega, (by show 1 ≤ 1000; decide), fun r nr => ?_⟩
    have s6 := same_new (o := .tup (List.replicate (((ks.map vo).length : Nat) : Int).toNat [V.non]).flatten) nr
    have hp6 := s6 _ _ hp5
    refine ⟨_, rfl, p, C, dx, _, rfl, hp6, T.cl, T.nh, (by show 2 < 1000; decide), ?_⟩
    have npr : p ≠ r := ne_of_none hp5 nr
    refine q r _ ⟨dx, upd_same⟩ ?_ ((k4.trans (Kp.of (s5.trans s6))).trans Kp.put)
    rw [upd_ne npr.symm, upd_same, lk, Int.toNat_natCast, rep_none]
def spExp (K : PySem.W.Frag) (C : Addr) : Sp := fun vs H Q _ => ∃ (e wa ka ha : Addr) (ws : List Int) (ks hs : List (Option Int)) (now : Int), vs = [.ref e, .int now] ∧ KpO C H e wa ka ha ∧ SqT K H wa (ws.map V.int) ∧ WOk ws ∧ SqT K H ka (ks.map vo) ∧ SqT K H ha (hs.map vo) ∧ ks.length = ws.length + 1 ∧ hs.length = ws.length + 1 ∧
  ∀ (ha' : Addr) (H' : Hp), KpO C H' e wa ka ha' → H' ha' = some (.tup ((newH ws ks hs now).map vo)) → Kp e H H' → Q (.ref ha') H'
theorem ok_exp {f : Addr} {fd : FuncData} {k : Nat} (F : Fun K "expire" "Keeping.expire" sExp f fd) (T : TKeep K C) (C_horizon_behind : Cal P w K mg base k "horizon_behind" ["horizon", "now", "keep", "width"] spHB) (m_zip : mg "zip" = none) (m_tuple : mg "tuple" = none) :
    FnOk P w K mg base CX0 (k + 1) f fd ["self", "now"] (spExp K C) := by
  refine F.ok scExp (fun vs H Q E h => ?_) (fun cdv A outer s H vs Q E hr h => ?_)
  · obtain ⟨e, wa, ka, ha, ws, ks, hs, now, rfl, _⟩ := h
    rfl
  · obtain ⟨e, wa, ka, ha, ws, ks, hs, now, rfl, ⟨dx, he⟩, hw, wok, hk, hh, lk, lh, q⟩ := h
    refine ⟨_, pss_cons (ps_set (i := 2) scExp.nd rfl (.inl rfl) (pe_op op_catU (pe_fld (pv 0) rfl) (pe_slice sl_tupU (pe_fld (pv 0) rfl) (po_some (pe_un un_neg pe_int)) po_none)))
      (pss_cons (ps_fld (pv 0) (pe_callTy call_tuple_of (by rfl) m_tuple (by decide +kernel) (pa_cons (pe_lc (own := [("horizon", 3), ("keep", 4), ("step", 5)]) (g := gTup K 3 _) (tt := tYes) rfl scExp.nd (pi_zip3T (by rfl) m_zip (pa_cons (pe_fld (pv 0) rfl) (pa_cons (pe_fld (pv 0) rfl) (pa_cons (pv 2) pa_nil)))) (blkOk_by (own := [("horizon", 3), ("keep", 4), ("step", 5)]) (N := NEx) (sc := defScope sExp) (by decide +kernel)) (fun _ _ _ _ _ => (pg_tup rfl (pgs_cons (pg_name (i := 3) scExp.nd rfl (.inl rfl)) (pgs_cons (pg_name (i := 4) scExp.nd rfl (.inl rfl)) (pgs_cons (pg_name (i := 5) scExp.nd rfl (.inl rfl)) pgs_nil))))) (fun _ _ _ _ _ => pts_nil) (fun _ _ _ _ _ => (pe_cal C_horizon_behind (hr.mono (by omega)) (by rfl) (pa_cons (pv 3) (pa_cons (pv 1) (pa_cons (pv 4) (pa_cons (pv 5) pa_nil))))))) pa_nil)) rfl)
      (pss_one (ps_ret (pe_fld (pv 0) rfl)))), ?_⟩
    have l0 : 0 < ws.length := List.length_pos_iff.mpr wok.ne
    have l4 := wok.le
    have lw : (ws.map V.int).length = ws.length := List.length_map ..
    refine ⟨_, rfl, e, C, dx, _, .ref wa, rfl, he, T.cl, T.nw, rfl, _, rfl, e, C, dx, _, .ref wa, rfl, he, T.cl, T.nw, rfl, 1, rfl, -1, rfl, wa, _, rfl, hw, fun y H1 s1 hy => ?_⟩
    have ey : cutV (ws.map V.int) (some (-1)) none = [wLast ws].map V.int := by
      unfold cutV
      have e1 : HT.sIx (ws.map V.int).length 0 (some (-1)) = ws.length - 1 := by
        rw [lw]
        show (if (-1 : Int) < 0 then (-1 + (ws.length : Int)).toNat else min (-1 : Int).toNat ws.length) = _
        rw [if_pos (by decide)]
        omega
      have e2 : HT.sIx (ws.map V.int).length (ws.map V.int).length none = ws.length := lw
      rw [e1, e2, ← List.map_drop, ws_end wok.ne, show ws.length - (ws.length - 1) = 1 by omega]
      rfl
    rw [ey] at hy
    refine ⟨wa, y, _, _, rfl, rfl, sqT_same s1 hw, hy, (by rw [lw]; exact Nat.le_of_lt (small1000 (by show ws.length + 1 ≤ 1000; omega))), fun st H2 s2 hst => ?_⟩
    rw [← List.map_append] at hst
    have s12 := s1.trans s2
    have he2 := s12 _ _ he
    have hh2 := sqT_same s12 hh
    have hk2 := sqT_same s12 hk
    refine ⟨_, rfl, e, C, dx, _, .ref ha, rfl, he2, T.cl, T.nh, rfl, _, rfl, e, C, dx, _, .ref ka, rfl, he2, T.cl, T.nk, rfl, _, rfl, ha, ka, st, _, _, _, rfl, hh2, hk2, hst, fun D nD => ?_⟩
    have lx : (hs.map vo).length = ws.length + 1 := by rw [List.length_map, lh]
    refine lc_it (walk_zip3T (K := K) (a := ha) (b := ka) (c := st) (xs := hs.map vo) (ys := ks.map vo) (zs := (ws ++ [wLast ws]).map V.int) (by rw [List.length_map, List.length_map, lk, lh]) (by rw [List.length_map, List.length_map, List.length_append, lh]; rfl)) (fun j Hc => Same H2 Hc ∧ Hc D = some (.lst (((newH ws ks hs now).take j).map vo))) ?_ ?_ ?_ ?_
    · exact ⟨same_new nD, upd_same⟩
    · rintro j Hc _ ⟨sc, _⟩
      exact ⟨sqT_same sc hh2, sqT_same sc hk2, sqT_same sc hst⟩
    · rintro j x Hc Hd hj ⟨sc, hD⟩ ⟨t, x1, x2, x3, rfl, nt, rfl, f1, f2, f3⟩
      obtain ⟨h, eh, rfl⟩ := map_at f1
      obtain ⟨kp, ek, rfl⟩ := map_at f2
      obtain ⟨d, ed, rfl⟩ := map_at f3
      have hj' : j < ws.length + 1 := by
        rw [lx] at hj
        exact hj
      rw [steps_at wok.ne hj'] at ed
      cases ed
      have d0 := wAt_pos wok j
      refine ⟨t, _, rfl, SqT.of upd_same, rfl, _, _, rfl, _, _, rfl, _, _, rfl, rfl, rfl, ?_⟩
      unfold tYes
      refine (if_pos rfl).mpr ?_
      refine ⟨_, rfl, _, rfl, _, rfl, _, rfl, h, now, kp, wAt ws j, rfl, by omega, ?_⟩
      have st2 := same_new (o := .tup [vo h, vo kp, V.int (wAt ws j)]) nt
      refine ⟨_, st2 _ _ hD, ?_, same_put nD (sc.trans st2), ?_⟩
      · rw [List.length_map]
        exact small1000 (by have := List.length_take_le j (newH ws ks hs now); omega)
      · rw [upd_same, List.take_add_one, newH_at eh ek hj', List.map_append]
        rfl
    · rintro Hc ⟨sc, hD⟩
      rw [lx, ← newH_len ws ks hs now, List.take_length] at hD
      refine ⟨D, _, rfl, .inl ⟨SqL.of hD, fun t nt => ?_⟩⟩
      have st2 := same_new (o := .tup ((newH ws ks hs now).map vo)) nt
      have het := st2 _ _ (sc _ _ he2)
      refine ⟨_, rfl, e, C, dx, _, rfl, het, T.cl, T.nh, (by show 3 < 1000; decide), ?_⟩
      have nte : t ≠ e := (ne_of_none (sc _ _ he2) nt).symm
      obtain ⟨H4, e4⟩ : ∃ H4, upd (upd Hc t (.tup ((newH ws ks hs now).map vo))) e (.ins C dx (putF "horizons" (.ref t) [("widths", .ref wa), ("keeps", .ref ka), ("horizons", .ref ha)])) = H4 := ⟨_, rfl⟩
      have he4 : H4 e = some (.ins C dx [("widths", .ref wa), ("keeps", .ref ka), ("horizons", .ref t)]) := by
        rw [← e4]
        exact upd_same
      have k4 : Kp e H H4 := by
        rw [← e4]
        exact (Kp.of ((s12.trans sc).trans st2)).trans Kp.put
      have ht4 : H4 t = some (.tup ((newH ws ks hs now).map vo)) := by
        rw [← e4, upd_ne nte, upd_same]
      rw [e4]
      exact ⟨_, rfl, e, C, dx, _, .ref t, rfl, he4, T.cl, T.nh, rfl, q t H4 ⟨dx, he4⟩ ht4 k4⟩
def spGone (K : PySem.W.Frag) (C : Addr) : Sp := fun vs H Q _ => ∃ (e wa ka ha : Addr) (ws : List Int) (hs : List (Option Int)) (i : Nat) (h : Option Int) (x : V), vs = [.ref e, x] ∧ KpO C H e wa ka ha ∧ NdT H wa (ws.map V.int) ∧ ws.Nodup ∧ SqT K H ha (hs.map vo) ∧ hs[i]? = some h ∧ ((i = 0 ∧ x = .non) ∨ ∃ j y, i = j + 1 ∧ ws[j]? = some y ∧ x = .int y) ∧ Q (vo h) H
theorem ok_gone {f : Addr} {fd : FuncData} {dvs : List V} {kws : List (Str × V)} {k : Nat} (F : FunD K "gone_before" "Keeping.gone_before" (defArgs sGone) (defBody sGone) (defScope sGone) dvs kws f fd) (T : TKeep K C) (C_check_width : Cal P w K mg base k "check_width" ["widths", "width"] (spCkw K)) :
    FnOk P w K mg base CX0 (k + 1) f fd ["self", "width"] (spGone K C) := by
  refine F.ok scGone (fun vs H Q E h => ?_) (fun cdv A outer s H vs Q E hr h => ?_)
  · obtain ⟨e, wa, ka, ha, ws, hs, i, h, x, rfl, _⟩ := h
    rfl
  · obtain ⟨e, wa, ka, ha, ws, hs, i, h, x, rfl, ⟨dx, he⟩, hw, nd, hh, eh, cs, q⟩ := h
    refine ⟨_, pss_cons (ps_if (pt_cmpR op_isN (pv 1) pe_non (nomark _))
        (pss_one (ps_ret (pe_ix ix_tup (pe_fld (pv 0) rfl) pe_int (fun _ _ => rfl))))
        pss_nil)
      (pss_cons (ps_expr (pe_cal C_check_width (hr.mono (by omega)) (by rfl) (pa_cons (pe_fld (pv 0) rfl) (pa_cons (pv 1) pa_nil))))
      (pss_one (ps_ret (pe_ix ix_tup (pe_fld (pv 0) rfl) (pe_op op_add pe_int (pe_bmF PySem.F.slot_tuple_index PySem.F.type_tuple_index mt_tup_indexI (pe_fld (pv 0) rfl) (pa_cons (pv 1) pa_nil))) (fun _ _ => rfl))))), ?_⟩
    have ev : (hs.map vo)[i]? = some (vo h) := by rw [List.getElem?_map, eh]; rfl
    rcases cs with ⟨rfl, rfl⟩ | ⟨j, y, rfl, ey, rfl⟩
    · exact ⟨_, rfl, rfl, _, rfl, if_y rfl ⟨_, rfl, e, C, dx, _, .ref ha, rfl, he, T.cl, T.nh, rfl, ha, _, _, _, rfl, rfl, hh, atI_nat ev, q⟩⟩
    · have ym := List.mem_of_getElem? ey
      have ix : ws.idxOf y = j := by
        obtain ⟨hj, e1⟩ := List.getElem?_eq_some_iff.mp ey
        rw [← e1]
        exact nd.idxOf_getElem j hj
      refine ⟨_, rfl, rfl, _, rfl, if_n rfl ⟨_, rfl, e, C, dx, _, .ref wa, rfl, he, T.cl, T.nw, rfl, _, rfl, wa, ws, y, rfl, hw.sq, ym, ?_⟩⟩
      refine ⟨_, rfl, e, C, dx, _, .ref ha, rfl, he, T.cl, T.nh, rfl, _, rfl, e, C, dx, _, .ref wa, rfl, he, T.cl, T.nw, rfl, ?_⟩
      obtain ⟨ob, nod, ew⟩ := id hw
      refine ⟨⟨wa, ob, _, rfl, nod, ew⟩, _, rfl, wa, ws, y, rfl, rfl, hw.sq, ym, _, _, rfl, rfl, ha, _, _, _, rfl, rfl, hh, ?_, q⟩
      rw [ix, show (1 + ((j : Nat) : Int)) = ((j + 1 : Nat) : Int) by omega]
      exact atI_nat ev
end
end Tg

namespace Tg
open PySem PySem.Spec PyProof.Rows L2
abbrev sWidths : Stmt := topS 29
abbrev sRis : Stmt := topS 30
abbrev sBent : Stmt := topS 31
abbrev sWrong : Stmt := topS 32
abbrev NRi : List Str := ["_law_purse_here", "_law_many", "_law_keep", "_law_found", "_law_k", "_law_ends"]
theorem scWidths : FnScope ["_law_purse_here", "_law_some"] ["_law_purse_here"] (defScope sWidths) := ⟨rfl, rfl, rfl, by decide +kernel, rfl, by decide +kernel, by decide +kernel⟩
theorem scRis : FnScope NRi ["_law_purse_here", "_law_many"] (defScope sRis) := ⟨rfl, rfl, rfl, by decide +kernel, rfl, by decide +kernel, by decide +kernel⟩
theorem scBent : FnScope ["_law_purse_here", "_law_some_keeps", "_law_way", "_law_at"] ["_law_purse_here", "_law_some_keeps"] (defScope sBent) := ⟨rfl, rfl, rfl, by decide +kernel, rfl, by decide +kernel, by decide +kernel⟩
theorem scWrong : FnScope ["_law_some_keeps", "_law_many", "_law_at", "_law_keep", "_law_ahead"] ["_law_some_keeps", "_law_many"] (defScope sWrong) := ⟨rfl, rfl, rfl, by decide +kernel, rfl, by decide +kernel, by decide +kernel⟩
theorem cut_to (xs : List V) (a : Nat) : cutV xs none (some (a : Int)) = xs.take a := by
  unfold cutV
  rw [HT.sIx_none, HT.sIx_nat, List.drop_zero, Nat.sub_zero]
  rcases Nat.le_total a xs.length with h | h
  · rw [Nat.min_eq_left h]
  · rw [Nat.min_eq_right h, List.take_length, List.take_of_length_le h]
theorem cut_from (xs : List V) (a : Nat) : cutV xs (some (a : Int)) none = xs.drop a := by
  unfold cutV
  rw [HT.sIx_none, HT.sIx_nat]
  rcases Nat.le_total a xs.length with h | h
  · rw [Nat.min_eq_left h]
    exact List.take_of_length_le (by rw [List.length_drop]; exact Nat.le_refl _)
  · rw [Nat.min_eq_right h, List.drop_length, List.drop_of_length_le h, List.take_nil]
/-! ### a row of written tuples -/
def Fa (H : Hp) (as : List Addr) (wss : List (List Int)) : Prop := as.length = wss.length ∧ ∀ (i : Nat) (a : Addr) (ws : List Int), as[i]? = some a → wss[i]? = some ws → NdT H a (ws.map V.int)
theorem Fa.same {H H' : Hp} {as : List Addr} {wss : List (List Int)} (h : Fa H as wss) (s : Same H H') : Fa H' as wss := ⟨h.1, fun i a ws e1 e2 => (h.2 i a ws e1 e2).same s⟩
def TW (wss : List (List Int)) : TA := fun _ H Q => ∀ (as : List Addr) (H' : Hp), Same H H' → Fa H' as wss → Q (as.map V.ref) H'
section
variable {X : Cx}
theorem pa_tw0 : PA X [] (TW []) := ⟨fun pos pins s σ H Q I h => pa_nil.run pos pins s σ H Q I (h [] H (Same.refl _) ⟨rfl, fun i a ws e => nomatch e⟩)⟩
theorem pa_tw {e : Expr} {es : List Expr} {t : TA} {ws : List Int} {wss : List (List Int)} (he : PE X e (tTupF t)) (ht : ∀ σ H Q, Q (ws.map V.int) H → t σ H Q) (hs : ws.length ≤ sizeLine) (h : PA X es (TW wss)) (st : starEach (e :: es) X.env = (false, eval e X.env) :: starEach es X.env := by rfl) : PA X (e :: es) (TW (ws :: wss)) := by
  refine ⟨fun pos pins s σ H Q I q => (pa_cons he h st).run pos pins s σ H Q I ?_⟩
  refine ht _ _ _ ⟨by rw [List.length_map]; exact hs, fun p ob nod np as H' sm fa => ?_⟩
  refine q (p :: as) H' ((same_new np).trans sm) ⟨congrArg Nat.succ fa.1, fun i a us e1 e2 => ?_⟩
  cases i with
  | zero =>
    cases e1
    cases e2
    exact ⟨ob, nod, sm _ _ upd_same⟩
  | succ i => exact fa.2 i a us e1 e2
end
theorem wok1 (a : Int) (h : 1 ≤ a ∧ a ≤ 10 ^ 13) : WOk [a] where
  ne := fun z => nomatch z
  le := by show 1 ≤ 4; decide
  pos := fun i x e => match i, e with
    | 0, rfl => h
  up := fun i x y e1 e2 => match i, e2 with
    | n + 1, e => nomatch e
theorem wok2 (a b : Int) (h : (1 ≤ a ∧ a ≤ 10 ^ 13) ∧ (1 ≤ b ∧ b ≤ 10 ^ 13) ∧ (b ≠ a ∧ b % a = 0)) : WOk [a, b] where
  ne := fun z => nomatch z
  le := by show 2 ≤ 4; decide
  pos := fun i x e => match i, e with
    | 0, rfl => h.1
    | 1, rfl => h.2.1
  up := fun i x y e1 e2 => match i, e1, e2 with
    | 0, rfl, rfl => h.2.2
theorem wok3 (a b c : Int) (h : (1 ≤ a ∧ a ≤ 10 ^ 13) ∧ (1 ≤ b ∧ b ≤ 10 ^ 13) ∧ (1 ≤ c ∧ c ≤ 10 ^ 13) ∧ (b ≠ a ∧ b % a = 0) ∧ (c ≠ b ∧ c % b = 0)) : WOk [a, b, c] where
  ne := fun z => nomatch z
  le := by show 3 ≤ 4; decide
  pos := fun i x e => match i, e with
    | 0, rfl => h.1
    | 1, rfl => h.2.1
    | 2, rfl => h.2.2.1
  up := fun i x y e1 e2 => match i, e1, e2 with
    | 0, rfl, rfl => h.2.2.2.1
    | 1, rfl, rfl => h.2.2.2.2
theorem wok4 (a b c d : Int) (h : (1 ≤ a ∧ a ≤ 10 ^ 13) ∧ (1 ≤ b ∧ b ≤ 10 ^ 13) ∧ (1 ≤ c ∧ c ≤ 10 ^ 13) ∧ (1 ≤ d ∧ d ≤ 10 ^ 13) ∧ (b ≠ a ∧ b % a = 0) ∧ (c ≠ b ∧ c % b = 0) ∧ (d ≠ c ∧ d % c = 0)) : WOk [a, b, c, d] where
  ne := fun z => nomatch z
  le := by show 4 ≤ 4; decide
  pos := fun i x e => match i, e with
    | 0, rfl => h.1
    | 1, rfl => h.2.1
    | 2, rfl => h.2.2.1
    | 3, rfl => h.2.2.2.1
  up := fun i x y e1 e2 => match i, e1, e2 with
    | 0, rfl, rfl => h.2.2.2.2.1
    | 1, rfl, rfl => h.2.2.2.2.2.1
    | 2, rfl, rfl => h.2.2.2.2.2.2
def wss1 : List (List Int) := [[1], [10], [60, 3600], [7, 14, 140], [2, 6, 18, 90], [1, 5, 1000000000], [5, 10, 1000000000000]]
def wss2 : List (List Int) := [[1, 2, 4, 8], [12, 24], [3, 30, 300, 300000000]]
theorem wss_ok (ws : List Int) (h : ws ∈ wss1 ++ wss2) : WOk ws ∧ ws.Nodup := by
  have h' : ws ∈ [[1], [10], [60, 3600], [7, 14, 140], [2, 6, 18, 90], [1, 5, 1000000000], [5, 10, 1000000000000], [1, 2, 4, 8], [12, 24], [3, 30, 300, 300000000]] := h
  simp only [List.mem_cons, List.not_mem_nil, or_false] at h'
  rcases h' with rfl | rfl | rfl | rfl | rfl | rfl | rfl | rfl | rfl | rfl
  · exact ⟨wok1 _ (by decide), by decide⟩
  · exact ⟨wok1 _ (by decide), by decide⟩
  · exact ⟨wok2 _ _ (by decide), by decide⟩
  · exact ⟨wok3 _ _ _ (by decide), by decide⟩
  · exact ⟨wok4 _ _ _ _ (by decide), by decide⟩
  · exact ⟨wok3 _ _ _ (by decide), by decide⟩
  · exact ⟨wok3 _ _ _ (by decide), by decide⟩
  · exact ⟨wok4 _ _ _ _ (by decide), by decide⟩
  · exact ⟨wok2 _ _ (by decide), by decide⟩
  · exact ⟨wok4 _ _ _ _ (by decide), by decide⟩
section
variable {P : Program} {w : World} {K : PySem.W.Frag} {mg : Str → Option Value} {base : Heap} {C : Addr}
abbrev CDraw (P : Program) (w : World) (K : PySem.W.Frag) (mg : Str → Option Value) (base : Heap) (k : Nat) : Prop := Cal P w K mg base k "_law_draw" ["_law_purse_here", "_law_out_of"] spDraw
def spWidths : Sp := fun vs H Q _ => ∃ (p : Addr) (n : Nat), vs = [.ref p] ∧ Pu H p n ∧ n < 2 ^ 37 ∧ ∀ (a : Addr) (ws : List Int) (H' : Hp), Kp p H H' → Pu H' p (n + 2) → NdT H' a (ws.map V.int) → WOk ws → ws.Nodup → Q (.ref a) H'
theorem ok_widths {f : Addr} {fd : FuncData} {k : Nat} (F : Fun K "_law_widths" "_law_widths" sWidths f fd) (L_draw : CDraw P w K mg base k) (m_len : mg "len" = none) : FnOk P w K mg base CX0 (k + 1) f fd ["_law_purse_here"] spWidths := by
  refine F.ok scWidths (fun vs H Q E h => ?_) (fun cdv A outer s H vs Q E hr h => ?_)
  · obtain ⟨p, n, rfl, _⟩ := h
    rfl
  · obtain ⟨p, n, rfl, hp, hn, q⟩ := h
    refine ⟨_, pss_cons (ps_set (i := 1) scWidths.nd rfl (.inl rfl) (pe_lst (t := TW wss1) (pa_tw (ws := [1]) (pe_tupF (pa_cons pe_int pa_nil)) (fun _ _ _ q => q) (by decide) (pa_tw (ws := [10]) (pe_tupF (pa_cons pe_int pa_nil)) (fun _ _ _ q => q) (by decide) (pa_tw (ws := [60, 3600]) (pe_tupF (pa_cons pe_int (pa_cons pe_int pa_nil))) (fun _ _ _ q => q) (by decide) (pa_tw (ws := [7, 14, 140]) (pe_tupF (pa_cons pe_int (pa_cons pe_int (pa_cons pe_int pa_nil)))) (fun _ _ _ q => q) (by decide) (pa_tw (ws := [2, 6, 18, 90]) (pe_tupF (pa_cons pe_int (pa_cons pe_int (pa_cons pe_int (pa_cons pe_int pa_nil))))) (fun _ _ _ q => q) (by decide) (pa_tw (ws := [1, 5, 1000000000]) (pe_tupF (pa_cons pe_int (pa_cons pe_int (pa_cons pe_int pa_nil)))) (fun _ _ _ q => q) (by decide) (pa_tw (ws := [5, 10, 1000000000000]) (pe_tupF (pa_cons pe_int (pa_cons pe_int (pa_cons pe_int pa_nil)))) (fun _ _ _ q => q) (by decide) pa_tw0)))))))))
      (pss_cons (ps_set (i := 1) scWidths.nd rfl (.inl rfl) (pe_op op_cat (pv 1) (pe_lst (t := TW wss2) (pa_tw (ws := [1, 2, 4, 8]) (pe_tupF (pa_cons pe_int (pa_cons pe_int (pa_cons pe_int (pa_cons pe_int pa_nil))))) (fun _ _ _ q => q) (by decide) (pa_tw (ws := [12, 24]) (pe_tupF (pa_cons pe_int (pa_cons pe_int pa_nil))) (fun _ _ _ q => q) (by decide) (pa_tw (ws := [3, 30, 300, 300000000]) (pe_tupF (pa_cons pe_int (pa_cons pe_int (pa_cons pe_int (pa_cons pe_int pa_nil))))) (fun _ _ _ q => q) (by decide) pa_tw0))))))
      (pss_one (ps_ret (pe_ix ix_list (pv 1) (pe_cal L_draw (hr.mono (by omega)) (by rfl) (pa_cons (pv 0) (pa_cons (pe_callB call_len_seq (by rfl) m_len (by decide +kernel) (pa_cons (pv 1) pa_nil)) pa_nil))) (fun _ _ => rfl))))), ?_⟩
    intro as H1 s1 fa
    have la : as.length = 7 := fa.1
    refine ⟨by rw [List.length_map, la]; decide, fun l nl => ?_⟩
    have s2 := same_new (o := .lst (as.map V.ref)) nl
    refine ⟨_, rfl, fun bs H3 s3 fb => ?_⟩
    have lb : bs.length = 3 := fb.1
    refine ⟨by rw [List.length_map, lb]; decide, fun m nm => ?_⟩
    have s4 := same_new (o := .lst (bs.map V.ref)) nm
    refine ⟨l, m, _, _, rfl, rfl, s4 _ _ (s3 _ _ upd_same), upd_same, (by rw [List.length_map, List.length_map, la, lb]; decide), fun r nr => ?_⟩
    have s5 := same_new (o := .lst (as.map V.ref ++ bs.map V.ref)) nr
    have sA : Same H1 (upd (upd H3 m (.lst (bs.map V.ref))) r (.lst (as.map V.ref ++ bs.map V.ref))) := ((s2.trans s3).trans s4).trans s5
    have faA := fa.same sA
    have fbA := fb.same (s4.trans s5)
    have sH := s1.trans sA
    have hr : (upd (upd H3 m (.lst (bs.map V.ref))) r (.lst (as.map V.ref ++ bs.map V.ref))) r = some (.lst ((as ++ bs).map V.ref)) := by
      rw [upd_same, List.map_append]
    revert sH faA fbA hr
    generalize upd (upd H3 m (.lst (bs.map V.ref))) r (.lst (as.map V.ref ++ bs.map V.ref)) = H5
    intro faA fbA sH hr
    have hp5 := hp.same sH
    refine ⟨_, rfl, _, rfl, _, rfl, r, _, rfl, .inl (SqL.of hr), ?_⟩
    have e10 : ((as ++ bs).map V.ref).length = 10 := by rw [List.length_map, List.length_append, la, lb]
    rw [e10]
    refine ⟨p, n, 10, rfl, hp5, by omega, by decide, by decide, fun v H6 k6 p6 v0 v1 => ?_⟩
    obtain ⟨j, rfl⟩ : ∃ j : Nat, v = (j : Int) := ⟨v.toNat, by omega⟩
    have hj : j < 10 := by omega
    have nrp : r ≠ p := fun z => by
      obtain ⟨_, _, _, z2, _⟩ := hp5
      rw [z, z2] at hr
      injection hr with hr
      injection hr with hr
      have := congrArg List.length hr
      rw [e10] at this
      have z3 : (3 : Nat) = 10 := this
      exact absurd z3 (by decide)
    obtain ⟨a, ea⟩ : ∃ a, (as ++ bs)[j]? = some a := ⟨(as ++ bs)[j]'(by rw [List.length_append]; omega), List.getElem?_eq_getElem _⟩
    obtain ⟨ws, ew⟩ : ∃ ws, (wss1 ++ wss2)[j]? = some ws := ⟨(wss1 ++ wss2)[j]'(by show j < 10; exact hj), List.getElem?_eq_getElem _⟩
    have nd5 : NdT H5 a (ws.map V.int) := by
      by_cases c : j < 7
      · rw [List.getElem?_append_left (by omega)] at ea
        rw [List.getElem?_append_left (show j < wss1.length from c)] at ew
        exact faA.2 j a ws ea ew
      · rw [List.getElem?_append_right (by omega), la] at ea
        rw [List.getElem?_append_right (show wss1.length ≤ j from by show 7 ≤ j; omega)] at ew
        exact fbA.2 (j - 7) a ws ea ew
    have nd6 := nd5.kt (hp5.kt k6)
    obtain ⟨w1, w2⟩ := wss_ok ws (List.mem_of_getElem? ew)
    refine ⟨r, _, _, .ref a, rfl, rfl, SqL.of (k6 _ _ nrp hr), atI_nat (by rw [List.getElem?_map, ea]; rfl), ?_⟩
    exact q a ws H6 ((Kp.of sH).trans k6) p6 nd6 w1 w2
def spRis : Sp := fun vs H Q _ => ∃ (p : Addr) (n many : Nat), vs = [.ref p, .int many] ∧ Pu H p n ∧ n < 2 ^ 37 ∧ 1 ≤ many ∧ many ≤ 5 ∧
  ∀ (l : Addr) (ks : List (Option Int)) (H' : Hp), Kp p H H' → Pu H' p (n + 100) → l ≠ p → H' l = some (.lst (ks.map vo)) → ks.length = many → Q (.ref l) H'
theorem ok_ris {f : Addr} {fd : FuncData} {k : Nat} (F : Fun K "_law_rising" "_law_rising" sRis f fd) (L_draw : CDraw P w K mg base k) (m_range : mg "range" = none) : FnOk P w K mg base CX0 (k + 1) f fd ["_law_purse_here", "_law_many"] spRis := by
  refine F.ok scRis (fun vs H Q E h => ?_) (fun cdv A outer s H vs Q E hr h => ?_)
  · obtain ⟨p, n, many, rfl, _⟩ := h
    rfl
  · obtain ⟨p, n, many, rfl, hp, hn, m0, m1, q⟩ := h
    refine ⟨_, pss_cons (ps_set (i := 2) scRis.nd rfl (.inl rfl) (pe_ix ix_list (pe_lst (pa_cons pe_int (pa_cons pe_int (pa_cons pe_int (pa_cons (pe_cal L_draw (hr.mono (by omega)) (by rfl) (pa_cons (pv 0) (pa_cons (pe_op op_pow pe_int pe_int) pa_nil))) pa_nil))))) (pe_cal L_draw (hr.mono (by omega)) (by rfl) (pa_cons (pv 0) (pa_cons pe_int pa_nil))) (fun _ _ => rfl)))
      (pss_cons (ps_set (i := 3) scRis.nd rfl (.inl rfl) (pe_lst pa_nil))
      (pss_cons (ps_for PassesOwn.never rfl (pi_range1 (by rfl) m_range (pa_cons (pv 1) pa_nil)) (pg_name (i := 4) scRis.nd rfl (.inl rfl))
        (pss_cons (ps_expr (pe_bm PySem.F.plainAttrs_list PySem.F.slot_list_append PySem.F.type_list_append mt_append (pv 3) (pa_cons (pv 2) pa_nil)))
        (pss_one (ps_set (i := 2) scRis.nd rfl (.inl rfl) (pe_op op_add (pv 2) (pe_ix ix_list (pe_lst (pa_cons pe_int (pa_cons pe_int (pa_cons (pe_cal L_draw (hr.mono (by omega)) (by rfl) (pa_cons (pv 0) (pa_cons pe_int pa_nil))) (pa_cons (pe_cal L_draw (hr.mono (by omega)) (by rfl) (pa_cons (pv 0) (pa_cons (pe_op op_pow pe_int pe_int) pa_nil))) pa_nil))))) (pe_cal L_draw (hr.mono (by omega)) (by rfl) (pa_cons (pv 0) (pa_cons pe_int pa_nil))) (fun _ _ => rfl)))))))
      (pss_cons (ps_set (i := 5) scRis.nd rfl (.inl rfl) (pe_ix ix_list (pe_lst (pa_cons (pv 1) (pa_cons (pv 1) (pa_cons (pv 1) (pa_cons pe_int (pa_cons (pe_cal L_draw (hr.mono (by omega)) (by rfl) (pa_cons (pv 0) (pa_cons (pe_op op_add (pv 1) pe_int) pa_nil))) pa_nil)))))) (pe_cal L_draw (hr.mono (by omega)) (by rfl) (pa_cons (pv 0) (pa_cons pe_int pa_nil))) (fun _ _ => rfl)))
      (pss_one (ps_ret (pe_op op_cat (pe_slice sl_list (pv 3) po_none (po_some (pv 5))) (pe_lc (own := [("_law_k", 4)]) (g := (gName 4)) (tt := tYes) rfl scRis.nd (pi_range1 (by rfl) m_range (pa_cons (pe_op op_sub (pv 1) (pv 5)) pa_nil)) (blkOk_by (own := [("_law_k", 4)]) (N := NRi) (sc := defScope sRis) (by decide +kernel)) (fun _ _ _ _ _ => (pg_name (i := 4) scRis.nd rfl (.inl rfl))) (fun _ _ _ _ _ => pts_nil) (fun _ _ _ _ _ => pe_non)))))))), ?_⟩
    refine ⟨_, rfl, 10, 14, rfl, rfl, ⟨by decide, by decide, by decide⟩, p, n, 10 ^ 14, rfl, hp, by omega, by decide, by decide, fun v H1 k1 p1 v0 v1 => ?_⟩
    refine ⟨by show 4 ≤ sizeLine; decide, fun l1 n1 => ?_⟩
    have s2 := same_new (o := .lst ([0, 0, 1, v].map V.int)) n1
    refine ⟨_, rfl, p, n + 2, 4, rfl, p1.same s2, by omega, by decide, by decide, fun u H3 k3 p3 u0 u1 => ?_⟩
    obtain ⟨kp0, _, ex⟩ := atI_mem (xs := [0, 0, 1, v]) (i := u) u0 u1
    refine ⟨l1, _, u, .int kp0, rfl, rfl, SqL.of (k3 _ _ (p1.ne n1) upd_same), ex, ?_⟩
    have kk : Kp p H H3 := (k1.trans (.of s2)).trans k3
    refine ⟨Nat.zero_le _, fun l nl => ?_⟩
    have nlp : l ≠ p := p3.ne nl
    have nlH : H l = none := by
      cases e : H l with
      | none => rfl
      | some o =>
        rw [kk _ _ nlp e] at nl
        cases nl
    refine ⟨_, rfl, (many : Int), rfl, by omega, by omega, ?_⟩
    rw [Int.toNat_natCast]
    refine for_range (n := many) (fun i σ H4 => ∃ (kp : Int) (ms : List Int) (z : Option V), σ = [some (.ref p), some (.int many), some (.int kp), some (.ref l), z, none] ∧ Kp p H H4 ∧ Pu H4 p (n + 4 + 6 * i) ∧ H4 l = some (.lst (ms.map V.int)) ∧ ms.length = i) ?_ ?_ ?_
    · exact ⟨kp0, [], none, rfl, kk.trans (.of (same_new nl)), p3.same (same_new nl), upd_same, rfl⟩
    · rintro i σ H4 hi ⟨kp, ms, z, rfl, k4, p4, hl, lm⟩
      refine ⟨_, rfl, .inl ⟨rfl, _, SqL.of hl⟩, _, rfl, l, _, _, rfl, rfl, hl, small1000 (by rw [List.length_map]; omega), ?_⟩
      have k5 : Kp p H (upd H4 l (.lst (ms.map V.int ++ [.int kp]))) := fun c o hc e => by
        rw [upd_ne (ne_of_none e nlH)]
        exact k4 _ _ hc e
      have p5 : Pu (upd H4 l (.lst (ms.map V.int ++ [.int kp]))) p (n + 4 + 6 * i) := by
        obtain ⟨pa, pb, pc, h1, h2⟩ := p4
        exact ⟨pa, pb, pc, by rw [upd_ne nlp.symm]; exact h1, h2⟩
      have hl5 : (upd H4 l (.lst (ms.map V.int ++ [.int kp]))) l = some (.lst ((ms ++ [kp]).map V.int)) := by
        rw [upd_same, List.map_append]
        rfl
      obtain ⟨H5, e5⟩ : ∃ H5, upd H4 l (.lst (ms.map V.int ++ [.int kp])) = H5 := ⟨_, rfl⟩
      rw [e5] at k5 p5 hl5
      rw [e5]
      refine ⟨_, rfl, _, rfl, p, _, 100, rfl, p5, by omega, by decide, by decide, fun v2 H6 k6 p6 b0 b1 => ?_⟩
      refine ⟨_, rfl, 10, 12, rfl, rfl, ⟨by decide, by decide, by decide⟩, p, _, 10 ^ 12, rfl, p6, by omega, by decide, by decide, fun v3 H7 k7 p7 c0 c1 => ?_⟩
      refine ⟨by show 4 ≤ sizeLine; decide, fun l2 n2 => ?_⟩
      have s7 := same_new (o := .lst ([0, 1, v2, v3].map V.int)) n2
      refine ⟨_, rfl, p, _, 4, rfl, p7.same s7, by omega, by decide, by decide, fun u2 H8 k8 p8 d0 d1 => ?_⟩
      obtain ⟨st, _, ex2⟩ := atI_mem (xs := [0, 1, v2, v3]) (i := u2) d0 d1
      have k68 : Kp p H5 H8 := ((k6.trans k7).trans (Kp.of s7)).trans k8
      refine ⟨l2, _, u2, .int st, rfl, rfl, SqL.of (k8 _ _ (p7.ne n2) upd_same), ex2, _, _, rfl, rfl, ?_⟩
      exact ⟨kp + st, ms ++ [kp], _, rfl, k5.trans k68, p8.mono (by omega), k68 _ _ nlp hl5, by rw [List.length_append, lm]; rfl⟩
    · rintro σ H4 ⟨kp, ms, z, rfl, k4, p4, hl, lm⟩
      refine ⟨_, rfl, _, rfl, _, rfl, _, rfl, _, rfl, _, _, rfl, rfl, p, _, (many : Int) + 1, rfl, p4, by omega, by omega, by omega, fun v3 H5 k5 p5 b0 b1 => ?_⟩
      refine ⟨by show 5 ≤ sizeLine; decide, fun l3 n3 => ?_⟩
      have s6 := same_new (o := .lst ([(many : Int), (many : Int), (many : Int), 0, v3].map V.int)) n3
      refine ⟨_, rfl, p, _, 5, rfl, p5.same s6, by omega, by decide, by decide, fun u3 H7 k7 p7 d0 d1 => ?_⟩
      obtain ⟨en, hen, ex3⟩ := atI_mem (xs := [(many : Int), (many : Int), (many : Int), 0, v3]) (i := u3) d0 d1
      have eb : 0 ≤ en ∧ en ≤ (many : Int) := by
        simp only [List.mem_cons, or_false, List.not_mem_nil] at hen
        rcases hen with rfl | rfl | rfl | rfl | rfl <;> omega
      obtain ⟨e, rfl⟩ : ∃ e : Nat, en = (e : Int) := ⟨en.toNat, by omega⟩
      have he : e ≤ many := by omega
      have k57 : Kp p H4 H7 := (k5.trans (.of s6)).trans k7
      have hl7 := k57 _ _ nlp hl
      refine ⟨l3, _, u3, .int (e : Int), rfl, rfl, SqL.of (k7 _ _ (p5.ne n3) upd_same), ex3, ?_⟩
      refine ⟨_, rfl, _, rfl, (e : Int), rfl, l, _, rfl, SqL.of hl7, fun l4 n4 => ?_⟩
      rw [cut_to, ← List.map_take]
      have s8 := same_new (o := .lst ((ms.take e).map V.int)) n4
      have h8 : (upd H7 l4 (.lst ((ms.take e).map V.int))) l4 = some (.lst ((ms.take e).map V.int)) := upd_same
      refine ⟨_, rfl, _, rfl, _, _, rfl, rfl, _, rfl, by omega, by omega, ?_⟩
      rw [show ((many : Int) - (e : Int)).toNat = many - e by omega]
      refine fun D nD => lc_it (walk_range (lo := 0) (n := many - e)) (fun j Hc => Same (upd H7 l4 (.lst ((ms.take e).map V.int))) Hc ∧ Hc D = some (.lst (List.replicate j V.non))) ⟨same_new nD, upd_same⟩ (fun _ _ _ _ => trivial) ?_ ?_
      · rintro j x Hc Hd hj ⟨sc, hD⟩ ⟨rfl, rfl⟩
        refine ⟨rfl, ?_⟩
        unfold tYes
        refine (if_pos rfl).mpr ⟨_, hD, small1000 (by rw [List.length_replicate]; omega), same_put nD sc, ?_⟩
        rw [upd_same, List.replicate_succ']
      · rintro Hc ⟨sc, hD⟩
        have k9 : Kp p H Hc := (k4.trans k57).trans (.of (s8.trans sc))
        have p9 : Pu Hc p (n + 100) := (p7.same (s8.trans sc)).mono (by omega)
        refine ⟨l4, D, _, _, rfl, rfl, sc _ _ h8, hD, (by rw [List.length_map, List.length_take, List.length_replicate]; exact Nat.le_of_lt (small1000 (by omega))), fun r nr => ?_⟩
        have sr := same_new (o := .lst ((ms.take e).map V.int ++ List.replicate (many - e) V.non)) nr
        refine q r ((ms.take e).map some ++ List.replicate (many - e) none) _ (k9.trans (.of sr)) (p9.same sr) (p9.ne nr) ?_ ?_
        · rw [upd_same, List.map_append, List.map_map, List.map_replicate]
          rfl
        · rw [List.length_append, List.length_map, List.length_take, List.length_replicate]
          omega
def spBent : Sp := fun vs H Q _ => ∃ (p l : Addr) (n : Nat) (ks : List (Option Int)), vs = [.ref p, .ref l] ∧ Pu H p n ∧ n < 2 ^ 37 ∧ l ≠ p ∧ H l = some (.lst (ks.map vo)) ∧ 1 ≤ ks.length ∧ ks.length ≤ 5 ∧
  ∀ (l' : Addr) (ks' : List (Option Int)) (H' : Hp), Kp p H H' → Pu H' p (n + 20) → l' ≠ p → H' l' = some (.lst (ks'.map vo)) → ks'.length ≤ 10 → Q (.ref l') H'
theorem last_vo {ks : List (Option Int)} (h : 1 ≤ ks.length) : ∃ x : Option Int, atI (ks.map vo) (-1) = some (vo x) := by
  obtain ⟨r, x, e⟩ : ∃ r x, ks = r ++ [x] := by
    rcases List.eq_nil_or_concat ks with e | ⟨r, x, e⟩
    · rw [e] at h
      exact absurd h (by decide)
    · exact ⟨r, x, by rw [e, List.concat_eq_append]⟩
  refine ⟨x, ?_⟩
  rw [e, List.map_append]
  exact atI_last _ _
theorem ok_bent {f : Addr} {fd : FuncData} {k : Nat} (F : Fun K "_law_bent" "_law_bent" sBent f fd) (L_draw : CDraw P w K mg base k) (m_len : mg "len" = none) : FnOk P w K mg base CX0 (k + 1) f fd ["_law_purse_here", "_law_some_keeps"] spBent := by
  refine F.ok scBent (fun vs H Q E h => ?_) (fun cdv A outer s H vs Q E hr h => ?_)
  · obtain ⟨p, l, n, ks, rfl, _⟩ := h
    rfl
  · obtain ⟨p, l, n, ks, rfl, hp, hn, nlp, hl, l0, l5, q⟩ := h
    refine ⟨_, pss_cons (ps_set (i := 2) scBent.nd rfl (.inl rfl) (pe_cal L_draw (hr.mono (by omega)) (by rfl) (pa_cons (pv 0) (pa_cons pe_int pa_nil))))
      (pss_cons (ps_set (i := 3) scBent.nd rfl (.inl rfl) (pe_cal L_draw (hr.mono (by omega)) (by rfl) (pa_cons (pv 0) (pa_cons (pe_callB call_len_seq (by rfl) m_len (by decide +kernel) (pa_cons (pv 1) pa_nil)) pa_nil))))
      (pss_cons (ps_if (pt_cmpR op_lt (pv 2) pe_int (nomark _))
        (pss_one (ps_ret (pv 1)))
        pss_nil)
      (pss_cons (ps_if (pt_cmpR op_eq (pv 2) pe_int (nomark _))
        (pss_one (ps_ret (pe_slice sl_list (pv 1) po_none (po_some (pv 3)))))
        pss_nil)
      (pss_cons (ps_if (pt_cmpR op_eq (pv 2) pe_int (nomark _))
        (pss_one (ps_ret (pe_op op_cat (pv 1) (pe_op op_rep (pe_lst (pa_cons (pe_ix ix_list (pe_lst (pa_cons (pe_op op_sub (pe_op op_pow pe_int pe_int) pe_int) (pa_cons pe_non (pa_cons (pe_ix ix_list (pv 1) (pe_un un_neg pe_int) (fun _ _ => rfl)) pa_nil)))) (pe_cal L_draw (hr.mono (by omega)) (by rfl) (pa_cons (pv 0) (pa_cons pe_int pa_nil))) (fun _ _ => rfl)) pa_nil)) (pe_op op_add pe_int (pe_cal L_draw (hr.mono (by omega)) (by rfl) (pa_cons (pv 0) (pa_cons pe_int pa_nil))))))))
        pss_nil)
      (pss_cons (ps_if (pt_cmpR op_eq (pv 2) pe_int (nomark _))
        (pss_one (ps_ret (pe_op op_cat (pe_op op_cat (pe_slice sl_list (pv 1) po_none (po_some (pv 3))) (pe_lst (pa_cons (pe_op op_sub (pe_op op_sub pe_int pe_int) (pe_cal L_draw (hr.mono (by omega)) (by rfl) (pa_cons (pv 0) (pa_cons pe_int pa_nil)))) pa_nil))) (pe_slice sl_list (pv 1) (po_some (pe_op op_add (pv 3) pe_int)) po_none))))
        pss_nil)
      (pss_cons (ps_if (pt_cmpR op_eq (pv 2) pe_int (nomark _))
        (pss_one (ps_ret (pe_op op_cat (pe_op op_cat (pe_slice sl_list (pv 1) po_none (po_some (pv 3))) (pe_lst (pa_cons pe_non pa_nil))) (pe_slice sl_list (pv 1) (po_some (pe_op op_add (pv 3) pe_int)) po_none))))
        pss_nil)
      (pss_cons (ps_if (pt_cmpR op_eq (pv 2) pe_int (nomark _))
        (pss_one (ps_ret (pe_op op_cat (pe_op op_cat (pe_slice sl_list (pv 1) po_none (po_some (pv 3))) (pe_lst (pa_cons (pe_op op_sub (pe_op op_sub (pe_op op_pow pe_int pe_int) pe_int) (pe_cal L_draw (hr.mono (by omega)) (by rfl) (pa_cons (pv 0) (pa_cons pe_int pa_nil)))) pa_nil))) (pe_slice sl_list (pv 1) (po_some (pe_op op_add (pv 3) pe_int)) po_none))))
        pss_nil)
      (pss_one (ps_ret (pe_op op_cat (pe_op op_cat (pe_slice sl_list (pv 1) po_none (po_some (pv 3))) (pe_lst (pa_cons (pe_cal L_draw (hr.mono (by omega)) (by rfl) (pa_cons (pv 0) (pa_cons pe_int pa_nil))) pa_nil))) (pe_slice sl_list (pv 1) (po_some (pe_op op_add (pv 3) pe_int)) po_none))))))))))), ?_⟩
    have lk : (ks.map vo).length = ks.length := List.length_map ..
    refine ⟨_, rfl, p, n, 9, rfl, hp, by omega, by decide, by decide, fun way H1 k1 p1 y0 y1 => ?_⟩
    have hl1 := k1 _ _ nlp hl
    refine ⟨_, rfl, _, rfl, l, _, rfl, .inl (SqL.of hl1), p, n + 2, ((ks.map vo).length : Nat), rfl, p1, by omega, by omega, by omega, fun at0 H2 k2 p2 a0 a1 => ?_⟩
    obtain ⟨a, rfl⟩ : ∃ a : Nat, at0 = (a : Int) := ⟨at0.toNat, by omega⟩
    have al : a < ks.length := by omega
    have hl2 := k2 _ _ nlp hl1
    have kH2 := k1.trans k2
    refine ⟨_, rfl, _, _, rfl, rfl, _, rfl, ite2 (fun g => ?_) (fun g => ?_)⟩
    · exact ⟨_, rfl, q l ks H2 kH2 (p2.mono (by omega)) nlp hl2 (by omega)⟩
    refine ⟨_, rfl, rfl, _, rfl, ite2 (fun g => ?_) (fun g => ?_)⟩
    · refine ⟨_, rfl, _, rfl, (a : Int), rfl, l, _, rfl, SqL.of hl2, fun r nr => ?_⟩
      rw [cut_to, ← List.map_take]
      exact q r (ks.take a) _ (kH2.trans (.of (same_new nr))) ((p2.same (same_new nr)).mono (by omega)) (p2.ne nr) upd_same (by rw [List.length_take]; omega)
    refine ⟨_, rfl, rfl, _, rfl, ite2 (fun g => ?_) (fun g => ?_)⟩
    · obtain ⟨lx, elx⟩ := last_vo l0
      refine ⟨_, rfl, 10, 15, rfl, rfl, ⟨by decide, by decide, by decide⟩, _, _, rfl, rfl, _, rfl, 1, rfl, l, _, -1, _, rfl, rfl, SqL.of hl2, elx, by show 3 ≤ sizeLine; decide, fun m1 n1 => ?_⟩
      have s3 := same_new (o := .lst ([some (10 ^ 15 - 1), none, lx].map vo)) n1
      refine ⟨_, rfl, p, _, 3, rfl, p2.same s3, by omega, by decide, by decide, fun u H4 k4 p4 u0 u1 => ?_⟩
      obtain ⟨j, rfl⟩ : ∃ j : Nat, u = (j : Int) := ⟨u.toNat, by omega⟩
      have hj : j < ([some (10 ^ 15 - 1), none, lx] : List (Option Int)).length := by show j < 3; omega
      obtain ⟨x, ex⟩ : ∃ x, ([some (10 ^ 15 - 1), none, lx] : List (Option Int))[j]? = some x := ⟨_, List.getElem?_eq_getElem hj⟩
      have ex2 : (([some (10 ^ 15 - 1), none, lx] : List (Option Int)).map vo)[j]? = some (vo x) := by rw [List.getElem?_map, ex]; rfl
      refine ⟨m1, _, _, vo x, rfl, rfl, SqL.of (k4 _ _ (p2.ne n1) upd_same), atI_nat ex2, by show 1 ≤ sizeLine; decide, fun m2 n2 => ?_⟩
      have s5 := same_new (o := .lst [vo x]) n2
      refine ⟨_, rfl, p, _, 2, rfl, p4.same s5, by omega, by decide, by decide, fun t H6 k6 p6 t0 t1 => ?_⟩
      have k26 : Kp p H2 H6 := (((Kp.of s3).trans k4).trans (.of s5)).trans k6
      refine ⟨_, _, rfl, rfl, m2, _, _, rfl, rfl, k6 _ _ (p4.ne n2) upd_same, by omega, by omega, (by show 1 * (1 + t).toNat ≤ sizeLine; exact Nat.le_of_lt (small1000 (by omega))), fun m3 n3 => ?_⟩
      have s7 := same_new (o := .lst (List.replicate (1 + t).toNat [vo x]).flatten) n3
      refine ⟨l, m3, _, _, rfl, rfl, s7 _ _ (k26 _ _ nlp hl2), upd_same, ?_, fun r nr => ?_⟩
      · rw [lk]
        refine Nat.le_of_lt (small1000 ?_)
        rw [List.length_flatten, List.map_replicate, List.sum_replicate_nat]
        show ks.length + (1 + t).toNat * 1 ≤ 1000
        omega
      · have ef : (List.replicate (1 + t).toNat [vo x]).flatten = (List.replicate (1 + t).toNat x).map vo := by
          generalize (1 + t).toNat = c
          induction c with
          | zero => rfl
          | succ c ih =>
            rw [List.replicate_succ, List.flatten_cons, ih, List.replicate_succ]
            rfl
        refine q r (ks ++ List.replicate (1 + t).toNat x) _ ((kH2.trans k26).trans (.of (s7.trans (same_new nr)))) ((p6.same (s7.trans (same_new nr))).mono (by omega)) ((p6.same s7).ne nr) ?_ ?_
        · rw [upd_same, List.map_append, ef]
        · rw [List.length_append, List.length_replicate]
          omega
    refine ⟨_, rfl, rfl, _, rfl, ite2 (fun g => ?_) (fun g => ?_)⟩
    · refine ⟨_, rfl, _, rfl, (a : Int), rfl, l, _, rfl, SqL.of hl2, fun r1 n1 => ?_⟩
      rw [cut_to, ← List.map_take]
      have s3 := same_new (o := .lst ((ks.take a).map vo)) n1
      have p3 := p2.same s3
      have h3 : (upd H2 r1 (.lst ((ks.take a).map vo))) r1 = some (.lst ((ks.take a).map vo)) := upd_same
      have hl3 := s3 _ _ hl2
      have k3 := kH2.trans (.of s3)
      refine ⟨_, _, rfl, rfl, _, rfl, p, _, 9, rfl, p3, by omega, by decide, by decide, fun v H4 h4 p4 v0 v1 => ?_⟩
      refine ⟨_, _, rfl, rfl, by show 1 ≤ sizeLine; decide, fun r4 n4 => ?_⟩
      have s5 := same_new (o := .lst [vo (some (0 - 1 - v))]) n4
      refine ⟨r1, r4, _, _, rfl, rfl, s5 _ _ (h4 _ _ (p2.ne n1) h3), upd_same, (by rw [List.length_map, List.length_take]; exact Nat.le_of_lt (small1000 (by show _ + 1 ≤ 1000; omega))), fun r6 n6 => ?_⟩
      have s6 := same_new (o := .lst ((ks.take a).map vo ++ [vo (some (0 - 1 - v))])) n6
      have hl6 := s6 _ _ (s5 _ _ (h4 _ _ nlp hl3))
      refine ⟨_, rfl, _, rfl, _, _, rfl, rfl, _, rfl, l, _, rfl, SqL.of hl6, fun r7 n7 => ?_⟩
      rw [show ((a : Int) + 1) = ((a + 1 : Nat) : Int) from rfl, cut_from, ← List.map_drop]
      have s7 := same_new (o := .lst ((ks.drop (a + 1)).map vo)) n7
      have s67 := s6.trans s7
      refine ⟨r6, r7, _, _, rfl, rfl, s7 _ _ upd_same, upd_same, (by rw [List.length_append, List.length_map, List.length_map, List.length_take, List.length_drop]; exact Nat.le_of_lt (small1000 (by show _ + 1 + _ ≤ 1000; omega))), fun r8 n8 => ?_⟩
      have s8 := same_new (o := .lst ((ks.take a).map vo ++ [vo (some (0 - 1 - v))] ++ (ks.drop (a + 1)).map vo)) n8
      have sA := (s5.trans s67).trans s8
      refine q r8 (ks.take a ++ [some (0 - 1 - v)] ++ ks.drop (a + 1)) _ ((k3.trans h4).trans (.of sA)) ((p4.same sA).mono (by omega)) ((p4.same (s5.trans s67)).ne n8) ?_ ?_
      · rw [upd_same, List.map_append, List.map_append]
        rfl
      · rw [List.length_append, List.length_append, List.length_take, List.length_drop]
        show _ + 1 + _ ≤ 10
        omega
    refine ⟨_, rfl, rfl, _, rfl, ite2 (fun g => ?_) (fun g => ?_)⟩
    · refine ⟨_, rfl, _, rfl, (a : Int), rfl, l, _, rfl, SqL.of hl2, fun r1 n1 => ?_⟩
      rw [cut_to, ← List.map_take]
      have s3 := same_new (o := .lst ((ks.take a).map vo)) n1
      have p3 := p2.same s3
      have h3 : (upd H2 r1 (.lst ((ks.take a).map vo))) r1 = some (.lst ((ks.take a).map vo)) := upd_same
      have hl3 := s3 _ _ hl2
      have k3 := kH2.trans (.of s3)
      have h4 : Kp p (upd H2 r1 (.lst ((ks.take a).map vo))) (upd H2 r1 (.lst ((ks.take a).map vo))) := Kp.refl _ _
      refine ⟨by show 1 ≤ sizeLine; decide, fun r4 n4 => ?_⟩
      have s5 := same_new (o := .lst [vo (none)]) n4
      refine ⟨r1, r4, _, _, rfl, rfl, s5 _ _ (h4 _ _ (p2.ne n1) h3), upd_same, (by rw [List.length_map, List.length_take]; exact Nat.le_of_lt (small1000 (by show _ + 1 ≤ 1000; omega))), fun r6 n6 => ?_⟩
      have s6 := same_new (o := .lst ((ks.take a).map vo ++ [vo (none)])) n6
      have hl6 := s6 _ _ (s5 _ _ (h4 _ _ nlp hl3))
      refine ⟨_, rfl, _, rfl, _, _, rfl, rfl, _, rfl, l, _, rfl, SqL.of hl6, fun r7 n7 => ?_⟩
      rw [show ((a : Int) + 1) = ((a + 1 : Nat) : Int) from rfl, cut_from, ← List.map_drop]
      have s7 := same_new (o := .lst ((ks.drop (a + 1)).map vo)) n7
      have s67 := s6.trans s7
      refine ⟨r6, r7, _, _, rfl, rfl, s7 _ _ upd_same, upd_same, (by rw [List.length_append, List.length_map, List.length_map, List.length_take, List.length_drop]; exact Nat.le_of_lt (small1000 (by show _ + 1 + _ ≤ 1000; omega))), fun r8 n8 => ?_⟩
      have s8 := same_new (o := .lst ((ks.take a).map vo ++ [vo (none)] ++ (ks.drop (a + 1)).map vo)) n8
      have sA := (s5.trans s67).trans s8
      refine q r8 (ks.take a ++ [none] ++ ks.drop (a + 1)) _ ((k3.trans h4).trans (.of sA)) ((p3.same sA).mono (by omega)) ((p3.same (s5.trans s67)).ne n8) ?_ ?_
      · rw [upd_same, List.map_append, List.map_append]
        rfl
      · rw [List.length_append, List.length_append, List.length_take, List.length_drop]
        show _ + 1 + _ ≤ 10
        omega
    refine ⟨_, rfl, rfl, _, rfl, ite2 (fun g => ?_) (fun g => ?_)⟩
    · refine ⟨_, rfl, _, rfl, (a : Int), rfl, l, _, rfl, SqL.of hl2, fun r1 n1 => ?_⟩
      rw [cut_to, ← List.map_take]
      have s3 := same_new (o := .lst ((ks.take a).map vo)) n1
      have p3 := p2.same s3
      have h3 : (upd H2 r1 (.lst ((ks.take a).map vo))) r1 = some (.lst ((ks.take a).map vo)) := upd_same
      have hl3 := s3 _ _ hl2
      have k3 := kH2.trans (.of s3)
      refine ⟨10, 15, rfl, rfl, ⟨by decide, by decide, by decide⟩, _, _, rfl, rfl, _, rfl, p, _, 9, rfl, p3, by omega, by decide, by decide, fun v H4 h4 p4 v0 v1 => ?_⟩
      refine ⟨_, _, rfl, rfl, by show 1 ≤ sizeLine; decide, fun r4 n4 => ?_⟩
      have s5 := same_new (o := .lst [vo (some (10 ^ 15 - 1 - v))]) n4
      refine ⟨r1, r4, _, _, rfl, rfl, s5 _ _ (h4 _ _ (p2.ne n1) h3), upd_same, (by rw [List.length_map, List.length_take]; exact Nat.le_of_lt (small1000 (by show _ + 1 ≤ 1000; omega))), fun r6 n6 => ?_⟩
      have s6 := same_new (o := .lst ((ks.take a).map vo ++ [vo (some (10 ^ 15 - 1 - v))])) n6
      have hl6 := s6 _ _ (s5 _ _ (h4 _ _ nlp hl3))
      refine ⟨_, rfl, _, rfl, _, _, rfl, rfl, _, rfl, l, _, rfl, SqL.of hl6, fun r7 n7 => ?_⟩
      rw [show ((a : Int) + 1) = ((a + 1 : Nat) : Int) from rfl, cut_from, ← List.map_drop]
      have s7 := same_new (o := .lst ((ks.drop (a + 1)).map vo)) n7
      have s67 := s6.trans s7
      refine ⟨r6, r7, _, _, rfl, rfl, s7 _ _ upd_same, upd_same, (by rw [List.length_append, List.length_map, List.length_map, List.length_take, List.length_drop]; exact Nat.le_of_lt (small1000 (by show _ + 1 + _ ≤ 1000; omega))), fun r8 n8 => ?_⟩
      have s8 := same_new (o := .lst ((ks.take a).map vo ++ [vo (some (10 ^ 15 - 1 - v))] ++ (ks.drop (a + 1)).map vo)) n8
      have sA := (s5.trans s67).trans s8
      refine q r8 (ks.take a ++ [some (10 ^ 15 - 1 - v)] ++ ks.drop (a + 1)) _ ((k3.trans h4).trans (.of sA)) ((p4.same sA).mono (by omega)) ((p4.same (s5.trans s67)).ne n8) ?_ ?_
      · rw [upd_same, List.map_append, List.map_append]
        rfl
      · rw [List.length_append, List.length_append, List.length_take, List.length_drop]
        show _ + 1 + _ ≤ 10
        omega
    refine ⟨_, rfl, _, rfl, (a : Int), rfl, l, _, rfl, SqL.of hl2, fun r1 n1 => ?_⟩
    rw [cut_to, ← List.map_take]
    have s3 := same_new (o := .lst ((ks.take a).map vo)) n1
    have p3 := p2.same s3
    have h3 : (upd H2 r1 (.lst ((ks.take a).map vo))) r1 = some (.lst ((ks.take a).map vo)) := upd_same
    have hl3 := s3 _ _ hl2
    have k3 := kH2.trans (.of s3)
    refine ⟨_, rfl, p, _, 3, rfl, p3, by omega, by decide, by decide, fun v H4 h4 p4 v0 v1 => ?_⟩
    refine ⟨by show 1 ≤ sizeLine; decide, fun r4 n4 => ?_⟩
    have s5 := same_new (o := .lst [vo (some v)]) n4
    refine ⟨r1, r4, _, _, rfl, rfl, s5 _ _ (h4 _ _ (p2.ne n1) h3), upd_same, (by rw [List.length_map, List.length_take]; exact Nat.le_of_lt (small1000 (by show _ + 1 ≤ 1000; omega))), fun r6 n6 => ?_⟩
    have s6 := same_new (o := .lst ((ks.take a).map vo ++ [vo (some v)])) n6
    have hl6 := s6 _ _ (s5 _ _ (h4 _ _ nlp hl3))
    refine ⟨_, rfl, _, rfl, _, _, rfl, rfl, _, rfl, l, _, rfl, SqL.of hl6, fun r7 n7 => ?_⟩
    rw [show ((a : Int) + 1) = ((a + 1 : Nat) : Int) from rfl, cut_from, ← List.map_drop]
    have s7 := same_new (o := .lst ((ks.drop (a + 1)).map vo)) n7
    have s67 := s6.trans s7
    refine ⟨r6, r7, _, _, rfl, rfl, s7 _ _ upd_same, upd_same, (by rw [List.length_append, List.length_map, List.length_map, List.length_take, List.length_drop]; exact Nat.le_of_lt (small1000 (by show _ + 1 + _ ≤ 1000; omega))), fun r8 n8 => ?_⟩
    have s8 := same_new (o := .lst ((ks.take a).map vo ++ [vo (some v)] ++ (ks.drop (a + 1)).map vo)) n8
    have sA := (s5.trans s67).trans s8
    refine q r8 (ks.take a ++ [some v] ++ ks.drop (a + 1)) _ ((k3.trans h4).trans (.of sA)) ((p4.same sA).mono (by omega)) ((p4.same (s5.trans s67)).ne n8) ?_ ?_
    · rw [upd_same, List.map_append, List.map_append]
      rfl
    · rw [List.length_append, List.length_append, List.length_take, List.length_drop]
      show _ + 1 + _ ≤ 10
      omega
def spWrong : Sp := fun vs H Q _ => ∃ (l : Addr) (ks : List (Option Int)) (many : Nat), vs = [.ref l, .int many] ∧ H l = some (.lst (ks.map vo)) ∧ ks.length ≤ 10 ∧ ∀ H', Same H H' → Q (vo ((wrong ks many).map fun i => ((i : Nat) : Int))) H'
theorem ok_wrong {f : Addr} {fd : FuncData} {k : Nat} (F : Fun K "_law_wrong" "_law_wrong" sWrong f fd) (m_len : mg "len" = none) (m_enumerate : mg "enumerate" = none) : FnOk P w K mg base CX0 (k + 1) f fd ["_law_some_keeps", "_law_many"] spWrong := by
  refine F.ok scWrong (fun vs H Q E h => ?_) (fun cdv A outer s H vs Q E hr h => ?_)
  · obtain ⟨l, ks, many, rfl, _⟩ := h
    rfl
  · obtain ⟨l, ks, many, rfl, hl, l10, q⟩ := h
    refine ⟨_, pss_cons (ps_for PassesOwn.never rfl (pi_enum (by rfl) m_enumerate (pa_cons (pv 0) pa_nil)) (pg_tup rfl (pgs_cons (pg_name (i := 2) scWrong.nd rfl (.inl rfl)) (pgs_cons (pg_name (i := 3) scWrong.nd rfl (.inl rfl)) pgs_nil)))
        (pss_cons (ps_if (pt_cmpR op_eq (pv 2) (pv 1) (nomark _))
          (pss_one (ps_ret (pv 2)))
          pss_nil)
        (pss_cons (ps_set (i := 4) scWrong.nd rfl (.inl rfl) (pe_ix ix_list (pe_op op_cat (pe_lst (pa_cons pe_int pa_nil)) (pv 0)) (pv 2) (fun _ _ => rfl)))
        (pss_one (ps_if (PW.pt (pw_and (pt_cmpR op_notN (pv 3) pe_non (nomark _)) (pw_and1 (PW.pt (pw_or (pt_cmpR op_isN (pv 4) pe_non (nomark _)) (pw_or1 (pt_cmpR op_lt (pv 3) (pv 4) (nomark _))))))))
          (pss_one (ps_ret (pv 2)))
          pss_nil)))))
      (pss_cons (ps_if (pt_cmpR op_lt (pe_callB call_len_seq (by rfl) m_len (by decide +kernel) (pa_cons (pv 0) pa_nil)) (pv 1) (nomark _))
        (pss_one (ps_ret (pe_callB call_len_seq (by rfl) m_len (by decide +kernel) (pa_cons (pv 0) pa_nil))))
        pss_nil)
      (pss_one (ps_ret pe_non))), ?_⟩
    have lk : (ks.map vo).length = ks.length := List.length_map ..
    refine ⟨_, rfl, l, _, rfl, SqL.of hl, for_it (walk_enum (K := K) (a := l) (xs := ks.map vo)) (fun i σ H2 => ∃ (x : Option Int) (z1 z2 z3 : Option V), σ = [some (.ref l), some (.int many), z1, z2, z3] ∧ Same H H2 ∧ (some 0 :: ks)[i]? = some x ∧ wrong ks many = wr many i x (ks.drop i)) ⟨some 0, none, none, none, rfl, Same.refl _, rfl, rfl⟩ ?_ ?_ ?_⟩
    · rintro i σ H2 _ ⟨_, z1, z2, z3, _, s2, _⟩
      exact SqL.of (s2 _ _ hl)
    · rintro i x σ H2 H3 hi ⟨ah, z1, z2, z3, rfl, s2, eah, st⟩ ⟨T, x1, x2, rfl, nT, rfl, e1, e2⟩
      cases e1
      replace e2 : (ks.map vo)[i]? = some x2 := e2
      rw [List.getElem?_map] at e2
      obtain ⟨y, hy, rfl⟩ := Option.map_eq_some_iff.mp e2
      have s3 : Same H (upd H2 T (.tup [.int (i : Nat), vo y])) := s2.trans (same_new nT)
      rw [wr_drop hy] at st
      refine ⟨T, _, rfl, SqT.of upd_same, rfl, _, _, rfl, _, _, rfl, rfl, ?_⟩
      have bad : ∀ H', Same H H' → (decide (i = many) = true ∨ okB ah y = false) → Q (.int (i : Nat)) H' := fun H' s' c => by
        rw [if_pos c] at st
        have z := q H' s'
        rw [st] at z
        exact z
      refine ⟨_, rfl, _, rfl, rfl, _, rfl, ite2 (fun g => ?_) (fun g => ?_)⟩
      · exact ⟨_, rfl, bad _ s3 (.inl (decide_eq_true (by
          have := V.int.inj (of_decide_eq_true g)
          omega)))⟩
      · have g1 : ¬ decide (i = many) = true := fun z => g (decide_eq_true (by rw [of_decide_eq_true z]))
        refine ⟨by show 1 ≤ sizeLine; decide, fun r nr => ?_⟩
        have s4 := same_new (o := .lst [.int 0]) nr
        refine ⟨_, rfl, r, l, _, _, rfl, rfl, upd_same, s4 _ _ (s3 _ _ hl), (by rw [lk]; exact Nat.le_of_lt (small1000 (by show 1 + _ ≤ 1000; omega))), fun t nt => ?_⟩
        have s5 := same_new (o := .lst ([.int 0] ++ ks.map vo)) nt
        have sB := s3.trans (s4.trans s5)
        refine ⟨_, rfl, t, _, _, vo ah, rfl, rfl, SqL.of upd_same, atI_nat ?_, ?_⟩
        · show ((some 0 :: ks).map vo)[i]? = _
          rw [List.getElem?_map, eah]
          rfl
        · have go : okB ah y = true → ∃ (x : Option Int) (z1 z2 z3 : Option V), [some (.ref l), some (.int many), some (.int (i : Nat)), some (vo y), some (vo ah)] = [some (.ref l), some (.int many), z1, z2, z3] ∧ Same H (upd (upd (upd H2 T (.tup [.int (i : Nat), vo y])) r (.lst [.int 0])) t (.lst ([.int 0] ++ ks.map vo))) ∧ (some 0 :: ks)[i + 1]? = some x ∧ wrong ks many = wr many (i + 1) x (ks.drop (i + 1)) := fun c => by
            refine ⟨y, _, _, _, rfl, sB, hy, ?_⟩
            rw [st, if_neg (fun z => z.elim g1 fun z => by rw [c] at z; cases z)]
          cases y with
          | none => exact ⟨_, rfl, rfl, _, rfl, if_n rfl (if_f (go rfl))⟩
          | some yv =>
            refine ⟨_, rfl, rfl, _, rfl, if_y rfl ?_⟩
            cases ah with
            | none => exact ⟨_, rfl, rfl, _, rfl, if_y rfl (if_t ⟨_, rfl, bad _ sB (.inr rfl)⟩)⟩
            | some av =>
              refine ⟨_, rfl, rfl, _, rfl, if_n rfl ⟨_, rfl, _, rfl, _, _, rfl, rfl, _, rfl, ite2 (fun c => ?_) (fun c => ?_)⟩⟩
              · have c1 : yv < av := of_decide_eq_true c
                exact ⟨_, rfl, bad _ sB (.inr (decide_eq_false (by omega)))⟩
              · have c1 : ¬ yv < av := fun z => c (decide_eq_true z)
                exact go (decide_eq_true (by omega))
    · rintro σ H2 ⟨ah, z1, z2, z3, rfl, s2, _, st⟩
      rw [lk, wr_end] at st
      have z := q H2 s2
      refine ⟨_, rfl, l, _, rfl, .inl (SqL.of (s2 _ _ hl)), _, rfl, _, _, rfl, rfl, _, rfl, ite2 (fun g => ?_) (fun g => ?_)⟩
      · have g1 : ks.length < many := by
          have y := of_decide_eq_true g
          rw [lk] at y
          omega
        rw [if_pos g1] at st
        rw [st] at z
        refine ⟨_, rfl, l, _, rfl, .inl (SqL.of (s2 _ _ hl)), ?_⟩
        rw [lk]
        exact z
      · have g1 : ¬ ks.length < many := fun y => g (decide_eq_true (by rw [lk]; omega))
        rw [if_neg g1] at st
        rw [st] at z
        exact z
end
end Tg

set_option maxHeartbeats 1000000
namespace Tg
open PySem PySem.Spec PyProof.Rows L2
abbrev sClass : Stmt := topS 28
abbrev sMade : Stmt := topS 33
abbrev sNG : Stmt := topS 34
abbrev NCl : List Str := ["_law_caught", "_law_some", "_law_words", "_law_found", "_law_word", "_law_truth"]
abbrev NNg : List Str := ["_law_keeping", "_law_some_widths", "_law_told", "_law_width"]
theorem scClass : FnScope NCl ["_law_caught"] (defScope sClass) := ⟨rfl, rfl, rfl, by decide +kernel, rfl, by decide +kernel, by decide +kernel⟩
theorem scMade : FnScope ["_law_some_widths", "_law_some_keeps", "_law_way", "_law_told", "_law_caught", "e"] ["_law_some_widths", "_law_some_keeps", "_law_way"] (defScope sMade) := ⟨rfl, rfl, rfl, by decide +kernel, rfl, by decide +kernel, by decide +kernel⟩
theorem scNG : FnScope NNg ["_law_keeping", "_law_some_widths"] (defScope sNG) := ⟨rfl, rfl, rfl, by decide +kernel, rfl, by decide +kernel, by decide +kernel⟩
/-- what the top has of the nine classes -/
structure Nine (K : PySem.W.Frag) (mg : Str → Option Value) (CB CD CG CK CL CO CN CP CT : Addr) : Prop where
  mB : mg "NoBody" = some (.ref CB)
  mD : mg "NoDeed" = some (.ref CD)
  mG : mg "NoGrain" = some (.ref CG)
  mK : mg "NoKeep" = some (.ref CK)
  mL : mg "NoLog" = some (.ref CL)
  mO : mg "NoOrder" = some (.ref CO)
  mN : mg "NoNumber" = some (.ref CN)
  mP : mg "NoPlace" = some (.ref CP)
  mT : mg "NoText" = some (.ref CT)
  mi : mg "isinstance" = none
  mV : mg "ValueError" = none
  kB : PySem.W.kitOne K (.ref CK) (.ref CB) = some false
  kD : PySem.W.kitOne K (.ref CK) (.ref CD) = some false
  kG : PySem.W.kitOne K (.ref CK) (.ref CG) = some false
  kK : PySem.W.kitOne K (.ref CK) (.ref CK) = some true
  kL : PySem.W.kitOne K (.ref CK) (.ref CL) = some false
  kO : PySem.W.kitOne K (.ref CK) (.ref CO) = some false
  kN : PySem.W.kitOne K (.ref CK) (.ref CN) = some false
  kP : PySem.W.kitOne K (.ref CK) (.ref CP) = some false
  kT : PySem.W.kitOne K (.ref CK) (.ref CT) = some false
  kV : PySem.W.kitOne K (.ref CK) (.type "ValueError") = some true
  xc : ExcC K CK
  xf : XfC K CK
  no : PySem.W.findIn K (.ref CK) "at" = some none
  ex : PySem.W.exmOne K (.ref CK) (.ref CK) = some true
/-- the words whose truth is one -/
def pick : List Str → List Bool → List Str
  | x :: xs, true :: bs => x :: pick xs bs
  | _ :: xs, false :: bs => pick xs bs
  | _, _ => []
theorem pick_take : ∀ {xs : List Str} {bs : List Bool} {i : Nat} {x : Str} {b : Bool}, xs[i]? = some x → bs[i]? = some b → pick (xs.take (i + 1)) (bs.take (i + 1)) = pick (xs.take i) (bs.take i) ++ (if b = true then [x] else [])
  | [], _, i, x, b, h, _ => by simp at h
  | _ :: _, [], i, x, b, _, h => by simp at h
  | y :: xs, c :: bs, 0, x, b, h1, h2 => by
    simp only [List.getElem?_cons_zero, Option.some.injEq] at h1 h2
    subst h1
    subst h2
    cases c <;> rfl
  | y :: xs, c :: bs, i + 1, x, b, h1, h2 => by
    rw [List.getElem?_cons_succ] at h1 h2
    have ih := pick_take (xs := xs) (bs := bs) h1 h2
    rw [List.take_succ_cons, List.take_succ_cons, List.take_succ_cons, List.take_succ_cons]
    cases c with
    | false => exact ih
    | true =>
      show y :: pick _ _ = y :: (pick _ _ ++ _)
      rw [ih]
theorem pick_len : ∀ (xs : List Str) (bs : List Bool), (pick xs bs).length ≤ xs.length
  | [], _ => Nat.zero_le _
  | _ :: _, [] => Nat.zero_le _
  | x :: xs, true :: bs => Nat.succ_le_succ (pick_len xs bs)
  | x :: xs, false :: bs => Nat.le_succ_of_le (pick_len xs bs)
def nineW : List Str := ["body", "deed", "grain", "keep", "log", "order", "number", "place", "text"]
def nineT : List Bool := [false, false, false, true, false, false, false, false, false]
section
variable {P : Program} {w : World} {K : PySem.W.Frag} {mg : Str → Option Value} {base : Heap} {C CB CD CG CK CL CO CN CP CT : Addr}
def spClass (CK : Addr) : Sp := fun vs H Q _ => ∃ (a d : Addr) (fs : List (Str × V)), vs = [.ref a] ∧ H a = some (ExV (.ref CK) (some d) a) ∧ H d = some (.xd fs) ∧ ∀ H', Same H H' → Q (.str "keep") H'
theorem ok_class {f : Addr} {fd : FuncData} {k : Nat} (F : Fun K "_law_class" "_law_class" sClass f fd) (N9 : Nine K mg CB CD CG CK CL CO CN CP CT) (m_zip : mg "zip" = none) (m_len : mg "len" = none) : FnOk P w K mg base CX0 (k + 1) f fd ["_law_caught"] (spClass CK) := by
  refine F.ok scClass (fun vs H Q E h => ?_) (fun cdv A outer s H vs Q E hr h => ?_)
  · obtain ⟨a, d, fs, rfl, _⟩ := h
    rfl
  · obtain ⟨a, d, fs, rfl, ha, hd, q⟩ := h
    refine ⟨_, pss_cons (ps_if (pt_cmpR op_isN (pv 0) pe_non (nomark _))
        (pss_one (ps_ret pe_str))
        pss_nil)
      (pss_cons (ps_set (i := 1) scClass.nd rfl (.inl rfl) (pe_lst (pa_cons (pe_callB call_isV (by rfl) N9.mi PyProof.Rows.boot_isinstance (pa_cons (pv 0) (pa_cons (pe_glob (v := .ref CB) (by rfl) N9.mB rfl) pa_nil))) (pa_cons (pe_callB call_isV (by rfl) N9.mi PyProof.Rows.boot_isinstance (pa_cons (pv 0) (pa_cons (pe_glob (v := .ref CD) (by rfl) N9.mD rfl) pa_nil))) (pa_cons (pe_callB call_isV (by rfl) N9.mi PyProof.Rows.boot_isinstance (pa_cons (pv 0) (pa_cons (pe_glob (v := .ref CG) (by rfl) N9.mG rfl) pa_nil))) pa_nil)))))
      (pss_cons (ps_set (i := 1) scClass.nd rfl (.inl rfl) (pe_op op_cat (pv 1) (pe_lst (pa_cons (pe_callB call_isV (by rfl) N9.mi PyProof.Rows.boot_isinstance (pa_cons (pv 0) (pa_cons (pe_glob (v := .ref CK) (by rfl) N9.mK rfl) pa_nil))) (pa_cons (pe_callB call_isV (by rfl) N9.mi PyProof.Rows.boot_isinstance (pa_cons (pv 0) (pa_cons (pe_glob (v := .ref CL) (by rfl) N9.mL rfl) pa_nil))) (pa_cons (pe_callB call_isV (by rfl) N9.mi PyProof.Rows.boot_isinstance (pa_cons (pv 0) (pa_cons (pe_glob (v := .ref CO) (by rfl) N9.mO rfl) pa_nil))) pa_nil))))))
      (pss_cons (ps_set (i := 1) scClass.nd rfl (.inl rfl) (pe_op op_cat (pv 1) (pe_lst (pa_cons (pe_callB call_isV (by rfl) N9.mi PyProof.Rows.boot_isinstance (pa_cons (pv 0) (pa_cons (pe_glob (v := .ref CN) (by rfl) N9.mN rfl) pa_nil))) (pa_cons (pe_callB call_isV (by rfl) N9.mi PyProof.Rows.boot_isinstance (pa_cons (pv 0) (pa_cons (pe_glob (v := .ref CP) (by rfl) N9.mP rfl) pa_nil))) (pa_cons (pe_callB call_isV (by rfl) N9.mi PyProof.Rows.boot_isinstance (pa_cons (pv 0) (pa_cons (pe_glob (v := .ref CT) (by rfl) N9.mT rfl) pa_nil))) pa_nil))))))
      (pss_cons (ps_set (i := 2) scClass.nd rfl (.inl rfl) (pe_lst (pa_cons pe_str (pa_cons pe_str (pa_cons pe_str (pa_cons pe_str (pa_cons pe_str (pa_cons pe_str (pa_cons pe_str (pa_cons pe_str (pa_cons pe_str pa_nil)))))))))))
      (pss_cons (ps_setLc (i := 3) (own := [("_law_word", 4), ("_law_truth", 5)]) (g := gTup K 2 _) rfl scClass.nd rfl rfl (sw_true rfl rfl rfl (by decide +kernel)) (pi_zip (by rfl) m_zip (pa_cons (pv 2) (pa_cons (pv 1) pa_nil))) (blkOk_by (own := [("_law_word", 4), ("_law_truth", 5)]) (N := NCl) (sc := defScope sClass) (by decide +kernel)) (fun _ _ _ _ _ => (pg_tup rfl (pgs_cons (pg_name (i := 4) scClass.nd rfl (.inl rfl)) (pgs_cons (pg_name (i := 5) scClass.nd rfl (.inl rfl)) pgs_nil)))) (fun _ _ _ _ _ => pts_one (pt_val (pv 5))) (fun _ _ _ _ _ => (pv 4)))
      (pss_cons (ps_if (pt_cmpR op_ne (pe_callB call_len_seq (by rfl) m_len (by decide +kernel) (pa_cons (pv 3) pa_nil)) pe_int (nomark _))
        (pss_one (ps_ret pe_str))
        pss_nil)
      (pss_one (ps_ret (pe_ix ix_list (pv 3) pe_int (fun _ _ => rfl)))))))))), ?_⟩
    refine ⟨_, rfl, rfl, _, rfl, if_n (decide_eq_false (fun z => nomatch z)) ?_⟩
    refine ⟨_, rfl, a, CK, d, fs, .ref CB, .ref CB, false, rfl, ha, hd, N9.xc, .own _, N9.kB, _, rfl, a, CK, d, fs, .ref CD, .ref CD, false, rfl, ha, hd, N9.xc, .own _, N9.kD, _, rfl, a, CK, d, fs, .ref CG, .ref CG, false, rfl, ha, hd, N9.xc, .own _, N9.kG, by show 3 ≤ sizeLine; decide, fun l1 n1 => ?_⟩
    have s1 := same_new (o := .lst [.bl false, .bl false, .bl false]) n1
    have ha1 := s1 _ _ ha
    have hd1 := s1 _ _ hd
    refine ⟨_, rfl, _, rfl, a, CK, d, fs, .ref CK, .ref CK, true, rfl, ha1, hd1, N9.xc, .own _, N9.kK, _, rfl, a, CK, d, fs, .ref CL, .ref CL, false, rfl, ha1, hd1, N9.xc, .own _, N9.kL, _, rfl, a, CK, d, fs, .ref CO, .ref CO, false, rfl, ha1, hd1, N9.xc, .own _, N9.kO, by show 3 ≤ sizeLine; decide, fun l2 n2 => ?_⟩
    have s2 := same_new (o := .lst [.bl true, .bl false, .bl false]) n2
    refine ⟨l1, l2, _, _, rfl, rfl, s2 _ _ upd_same, upd_same, (by show 3 + 3 ≤ sizeLine; decide), fun l3 n3 => ?_⟩
    have s3 := same_new (o := .lst ([.bl false, .bl false, .bl false] ++ [.bl true, .bl false, .bl false])) n3
    have s13 := (s1.trans s2).trans s3
    have ha3 := s13 _ _ ha
    have hd3 := s13 _ _ hd
    refine ⟨_, rfl, _, rfl, a, CK, d, fs, .ref CN, .ref CN, false, rfl, ha3, hd3, N9.xc, .own _, N9.kN, _, rfl, a, CK, d, fs, .ref CP, .ref CP, false, rfl, ha3, hd3, N9.xc, .own _, N9.kP, _, rfl, a, CK, d, fs, .ref CT, .ref CT, false, rfl, ha3, hd3, N9.xc, .own _, N9.kT, by show 3 ≤ sizeLine; decide, fun l4 n4 => ?_⟩
    have s4 := same_new (o := .lst [.bl false, .bl false, .bl false]) n4
    refine ⟨l3, l4, _, _, rfl, rfl, s4 _ _ upd_same, upd_same, (by show 6 + 3 ≤ sizeLine; decide), fun l5 n5 => ?_⟩
    have s5 := same_new (o := .lst (nineT.map V.bl)) n5
    have s15 := (s13.trans s4).trans s5
    obtain ⟨H5, e5⟩ : ∃ H5, upd (upd (upd (upd (upd H l1 (.lst [.bl false, .bl false, .bl false])) l2 (.lst [.bl true, .bl false, .bl false])) l3 (.lst ([.bl false, .bl false, .bl false] ++ [.bl true, .bl false, .bl false]))) l4 (.lst [.bl false, .bl false, .bl false])) l5 (.lst (nineT.map V.bl)) = H5 := ⟨_, rfl⟩
    have h5 : H5 l5 = some (.lst (nineT.map V.bl)) := by
      rw [← e5]
      exact upd_same
    have sH5 : Same H H5 := by
      rw [← e5]
      exact s15
    refine ⟨by show 9 ≤ sizeLine; decide, fun l6 n60 => ?_⟩
    have n6 : H5 l6 = none := by
      rw [← e5]
      exact n60
    have s6 : Same H5 (upd (upd (upd (upd (upd (upd H l1 (.lst [.bl false, .bl false, .bl false])) l2 (.lst [.bl true, .bl false, .bl false])) l3 (.lst ([.bl false, .bl false, .bl false] ++ [.bl true, .bl false, .bl false]))) l4 (.lst [.bl false, .bl false, .bl false])) l5 (.lst (nineT.map V.bl))) l6 (.lst (nineW.map V.str))) := by
      rw [e5]
      exact same_new n6
    have h6 : (upd (upd (upd (upd (upd (upd H l1 (.lst [.bl false, .bl false, .bl false])) l2 (.lst [.bl true, .bl false, .bl false])) l3 (.lst ([.bl false, .bl false, .bl false] ++ [.bl true, .bl false, .bl false]))) l4 (.lst [.bl false, .bl false, .bl false])) l5 (.lst (nineT.map V.bl))) l6 (.lst (nineW.map V.str))) l6 = some (.lst (nineW.map V.str)) := upd_same
    obtain ⟨H6, e6⟩ : ∃ H6, upd (upd (upd (upd (upd (upd H l1 (.lst [.bl false, .bl false, .bl false])) l2 (.lst [.bl true, .bl false, .bl false])) l3 (.lst ([.bl false, .bl false, .bl false] ++ [.bl true, .bl false, .bl false]))) l4 (.lst [.bl false, .bl false, .bl false])) l5 (.lst (nineT.map V.bl))) l6 (.lst (nineW.map V.str)) = H6 := ⟨_, rfl⟩
    have g6 : H6 l6 = some (.lst (nineW.map V.str)) := by
      rw [← e6]
      exact h6
    have g5 : H6 l5 = some (.lst (nineT.map V.bl)) := by
      rw [← e6]
      exact s6 _ _ h5
    have sH6 : Same H H6 := by
      rw [← e6]
      exact sH5.trans s6
    refine ⟨_, rfl, _, rfl, l6, l5, nineW.map V.str, nineT.map V.bl, rfl, SqL.of h6, SqL.of (s6 _ _ h5), fun D nD0 => ?_⟩
    have nD : H6 D = none := by
      rw [← e6]
      exact nD0
    refine lc_it (walk_zip (K := K) (a := l6) (b := l5) (xs := nineW.map V.str) (ys := nineT.map V.bl) (n := 9) rfl) (fun j Hc => Same H6 Hc ∧ Hc D = some (.lst ((pick (nineW.take j) (nineT.take j)).map V.str))) ?_ ?_ ?_ ?_
    · rw [← e6]
      exact ⟨same_new nD0, upd_same⟩
    · rintro j Hc _ ⟨sc, _⟩
      exact ⟨SqL.of (sc _ _ g6), SqL.of (sc _ _ g5)⟩
    · rintro j x Hc Hd hj ⟨sc, hD⟩ ⟨t, x1, x2, rfl, nt, rfl, f1, f2⟩
      replace f1 : (nineW.map V.str)[j]? = some x1 := f1
      replace f2 : (nineT.map V.bl)[j]? = some x2 := f2
      rw [List.getElem?_map] at f1 f2
      obtain ⟨z, hz, rfl⟩ := Option.map_eq_some_iff.mp f1
      obtain ⟨b, hb, rfl⟩ := Option.map_eq_some_iff.mp f2
      have st := same_new (o := .tup [V.str z, V.bl b]) nt
      refine ⟨t, _, rfl, SqT.of upd_same, rfl, _, _, rfl, _, _, rfl, rfl, rfl, _, rfl, b, rfl, ?_⟩
      have pt := pick_take hz hb
      cases b with
      | false =>
        refine if_f ⟨sc.trans st, ?_⟩
        rw [pt, if_neg (by decide), List.append_nil]
        exact st _ _ hD
      | true =>
        refine if_t ⟨_, rfl, _, st _ _ hD, ?_, same_put nD (sc.trans st), ?_⟩
        · rw [List.length_map]
          have := pick_len (nineW.take j) (nineT.take j)
          rw [List.length_take] at this
          exact small1000 (by omega)
        · rw [upd_same, pt, List.map_append]
          rfl
    · rintro Hc ⟨sc, hD⟩
      have hD1 : Hc D = some (.lst [.str "keep"]) := hD
      refine ⟨_, rfl, D, _, rfl, .inl (SqL.of hD1), rfl, _, rfl, if_n (by show (!decide (V.int 1 = V.int 1)) = false; decide) ?_⟩
      exact ⟨_, rfl, D, _, 0, .str "keep", rfl, rfl, SqL.of hD1, rfl, q _ (sH6.trans sc)⟩
def spMade (K : PySem.W.Frag) (C : Addr) : Sp := fun vs H Q _ => ∃ (wa ka : Addr) (ws : List Int) (ks : List (Option Int)) (way : Int), vs = [.ref wa, .ref ka, .int way] ∧ SqT K H wa (ws.map V.int) ∧ WOk ws ∧ SqT K H ka (ks.map vo) ∧
  (wrong ks (ws.length + 1) = none → ∀ (t a ha : Addr) (H' : Hp), Same H H' → H a = none → H' t = some (.tup [.str "made", .ref a]) → KpO C H' a wa ka ha → H' ha = some (.tup ((List.replicate ks.length none).map vo)) → Q (.ref t) H') ∧
  (∀ i, wrong ks (ws.length + 1) = some i → ∀ (t : Addr) (H' : Hp), Same H H' → H' t = some (.tup [.str "refused", .int (i : Nat)]) → Q (.ref t) H')
theorem ok_made {f : Addr} {fd : FuncData} {k : Nat} (F : Fun K "_law_made" "_law_made" sMade f fd) (N9 : Nine K mg CB CD CG CK CL CO CN CP CT) (K_Keeping : CalRC P w K mg base k "Keeping" C ["self", "widths", "keeps"] (spInit K C CK)) (K_Keeping_k : CalRCK P w K mg base k "Keeping" C ["self", "widths", "keeps"] ["keeps", "widths"] [1, 0] (spInit K C CK)) (L_class : Cal P w K mg base k "_law_class" ["_law_caught"] (spClass CK)) :
    FnOk P w K mg base CX0 (k + 2) f fd ["_law_some_widths", "_law_some_keeps", "_law_way"] (spMade K C) := by
  refine F.ok scMade (fun vs H Q E h => ?_) (fun cdv A outer s H vs Q E hr h => ?_)
  · obtain ⟨wa, ka, ws, ks, way, rfl, _⟩ := h
    rfl
  · obtain ⟨wa, ka, ws, ks, way, rfl, hw, wok, hk, qY, qN⟩ := h
    refine ⟨_, pss_cons (ps_set (i := 3) scMade.nd rfl (.inl rfl) pe_non) (pss_cons (ps_set (i := 4) scMade.nd rfl (.inl rfl) pe_non)
      (pss_cons (ps_try_keep (i := 5) (j := 4) rfl rfl rfl scMade.nd rfl rfl rfl rfl (tests_one ⟨by rfl, by decide, .inl N9.mK⟩)
        (fun W pn xe tk _ => pss_one (ps_if (pt_cmpR op_eq (pv 2) pe_int (nomark _))
          (pss_one (ps_set (i := 3) scMade.nd rfl (.inl rfl) (pe_mkT K_Keeping hr (by rfl) tk (pa_cons (pv 0) (pa_cons (pv 1) pa_nil)))))
          (pss_one (ps_set (i := 3) scMade.nd rfl (.inl rfl) (pe_mkKT K_Keeping_k hr (by rfl) tk (pk_cons (pv 1) (pk_cons (pv 0) pk_nil))))))))
      (pss_cons (ps_if (PW.pt (pw_and (pt_cmpR op_notN (pv 4) pe_non (nomark _)) (pw_and1 (PW.pt (pw_or (pt_cmpR op_ne (pe_cal L_class (hr.mono (by omega)) (by rfl) (pa_cons (pv 4) pa_nil)) pe_str (nomark _)) (pw_or1 (pt_not (pt_val (pe_callB call_isV (by rfl) N9.mi PyProof.Rows.boot_isinstance (pa_cons (pv 4) (pa_cons (pe_bltn (v := .ty "ValueError") (by rfl) N9.mV PyProof.Rows.Boot.«ValueError» rfl) pa_nil)))))))))))
        (pss_one (ps_ret (pe_tup (pa_cons pe_str (pa_cons pe_non pa_nil)))))
        pss_nil)
      (pss_cons (ps_if (pt_cmpR op_notN (pv 4) pe_non (nomark _))
        (pss_one (ps_ret (pe_tup (pa_cons pe_str (pa_cons (pe_exf (pv 4)) pa_nil)))))
        pss_nil)
      (pss_one (ps_ret (pe_tup (pa_cons pe_str (pa_cons (pv 3) pa_nil))))))))), ?_⟩
    -- what is made
    have good : ∀ (a d : Addr), H a = none → H d = none → d ≠ a → wrong ks (ws.length + 1) = none → ∀ (ha : Addr) (H' : Hp), KpO C H' a wa ka ha → H' ha = some (.tup ((List.replicate ks.length none).map vo)) → Kp a (upd (upd H d (.own a)) a (.ins C d [])) H' → ∀ t, H' t = none → Q (.ref t) (upd H' t (.tup [.str "made", .ref a])) := fun a d na nd da e ha H' hm hh kp t nt => by
      have st := same_new (o := .tup [.str "made", .ref a]) nt
      obtain ⟨dx, hm⟩ := hm
      refine qY e t a ha _ (Same.trans (fun b o e => ?_) st) na upd_same ⟨dx, st _ _ hm⟩ (st _ _ hh)
      have nb : b ≠ a := ne_of_none e na
      refine kp b o nb ?_
      rw [upd_ne nb, upd_ne (ne_of_none e nd)]
      exact e
    -- what is refused
    have bad : ∀ (a d : Addr), H a = none → H d = none → d ≠ a → ∀ (i : Nat), wrong ks (ws.length + 1) = some i → ∀ (H' : Hp) (dd : Addr), Same (upd (upd H d (.own a)) a (.ins C d [])) H' → H' dd = some (.xd [("at", .int (i : Nat))]) → ∀ b, H' b = none → Same H (upd H' b (ExV (.ref CK) (some dd) b)) ∧ ∀ t H'', Same (upd H' b (ExV (.ref CK) (some dd) b)) H'' → H'' t = none → Q (.ref t) (upd H'' t (.tup [.str "refused", .int (i : Nat)])) := fun a d na nd da i e H' dd s' hd b nb => by
      have s0 : Same H (upd (upd H d (.own a)) a (.ins C d [])) := fun c o e => by
        rw [upd_ne (ne_of_none e na), upd_ne (ne_of_none e nd)]
        exact e
      have s1 := (s0.trans s').trans (same_new (o := ExV (.ref CK) (some dd) b) nb)
      exact ⟨s1, fun t H'' s'' nt => qN i e t _ ((s1.trans s'').trans (same_new nt)) upd_same⟩
    have made0 : ∀ a d, H a = none → H d = none → d ≠ a → SqT K (upd (upd H d (.own a)) a (.ins C d [])) wa (ws.map V.int) ∧ SqT K (upd (upd H d (.own a)) a (.ins C d [])) ka (ks.map vo) := fun a d na nd da => by
      have s0 : Same H (upd (upd H d (.own a)) a (.ins C d [])) := fun c o e => by
        rw [upd_ne (ne_of_none e na), upd_ne (ne_of_none e nd)]
        exact e
      exact ⟨sqT_same s0 hw, sqT_same s0 hk⟩
    refine ⟨_, rfl, rfl, _, rfl, ite2 (fun g => ?_) (fun g => ?_)⟩
    · refine ⟨_, rfl, _, rfl, fun a d na nd da => ⟨a, d, wa, ka, ws, ks, rfl, upd_same, (made0 a d na nd da).1, wok, (made0 a d na nd da).2, fun e ha H' hm hh kp => ⟨rfl, ?_⟩, fun i e H' dd s' ndd hd => ⟨N9.ex, fun b nb => ?_⟩⟩⟩
      · refine ⟨_, rfl, rfl, false, congrArg V.bl (by decide), if_f (if_f ?_)⟩
        refine ⟨_, rfl, rfl, false, congrArg V.bl (by decide), if_f ?_⟩
        exact ⟨_, rfl, by show 2 ≤ sizeLine; decide, fun t nt => good a d na nd da e ha H' hm hh kp t nt⟩
      · obtain ⟨s1, fin⟩ := bad a d na nd da i e H' dd s' hd b nb
        have hb : (upd H' b (ExV (.ref CK) (some dd) b)) b = some (ExV (.ref CK) (some dd) b) := upd_same
        have hdd : (upd H' b (ExV (.ref CK) (some dd) b)) dd = some (.xd [("at", .int (i : Nat))]) := same_new nb _ _ hd
        refine ⟨_, rfl, rfl, true, congrArg V.bl (by rw [decide_eq_false (fun z => nomatch z)] <;> rfl), if_t ?_⟩
        refine ⟨_, rfl, b, dd, _, rfl, hb, hdd, fun H2 s2 => ⟨rfl, false, congrArg V.bl (by decide), if_f ?_⟩⟩
        refine ⟨_, rfl, b, CK, dd, _, .ty "ValueError", .type "ValueError", true, rfl, s2 _ _ hb, s2 _ _ hdd, N9.xc, .ty _, N9.kV, true, rfl, if_f ?_⟩
        refine ⟨_, rfl, rfl, true, congrArg V.bl (by rw [decide_eq_false (fun z => nomatch z)] <;> rfl), if_t ?_⟩
        exact ⟨_, rfl, b, CK, dd, _, .int (i : Nat), rfl, s2 _ _ hb, N9.xf, N9.no, s2 _ _ hdd, rfl, by show 2 ≤ sizeLine; decide, fun t nt => fin t H2 s2 nt⟩
    · refine ⟨_, rfl, _, rfl, rfl, fun a d na nd da => ⟨a, d, wa, ka, ws, ks, rfl, upd_same, (made0 a d na nd da).1, wok, (made0 a d na nd da).2, fun e ha H' hm hh kp => ⟨rfl, ?_⟩, fun i e H' dd s' ndd hd => ⟨N9.ex, fun b nb => ?_⟩⟩⟩
      · refine ⟨_, rfl, rfl, false, congrArg V.bl (by decide), if_f (if_f ?_)⟩
        refine ⟨_, rfl, rfl, false, congrArg V.bl (by decide), if_f ?_⟩
        exact ⟨_, rfl, by show 2 ≤ sizeLine; decide, fun t nt => good a d na nd da e ha H' hm hh kp t nt⟩
      · obtain ⟨s1, fin⟩ := bad a d na nd da i e H' dd s' hd b nb
        have hb : (upd H' b (ExV (.ref CK) (some dd) b)) b = some (ExV (.ref CK) (some dd) b) := upd_same
        have hdd : (upd H' b (ExV (.ref CK) (some dd) b)) dd = some (.xd [("at", .int (i : Nat))]) := same_new nb _ _ hd
        refine ⟨_, rfl, rfl, true, congrArg V.bl (by rw [decide_eq_false (fun z => nomatch z)] <;> rfl), if_t ?_⟩
        refine ⟨_, rfl, b, dd, _, rfl, hb, hdd, fun H2 s2 => ⟨rfl, false, congrArg V.bl (by decide), if_f ?_⟩⟩
        refine ⟨_, rfl, b, CK, dd, _, .ty "ValueError", .type "ValueError", true, rfl, s2 _ _ hb, s2 _ _ hdd, N9.xc, .ty _, N9.kV, true, rfl, if_f ?_⟩
        refine ⟨_, rfl, rfl, true, congrArg V.bl (by rw [decide_eq_false (fun z => nomatch z)] <;> rfl), if_t ?_⟩
        exact ⟨_, rfl, b, CK, dd, _, .int (i : Nat), rfl, s2 _ _ hb, N9.xf, N9.no, s2 _ _ hdd, rfl, by show 2 ≤ sizeLine; decide, fun t nt => fin t H2 s2 nt⟩
end
end Tg

set_option maxHeartbeats 1000000
namespace Tg
open PySem PySem.Spec PyProof.Rows L2
abbrev sLaw : Stmt := topS 35
abbrev NLw : List Str := ["_law_script", "_law_cell", "_law_purse_here", "_law_some_widths", "_law_some_keeps", "_law_wrong_here", "_law_word", "_law_made_here"]
theorem scLaw : FnScope NLw ["_law_script"] (defScope sLaw) := ⟨rfl, rfl, rfl, by decide +kernel, rfl, by decide +kernel, by decide +kernel⟩
/-! ### as data -/
def dO : Option Int → PyData
  | none => .none
  | some i => .int i
theorem dp_vo {K : PySem.W.Frag} {H : Hp} : ∀ o : Option Int, Dp K H (vo o) (dO o)
  | none => .non
  | some i => .int i
theorem dp_vos {K : PySem.W.Frag} {H : Hp} : ∀ os : List (Option Int), DpAll K H (os.map vo) (os.map dO)
  | [] => .nil
  | o :: os => .cons (dp_vo o) (dp_vos os)
theorem dO_all (os : List (Option Int)) : PyData.canLayAll0 (os.map dO) = true ∧ PyData.depthAll (os.map dO) = 0 ∧ PyData.eqvAll (os.map dO) (os.map dO) = true := by
  induction os with
  | nil => exact ⟨rfl, rfl, rfl⟩
  | cons x r ih =>
    obtain ⟨h1, h2, h3⟩ := ih
    cases x with
    | none =>
      refine ⟨?_, ?_, ?_⟩
      · show (true && PyData.canLayAll0 (r.map dO)) = true
        rw [h1]
        rfl
      · show max 0 (PyData.depthAll (r.map dO)) = 0
        rw [h2]
        rfl
      · show (true && PyData.eqvAll (r.map dO) (r.map dO)) = true
        rw [h3]
        rfl
    | some x =>
      refine ⟨?_, ?_, ?_⟩
      · show (true && PyData.canLayAll0 (r.map dO)) = true
        rw [h1]
        rfl
      · show max 0 (PyData.depthAll (r.map dO)) = 0
        rw [h2]
        rfl
      · show ((x == x) && PyData.eqvAll (r.map dO) (r.map dO)) = true
        rw [h3, beq_self_eq_true]
        rfl
theorem sh_list (os : List (Option Int)) : SeqAt.shaped (.list (os.map dO)) = true := by
  refine shaped_of (dO_all os).1 ?_
  show PyData.depthAll (os.map dO) + 1 ≤ 64
  rw [(dO_all os).2.1]
  decide
theorem sh_tup (os : List (Option Int)) : SeqAt.shaped (.tuple (os.map dO)) = true := by
  refine shaped_of (dO_all os).1 ?_
  show PyData.depthAll (os.map dO) + 1 ≤ 64
  rw [(dO_all os).2.1]
  decide
section
variable (P : Program) (w : World) (K : PySem.W.Frag) (mg : Str → Option Value) (base : Heap)
/-- a method of the class C, its last parameters left out -/
def CalMD (k : Nat) (C : Addr) (m : Str) (ps : List Str) (dvs : List V) (sp : Sp) : Prop := ∃ f fd ds, FnOk P w K mg base CX0 k f fd ps sp ∧ Meth K C m f ∧ Binds K fd ps ds ∧ Vals dvs ds
end
theorem pe_calMD {X : Cx} {k : Nat} {ps : List Str} {dvs : List V} {sp : Sp} {m : Str} {C : Addr} {o : Expr} {pos apos : Pos} {to : TE} {pl : Sem Bool} (he : PE X o to) (cl : Cls X.K C) (c : CalMD X.prog X.w X.K X.mg X.base k C m ps dvs sp) (hr : Room k X.A)
    (ht : eval (.Call (.Attribute o m apos) [] [] pos) X.env = (do let ov ← eval o X.env; standAt apos.atName; let (f, first) ← holding [ov] (getMethod ov m pl); callWith pos f first (backTo pos (starEach [] X.env)) (backToKw pos (keywordEach [] X.env))) := by rfl) :
    PE X (.Call (.Attribute o m apos) [] [] pos) (tMeth C m sp dvs E0 to tNil) := by
  obtain ⟨f, fd, ds, F, hm, hb, hd⟩ := c
  exact pe_meth0 (pl := pl) he cl hm F hr hb hd pass0 ht
theorem rep_at {n i : Nat} (h : i < n) : (List.replicate n (none : Option Int))[i]? = some none := by
  rw [List.getElem?_replicate, if_pos h]
/-- behind None nothing but None -/
theorem wr_none {many : Nat} : ∀ {ks : List (Option Int)} {i : Nat}, wr many i none ks = none → ∀ b, b ∈ ks → b = none
  | [], i, h, b, hb => nomatch hb
  | c :: ks, i, h, b, hb => by
    unfold wr at h
    split at h
    · cases h
    · rename_i z
      have cn : c = none := by
        cases c with
        | none => rfl
        | some y => exact absurd (.inr rfl) z
      subst cn
      rcases List.mem_cons.mp hb with e | e
      · exact e
      · exact wr_none h b e
theorem all_none {many : Nat} {ks : List (Option Int)} (h : wrong ks many = none) (h0 : ks[0]? = some none) : ks = List.replicate ks.length none := by
  refine List.eq_replicate_iff.mpr ⟨rfl, fun b hb => ?_⟩
  cases ks with
  | nil => cases hb
  | cons c r =>
    cases h0
    unfold wrong wr at h
    split at h
    · cases h
    · rcases List.mem_cons.mp hb with e | e
      · exact e
      · exact wr_none h b e
theorem newH_none (ws : List Int) (hs : List (Option Int)) (now : Int) (n : Nat) : newH ws (List.replicate n none) hs now = List.replicate (ws.length + 1) none := by
  refine List.eq_replicate_iff.mpr ⟨newH_len _ _ _ _, fun b hb => ?_⟩
  obtain ⟨i, _, rfl⟩ := List.mem_map.mp hb
  have e : (List.replicate n (none : Option Int)).getD i none = none := by
    rw [List.getD_eq_getElem?_getD, List.getElem?_replicate]
    split <;> rfl
  rw [e]
  rfl
section
variable {P : Program} {w : World} {K : PySem.W.Frag} {mg : Str → Option Value} {base : Heap} {C CB CD CG CK CL CO CN CP CT : Addr}
def spNG (K : PySem.W.Frag) (C : Addr) : Sp := fun vs H Q _ => ∃ (e wa ka ha : Addr) (ws : List Int), vs = [.ref e, .ref wa] ∧ KpO C H e wa ka ha ∧ NdT H wa (ws.map V.int) ∧ WOk ws ∧ ws.Nodup ∧ SqT K H ha ((List.replicate (ws.length + 1) none).map vo) ∧ ∀ H', Same H H' → Q (.bl true) H'
theorem ok_ng {f : Addr} {fd : FuncData} {k : Nat} (F : Fun K "_law_none_gone" "_law_none_gone" sNG f fd) (T : TKeep K C) (M_gone_before_0 : CalMD P w K mg base k C "gone_before" ["self", "width"] [.non] (spGone K C)) (M_gone_before : CalM P w K mg base k C "gone_before" ["self", "width"] (spGone K C)) (m_len : mg "len" = none) :
    FnOk P w K mg base CX0 (k + 1) f fd ["_law_keeping", "_law_some_widths"] (spNG K C) := by
  refine F.ok scNG (fun vs H Q E h => ?_) (fun cdv A outer s H vs Q E hr h => ?_)
  · obtain ⟨e, wa, ka, ha, ws, rfl, _⟩ := h
    rfl
  · obtain ⟨e, wa, ka, ha, ws, rfl, ⟨dx, he⟩, hw, ok, nd, hh, q⟩ := h
    have hu := hr.units
    refine ⟨_, pss_cons (ps_set (i := 2) scNG.nd rfl (.inl rfl) (pe_op op_cat (pe_lst (pa_cons (pe_calMD (pv 0) T.cl M_gone_before_0 (hr.mono (by omega))) pa_nil)) (pe_lc (own := [("_law_width", 3)]) (g := (gName 3)) (tt := tYes) rfl scNG.nd (pi_tup (pv 1)) (blkOk_by (own := [("_law_width", 3)]) (N := NNg) (sc := defScope sNG) (by decide +kernel)) (fun _ _ _ _ _ => (pg_name (i := 3) scNG.nd rfl (.inl rfl))) (fun _ _ _ _ _ => pts_nil) (fun _ _ _ _ _ => (pe_calM (pv 0) T.cl M_gone_before (hr.mono (by omega)) (pa_cons (pv 3) pa_nil))))))
      (pss_one (ps_ret (pe_cmpR (op_eqD hu) (pv 2) (pe_op op_rep (pe_lst (pa_cons pe_non pa_nil)) (pe_callB call_len_seq (by rfl) m_len (by decide +kernel) (pa_cons (pv 2) pa_nil))) (nomark _)))), ?_⟩
    have l4 := ok.le
    have lw : (ws.map V.int).length = ws.length := List.length_map ..
    obtain ⟨hs, ehs⟩ : ∃ hs, List.replicate (ws.length + 1) (none : Option Int) = hs := ⟨_, rfl⟩
    have ev : ∀ i, i < ws.length + 1 → hs[i]? = some none := fun i hi => by
      rw [← ehs]
      exact rep_at hi
    rw [ehs] at hh
    refine ⟨_, rfl, e, dx, _, rfl, he, rfl, e, wa, ka, ha, ws, hs, 0, none, .non, rfl, ⟨dx, he⟩, hw, nd, hh, ev 0 (by omega), .inl ⟨rfl, rfl⟩, by show 1 ≤ sizeLine; decide, fun l1 n1 => ?_⟩
    have sA := same_new (o := .lst [vo none]) n1
    refine ⟨_, rfl, wa, rfl, ⟨_, (hw.same sA).sq⟩, fun D nD => lc_it (walk_tup (K := K) (a := wa) (xs := ws.map V.int)) (fun j Hc => Same (upd H l1 (.lst [vo none])) Hc ∧ Hc D = some (.lst (List.replicate j V.non))) ⟨same_new nD, upd_same⟩ (fun j Hc _ hc => ((hw.same sA).same hc.1).sq) ?_ ?_⟩
    · rintro j x Hc Hd hj ⟨sc, hD⟩ ⟨rfl, ex⟩
      obtain ⟨y, ey, rfl⟩ := map_at ex
      rw [lw] at hj
      have s2 := sA.trans sc
      have hec := s2 _ _ he
      refine ⟨rfl, ?_⟩
      unfold tYes
      refine (if_pos rfl).mpr ⟨_, rfl, e, dx, _, rfl, hec, rfl, _, rfl, e, wa, ka, ha, ws, hs, j + 1, none, .int y, rfl, ⟨dx, hec⟩, hw.same s2, nd, sqT_same s2 hh, ev _ (by omega), .inr ⟨j, y, rfl, ey, rfl⟩, _, hD, small1000 (by rw [List.length_replicate]; omega), same_put nD sc, ?_⟩
      rw [upd_same, List.replicate_succ']
      rfl
    · rintro Hc ⟨sc, hD⟩
      rw [lw] at hD
      refine ⟨l1, D, _, _, rfl, rfl, sc _ _ upd_same, hD, (by rw [List.length_replicate]; exact Nat.le_of_lt (small1000 (by show 1 + ws.length ≤ 1000; omega))), fun l2 n2 => ?_⟩
      have s3 := same_new (o := .lst ([vo none] ++ List.replicate ws.length V.non)) n2
      have h2 : (upd Hc l2 (.lst ([vo none] ++ List.replicate ws.length V.non))) l2 = some (.lst ((List.replicate (ws.length + 1) none).map vo)) := by
        rw [upd_same, List.map_replicate, List.replicate_succ]
        rfl
      have s4 := (sA.trans sc).trans s3
      obtain ⟨H4, e4⟩ : ∃ H4, upd Hc l2 (.lst ([vo none] ++ List.replicate ws.length V.non)) = H4 := ⟨_, rfl⟩
      rw [e4] at h2 s4
      rw [e4]
      refine ⟨_, rfl, by show 1 ≤ sizeLine; decide, fun l3 n3 => ?_⟩
      have s5 := same_new (o := .lst [V.non]) n3
      have h5 := s5 _ _ h2
      have ln : ((List.replicate (ws.length + 1) (none : Option Int)).map vo).length = ws.length + 1 := by rw [List.length_map, List.length_replicate]
      refine ⟨_, rfl, l2, _, rfl, .inl (SqL.of h5), l3, _, _, rfl, rfl, upd_same, by rw [ln]; omega, by rw [ln]; omega, (by rw [ln]; show 1 * _ ≤ sizeLine; exact Nat.le_of_lt (small1000 (by omega))), fun l6 n6 => ?_⟩
      have s6 := same_new (o := .lst (List.replicate ((((List.replicate (ws.length + 1) (none : Option Int)).map vo).length : Nat) : Int).toNat [V.non]).flatten) n6
      have h6 : (upd (upd H4 l3 (.lst [V.non])) l6 (.lst (List.replicate ((((List.replicate (ws.length + 1) (none : Option Int)).map vo).length : Nat) : Int).toNat [V.non]).flatten)) l6 = some (.lst ((List.replicate (ws.length + 1) none).map vo)) := by
        rw [upd_same, ln, Int.toNat_natCast, rep_none]
      refine ⟨.list ((List.replicate (ws.length + 1) none).map dO), .list ((List.replicate (ws.length + 1) none).map dO), .lst (SqL.of (s6 _ _ h5)) (dp_vos _), .lst (SqL.of h6) (dp_vos _), sh_list _, sh_list _, ?_⟩
      have z := q _ (s4.trans (s5.trans s6))
      show Q (.bl (PyData.eqvAll ((List.replicate (ws.length + 1) none).map dO) ((List.replicate (ws.length + 1) none).map dO))) _
      rw [(dO_all _).2.2]
      exact z
def spLaw (K : PySem.W.Frag) : Sp := fun vs H Q _ => ∃ (sa : Addr) (ns : List Int), vs = [.ref sa] ∧ SqL K H sa (ns.map V.int) ∧ ns.length ≤ 63 ∧ ∀ H', Q (.bl true) H'
structure LawC (P : Program) (w : World) (K : PySem.W.Frag) (mg : Str → Option Value) (base : Heap) (C : Addr) (k : Nat) : Prop where
  L_purse : Cal P w K mg base k "_law_purse" ["_law_script", "_law_at"] (spPurse K)
  L_draw : CDraw P w K mg base k
  L_widths : Cal P w K mg base k "_law_widths" ["_law_purse_here"] spWidths
  L_rising : Cal P w K mg base k "_law_rising" ["_law_purse_here", "_law_many"] spRis
  L_bent : Cal P w K mg base k "_law_bent" ["_law_purse_here", "_law_some_keeps"] spBent
  L_wrong : Cal P w K mg base k "_law_wrong" ["_law_some_keeps", "_law_many"] spWrong
  L_made : Cal P w K mg base k "_law_made" ["_law_some_widths", "_law_some_keeps", "_law_way"] (spMade K C)
  L_none_gone : Cal P w K mg base k "_law_none_gone" ["_law_keeping", "_law_some_widths"] (spNG K C)
  M_expire : CalM P w K mg base k C "expire" ["self", "now"] (spExp K C)
  T : TKeep K C
  m_range : mg "range" = none
  m_len : mg "len" = none
  m_max : mg "max" = none
  m_tuple : mg "tuple" = none
theorem ok_law {f : Addr} {fd : FuncData} {k : Nat} (F : Fun K "law" "law" sLaw f fd) (Z : LawC P w K mg base C k) : FnOk P w K mg base CX0 (k + 1) f fd ["_law_script"] (spLaw K) := by
  obtain ⟨L_purse, L_draw, L_widths, L_rising, L_bent, L_wrong, L_made, L_none_gone, M_expire, T, m_range, m_len, m_max, m_tuple⟩ := Z
  refine F.ok scLaw (fun vs H Q E h => ?_) (fun cdv A outer s H vs Q E hr h => ?_)
  · obtain ⟨sa, ns, rfl, _⟩ := h
    rfl
  · obtain ⟨sa, ns, rfl, hS, hlen, q⟩ := h
    have hu := hr.units
    refine ⟨_, pss_cons (ps_for PassesOwn.never rfl (pi_range1 (by rfl) m_range (pa_cons (pe_callB (call_max2 rfl) (by rfl) m_max (by decide +kernel) (pa_cons pe_int (pa_cons (pe_callB call_len_seq (by rfl) m_len (by decide +kernel) (pa_cons (pe_slice sl_list (pv 0) po_none (po_some pe_int)) pa_nil)) pa_nil))) pa_nil)) (pg_name (i := 1) scLaw.nd rfl (.inl rfl))
        (pss_cons (ps_set (i := 2) scLaw.nd rfl (.inl rfl) (pe_cal L_purse (hr.mono (by omega)) (by rfl) (pa_cons (pv 0) (pa_cons (pv 1) pa_nil))))
        (pss_cons (ps_set (i := 3) scLaw.nd rfl (.inl rfl) (pe_cal L_widths (hr.mono (by omega)) (by rfl) (pa_cons (pv 2) pa_nil)))
        (pss_cons (ps_set (i := 4) scLaw.nd rfl (.inl rfl) (pe_cal L_bent (hr.mono (by omega)) (by rfl) (pa_cons (pv 2) (pa_cons (pe_cal L_rising (hr.mono (by omega)) (by rfl) (pa_cons (pv 2) (pa_cons (pe_op op_add (pe_callB call_len_seq (by rfl) m_len (by decide +kernel) (pa_cons (pv 3) pa_nil)) pe_int) pa_nil))) pa_nil))))
        (pss_cons (ps_set (i := 5) scLaw.nd rfl (.inl rfl) (pe_cal L_wrong (hr.mono (by omega)) (by rfl) (pa_cons (pv 4) (pa_cons (pe_op op_add (pe_callB call_len_seq (by rfl) m_len (by decide +kernel) (pa_cons (pv 3) pa_nil)) pe_int) pa_nil))))
        (pss_cons (ps_asg (pe_cal L_made (hr.mono (by omega)) (by rfl) (pa_cons (pv 3) (pa_cons (pe_callTy call_tuple_of (by rfl) m_tuple (by decide +kernel) (pa_cons (pv 4) pa_nil)) (pa_cons (pe_cal L_draw (hr.mono (by omega)) (by rfl) (pa_cons (pv 2) (pa_cons pe_int pa_nil))) pa_nil)))) (pg_tup rfl (pgs_cons (pg_name (i := 6) scLaw.nd rfl (.inl rfl)) (pgs_cons (pg_name (i := 7) scLaw.nd rfl (.inl rfl)) pgs_nil))))
        (pss_one (ps_if (pt_cmpR op_notN (pv 5) pe_non (nomark _))
          (pss_one (ps_if (pt_cmpR (op_neD hu) (pe_tup (pa_cons (pv 6) (pa_cons (pv 7) pa_nil))) (pe_tup (pa_cons pe_str (pa_cons (pv 5) pa_nil))) (nomark _))
            (pss_one (ps_ret pe_bl))
            pss_nil))
          (pss_one (ps_if (PW.pt (pw_or (pt_cmpR op_ne (pv 6) pe_str (nomark _)) (pw_or1 (pt_not (pt_val (pe_cal L_none_gone (hr.mono (by omega)) (by rfl) (pa_cons (pv 7) (pa_cons (pv 3) pa_nil))))))))
            (pss_one (ps_ret pe_bl))
            (pss_one (ps_if (PW.pt (pw_and (pt_cmpR op_isN (pe_ix ix_list (pv 4) pe_int (fun _ _ => rfl)) pe_non (nomark _)) (pw_and1 (pt_cmpR (op_neD hu) (pe_calM (pv 7) T.cl M_expire (hr.mono (by omega)) (pa_cons (pe_op op_pow pe_int pe_int) pa_nil)) (pe_callTy call_tuple_of (by rfl) m_tuple (by decide +kernel) (pa_cons (pv 4) pa_nil)) (nomark _)))))
              (pss_one (ps_ret pe_bl))
              pss_nil))))))))))))
      (pss_one (ps_ret pe_bl)), ?_⟩
    obtain ⟨ms, em, lm⟩ : ∃ ms : List Int, cutV (ns.map V.int) none (some 20) = ms.map V.int ∧ ms.length ≤ ns.length := cut_ints ns _ _
    refine ⟨_, rfl, 20, rfl, sa, _, rfl, hS, fun l0 n0 => ?_⟩
    rw [em]
    refine ⟨l0, _, rfl, .inl (SqL.of upd_same), _, _, rfl, _, rfl, ?_, ?_, ?_⟩
    · rw [List.length_map]
      split <;> omega
    · rw [List.length_map]
      split <;> omega
    obtain ⟨tn, et⟩ : ∃ tn : Nat, (if ((ms.map V.int).length : Int) > 4 then ((ms.map V.int).length : Int) else 4).toNat = tn := ⟨_, rfl⟩
    have tn6 : tn ≤ 63 := by
      rw [List.length_map] at et
      split at et <;> omega
    rw [et]
    refine for_range (n := tn) (fun i σ Hc => ∃ (z1 z2 z3 z4 z5 z6 z7 : Option V), σ = [some (.ref sa), z1, z2, z3, z4, z5, z6, z7] ∧ Same H Hc) ?_ ?_ ?_
    · exact ⟨none, none, none, none, none, none, none, rfl, same_new n0⟩
    · rintro i σ Hc hi ⟨z1, z2, z3, z4, z5, z6, z7, rfl, sc⟩
      refine ⟨_, rfl, _, rfl, sa, ns, _, rfl, sqL_same sc hS, hlen, by omega, by omega, fun p H1 s1 np p1 => ?_⟩
      refine ⟨_, rfl, p, _, rfl, p1, by decide, fun wa ws H2 k2 p2 nd wok nodup => ?_⟩
      have l4 := wok.le
      have l1 : 0 < ws.length := List.length_pos_iff.mpr wok.ne
      have lw : (ws.map V.int).length = ws.length := List.length_map ..
      refine ⟨_, rfl, _, rfl, _, rfl, wa, _, rfl, .inr nd.sq, _, _, rfl, rfl, p, _, ws.length + 1, (by rw [lw]; rfl), p2, by omega, by omega, by omega, fun lr ks0 H3 k3 p3 nlp hlr lks => ?_⟩
      refine ⟨p, lr, _, ks0, rfl, p3, by omega, nlp, hlr, by omega, by omega, fun l ks H4 k4 p4 nl hl l10 => ?_⟩
      have nd4 := (nd.kt (p2.kt k3)).kt (p3.kt k4)
      refine ⟨_, rfl, _, rfl, wa, _, rfl, .inr nd4.sq, _, _, rfl, rfl, l, ks, ws.length + 1, (by rw [lw]; rfl), hl, l10, fun H5 s5 => ?_⟩
      have m5 : Same Hc H5 := (Kp.same s1 np ((k2.trans k3).trans k4)).trans s5
      have nd5 := nd4.same s5
      have hl5 := s5 _ _ hl
      have p5 := p4.same s5
      refine ⟨_, rfl, _, rfl, l, _, rfl, .inl ⟨SqL.of hl5, fun ka nka => ?_⟩⟩
      have s6 := same_new (o := .tup (ks.map vo)) nka
      refine ⟨_, rfl, p, _, 2, rfl, p5.same s6, by omega, by decide, by decide, fun way H7 k7 p7 y0 y1 => ?_⟩
      have kt7 : KT (upd H5 ka (.tup (ks.map vo))) H7 := (p5.same s6).kt k7
      have hk7 : SqT K H7 ka (ks.map vo) := sqT_kt kt7 (SqT.of upd_same)
      have nd7 := (nd5.same s6).kt kt7
      have hl7 : H7 l = some (.lst (ks.map vo)) := k7 _ _ nl (s6 _ _ hl5)
      have m7 : Same Hc H7 := Kp.same (m5.trans s6) np k7
      refine ⟨wa, ka, ws, ks, way, rfl, nd7.sq, wok, hk7, fun e t a ha H8 s8 na ht hm hh => ?_, fun j e t H8 s8 ht => ?_⟩
      · -- made
        have kl : ks.length = ws.length + 1 := by
          have z := wr_len (Nat.zero_le _) e
          omega
        rw [e]
        refine ⟨t, _, rfl, SqT.of ht, rfl, _, _, rfl, _, _, rfl, rfl, ?_⟩
        refine ⟨_, rfl, rfl, false, rfl, if_f ?_⟩
        have m8 := m7.trans s8
        have nd8 := nd7.same s8
        have hl8 := s8 _ _ hl7
        have hh' : SqT K H8 ha ((List.replicate (ws.length + 1) none).map vo) := by
          rw [← kl]
          exact SqT.of hh
        refine ⟨_, rfl, rfl, false, rfl, if_f ⟨_, rfl, _, rfl, a, wa, ka, ha, ws, rfl, hm, nd8, wok, nodup, hh', fun H9 s9 => ⟨true, rfl, if_f ?_⟩⟩⟩
        have m9 := m8.trans s9
        have hl9 := s9 _ _ hl8
        have hm9 : KpO C H9 a wa ka ha := by
          obtain ⟨dx, z⟩ := hm
          exact ⟨dx, s9 _ _ z⟩
        have hk9 := sqT_same (s8.trans s9) hk7
        have hh9 := sqT_same s9 hh'
        obtain ⟨x0, ex0⟩ : ∃ x0, ks[0]? = some x0 := ⟨_, List.getElem?_eq_getElem (by omega)⟩
        refine ⟨_, rfl, l, _, 0, vo x0, rfl, rfl, SqL.of hl9, ?_, rfl, _, rfl, ?_⟩
        · show atI (ks.map vo) ((0 : Nat) : Int) = _
          exact atI_nat (by rw [List.getElem?_map, ex0]; rfl)
        cases x0 with
        | some y => exact if_n rfl (if_f ⟨_, _, _, _, _, _, _, rfl, sc.trans m9⟩)
        | none =>
          have alln := all_none e ex0
          refine if_y rfl ?_
          obtain ⟨dx, hm9'⟩ := id hm9
          refine ⟨_, rfl, a, dx, _, rfl, hm9', rfl, 10, 14, rfl, rfl, ⟨by decide, by decide, by decide⟩, a, wa, ka, ha, ws, ks, List.replicate (ws.length + 1) none, _, rfl, hm9, (nd8.same s9).sq, wok, hk9, hh9, kl, by rw [List.length_replicate], fun ha' H10 hm10 hh10 k10 => ?_⟩
          have m10 : Same Hc H10 := Kp.same m9 (m7.free na) k10
          have hl10 : H10 l = some (.lst (ks.map vo)) := k10 _ _ (fun z => by
            rw [z, hm9'] at hl9
            cases hl9) hl9
          refine ⟨_, rfl, l, _, rfl, .inl ⟨SqL.of hl10, fun tk ntk => ?_⟩⟩
          have s11 := same_new (o := .tup (ks.map vo)) ntk
          have en : newH ws ks (List.replicate (ws.length + 1) none) (10 ^ (14 : Int).toNat) = ks := by
            rw [alln, newH_none, kl]
          rw [en] at hh10
          refine ⟨.tuple (ks.map dO), .tuple (ks.map dO), .tup (SqT.of (s11 _ _ hh10)) (dp_vos _), .tup (SqT.of upd_same) (dp_vos _), sh_tup _, sh_tup _, false, ?_, if_f ?_⟩
          · show V.bl (!PyData.eqvAll (ks.map dO) (ks.map dO)) = _
            rw [(dO_all _).2.2]
            rfl
          · exact ⟨_, _, _, _, _, _, _, rfl, sc.trans (m10.trans s11)⟩
      · -- refused
        rw [e]
        refine ⟨t, _, rfl, SqT.of ht, rfl, _, _, rfl, _, _, rfl, rfl, ?_⟩
        refine ⟨_, rfl, rfl, true, rfl, if_t ?_⟩
        refine ⟨_, rfl, _, rfl, by show 2 ≤ sizeLine; decide, fun t1 nt1 => ?_⟩
        have s9 := same_new (o := .tup [.str "refused", .int (j : Nat)]) nt1
        refine ⟨_, rfl, by show 2 ≤ sizeLine; decide, fun t2 nt2 => ?_⟩
        have s10 := same_new (o := .tup [.str "refused", .int (j : Nat)]) nt2
        have sh : SeqAt.shaped (.tuple [.str "refused", .int (j : Nat)]) = true := shaped_of (by show (PyData.canLay0 (.str "refused") && (true && true)) = true; decide +kernel) (by show 1 ≤ 64; decide)
        refine ⟨.tuple [.str "refused", .int (j : Nat)], .tuple [.str "refused", .int (j : Nat)], .tup (SqT.of (s10 _ _ upd_same)) (.cons (.str _) (.cons (.int _) .nil)), .tup (SqT.of upd_same) (.cons (.str _) (.cons (.int _) .nil)), sh, sh, false, ?_, if_f ?_⟩
        · show V.bl (!(((("refused" : Str) == ("refused" : Str))) && ((((j : Nat) : Int) == ((j : Nat) : Int)) && true))) = _
          rw [beq_self_eq_true, beq_self_eq_true]
          rfl
        · exact ⟨_, _, _, _, _, _, _, rfl, sc.trans (((m7.trans s8).trans s9).trans s10)⟩
    · rintro σ Hc ⟨z1, z2, z3, z4, z5, z6, z7, rfl, _⟩
      exact q _
end
end Tg

namespace Tg
open PySem PySem.Spec PyProof.Rows L2
section
variable {K : PySem.W.Frag}
theorem kbn_init {f : Addr} {fd : FuncData} (F : Fun K "__init__" "Keeping.__init__" sInit f fd) : KBn K fd ["self", "widths", "keeps"] 1 ["keeps", "widths"] (fun us ws => us ++ prm [1, 0] ws) (fun vs zs => vs ++ prm [1, 0] zs) := by
  obtain ⟨_, _, kV, doc, pm, an, cdv, ct, _, rfl, _, _⟩ := F.ex
  exact ⟨fun s us ws _ h0 h2 => match us, ws, h0, h2 with | [_], [_, _], _, _ => .of_eq rfl, fun r1 r => r1.append (prm_rel r _)⟩
abbrev FGone (K : PySem.W.Frag) (f : Addr) (fd : FuncData) : Prop := FunD K "gone_before" "Keeping.gone_before" (defArgs sGone) (defBody sGone) (defScope sGone) [.non] [] f fd
theorem b_gone0 {f : Addr} {fd : FuncData} (F : FGone K f fd) : ∃ ds, Vals [.non] ds ∧ Binds K fd ["self", "width"] ds := F.binds1 1 0 (fun z => nomatch z) rfl (fun T kV doc pm an cdv ct us its h1 h2 => match us, its, h1, h2 with | [_], [_], _, _ => ⟨_, rfl, rfl⟩)
theorem b_gone {f : Addr} {fd : FuncData} (F : FGone K f fd) : Binds K fd ["self", "width"] [] := by
  obtain ⟨ds, h1, h2⟩ := F.binds1 (ps := ["self", "width"]) 2 1 (fun z => nomatch z) rfl (fun T kV doc pm an cdv ct us its h1 h2 => match us, its, h1, h2 with | [_, _], [_], _, _ => ⟨_, rfl, rfl⟩)
  cases h1
  exact h2
end
/-! ### what the top has written; the law's own head -/
theorem all_mk {l : PySem.W.OpenLaw} {w : World} {K : PySem.W.Frag} {h : Heap} {mg : Str → Option Value} {fa CK C1 CB CD CG CL CO CN CP CT f1 f2 f3 f4 f5 f6 f7 f8 f9 f10 f11 f12 f13 f14 f15 f16 f17 f18 f19 f20 f21 f22 : Addr} {nmCK qCK : Str} {NCK : Addr} {bsCK : List Value} {snCK : List Str} {subCK : List Value} {abCK : Bool} {colCK : Option Bool} {ddCK : Option Addr} {v0CK v1CK v2CK v3CK v5CK : Option Value} {TD : Addr} {zMW : Tok} {nT : Nat} {cT : Value} {dT : Option Addr} {sT : Array (Option Value)} (X : K.In h) (G : h.Ns mainGlobals mg) (hfa : mg "law" = some (.ref fa))
    {od1 an1 od2 an2 od3 an3 od4 an4 od5 an5 od6 an6 od7 an7 od8 an8 od9 an9 od10 an10 od11 an11 od12 an12 od13 an13 od14 an14 od15 an15 od16 an16 od17 an17 od18 an18 od19 an19 od20 an20 od21 an21 od22 an22 : Option Addr} {sl1 sl2 sl3 sl4 sl5 sl6 sl7 sl8 sl9 sl10 sl11 sl12 sl13 sl14 sl15 sl16 sl17 sl18 sl19 sl20 sl21 sl22 : Array (Option Value)} {oc1 kV1 dc1 pm1 cd1 ct1 oc2 kV2 dc2 pm2 cd2 ct2 oc3 kV3 dc3 pm3 cd3 ct3 oc4 kV4 dc4 pm4 cd4 ct4 oc5 kV5 dc5 pm5 cd5 ct5 oc6 kV6 dc6 pm6 cd6 ct6 oc7 kV7 dc7 pm7 cd7 ct7 oc8 kV8 dc8 pm8 cd8 ct8 oc9 kV9 dc9 pm9 cd9 ct9 oc10 kV10 dc10 pm10 cd10 ct10 oc11 kV11 dc11 pm11 cd11 ct11 oc12 kV12 dc12 pm12 cd12 ct12 oc13 kV13 dc13 pm13 cd13 ct13 oc14 kV14 dc14 pm14 cd14 ct14 oc15 kV15 dc15 pm15 cd15 ct15 oc16 kV16 dc16 pm16 cd16 ct16 oc17 kV17 dc17 pm17 cd17 ct17 oc18 kV18 dc18 pm18 cd18 ct18 oc19 kV19 dc19 pm19 cd19 ct19 oc20 kV20 dc20 pm20 cd20 ct20 oc21 kV21 dc21 pm21 cd21 ct21 oc22 kV22 dc22 pm22 cd22 ct22 : Value}
    (aCK : PySem.W.nsIn K mainGlobals "NoKeep" = some (some (.ref CK)))
    (xCK : K.lookup CK = some (excClassObj nmCK qCK CK NCK bsCK [.type "ValueError", .type "Exception", .type "BaseException", .type "object"] true snCK subCK abCK colCK ddCK v0CK v1CK v2CK v3CK v5CK "ValueError.__new__"))
    (saCK : PySem.W.findIn K (.ref CK) "__setattr__" = some (some (.builtin "object.__setattr__")))
    (gaCK : PySem.W.findIn K (.ref CK) "__getattribute__" = some (some (.builtin "BaseException.__getattribute__")))
    (ggCK : PySem.W.findIn K (.ref CK) "__getattr__" = some none)
    (noCK : PySem.W.findIn K (.ref CK) "at" = some none)
    (kcCK : PySem.W.keepIn K (.ref CK) = true)
    (ecCK : PySem.W.subIn K (.ref CK) (.type "BaseException") = some true)
    (tcCK : PySem.W.typeIn K (.ref CK) = some (.type "type"))
    (hcCK : PySem.W.hasDictIn K CK = true)
    (ccCK : PySem.W.findIn K (.ref CK) "__class__" = some (some (.builtin "object.__class__")))
    (moCK : PySem.W.mroIn K CK (.type "object") = some true)
    (xmCK : PySem.W.exmOne K (.ref CK) (.ref CK) = some true)
    (hnC : PySem.W.specialIn K (.builtin "object.__class__") "__get__" = some (some (.builtin "getset_descriptor.__get__")))
    (htC : PySem.W.takesIn K (.builtin "object.__class__") = some true)
    (vV : PySem.W.findCls K (.type "ValueError") (.type "type") "__init__" = some (.val (.builtin "ValueError.__init__")))
    (aCB : PySem.W.nsIn K mainGlobals "NoBody" = some (some (.ref CB)))
    (aCD : PySem.W.nsIn K mainGlobals "NoDeed" = some (some (.ref CD)))
    (aCG : PySem.W.nsIn K mainGlobals "NoGrain" = some (some (.ref CG)))
    (aCL : PySem.W.nsIn K mainGlobals "NoLog" = some (some (.ref CL)))
    (aCO : PySem.W.nsIn K mainGlobals "NoOrder" = some (some (.ref CO)))
    (aCN : PySem.W.nsIn K mainGlobals "NoNumber" = some (some (.ref CN)))
    (aCP : PySem.W.nsIn K mainGlobals "NoPlace" = some (some (.ref CP)))
    (aCT : PySem.W.nsIn K mainGlobals "NoText" = some (some (.ref CT)))
    (aC1 : PySem.W.nsIn K mainGlobals "Keeping" = some (some (.ref C1)))
    (pgC1 : PySem.W.plainGet K C1 Str.empty = true)
    (hdC1 : PySem.W.hasDictIn K C1 = true)
    (poC1 : PySem.W.plainOver K C1 = true)
    (saC1 : PySem.W.findIn K (.ref C1) "__setattr__" = some (some (.builtin "object.__setattr__")))
    (mkC1 : PySem.W.makesIn K C1 = true)
    (kcC1 : PySem.W.keepIn K (.ref C1) = true)
    (noC1_widths : PySem.W.findIn K (.ref C1) "widths" = some none)
    (noC1_keeps : PySem.W.findIn K (.ref C1) "keeps" = some none)
    (noC1_horizons : PySem.W.findIn K (.ref C1) "horizons" = some none)
    (a1 : PySem.W.findIn K (.ref CK) "__init__" = some (some (.ref f1)))
    (t1 : PySem.W.typeIn K (.ref f1) = some (.type "function"))
    (l1 : K.lookup f1 = some ⟨oc1, od1, .func (PySem.W.fnOf "__init__" "NoKeep.__init__" (defArgs sErrK) (defBody sErrK) (defScope sErrK) .none kV1 dc1 pm1 an1 cd1 ct1), sl1⟩)
    (c1 : PySem.W.codeIn K cd1 "NoKeep.__init__" = true)
    (k1 : PySem.W.keepIn K (.ref f1) = true)
    (a2 : PySem.W.findIn K (.ref C1) "__init__" = some (some (.ref f2)))
    (i2 : PySem.W.isFn K (.ref f2) = true)
    (l2 : K.lookup f2 = some ⟨oc2, od2, .func (PySem.W.fnOf "__init__" "Keeping.__init__" (defArgs sInit) (defBody sInit) (defScope sInit) .none kV2 dc2 pm2 an2 cd2 ct2), sl2⟩)
    (c2 : PySem.W.codeIn K cd2 "Keeping.__init__" = true)
    (k2 : PySem.W.keepIn K (.ref f2) = true)
    (a3 : PySem.W.findIn K (.ref C1) "expire" = some (some (.ref f3)))
    (i3 : PySem.W.isFn K (.ref f3) = true)
    (l3 : K.lookup f3 = some ⟨oc3, od3, .func (PySem.W.fnOf "expire" "Keeping.expire" (defArgs sExp) (defBody sExp) (defScope sExp) .none kV3 dc3 pm3 an3 cd3 ct3), sl3⟩)
    (c3 : PySem.W.codeIn K cd3 "Keeping.expire" = true)
    (k3 : PySem.W.keepIn K (.ref f3) = true)
    (a4 : PySem.W.findIn K (.ref C1) "gone_before" = some (some (.ref f4)))
    (i4 : PySem.W.isFn K (.ref f4) = true)
    (l4 : K.lookup f4 = some ⟨oc4, od4, .func (PySem.W.fnOf "gone_before" "Keeping.gone_before" (defArgs sGone) (defBody sGone) (defScope sGone) (.ref TD) kV4 dc4 pm4 an4 cd4 ct4), sl4⟩)
    (lT : K.lookup TD = some ⟨cT, dT, .seq #[.none] nT, sT⟩)
    (c4 : PySem.W.codeIn K cd4 "Keeping.gone_before" = true)
    (k4 : PySem.W.keepIn K (.ref f4) = true)
    (a5 : PySem.W.nsIn K mainGlobals "cell_of" = some (some (.ref f5)))
    (l5 : K.lookup f5 = some ⟨oc5, od5, .func (PySem.W.fnOf "cell_of" "cell_of" (defArgs sCellOf) (defBody sCellOf) (defScope sCellOf) .none kV5 dc5 pm5 an5 cd5 ct5), sl5⟩)
    (c5 : PySem.W.codeIn K cd5 "cell_of" = true)
    (k5 : PySem.W.keepIn K (.ref f5) = true)
    (a6 : PySem.W.nsIn K mainGlobals "is_whole" = some (some (.ref f6)))
    (l6 : K.lookup f6 = some ⟨oc6, od6, .func (PySem.W.fnOf "is_whole" "is_whole" (defArgs sWhole) (defBody sWhole) (defScope sWhole) .none kV6 dc6 pm6 an6 cd6 ct6), sl6⟩)
    (c6 : PySem.W.codeIn K cd6 "is_whole" = true)
    (k6 : PySem.W.keepIn K (.ref f6) = true)
    (a7 : PySem.W.nsIn K mainGlobals "check_widths" = some (some (.ref f7)))
    (l7 : K.lookup f7 = some ⟨oc7, od7, .func (PySem.W.fnOf "check_widths" "check_widths" (defArgs sCkW) (defBody sCkW) (defScope sCkW) .none kV7 dc7 pm7 an7 cd7 ct7), sl7⟩)
    (c7 : PySem.W.codeIn K cd7 "check_widths" = true)
    (k7 : PySem.W.keepIn K (.ref f7) = true)
    (a8 : PySem.W.nsIn K mainGlobals "check_width" = some (some (.ref f8)))
    (l8 : K.lookup f8 = some ⟨oc8, od8, .func (PySem.W.fnOf "check_width" "check_width" (defArgs sCkw) (defBody sCkw) (defScope sCkw) .none kV8 dc8 pm8 an8 cd8 ct8), sl8⟩)
    (c8 : PySem.W.codeIn K cd8 "check_width" = true)
    (k8 : PySem.W.keepIn K (.ref f8) = true)
    (a9 : PySem.W.nsIn K mainGlobals "is_keep" = some (some (.ref f9)))
    (l9 : K.lookup f9 = some ⟨oc9, od9, .func (PySem.W.fnOf "is_keep" "is_keep" (defArgs sKeep) (defBody sKeep) (defScope sKeep) .none kV9 dc9 pm9 an9 cd9 ct9), sl9⟩)
    (c9 : PySem.W.codeIn K cd9 "is_keep" = true)
    (k9 : PySem.W.keepIn K (.ref f9) = true)
    (a10 : PySem.W.nsIn K mainGlobals "check_keeps" = some (some (.ref f10)))
    (l10 : K.lookup f10 = some ⟨oc10, od10, .func (PySem.W.fnOf "check_keeps" "check_keeps" (defArgs sCkK) (defBody sCkK) (defScope sCkK) .none kV10 dc10 pm10 an10 cd10 ct10), sl10⟩)
    (c10 : PySem.W.codeIn K cd10 "check_keeps" = true)
    (k10 : PySem.W.keepIn K (.ref f10) = true)
    (a11 : PySem.W.nsIn K mainGlobals "horizon_behind" = some (some (.ref f11)))
    (l11 : K.lookup f11 = some ⟨oc11, od11, .func (PySem.W.fnOf "horizon_behind" "horizon_behind" (defArgs sHB) (defBody sHB) (defScope sHB) .none kV11 dc11 pm11 an11 cd11 ct11), sl11⟩)
    (c11 : PySem.W.codeIn K cd11 "horizon_behind" = true)
    (k11 : PySem.W.keepIn K (.ref f11) = true)
    (a12 : PySem.W.nsIn K mainGlobals "_law_mixed" = some (some (.ref f12)))
    (l12 : K.lookup f12 = some ⟨oc12, od12, .func (PySem.W.fnOf "_law_mixed" "_law_mixed" (defArgs sMixed) (defBody sMixed) (defScope sMixed) .none kV12 dc12 pm12 an12 cd12 ct12), sl12⟩)
    (c12 : PySem.W.codeIn K cd12 "_law_mixed" = true)
    (k12 : PySem.W.keepIn K (.ref f12) = true)
    (a13 : PySem.W.nsIn K mainGlobals "_law_purse" = some (some (.ref f13)))
    (l13 : K.lookup f13 = some ⟨oc13, od13, .func (PySem.W.fnOf "_law_purse" "_law_purse" (defArgs sPurse) (defBody sPurse) (defScope sPurse) .none kV13 dc13 pm13 an13 cd13 ct13), sl13⟩)
    (c13 : PySem.W.codeIn K cd13 "_law_purse" = true)
    (k13 : PySem.W.keepIn K (.ref f13) = true)
    (a14 : PySem.W.nsIn K mainGlobals "_law_draw" = some (some (.ref f14)))
    (l14 : K.lookup f14 = some ⟨oc14, od14, .func (PySem.W.fnOf "_law_draw" "_law_draw" (defArgs sDraw) (defBody sDraw) (defScope sDraw) .none kV14 dc14 pm14 an14 cd14 ct14), sl14⟩)
    (c14 : PySem.W.codeIn K cd14 "_law_draw" = true)
    (k14 : PySem.W.keepIn K (.ref f14) = true)
    (a15 : PySem.W.nsIn K mainGlobals "_law_class" = some (some (.ref f15)))
    (l15 : K.lookup f15 = some ⟨oc15, od15, .func (PySem.W.fnOf "_law_class" "_law_class" (defArgs sClass) (defBody sClass) (defScope sClass) .none kV15 dc15 pm15 an15 cd15 ct15), sl15⟩)
    (c15 : PySem.W.codeIn K cd15 "_law_class" = true)
    (k15 : PySem.W.keepIn K (.ref f15) = true)
    (a16 : PySem.W.nsIn K mainGlobals "_law_widths" = some (some (.ref f16)))
    (l16 : K.lookup f16 = some ⟨oc16, od16, .func (PySem.W.fnOf "_law_widths" "_law_widths" (defArgs sWidths) (defBody sWidths) (defScope sWidths) .none kV16 dc16 pm16 an16 cd16 ct16), sl16⟩)
    (c16 : PySem.W.codeIn K cd16 "_law_widths" = true)
    (k16 : PySem.W.keepIn K (.ref f16) = true)
    (a17 : PySem.W.nsIn K mainGlobals "_law_rising" = some (some (.ref f17)))
    (l17 : K.lookup f17 = some ⟨oc17, od17, .func (PySem.W.fnOf "_law_rising" "_law_rising" (defArgs sRis) (defBody sRis) (defScope sRis) .none kV17 dc17 pm17 an17 cd17 ct17), sl17⟩)
    (c17 : PySem.W.codeIn K cd17 "_law_rising" = true)
    (k17 : PySem.W.keepIn K (.ref f17) = true)
    (a18 : PySem.W.nsIn K mainGlobals "_law_bent" = some (some (.ref f18)))
    (l18 : K.lookup f18 = some ⟨oc18, od18, .func (PySem.W.fnOf "_law_bent" "_law_bent" (defArgs sBent) (defBody sBent) (defScope sBent) .none kV18 dc18 pm18 an18 cd18 ct18), sl18⟩)
    (c18 : PySem.W.codeIn K cd18 "_law_bent" = true)
    (k18 : PySem.W.keepIn K (.ref f18) = true)
    (a19 : PySem.W.nsIn K mainGlobals "_law_wrong" = some (some (.ref f19)))
    (l19 : K.lookup f19 = some ⟨oc19, od19, .func (PySem.W.fnOf "_law_wrong" "_law_wrong" (defArgs sWrong) (defBody sWrong) (defScope sWrong) .none kV19 dc19 pm19 an19 cd19 ct19), sl19⟩)
    (c19 : PySem.W.codeIn K cd19 "_law_wrong" = true)
    (k19 : PySem.W.keepIn K (.ref f19) = true)
    (a20 : PySem.W.nsIn K mainGlobals "_law_made" = some (some (.ref f20)))
    (l20 : K.lookup f20 = some ⟨oc20, od20, .func (PySem.W.fnOf "_law_made" "_law_made" (defArgs sMade) (defBody sMade) (defScope sMade) .none kV20 dc20 pm20 an20 cd20 ct20), sl20⟩)
    (c20 : PySem.W.codeIn K cd20 "_law_made" = true)
    (k20 : PySem.W.keepIn K (.ref f20) = true)
    (a21 : PySem.W.nsIn K mainGlobals "_law_none_gone" = some (some (.ref f21)))
    (l21 : K.lookup f21 = some ⟨oc21, od21, .func (PySem.W.fnOf "_law_none_gone" "_law_none_gone" (defArgs sNG) (defBody sNG) (defScope sNG) .none kV21 dc21 pm21 an21 cd21 ct21), sl21⟩)
    (c21 : PySem.W.codeIn K cd21 "_law_none_gone" = true)
    (k21 : PySem.W.keepIn K (.ref f21) = true)
    (a22 : PySem.W.nsIn K mainGlobals "law" = some (some (.ref f22)))
    (l22 : K.lookup f22 = some ⟨oc22, od22, .func (PySem.W.fnOf "law" "law" (defArgs sLaw) (defBody sLaw) (defScope sLaw) .none kV22 dc22 pm22 an22 cd22 ct22), sl22⟩)
    (c22 : PySem.W.codeIn K cd22 "law" = true)
    (k22 : PySem.W.keepIn K (.ref f22) = true)
    (z_range : PySem.W.nsIn K mainGlobals "range" = some none)
    (z_len : PySem.W.nsIn K mainGlobals "len" = some none)
    (z_max : PySem.W.nsIn K mainGlobals "max" = some none)
    (z_isinstance : PySem.W.nsIn K mainGlobals "isinstance" = some none)
    (z_tuple : PySem.W.nsIn K mainGlobals "tuple" = some none)
    (z_enumerate : PySem.W.nsIn K mainGlobals "enumerate" = some none)
    (z_zip : PySem.W.nsIn K mainGlobals "zip" = some none)
    (z_int : PySem.W.nsIn K mainGlobals "int" = some none)
    (z_bool : PySem.W.nsIn K mainGlobals "bool" = some none)
    (z_ValueError : PySem.W.nsIn K mainGlobals "ValueError" = some none)
    (v_MOST_WIDTHS : PySem.W.nsIn K mainGlobals "MOST_WIDTHS" = some (some (.int 4 zMW)))
    (kitCB : PySem.W.kitOne K (.ref CK) (.ref CB) = some false)
    (kitCD : PySem.W.kitOne K (.ref CK) (.ref CD) = some false)
    (kitCG : PySem.W.kitOne K (.ref CK) (.ref CG) = some false)
    (kitCL : PySem.W.kitOne K (.ref CK) (.ref CL) = some false)
    (kitCO : PySem.W.kitOne K (.ref CK) (.ref CO) = some false)
    (kitCN : PySem.W.kitOne K (.ref CK) (.ref CN) = some false)
    (kitCP : PySem.W.kitOne K (.ref CK) (.ref CP) = some false)
    (kitCT : PySem.W.kitOne K (.ref CK) (.ref CT) = some false)
    (kitK : PySem.W.kitOne K (.ref CK) (.ref CK) = some true)
    (kitV : PySem.W.kitOne K (.ref CK) (.type "ValueError") = some true)
    : ∃ fd : FuncData, (∀ (s : Shared) (v : Value), BindsTo s fd ⟨[v], []⟩ [("_law_script", v)]) ∧ ∀ base : Heap, K.In base → base.Ns mainGlobals mg → FnOk l.prog w K mg base CX0 8 fa fd ["_law_script"] (spLaw K) := by
  have e := hfa.symm.trans (PySem.W.mg_of X G a22)
  cases e
  have F1 := fun_mk (st := sErrK) l1 c1 k1
  have F2 := fun_mk (st := sInit) l2 c2 k2
  have F3 := fun_mk (st := sExp) l3 c3 k3
  have F4 : FGone K f4 _ := ⟨⟨oc4, od4, .ref TD, kV4, dc4, pm4, an4, cd4, ct4, sl4, rfl, l4, c4, .inr ⟨(fun z => nomatch z), TD, _, [.none], nT, rfl, lT, rfl, .cons rfl .nil⟩, .inl rfl⟩, k4⟩
  have F5 := fun_mk (st := sCellOf) l5 c5 k5
  have F6 := fun_mk (st := sWhole) l6 c6 k6
  have F7 := fun_mk (st := sCkW) l7 c7 k7
  have F8 := fun_mk (st := sCkw) l8 c8 k8
  have F9 := fun_mk (st := sKeep) l9 c9 k9
  have F10 := fun_mk (st := sCkK) l10 c10 k10
  have F11 := fun_mk (st := sHB) l11 c11 k11
  have F12 := fun_mk (st := sMixed) l12 c12 k12
  have F13 := fun_mk (st := sPurse) l13 c13 k13
  have F14 := fun_mk (st := sDraw) l14 c14 k14
  have F15 := fun_mk (st := sClass) l15 c15 k15
  have F16 := fun_mk (st := sWidths) l16 c16 k16
  have F17 := fun_mk (st := sRis) l17 c17 k17
  have F18 := fun_mk (st := sBent) l18 c18 k18
  have F19 := fun_mk (st := sWrong) l19 c19 k19
  have F20 := fun_mk (st := sMade) l20 c20 k20
  have F21 := fun_mk (st := sNG) l21 c21 k21
  have F22 := fun_mk (st := sLaw) l22 c22 k22
  have b1 := F1.binds (ps := ["self", "at"]) fun _ _ _ _ _ _ us hl => match us, hl with | [_, _], _ => rfl
  have b2 := F2.binds (ps := ["self", "widths", "keeps"]) fun _ _ _ _ _ _ us hl => match us, hl with | [_, _, _], _ => rfl
  have b3 := F3.binds (ps := ["self", "now"]) fun _ _ _ _ _ _ us hl => match us, hl with | [_, _], _ => rfl
  have b5 := F5.binds (ps := ["time", "width"]) fun _ _ _ _ _ _ us hl => match us, hl with | [_, _], _ => rfl
  have b6 := F6.binds (ps := ["thing"]) fun _ _ _ _ _ _ us hl => match us, hl with | [_], _ => rfl
  have b7 := F7.binds (ps := ["widths"]) fun _ _ _ _ _ _ us hl => match us, hl with | [_], _ => rfl
  have b8 := F8.binds (ps := ["widths", "width"]) fun _ _ _ _ _ _ us hl => match us, hl with | [_, _], _ => rfl
  have b9 := F9.binds (ps := ["keep", "ahead"]) fun _ _ _ _ _ _ us hl => match us, hl with | [_, _], _ => rfl
  have b10 := F10.binds (ps := ["keeps", "many"]) fun _ _ _ _ _ _ us hl => match us, hl with | [_, _], _ => rfl
  have b11 := F11.binds (ps := ["horizon", "now", "keep", "width"]) fun _ _ _ _ _ _ us hl => match us, hl with | [_, _, _, _], _ => rfl
  have b12 := F12.binds (ps := ["_law_cell", "_law_k"]) fun _ _ _ _ _ _ us hl => match us, hl with | [_, _], _ => rfl
  have b13 := F13.binds (ps := ["_law_script", "_law_at"]) fun _ _ _ _ _ _ us hl => match us, hl with | [_, _], _ => rfl
  have b14 := F14.binds (ps := ["_law_purse_here", "_law_out_of"]) fun _ _ _ _ _ _ us hl => match us, hl with | [_, _], _ => rfl
  have b15 := F15.binds (ps := ["_law_caught"]) fun _ _ _ _ _ _ us hl => match us, hl with | [_], _ => rfl
  have b16 := F16.binds (ps := ["_law_purse_here"]) fun _ _ _ _ _ _ us hl => match us, hl with | [_], _ => rfl
  have b17 := F17.binds (ps := ["_law_purse_here", "_law_many"]) fun _ _ _ _ _ _ us hl => match us, hl with | [_, _], _ => rfl
  have b18 := F18.binds (ps := ["_law_purse_here", "_law_some_keeps"]) fun _ _ _ _ _ _ us hl => match us, hl with | [_, _], _ => rfl
  have b19 := F19.binds (ps := ["_law_some_keeps", "_law_many"]) fun _ _ _ _ _ _ us hl => match us, hl with | [_, _], _ => rfl
  have b20 := F20.binds (ps := ["_law_some_widths", "_law_some_keeps", "_law_way"]) fun _ _ _ _ _ _ us hl => match us, hl with | [_, _, _], _ => rfl
  have b21 := F21.binds (ps := ["_law_keeping", "_law_some_widths"]) fun _ _ _ _ _ _ us hl => match us, hl with | [_, _], _ => rfl
  have g5 := PySem.W.mg_of X G a5
  have g6 := PySem.W.mg_of X G a6
  have g7 := PySem.W.mg_of X G a7
  have g8 := PySem.W.mg_of X G a8
  have g9 := PySem.W.mg_of X G a9
  have g10 := PySem.W.mg_of X G a10
  have g11 := PySem.W.mg_of X G a11
  have g12 := PySem.W.mg_of X G a12
  have g13 := PySem.W.mg_of X G a13
  have g14 := PySem.W.mg_of X G a14
  have g15 := PySem.W.mg_of X G a15
  have g16 := PySem.W.mg_of X G a16
  have g17 := PySem.W.mg_of X G a17
  have g18 := PySem.W.mg_of X G a18
  have g19 := PySem.W.mg_of X G a19
  have g20 := PySem.W.mg_of X G a20
  have g21 := PySem.W.mg_of X G a21
  have gC1 := PySem.W.mg_of X G aC1
  have gCB := PySem.W.mg_of X G aCB
  have gCD := PySem.W.mg_of X G aCD
  have gCG := PySem.W.mg_of X G aCG
  have gCL := PySem.W.mg_of X G aCL
  have gCO := PySem.W.mg_of X G aCO
  have gCN := PySem.W.mg_of X G aCN
  have gCP := PySem.W.mg_of X G aCP
  have gCT := PySem.W.mg_of X G aCT
  have gCK := PySem.W.mg_of X G aCK
  have OCK : OexC K CK := ⟨⟨nmCK, qCK, NCK, bsCK, _, snCK, subCK, abCK, colCK, ddCK, v0CK, v1CK, v2CK, v3CK, v5CK, xCK, by decide +kernel⟩, saCK, ecCK, tcCK, kcCK⟩
  have ECK : ExcC K CK := ⟨gaCK, ggCK, ecCK, hcCK, ccCK, hnC, htC, moCK⟩
  have XCK : XfC K CK := ⟨gaCK, ggCK, ecCK, hcCK⟩
  have m_range := PySem.W.mg_none_of X G z_range
  have m_len := PySem.W.mg_none_of X G z_len
  have m_max := PySem.W.mg_none_of X G z_max
  have m_isinstance := PySem.W.mg_none_of X G z_isinstance
  have m_tuple := PySem.W.mg_none_of X G z_tuple
  have m_enumerate := PySem.W.mg_none_of X G z_enumerate
  have m_zip := PySem.W.mg_none_of X G z_zip
  have m_int := PySem.W.mg_none_of X G z_int
  have m_bool := PySem.W.mg_none_of X G z_bool
  have m_ValueError := PySem.W.mg_none_of X G z_ValueError
  have g_MOST_WIDTHS := PySem.W.mg_of X G v_MOST_WIDTHS
  refine ⟨PySem.W.fnOf "law" "law" (defArgs sLaw) (defBody sLaw) (defScope sLaw) .none kV22 dc22 pm22 an22 cd22 ct22, fun s v => .of_eq rfl, fun base _ _ => ?_⟩
  have T : TKeep K C1 := ⟨⟨pgC1, hdC1, poC1, saC1⟩, noC1_widths, noC1_keeps, noC1_horizons⟩
  have N9 : Nine K mg CB CD CG CK CL CO CN CP CT := ⟨gCB, gCD, gCG, gCK, gCL, gCO, gCN, gCP, gCT, m_isinstance, m_ValueError, kitCB, kitCD, kitCG, kitK, kitCL, kitCO, kitCN, kitCP, kitCT, kitV, ECK, XCK, noCK, xmCK⟩
  have D : ∀ j, CDraw l.prog w K mg base (j + 2) := fun j => ⟨f14, _, ok_draw F14 ⟨f12, _, ok_mixed F12, g12, k12, b12⟩ m_range, g14, k14, b14⟩
  have W : ∀ j, Cal l.prog w K mg base (j + 1) "is_whole" ["thing"] spWhole := fun j => ⟨f6, _, ok_whole F6 m_isinstance m_int m_bool, g6, k6, b6⟩
  have CW : Cal l.prog w K mg base 4 "check_widths" ["widths"] (spCkW K) := ⟨f7, _, ok_ckW F7 (W 2) g_MOST_WIDTHS m_len m_enumerate, g7, k7, b7⟩
  have CE : CalE l.prog w K mg base 2 "NoKeep" CK "at" := ⟨f1, _, OCK, a1, t1, ok_errK (k := 1) F1 OCK noCK m_ValueError vV, b1, gCK⟩
  have CKp : CalR l.prog w K mg base 4 "check_keeps" ["keeps", "many"] (spCkK K CK) := ⟨f10, _, ok_ckK F10 ⟨f9, _, ok_keep F9 (W 0), g9, k9, b9⟩ CE m_len m_enumerate, g10, k10, b10⟩
  have OI : FnOk l.prog w K mg base (L2.CX l.prog w) 5 f2 _ ["self", "widths", "keeps"] (spInit K C1 CK) := ok_init F2 T CW CKp m_len m_tuple
  have OG : FnOk l.prog w K mg base CX0 6 f4 _ ["self", "width"] (spGone K C1) := ok_gone F4 T ⟨f8, _, ok_ckw (k := 4) F8, g8, k8, b8⟩
  obtain ⟨ds, v0, bd0⟩ := b_gone0 F4
  exact ok_law (k := 7) F22 ⟨⟨f13, _, ok_purse (k := 6) F13 m_range m_max, g13, k13, b13⟩, D 5, ⟨f16, _, ok_widths F16 (D 4) m_len, g16, k16, b16⟩, ⟨f17, _, ok_ris F17 (D 4) m_range, g17, k17, b17⟩, ⟨f18, _, ok_bent F18 (D 4) m_len, g18, k18, b18⟩, ⟨f19, _, ok_wrong (k := 6) F19 m_len m_enumerate, g19, k19, b19⟩,
    ⟨f20, _, ok_made F20 N9 ⟨f2, _, OI, gC1, ⟨mkC1, a2, i2, kcC1⟩, b2⟩ ⟨f2, _, OI, gC1, ⟨mkC1, a2, i2, kcC1⟩, kbn_init F2⟩ ⟨f15, _, ok_class (k := 4) F15 N9 m_zip m_len, g15, k15, b15⟩, g20, k20, b20⟩,
    ⟨f21, _, ok_ng F21 T ⟨f4, _, ds, OG, ⟨a4, i4, k4⟩, bd0, v0⟩ ⟨f4, _, OG, ⟨a4, i4, k4⟩, b_gone F4⟩ m_len, g21, k21, b21⟩,
    ⟨f3, _, ok_exp (k := 6) F3 T ⟨f11, _, ok_hb F11 ⟨f5, _, ok_cell (k := 4) F5, g5, k5, b5⟩ m_max, g11, k11, b11⟩ m_zip m_tuple, ⟨a3, i3, k3⟩, b3⟩, T, m_range, m_len, m_max, m_tuple⟩
end Tg
open PySem PySem.W PyProof.Rows
set_option maxRecDepth 100000 in
set_option maxHeartbeats 0 in
theorem PySem.Challenge.cw_timegranary_k60_keeps_holds : PySem.Challenge.rw_timegranary_k60_keeps.Holds := by
  w_on; o_law; k_head; (case hw => w_witness2)
  k_fill
  refine L2.walk_of (l := PySem.Challenge.rw_timegranary_k60_keeps) (n := 63) (k := 8) (x := "_law_script") (CX := fun _ => L2.CX0) (sp := fun w => Tg.spLaw _) rfl (by decide) rfl ⟨rfl, by decide, by decide⟩ (fun w h Y => PySem.W.kIn_of Y) ?F (fun _ _ a ns hl _ hS => ⟨a, ns, rfl, hS, hl, fun _ => rfl⟩) (fun _ _ _ _ _ h => h)
  case F =>
    intro w mg fa h KX G hmg
    refine' Tg.all_mk KX G hmg ?aCK ?xCK ?saCK ?gaCK ?ggCK ?noCK ?kcCK ?ecCK ?tcCK ?hcCK ?ccCK ?moCK ?xmCK ?hnC ?htC ?vV ?aCB ?aCD ?aCG ?aCL ?aCO ?aCN ?aCP ?aCT ?aC1 ?pgC1 ?hdC1 ?poC1 ?saC1 ?mkC1 ?kcC1 ?noC1_widths ?noC1_keeps ?noC1_horizons ?a1 ?t1 ?l1 ?c1 ?k1 ?a2 ?i2 ?l2 ?c2 ?k2 ?a3 ?i3 ?l3 ?c3 ?k3 ?a4 ?i4 ?l4 ?lT ?c4 ?k4 ?a5 ?l5 ?c5 ?k5 ?a6 ?l6 ?c6 ?k6 ?a7 ?l7 ?c7 ?k7 ?a8 ?l8 ?c8 ?k8 ?a9 ?l9 ?c9 ?k9 ?a10 ?l10 ?c10 ?k10 ?a11 ?l11 ?c11 ?k11 ?a12 ?l12 ?c12 ?k12 ?a13 ?l13 ?c13 ?k13 ?a14 ?l14 ?c14 ?k14 ?a15 ?l15 ?c15 ?k15 ?a16 ?l16 ?c16 ?k16 ?a17 ?l17 ?c17 ?k17 ?a18 ?l18 ?c18 ?k18 ?a19 ?l19 ?c19 ?k19 ?a20 ?l20 ?c20 ?k20 ?a21 ?l21 ?c21 ?k21 ?a22 ?l22 ?c22 ?k22 ?z_range ?z_len ?z_max ?z_isinstance ?z_tuple ?z_enumerate ?z_zip ?z_int ?z_bool ?z_ValueError ?v_MOST_WIDTHS ?kitCB ?kitCD ?kitCG ?kitCL ?kitCO ?kitCN ?kitCP ?kitCT ?kitK ?kitV
    (case aCK => k_is); (case xCK => k_is); (case saCK => k_is); (case gaCK => k_is); (case ggCK => k_is); (case noCK => k_is)
    (case kcCK => k_is); (case ecCK => k_is); (case tcCK => k_is); (case hcCK => k_is); (case ccCK => k_is); (case moCK => k_is)
    (case xmCK => first | k_is | rfl); (case hnC => k_is); (case htC => k_is); (case vV => first | k_is | rfl); (case aCB => k_is); (case aCD => k_is)
    (case aCG => k_is); (case aCL => k_is); (case aCO => k_is); (case aCN => k_is); (case aCP => k_is); (case aCT => k_is)
    (case aC1 => k_is); (case pgC1 => k_is); (case hdC1 => k_is); (case poC1 => k_is); (case saC1 => k_is); (case mkC1 => k_is)
    (case kcC1 => k_is); (case noC1_widths => k_is); (case noC1_keeps => k_is); (case noC1_horizons => k_is); (case a1 => k_is); (case t1 => k_is)
    (case l1 => k_is); (case c1 => k_is); (case k1 => k_is); (case a2 => k_is); (case i2 => k_is); (case l2 => k_is)
    (case c2 => k_is); (case k2 => k_is); (case a3 => k_is); (case i3 => k_is); (case l3 => k_is); (case c3 => k_is)
    (case k3 => k_is); (case a4 => k_is); (case i4 => k_is); (case l4 => k_is); (case lT => k_is); (case c4 => k_is); (case k4 => k_is)
    (case a5 => k_is); (case l5 => k_is); (case c5 => k_is); (case k5 => k_is); (case a6 => k_is); (case l6 => k_is)
    (case c6 => k_is); (case k6 => k_is); (case a7 => k_is); (case l7 => k_is); (case c7 => k_is); (case k7 => k_is)
    (case a8 => k_is); (case l8 => k_is); (case c8 => k_is); (case k8 => k_is); (case a9 => k_is); (case l9 => k_is)
    (case c9 => k_is); (case k9 => k_is); (case a10 => k_is); (case l10 => k_is); (case c10 => k_is); (case k10 => k_is)
    (case a11 => k_is); (case l11 => k_is); (case c11 => k_is); (case k11 => k_is); (case a12 => k_is); (case l12 => k_is)
    (case c12 => k_is); (case k12 => k_is); (case a13 => k_is); (case l13 => k_is); (case c13 => k_is); (case k13 => k_is)
    (case a14 => k_is); (case l14 => k_is); (case c14 => k_is); (case k14 => k_is); (case a15 => k_is); (case l15 => k_is)
    (case c15 => k_is); (case k15 => k_is); (case a16 => k_is); (case l16 => k_is); (case c16 => k_is); (case k16 => k_is)
    (case a17 => k_is); (case l17 => k_is); (case c17 => k_is); (case k17 => k_is); (case a18 => k_is); (case l18 => k_is)
    (case c18 => k_is); (case k18 => k_is); (case a19 => k_is); (case l19 => k_is); (case c19 => k_is); (case k19 => k_is)
    (case a20 => k_is); (case l20 => k_is); (case c20 => k_is); (case k20 => k_is); (case a21 => k_is); (case l21 => k_is)
    (case c21 => k_is); (case k21 => k_is); (case a22 => k_is); (case l22 => k_is); (case c22 => k_is); (case k22 => k_is)
    (case z_range => k_is); (case z_len => k_is); (case z_max => k_is); (case z_isinstance => k_is); (case z_tuple => k_is); (case z_enumerate => k_is)
    (case z_zip => k_is); (case z_int => k_is); (case z_bool => k_is); (case z_ValueError => k_is); (case v_MOST_WIDTHS => k_is); (case kitCB => first | k_is | rfl)
    (case kitCD => first | k_is | rfl); (case kitCG => first | k_is | rfl); (case kitCL => first | k_is | rfl); (case kitCO => first | k_is | rfl); (case kitCN => first | k_is | rfl); (case kitCP => first | k_is | rfl)
    (case kitCT => first | k_is | rfl); (case kitK => first | k_is | rfl); (case kitV => first | k_is | rfl)

