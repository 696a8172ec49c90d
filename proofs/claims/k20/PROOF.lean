import PyProof.Rows.All
import Wide.All
import OpenK.AllK
import Wide.FinOn
import HandS.ForMost
import HandS.Conv
import HandS.Wide
import HandS.IsInst
import HandS.Defaults
import HandS.Dict
import HandS.Iter
import HandS.Walk
import HandS.Exc
import HandS.ExcInit
import HandS.ExcIs
import HandS.ExcField
import HandS.ExcValue
import KE.KExcIs
import KE.KTryMore
import HandS.WordsExc
import HandS.ExcOwn
import HandS.FStr
import HandS.IntHex
import PyProof.FString3
import PyProof.Rows.StrIntSpec
import HandS.StrMore
import PyProof.StrLawsFrom
import HandS.Deep
import HandS.WideBits
import PySem.Challenge.RW_timegranary_k20_codes_of_numbers
set_option Elab.async false
set_option linter.all false
set_option maxRecDepth 100000
namespace Tg
open PySem PySem.Spec PyProof.Rows L2

/-! ### rules of my own: a call by keywords alone; list(range(a, b, c)) -/
section
variable {X : Cx} {CX : CXT} {k : Nat} {f : Addr} {fd : FuncData} {ps ks : List Str} {sp : Sp} {E : XK} {x : Str} {p pos : Pos} {kws : List Keyword} {tk : TA}
  {g : List Value → List Value → List Value} {gV : List V → List V → List V}
def tKw0 (n : Nat) (sp : Sp) (gV : List V → List V → List V) (E : XK) (tk : TA) : TE :=
  fun σ H Q => tk σ H fun zs H2 => zs.length = n ∧ sp (gV [] zs) H2 Q E
theorem pe_kw0 (F : FnOk X.prog X.w X.K X.mg X.base CX k f fd ps sp) (room : Room k X.A) (gl : Gl X x) (at_x : X.mg x = some (.ref f)) (kept : PySem.W.keepIn X.K (.ref f) = true) (binds : KBn X.K fd ps 0 ks g gV) (lets : Passes CX X E) (vals : PK X kws tk)
    (named : (backToKw pos (keywordEach kws X.env)).all (·.1.isSome) = true := by rfl) (names : (backToKw pos (keywordEach kws X.env)).filterMap (·.1) = ks := by rfl) (nodebug : (x == ("__debug__" : Str)) = false := by decide)
    (nostar : ((backTo pos (starEach [] X.env)).any (·.1) || (backToKw pos (keywordEach kws X.env)).any (·.1.isNone)) = false := by rfl) : PE X (.Call (.Name x p) [] kws pos) (tKw0 ks.length sp gV E tk) := by
  constructor
  intro pins s σ H Q I read
  refine wpAny_Call_Name_kw (ld_glob I gl at_x (PySem.W.callWith_KW0 (h₀ := X.base) I.ok.mod.kin kept named (thn (vals.run pos pins s σ H _ I read) fun ws s2 y => ?_) nostar) nodebug)
  obtain ⟨zs, H2, J, rel, many, h⟩ := y
  rw [names]
  exact ⟨J.kIn, run_fnN (us := []) (vs := []) F room binds lets J .nil rel rfl many h⟩
end

/-- two keywords, the second parameter's first -/
def sw2 {α : Type} : List α → List α
  | [y, x] => [x, y]
  | _ => []
/-- three keywords, the parameters' from the last on -/
def sw3 {α : Type} : List α → List α
  | [z, y, x] => [x, y, z]
  | _ => []
theorem sw2_rel : ∀ {zs : List V} {ws : List Value}, Vals zs ws → Vals (sw2 zs) (sw2 ws)
  | _, _, .nil => .nil
  | _, _, .cons _ .nil => .nil
  | _, _, .cons a (.cons b .nil) => .cons b (.cons a .nil)
  | _, _, .cons _ (.cons _ (.cons _ _)) => .nil
theorem sw3_rel : ∀ {zs : List V} {ws : List Value}, Vals zs ws → Vals (sw3 zs) (sw3 ws)
  | _, _, .nil => .nil
  | _, _, .cons _ .nil => .nil
  | _, _, .cons _ (.cons _ .nil) => .nil
  | _, _, .cons a (.cons b (.cons c .nil)) => .cons c (.cons b (.cons a .nil))
  | _, _, .cons _ (.cons _ (.cons _ (.cons _ _))) => .nil

section
variable {X : Cx} {a b c : Expr} {ta : TA}
def rg3 (a c : Int) (n : Nat) : List V := (List.range n).map fun i => V.int (a + (i : Nat) * c)
theorem rg3_length (a c : Int) (n : Nat) : (rg3 a c n).length = n := by
  simp [rg3]
def R3 (a b c : Int) (n : Nat) : Prop :=
  c ≠ 0 ∧ c.natAbs.log2 < 9000 ∧ Builtin.Range.small a b c = true ∧ Builtin.Range.rangeSize a b c = n ∧ n ≤ 2 ^ 24
def tLst3 (ta : TA) : TE := fun σ H Q => ta σ H fun vs H1 => ∃ (a b c : Int) (n : Nat), vs = [.int a, .int b, .int c] ∧ R3 a b c n ∧
  ∀ q, H1 q = none → Q (.ref q) (upd H1 q (.lst (rg3 a c n)))
theorem pe_lst3 {p p2 pos pos2 : Pos} (calm : X.calm = true) (gl : Gl X "list") (nl : X.mg "list" = none) (gr : Gl X "range") (nr : X.mg "range" = none) (args : PA X [a, b, c] ta)
    (one : starEach [a, b, c] X.env = (false, eval a X.env) :: starEach [b, c] X.env := by rfl) (nostar : (backTo pos2 (starEach [b, c] X.env)).any (·.1) = false := by rfl)
    (whole : starEach [.Call (.Name "range" p2) [a, b, c] [] pos2] X.env = (false, eval (.Call (.Name "range" p2) [a, b, c] [] pos2) X.env) :: starEach [] X.env := by rfl) :
    PE X (.Call (.Name "list" p) [.Call (.Name "range" p2) [a, b, c] [] pos2] [] pos) (tLst3 ta) := by
  constructor
  intro pins s σ H Q I read
  refine Call_ (ld_blt I gl nl boot_list (PyProof.Rows.callWith_type1 (args_cons (Call_ (ld_blt I gr nr boot_range (PyProof.Rows.callWith_type1 (thn (args.run pos2 pins s σ H _ I read) fun us s1 y => ?_) one nostar))) whole) whole))
  obtain ⟨zs, H1, J, rel, i, j, k, n, e, ⟨c0, c1, c2, c3, c4⟩, h⟩ := y
  subst e
  match us, rel with
  | [_, _, _], .cons ⟨t, ei⟩ (.cons ⟨u, ej⟩ (.cons ⟨v, ek⟩ .nil)) =>
    subst ei
    subst ej
    subst ek
    refine call_range_3 c0 (args_nil ?_) (.inl (PyProof.noPylong_of_log2 c1))
    obtain ⟨hx, ehx⟩ : ∃ hx, hx = s1.heap.push { cls := .type "range", data := .fields #[.int i t, .int j u, .int k v] } := ⟨_, rfl⟩
    have J2 : Inv X pins σ H1 { s1 with heap := hx } := by
      rw [ehx]
      exact J.kept (t' := s1.toks) fun _ _ z => Heap.get?_push_of_some _ z
    rw [← ehx]
    refine call_list_range (s := { s1 with heap := hx }) (n := n) (J2.ok.hd calm) (by rw [ehx]; exact IsRange.new ..) c2 c3 c4 fun h' tk acc cc kp made items => ?_
    have len : acc.toList.length = n := Array.length_toList.trans items.1
    have vals : Vals (rg3 i k n) acc.toList := by
      have z := vals_of_get acc.toList (fun m : Nat => V.int (i + m * k)) fun m w hw => by
        obtain ⟨tw, ew⟩ := items.2 m w (by rw [← hw, Array.getElem?_toList])
        exact ⟨tw, ew⟩
      rw [len] at z
      exact z
    refine ⟨.ref hx.objs.size, upd H1 hx.objs.size (.lst (rg3 i k n)), J2.laid kp (Nat.le_refl _) (show ObjOk X.prog X.w _ _ _ (.lst (rg3 i k n)) from ⟨?_, acc.toList, cc, vals, ?_⟩), rfl, h _ (J2.hok.fresh (Nat.le_refl _))⟩
    · rw [rg3_length, sizeLine_eq]
      omega
    · rw [Array.toArray_toList]
      exact made
end

/-! ### lists of ints, compared -/
theorem dp_ints {K : PySem.W.Frag} {H : Hp} : ∀ ns : List Int, DpAll K H (ns.map V.int) (ns.map PyData.int)
  | [] => .nil
  | n :: r => .cons (.int n) (dp_ints r)
theorem lay_ints : ∀ ns : List Int, PyData.canLayAll0 (ns.map PyData.int) = true
  | [] => rfl
  | n :: r => by
    show (true && PyData.canLayAll0 (r.map PyData.int)) = true
    rw [lay_ints r]
    rfl
theorem depth_ints : ∀ ns : List Int, PyData.depthAll (ns.map PyData.int) = 0
  | [] => rfl
  | n :: r => by
    show max 0 (PyData.depthAll (r.map PyData.int)) = 0
    rw [depth_ints r]
    rfl
theorem shaped_ints (ns : List Int) : SeqAt.shaped (.list (ns.map PyData.int)) = true := by
  unfold SeqAt.shaped
  have h1 : PyData.canLay0 (.list (ns.map PyData.int)) = true := lay_ints ns
  have h2 : PyData.depth (.list (ns.map PyData.int)) = 1 := by
    show PyData.depthAll (ns.map PyData.int) + 1 = 1
    rw [depth_ints]
  rw [h1, h2]
  rfl
theorem eqv_ints : ∀ ns : List Int, PyData.eqvAll (ns.map PyData.int) (ns.map PyData.int) = true
  | [] => rfl
  | n :: r => by
    show ((n == n) && PyData.eqvAll (r.map PyData.int) (r.map PyData.int)) = true
    rw [eqv_ints r, beq_self_eq_true]
    rfl
theorem dp_lst {K : PySem.W.Frag} {H : Hp} {a : Addr} {ns : List Int} (h : SqL K H a (ns.map V.int)) : Dp K H (.ref a) (.list (ns.map PyData.int)) := .lst h (dp_ints ns)
end Tg

namespace Tg
open PySem PySem.Spec PyProof.Rows L2
/-! ### defs, methods and classes as a caller needs them -/
section
variable (P : Program) (w : World) (K : PySem.W.Frag) (mg : Str → Option Value) (base : Heap)
/-- the def x is there, and keeps sp by level k -/
def Cal (k : Nat) (x : Str) (ps : List Str) (sp : Sp) : Prop := ∃ f fd, FnOk P w K mg base CX0 k f fd ps sp ∧ mg x = some (.ref f) ∧ PySem.W.keepIn K (.ref f) = true ∧ Binds K fd ps []
/-- the places that is tells, out of a list -/
def prm {α : Type} (is : List Nat) (zs : List α) : List α := is.filterMap fun i => zs[i]?
/-- the same with keywords alone, ks in this order; is: the places of the parameters among them -/
def CalK (k : Nat) (x : Str) (ps ks : List Str) (is : List Nat) (sp : Sp) : Prop := ∃ f fd, FnOk P w K mg base CX0 k f fd ps sp ∧ mg x = some (.ref f) ∧ PySem.W.keepIn K (.ref f) = true ∧ KBn K fd ps 0 ks (fun _ ws => prm is ws) (fun _ zs => prm is zs)
/-- a method of the class C -/
def CalM (k : Nat) (C : Addr) (m : Str) (ps : List Str) (sp : Sp) : Prop := ∃ f fd, FnOk P w K mg base CX0 k f fd ps sp ∧ Meth K C m f ∧ Binds K fd ps []
def CalMK (k : Nat) (C : Addr) (m : Str) (ps ks : List Str) (is : List Nat) (sp : Sp) : Prop := ∃ f fd, FnOk P w K mg base CX0 k f fd ps sp ∧ Meth K C m f ∧ KBn K fd ps 1 ks (fun us ws => us ++ prm is ws) (fun vs zs => vs ++ prm is zs)
/-- a class, by its __init__ -/
def CalC (k : Nat) (x : Str) (C : Addr) (ps : List Str) (sp : Sp) : Prop := ∃ f fd, FnOk P w K mg base CX0 k f fd ps sp ∧ mg x = some (.ref C) ∧ Mk K C f ∧ Binds K fd ps []
end
theorem vals_at : ∀ {zs : List V} {ws : List Value}, Vals zs ws → ∀ i : Nat, (zs[i]? = none ∧ ws[i]? = none) ∨ ∃ z w, zs[i]? = some z ∧ ws[i]? = some w ∧ RelV z w
  | _, _, .nil, i => .inl ⟨by simp, by simp⟩
  | _, _, .cons a b, i => by
    cases i with
    | zero => exact .inr ⟨_, _, rfl, rfl, a⟩
    | succ i => exact vals_at b i
theorem prm_rel {zs : List V} {ws : List Value} (h : Vals zs ws) : ∀ is : List Nat, Vals (prm is zs) (prm is ws)
  | [] => .nil
  | i :: r => by
    have ih := prm_rel h r
    unfold prm at ih ⊢
    rcases vals_at h i with ⟨h1, h2⟩ | ⟨z, w, h1, h2, h3⟩
    · rw [List.filterMap_cons_none h1, List.filterMap_cons_none h2]
      exact ih
    · rw [List.filterMap_cons_some h1, List.filterMap_cons_some h2]
      exact .cons h3 ih
section
variable {X : Cx} {k : Nat} {ps ks : List Str} {is : List Nat} {sp : Sp} {x m : Str} {C : Addr} {o e : Expr} {es : List Expr} {p pos apos : Pos} {kws : List Keyword} {ta t tk : TA} {to : TE}
theorem pe_cal (c : Cal X.prog X.w X.K X.mg X.base k x ps sp) (hr : Room k X.A) (gl : Gl X x) (ha : PA X (e :: es) t) (hdb : (x == ("__debug__" : Str)) = false := by decide)
    (he : starEach (e :: es) X.env = (false, eval e X.env) :: starEach es X.env := by rfl) (hpl : (backTo pos (starEach es X.env)).any (·.1) = false := by rfl) : PE X (.Call (.Name x p) (e :: es) [] pos) (tCall sp [] E0 t) := by
  obtain ⟨f, fd, F, hm, hk, hb⟩ := c
  exact pe_call F hr gl hm hk hb .nil pass0 ha hdb he hpl
theorem pe_calK (c : CalK X.prog X.w X.K X.mg X.base k x ps ks is sp) (hr : Room k X.A) (gl : Gl X x) (vals : PK X kws tk)
    (named : (backToKw pos (keywordEach kws X.env)).all (·.1.isSome) = true := by rfl) (names : (backToKw pos (keywordEach kws X.env)).filterMap (·.1) = ks := by rfl) (nodebug : (x == ("__debug__" : Str)) = false := by decide)
    (nostar : ((backTo pos (starEach [] X.env)).any (·.1) || (backToKw pos (keywordEach kws X.env)).any (·.1.isNone)) = false := by rfl) :
    PE X (.Call (.Name x p) [] kws pos) (tKw0 ks.length sp (fun _ zs => prm is zs) E0 tk) := by
  obtain ⟨f, fd, F, hm, hk, hb⟩ := c
  exact pe_kw0 F hr gl hm hk hb pass0 vals named names nodebug nostar
theorem pe_calM {pl : Sem Bool} (he : PE X o to) (cl : Cls X.K C) (c : CalM X.prog X.w X.K X.mg X.base k C m ps sp) (hr : Room k X.A) (ha : PA X (e :: es) t)
    (hst : starEach (e :: es) X.env = (false, eval e X.env) :: starEach es X.env := by rfl) (hpl : (backTo pos (starEach es X.env)).any (·.1) = false := by rfl) (ht : eval (.Call (.Attribute o m apos) (e :: es) [] pos) X.env = (do let ov ← eval o X.env; standAt apos.atName; let (f, first) ← holding [ov] (getMethod ov m pl); callWith pos f first (backTo pos (starEach (e :: es) X.env)) (backToKw pos (keywordEach [] X.env))) := by rfl) :
    PE X (.Call (.Attribute o m apos) (e :: es) [] pos) (tMeth C m sp [] E0 to t) := by
  obtain ⟨f, fd, F, hm, hb⟩ := c
  exact pe_meth (pl := pl) he cl hm F hr hb .nil pass0 ha hst hpl ht
theorem pe_calM0 {pl : Sem Bool} (he : PE X o to) (cl : Cls X.K C) (c : CalM X.prog X.w X.K X.mg X.base k C m ps sp) (hr : Room k X.A)
    (ht : eval (.Call (.Attribute o m apos) [] [] pos) X.env = (do let ov ← eval o X.env; standAt apos.atName; let (f, first) ← holding [ov] (getMethod ov m pl); callWith pos f first (backTo pos (starEach [] X.env)) (backToKw pos (keywordEach [] X.env))) := by rfl) :
    PE X (.Call (.Attribute o m apos) [] [] pos) (tMeth C m sp [] E0 to tNil) := by
  obtain ⟨f, fd, F, hm, hb⟩ := c
  exact pe_meth0 (pl := pl) he cl hm F hr hb .nil pass0 ht
/-- o.m(k = v, ..) -/
def tMethK (C : Addr) (m : Str) (n : Nat) (sp : Sp) (is : List Nat) (E : XK) (to : TE) (tk : TA) : TE := fun σ H Q => to σ H fun x H1 => ∃ a dx fs, x = .ref a ∧ H1 a = some (.ins C dx fs) ∧ fs.lookup m = none ∧ tk σ H1 fun zs H2 => zs.length = n ∧ sp (x :: prm is zs) H2 Q E
theorem pe_calMK {pl : Sem Bool} (he : PE X o to) (cl : Cls X.K C) (c : CalMK X.prog X.w X.K X.mg X.base k C m ps ks is sp) (hr : Room k X.A) (vals : PK X kws tk)
    (named : (backToKw pos (keywordEach kws X.env)).all (·.1.isSome) = true := by rfl) (names : (backToKw pos (keywordEach kws X.env)).filterMap (·.1) = ks := by rfl)
    (nostar : ((backTo pos (starEach [] X.env)).any (·.1) || (backToKw pos (keywordEach kws X.env)).any (·.1.isNone)) = false := by rfl)
    (ht : eval (.Call (.Attribute o m apos) [] kws pos) X.env = (do let ov ← eval o X.env; standAt apos.atName; let (f, first) ← holding [ov] (getMethod ov m pl); callWith pos f first (backTo pos (starEach [] X.env)) (backToKw pos (keywordEach kws X.env))) := by rfl) :
    PE X (.Call (.Attribute o m apos) [] kws pos) (tMethK C m ks.length sp is E0 to tk) := by
  obtain ⟨f, fd, F, hm, hb⟩ := c
  constructor
  intro pins s σ H Q I read
  refine PySem.W.methodCall_KW (pl := pl) (thn (he.run pins s σ H _ I read) fun u s1 ⟨x, H1, I1, rx, a, dx, fs, ex, ea, l, q⟩ => ?_) ht
  subst ex
  obtain rfl : u = .ref a := rx
  refine getmeth_ok I1 ea cl hm l ?_
  refine PySem.W.callWith_KW0 (first := [.ref a]) (h₀ := X.base) I.ok.mod.kin hm.kp named (thn (vals.run pos pins s1 σ H1 _ I1 q) fun ws s2 y => ?_) nostar
  obtain ⟨zs, H2, J, rel, many, h⟩ := y
  rw [names]
  exact ⟨J.kIn, run_fnN (E := E0) (us := [.ref a]) (vs := [.ref a]) F hr hb pass0 J (.cons rfl .nil) rel rfl many h⟩
theorem pe_calC0 (c : CalC X.prog X.w X.K X.mg X.base k x C ps sp) (hr : Room (k + 1) X.A) (gl : Gl X x) (hdb : (x == ("__debug__" : Str)) = false := by decide) : PE X (.Call (.Name x p) [] [] pos) (tMake C sp [] E0 tNil) := by
  obtain ⟨f, fd, F, hm, M, hb⟩ := c
  exact pe_make0 M F hr gl hm hb .nil pass0 hdb
theorem pe_calC (c : CalC X.prog X.w X.K X.mg X.base k x C ps sp) (hr : Room (k + 1) X.A) (gl : Gl X x) (ha : PA X (e :: es) t) (hdb : (x == ("__debug__" : Str)) = false := by decide)
    (he : starEach (e :: es) X.env = (false, eval e X.env) :: starEach es X.env := by rfl) (hpl : (backTo pos (starEach es X.env)).any (·.1) = false := by rfl) : PE X (.Call (.Name x p) (e :: es) [] pos) (tMake C sp [] E0 t) := by
  obtain ⟨f, fd, F, hm, M, hb⟩ := c
  exact pe_make M F hr gl hm hb .nil pass0 ha hdb he hpl
end
end Tg

namespace Tg
open PySem PySem.Spec PyProof.Rows L2
/-! ### the heap: what stands -/
/-- all but p stands as it stood -/
def Kp (p : Addr) (H H' : Hp) : Prop := ∀ b o, b ≠ p → H b = some o → H' b = some o
theorem Kp.refl (p : Addr) (H : Hp) : Kp p H H := fun _ _ _ h => h
theorem Kp.trans {p : Addr} {H H1 H2 : Hp} (a : Kp p H H1) (b : Kp p H1 H2) : Kp p H H2 := fun c o hc h => b c o hc (a c o hc h)
theorem Kp.of {p : Addr} {H H' : Hp} (s : Same H H') : Kp p H H' := fun c o _ h => s c o h
theorem Kp.put {p : Addr} {H : Hp} {o : HO} : Kp p H (upd H p o) := fun c u hc h => by
  rw [upd_ne hc]
  exact h
/-- what is new stays apart -/
theorem Kp.same {p : Addr} {H H1 H2 : Hp} (s : Same H H1) (n : H p = none) (k : Kp p H1 H2) : Same H H2 := fun b o h => k b o (ne_of_none h n) (s b o h)
theorem same_new {H : Hp} {p : Addr} {o : HO} (h : H p = none) : Same H (upd H p o) := fun b x e => by
  rw [upd_ne (ne_of_none e h)]
  exact e
theorem same_put {H H' : Hp} {D : Addr} {o : HO} (n : H D = none) (s : Same H H') : Same H (upd H' D o) := fun b x e => by
  rw [upd_ne (ne_of_none e n)]
  exact s _ _ e
/-- what can't be changed: tuples, and what is locked -/
def Fix : HO → Prop
  | .tup _ => True
  | .frz _ _ => True
  | _ => False
/-- all that can't be changed stands -/
def KT (H H' : Hp) : Prop := ∀ a o, Fix o → H a = some o → H' a = some o
theorem KT.refl (H : Hp) : KT H H := fun _ _ _ h => h
theorem KT.trans {H H1 H2 : Hp} (a : KT H H1) (b : KT H1 H2) : KT H H2 := fun c o f h => b c o f (a c o f h)
theorem KT.of {H H' : Hp} (s : Same H H') : KT H H' := fun c o _ h => s c o h
theorem KT.kp {p : Addr} {H H' : Hp} {o : HO} (k : Kp p H H') (h : H p = some o) (n : ¬ Fix o) : KT H H' := fun a u f e => k a u (fun z => n (by
  rw [z, h] at e
  cases e
  exact f)) e
theorem KT.put {p : Addr} {H : Hp} {o u : HO} (h : H p = some o) (n : ¬ Fix o) : KT H (upd H p u) := KT.kp Kp.put h n
theorem KT.new {p : Addr} {H : Hp} {u : HO} (h : H p = none) : KT H (upd H p u) := KT.of (same_new h)
theorem nfix_lst {xs : List V} : ¬ Fix (.lst xs) := fun z => z
theorem nfix_dK {xs : List (Key × V)} : ¬ Fix (.dK xs) := fun z => z
theorem nfix_ins {C dx : Addr} {fs : List (Str × V)} : ¬ Fix (.ins C dx fs) := fun z => z
/-! ### data -/
theorem rd_same {H H' : Hp} {a : Addr} {o : HO} (s : Same H H') (h : Rd H a o) : Rd H' a o := by
  rcases h with h | ⟨ob, h⟩
  · exact .inl (s _ _ h)
  · exact .inr ⟨ob, s _ _ h⟩
theorem sqL_same {K : PySem.W.Frag} {H H' : Hp} {a : Addr} {xs : List V} (s : Same H H') (h : SqL K H a xs) : SqL K H' a xs := h.imp (rd_same s) id
theorem sqT_same {K : PySem.W.Frag} {H H' : Hp} {a : Addr} {xs : List V} (s : Same H H') (h : SqT K H a xs) : SqT K H' a xs := h.imp (rd_same s) id
theorem sqT_kt {K : PySem.W.Frag} {H H' : Hp} {a : Addr} {xs : List V} (s : KT H H') (h : SqT K H a xs) : SqT K H' a xs := by
  refine h.imp (fun h => ?_) id
  rcases h with h | ⟨ob, h⟩
  · exact .inl (s _ _ trivial h)
  · exact .inr ⟨ob, s _ _ trivial h⟩
mutual
theorem dp_same {K : PySem.W.Frag} {H H' : Hp} (s : Same H H') : ∀ {x : V} {d : PyData}, Dp K H x d → Dp K H' x d
  | _, _, .non => .non
  | _, _, .bl b => .bl b
  | _, _, .int i => .int i
  | _, _, .str z => .str z
  | _, _, .lst a b => .lst (sqL_same s a) (dpAll_same s b)
  | _, _, .tup a b => .tup (sqT_same s a) (dpAll_same s b)
theorem dpAll_same {K : PySem.W.Frag} {H H' : Hp} (s : Same H H') : ∀ {xs : List V} {ds : List PyData}, DpAll K H xs ds → DpAll K H' xs ds
  | _, _, .nil => .nil
  | _, _, .cons a b => .cons (dp_same s a) (dpAll_same s b)
end
/-- no list and no dict in it -/
inductive TD : PyData → Prop
  | non : TD .none
  | bl (b : Bool) : TD (.bool b)
  | int (i : Int) : TD (.int i)
  | str (z : Str) : TD (.str z)
  | tup {ds : List PyData} : (∀ d, d ∈ ds → TD d) → TD (.tuple ds)
mutual
theorem dp_kt {K : PySem.W.Frag} {H H' : Hp} (s : KT H H') : ∀ {x : V} {d : PyData}, Dp K H x d → TD d → Dp K H' x d
  | _, _, .non, _ => .non
  | _, _, .bl b, _ => .bl b
  | _, _, .int i, _ => .int i
  | _, _, .str z, _ => .str z
  | _, _, .lst _ _, t => nomatch t
  | _, _, .tup a b, .tup t => .tup (sqT_kt s a) (dpAll_kt s b t)
theorem dpAll_kt {K : PySem.W.Frag} {H H' : Hp} (s : KT H H') : ∀ {xs : List V} {ds : List PyData}, DpAll K H xs ds → (∀ d, d ∈ ds → TD d) → DpAll K H' xs ds
  | _, _, .nil, _ => .nil
  | _, _, .cons a b, t => .cons (dp_kt s a (t _ List.mem_cons_self)) (dpAll_kt s b fun d hd => t d (List.mem_cons_of_mem _ hd))
end
theorem dpAll_len {K : PySem.W.Frag} {H : Hp} : ∀ {xs : List V} {ds : List PyData}, DpAll K H xs ds → xs.length = ds.length
  | _, _, .nil => rfl
  | _, _, .cons _ b => congrArg Nat.succ (dpAll_len b)
theorem dpAll_at {K : PySem.W.Frag} {H : Hp} : ∀ {xs : List V} {ds : List PyData}, DpAll K H xs ds → ∀ (i : Nat) (x : V), xs[i]? = some x → ∃ d, ds[i]? = some d ∧ Dp K H x d
  | _, _, .nil => fun i x h => by simp at h
  | _, _, .cons a b => fun i x h => by
    cases i with
    | zero =>
      simp only [Option.some.injEq, List.getElem?_cons_zero] at h
      subst h
      exact ⟨_, rfl, a⟩
    | succ i =>
      rw [List.getElem?_cons_succ] at h ⊢
      exact dpAll_at b i x h
theorem dpAll_tk {K : PySem.W.Frag} {H : Hp} : ∀ {xs : List V} {ds : List PyData}, DpAll K H xs ds → ∀ (i : Nat) (d : PyData), ds[i]? = some d → ∃ x, xs[i]? = some x ∧ Dp K H x d
  | _, _, .nil => fun i x h => by simp at h
  | _, _, .cons a b => fun i x h => by
    cases i with
    | zero =>
      simp only [Option.some.injEq, List.getElem?_cons_zero] at h
      subst h
      exact ⟨_, rfl, a⟩
    | succ i =>
      rw [List.getElem?_cons_succ] at h ⊢
      exact dpAll_tk b i x h
theorem dpAll_app {K : PySem.W.Frag} {H : Hp} : ∀ {xs ys : List V} {ds es : List PyData}, DpAll K H xs ds → DpAll K H ys es → DpAll K H (xs ++ ys) (ds ++ es)
  | _, _, _, _, .nil, h => h
  | _, _, _, _, .cons a b, h => .cons a (dpAll_app b h)
theorem dpAll_snoc {K : PySem.W.Frag} {H : Hp} {xs : List V} {ds : List PyData} {y : V} {e : PyData} (h : DpAll K H xs ds) (a : Dp K H y e) : DpAll K H (xs ++ [y]) (ds ++ [e]) := dpAll_app h (.cons a .nil)
/-- a list of data that can't be changed itself -/
def LD (K : PySem.W.Frag) (H : Hp) (a : Addr) (ds : List PyData) : Prop := ∃ xs, H a = some (.lst xs) ∧ DpAll K H xs ds
theorem LD.dp {K : PySem.W.Frag} {H : Hp} {a : Addr} {ds : List PyData} (h : LD K H a ds) : Dp K H (.ref a) (.list ds) := by
  obtain ⟨xs, h1, h2⟩ := h
  exact .lst (SqL.of h1) h2
theorem LD.same {K : PySem.W.Frag} {H H' : Hp} {a : Addr} {ds : List PyData} (s : Same H H') (h : LD K H a ds) : LD K H' a ds := by
  obtain ⟨xs, h1, h2⟩ := h
  exact ⟨xs, s _ _ h1, dpAll_same s h2⟩
/-- where the list itself stands and all tuples do -/
theorem LD.kt {K : PySem.W.Frag} {H H' : Hp} {a : Addr} {ds : List PyData} (s : KT H H') (e : ∀ o, H a = some o → H' a = some o) (t : ∀ d, d ∈ ds → TD d) (h : LD K H a ds) : LD K H' a ds := by
  obtain ⟨xs, h1, h2⟩ := h
  exact ⟨xs, e _ h1, dpAll_kt s h2 t⟩
theorem LD.kp {K : PySem.W.Frag} {H H' : Hp} {a p : Addr} {o : HO} {ds : List PyData} (k : Kp p H H') (hp : H p = some o) (n : ¬ Fix o) (ne : a ≠ p) (t : ∀ d, d ∈ ds → TD d) (h : LD K H a ds) : LD K H' a ds :=
  h.kt (KT.kp k hp n) (fun u e => k _ _ ne e) t
/-- one more at the end -/
theorem LD.snoc {K : PySem.W.Frag} {H H1 : Hp} {a : Addr} {xs : List V} {ds : List PyData} {y : V} {e : PyData} (k : KT H H1) (h1 : H1 a = some (.lst xs)) (hd : DpAll K H xs ds) (t : ∀ d, d ∈ ds → TD d) (hy : Dp K H1 y e) (te : TD e) :
    LD K (upd H1 a (.lst (xs ++ [y]))) a (ds ++ [e]) :=
  ⟨_, upd_same, dpAll_snoc (dpAll_kt (k.trans (KT.put h1 nfix_lst)) hd t) (dp_kt (KT.put h1 nfix_lst) hy te)⟩
theorem shaped_of {d : PyData} (h1 : d.canLay0 = true) (h2 : d.depth ≤ 64) : SeqAt.shaped d = true := by
  unfold SeqAt.shaped
  rw [h1, decide_eq_true h2]
  rfl
theorem if_f {A B : Prop} (h : B) : if false = true then A else B := by
  rw [if_neg (by decide)]
  exact h
theorem if_t {A B : Prop} (h : A) : if true = true then A else B := by
  rw [if_pos rfl]
  exact h
theorem atI_mem {xs : List Int} {i : Int} (h0 : 0 ≤ i) (h1 : i < xs.length) : ∃ v, v ∈ xs ∧ atI (xs.map V.int) i = some (.int v) := by
  have hn : i.toNat < xs.length := by omega
  obtain ⟨j, rfl⟩ : ∃ j : Nat, i = (j : Int) := ⟨i.toNat, by omega⟩
  have hj : j < xs.length := by omega
  refine ⟨xs[j], List.getElem_mem hj, atI_nat ?_⟩
  rw [List.getElem?_map, List.getElem?_eq_getElem hj]
  rfl
end Tg

namespace Tg
open PySem L2
/-! ### rows: time, number, worth or none -/
abbrev Rw := Int × Int × Option Int
def Lt (x y : Rw) : Prop := x.1 < y.1 ∨ (x.1 = y.1 ∧ x.2.1 < y.2.1)
def Srt (rs : List Rw) : Prop := rs.Pairwise Lt
theorem Lt.irr (x : Rw) : ¬ Lt x x := fun h => by
  rcases h with h | h
  · omega
  · omega
theorem Srt.sub {rs : List Rw} (h : Srt rs) (p : Rw → Bool) : Srt (rs.filter p) := List.Pairwise.filter p h
/-- r is the last row of its time with a number up to n -/
def IsLast (rs : List Rw) (n : Int) (r : Rw) : Prop := r ∈ rs ∧ r.2.1 ≤ n ∧ ∀ q, q ∈ rs → q.1 = r.1 → q.2.1 ≤ n → q.2.1 ≤ r.2.1
theorem srt_tri {rs : List Rw} (h : Srt rs) {a b : Rw} (ha : a ∈ rs) (hb : b ∈ rs) : a = b ∨ Lt a b ∨ Lt b a := by
  induction rs with
  | nil => cases ha
  | cons x r ih =>
    have ⟨h1, h2⟩ := List.pairwise_cons.mp (show (x :: r).Pairwise Lt from h)
    rcases List.mem_cons.mp ha with e1 | a1
    · rcases List.mem_cons.mp hb with e2 | b1
      · exact .inl (e1.trans e2.symm)
      · rw [e1]
        exact .inr (.inl (h1 b b1))
    · rcases List.mem_cons.mp hb with e2 | b1
      · rw [e2]
        exact .inr (.inr (h1 a a1))
      · exact ih h2 a1 b1
theorem srt_same {rs : List Rw} (h : Srt rs) {a b : Rw} (ha : a ∈ rs) (hb : b ∈ rs) (e1 : a.1 = b.1) (e2 : a.2.1 = b.2.1) : a = b := by
  rcases srt_tri h ha hb with e | (e | e) | (e | e)
  · exact e
  · omega
  · omega
  · omega
  · omega
theorem last_uniq {rs : List Rw} (h : Srt rs) {n : Int} {a b : Rw} (ha : IsLast rs n a) (hb : IsLast rs n b) (e : a.1 = b.1) : a = b := by
  have h1 := ha.2.2 b hb.1 e.symm hb.2.1
  have h2 := hb.2.2 a ha.1 e ha.2.1
  exact srt_same h ha.1 hb.1 e (by omega)
theorem Srt.nodup {rs : List Rw} (h : Srt rs) : rs.Nodup := by
  unfold List.Nodup
  refine List.Pairwise.imp (fun {a b} (l : Lt a b) => ?_) h
  intro e
  rw [← e] at l
  exact Lt.irr a l
/-! ### tables by times -/
def putL {α : Type} (m : List (Int × α)) (t : Int) (a : α) : List (Int × α) := if (m.any fun p => decide (p.1 = t)) = true then m.map (fun p => if p.1 = t then (p.1, a) else p) else m ++ [(t, a)]
theorem mem_putL {α : Type} {m : List (Int × α)} {t : Int} {a : α} {p : Int × α} : p ∈ putL m t a ↔ p = (t, a) ∨ (p ∈ m ∧ ¬ p.1 = t) := by
  unfold putL
  by_cases c : (m.any fun p => decide (p.1 = t)) = true
  · rw [if_pos c]
    obtain ⟨q, hq, eq⟩ := List.any_eq_true.mp c
    have eq := of_decide_eq_true eq
    constructor
    · intro h
      obtain ⟨x, hx, e⟩ := List.mem_map.mp h
      by_cases d : x.1 = t
      · rw [if_pos d, d] at e
        exact .inl e.symm
      · rw [if_neg d] at e
        subst e
        exact .inr ⟨hx, d⟩
    · rintro (rfl | ⟨h1, h2⟩)
      · exact List.mem_map.mpr ⟨q, hq, by rw [if_pos eq, eq]⟩
      · exact List.mem_map.mpr ⟨p, h1, by rw [if_neg h2]⟩
  · rw [if_neg c]
    constructor
    · intro there
      rcases List.mem_append.mp there with old | new
      · exact .inr ⟨old, fun z => c (List.any_eq_true.mpr ⟨p, old, decide_eq_true z⟩)⟩
      · exact .inl (List.mem_singleton.mp new)
    · rintro (rfl | ⟨h1, h2⟩)
      · exact List.mem_append_right _ (List.mem_singleton.mpr rfl)
      · exact List.mem_append_left _ h1
theorem putL_keys {α : Type} {m : List (Int × α)} {t : Int} {a : α} (h : m.Pairwise fun x y => x.1 < y.1) (le : ∀ p, p ∈ m → p.1 ≤ t) : (putL m t a).Pairwise fun x y => x.1 < y.1 := by
  unfold putL
  by_cases c : (m.any fun p => decide (p.1 = t)) = true
  · rw [if_pos c, List.pairwise_map]
    refine h.imp fun {x y} l => ?_
    by_cases d : x.1 = t
    · by_cases e : y.1 = t
      · rw [if_pos d, if_pos e]
        exact l
      · rw [if_pos d, if_neg e]
        exact l
    · by_cases e : y.1 = t
      · rw [if_neg d, if_pos e]
        exact l
      · rw [if_neg d, if_neg e]
        exact l
  · rw [if_neg c, List.pairwise_append]
    refine ⟨h, List.pairwise_singleton _ _, fun x hx y hy => ?_⟩
    rw [List.mem_singleton.mp hy]
    have h1 := le x hx
    have h2 : ¬ x.1 = t := fun z => c (List.any_eq_true.mpr ⟨x, hx, decide_eq_true z⟩)
    show x.1 < t
    omega
theorem putL_len {α : Type} {m : List (Int × α)} {t : Int} {a : α} : (putL m t a).length ≤ m.length + 1 := by
  unfold putL
  split
  · rw [List.length_map]
    omega
  · rw [List.length_append]
    exact Nat.le_refl _
/-- of each time the last row up to a number -/
def lwR (rs : List Rw) (n : Int) : List (Int × Rw) := rs.foldl (fun m r => if r.2.1 ≤ n then putL m r.1 r else m) []
theorem lwR_snoc (rs : List Rw) (n : Int) (r : Rw) : lwR (rs ++ [r]) n = if r.2.1 ≤ n then putL (lwR rs n) r.1 r else lwR rs n := by
  unfold lwR
  rw [List.foldl_append]
  rfl
theorem lwR_len (rs : List Rw) (n : Int) : (lwR rs n).length ≤ rs.length := by
  obtain ⟨k, hk⟩ : ∃ k, rs.length = k := ⟨_, rfl⟩
  induction k generalizing rs with
  | zero =>
    rw [List.length_eq_zero_iff.mp hk]
    exact Nat.le_refl _
  | succ k ih =>
    rcases List.eq_nil_or_concat rs with rfl | ⟨q, x, e⟩
    · exact Nat.zero_le _
    · rw [List.concat_eq_append] at e
      subst e
      rw [List.length_append] at hk ⊢
      have i1 := ih q (by simp at hk; exact hk)
      rw [lwR_snoc]
      have := putL_len (m := lwR q n) (t := x.1) (a := x)
      show _ ≤ q.length + 1
      split <;> omega
theorem lwR_is {n : Int} (rs : List Rw) (h : Srt rs) : ((lwR rs n).Pairwise fun x y => x.1 < y.1) ∧ ∀ p : Int × Rw, p ∈ lwR rs n ↔ p.1 = p.2.1 ∧ IsLast rs n p.2 := by
  obtain ⟨k, hk⟩ : ∃ k, rs.length = k := ⟨_, rfl⟩
  induction k generalizing rs with
  | zero =>
    rw [List.length_eq_zero_iff.mp hk]
    exact ⟨.nil, fun p => ⟨(fun z => absurd z List.not_mem_nil), (fun z => absurd z.2.1 List.not_mem_nil)⟩⟩
  | succ k ih =>
    rcases List.eq_nil_or_concat rs with rfl | ⟨q, x, e⟩
    · exact ⟨.nil, fun p => ⟨(fun z => absurd z List.not_mem_nil), (fun z => absurd z.2.1 List.not_mem_nil)⟩⟩
    · rw [List.concat_eq_append] at e
      subst e
      rw [List.length_append] at hk
      obtain ⟨h1, _, h3⟩ := List.pairwise_append.mp h
      have hx : ∀ y, y ∈ q → Lt y x := fun y hy => h3 y hy x (List.mem_singleton.mpr rfl)
      obtain ⟨i1, i2⟩ := ih q h1 (by simp at hk; exact hk)
      rw [lwR_snoc]
      by_cases c : x.2.1 ≤ n
      · rw [if_pos c]
        constructor
        · refine putL_keys i1 fun p hp => ?_
          obtain ⟨e1, e2⟩ := (i2 p).mp hp
          rcases hx p.2 e2.1 with l | l <;> omega
        · intro p
          rw [mem_putL]
          constructor
          · rintro (rfl | ⟨h4, h5⟩)
            · refine ⟨rfl, List.mem_append_right _ (List.mem_singleton.mpr rfl), c, fun y hy e4 _ => ?_⟩
              rcases List.mem_append.mp hy with h | h
              · rcases hx y h with l | l
                · have e4' : y.1 = x.1 := e4
                  omega
                · show y.2.1 ≤ x.2.1
                  omega
              · rw [List.mem_singleton.mp h]
                exact Int.le_refl _
            · obtain ⟨e1, e2, e3, e4⟩ := (i2 p).mp h4
              refine ⟨e1, List.mem_append_left _ e2, e3, fun y hy e5 e6 => ?_⟩
              rcases List.mem_append.mp hy with h | h
              · exact e4 y h e5 e6
              · rw [List.mem_singleton.mp h] at e5
                omega
          · rintro ⟨e1, e2, e3, e4⟩
            rcases List.mem_append.mp e2 with h | h
            · by_cases d : p.1 = x.1
              · exfalso
                have := e4 x (List.mem_append_right _ (List.mem_singleton.mpr rfl)) (by omega) c
                rcases hx p.2 h with l | l <;> omega
              · exact .inr ⟨(i2 p).mpr ⟨e1, h, e3, fun y hy => e4 y (List.mem_append_left _ hy)⟩, d⟩
            · left
              have e := List.mem_singleton.mp h
              obtain ⟨p1, p2⟩ := p
              have e' : p2 = x := e
              rw [e'] at e1 ⊢
              exact congrArg (fun z => (z, x)) e1
      · rw [if_neg c]
        refine ⟨i1, fun p => ?_⟩
        rw [i2 p]
        constructor
        · rintro ⟨e1, e2, e3, e4⟩
          refine ⟨e1, List.mem_append_left _ e2, e3, fun y hy e5 e6 => ?_⟩
          rcases List.mem_append.mp hy with h | h
          · exact e4 y h e5 e6
          · rw [List.mem_singleton.mp h] at e6
            exact absurd e6 c
        · rintro ⟨e1, e2, e3, e4⟩
          rcases List.mem_append.mp e2 with h | h
          · exact ⟨e1, h, e3, fun y hy => e4 y (List.mem_append_left _ hy)⟩
          · rw [List.mem_singleton.mp h] at e3
            exact absurd e3 c
/-- there is a last one -/
theorem last_of {rs : List Rw} (h : Srt rs) {n t : Int} {l : Rw} (e : (rs.filter fun q => decide (q.1 = t ∧ q.2.1 ≤ n)).getLast? = some l) : IsLast rs n l ∧ l.1 = t := by
  have ml := List.mem_of_getLast? e
  obtain ⟨m1, m2⟩ := List.mem_filter.mp ml
  obtain ⟨m3, m4⟩ := of_decide_eq_true m2
  refine ⟨⟨m1, m4, fun q hq e1 e2 => ?_⟩, m3⟩
  have mq : q ∈ rs.filter fun q => decide (q.1 = t ∧ q.2.1 ≤ n) := List.mem_filter.mpr ⟨hq, decide_eq_true ⟨by omega, e2⟩⟩
  have hs := h.sub fun q => decide (q.1 = t ∧ q.2.1 ≤ n)
  revert e mq hs
  generalize rs.filter (fun q => decide (q.1 = t ∧ q.2.1 ≤ n)) = fs
  intro e mq hs
  rcases List.eq_nil_or_concat fs with rfl | ⟨g, x, eg⟩
  · cases mq
  · rw [List.concat_eq_append] at eg
    subst eg
    rw [List.getLast?_concat] at e
    cases e
    rcases List.mem_append.mp mq with hg | hg
    · rcases (List.pairwise_append.mp hs).2.2 q hg l (List.mem_singleton.mpr rfl) with z | z <;> omega
    · rw [List.mem_singleton.mp hg]
      exact Int.le_refl _
theorem last_there {rs : List Rw} (h : Srt rs) {n : Int} {r : Rw} (hr : r ∈ rs) (hn : r.2.1 ≤ n) : ∃ l, IsLast rs n l ∧ l.1 = r.1 := by
  cases e : (rs.filter fun q => decide (q.1 = r.1 ∧ q.2.1 ≤ n)).getLast? with
  | some l => exact ⟨l, last_of h e⟩
  | none =>
    rw [List.getLast?_eq_none_iff] at e
    have : r ∈ rs.filter fun q => decide (q.1 = r.1 ∧ q.2.1 ≤ n) := List.mem_filter.mpr ⟨hr, decide_eq_true ⟨rfl, hn⟩⟩
    rw [e] at this
    cases this
/-! ### rising lists are told by their members -/
theorem ext_sorted {α : Type} {lt : α → α → Prop} (irr : ∀ a, ¬ lt a a) (tr : ∀ a b c, lt a b → lt b c → lt a c) : ∀ {xs ys : List α}, xs.Pairwise lt → ys.Pairwise lt → (∀ a, a ∈ xs ↔ a ∈ ys) → xs = ys
  | [], [], _, _, _ => rfl
  | [], y :: ys, _, _, h => nomatch (h y).mpr List.mem_cons_self
  | x :: xs, [], _, _, h => nomatch (h x).mp List.mem_cons_self
  | x :: xs, y :: ys, h1, h2, h => by
    obtain ⟨a1, a2⟩ := List.pairwise_cons.mp h1
    obtain ⟨b1, b2⟩ := List.pairwise_cons.mp h2
    have e : x = y := by
      rcases List.mem_cons.mp ((h x).mp List.mem_cons_self) with z | z
      · exact z
      · rcases List.mem_cons.mp ((h y).mpr List.mem_cons_self) with u | u
        · exact u.symm
        · exact absurd (tr _ _ _ (a1 y u) (b1 x z)) (irr x)
    subst e
    refine congrArg (x :: ·) (ext_sorted irr tr a2 b2 fun a => ?_)
    constructor
    · intro ha
      rcases List.mem_cons.mp ((h a).mp (List.mem_cons_of_mem _ ha)) with z | z
      · rw [z] at ha
        exact absurd (a1 x ha) (irr x)
      · exact z
    · intro ha
      rcases List.mem_cons.mp ((h a).mpr (List.mem_cons_of_mem _ ha)) with z | z
      · rw [z] at ha
        exact absurd (b1 x ha) (irr x)
      · exact z
/-! ### what is known -/
def kn (rs : List Rw) (n : Int) : List (Int × Int) := (lwR rs n).filterMap fun p => p.2.2.2.map fun w => (p.1, w)
theorem mem_kn {rs : List Rw} (h : Srt rs) {n : Int} {x : Int × Int} : x ∈ kn rs n ↔ ∃ r, IsLast rs n r ∧ r.1 = x.1 ∧ r.2.2 = some x.2 := by
  unfold kn
  rw [List.mem_filterMap]
  constructor
  · rintro ⟨p, hp, e⟩
    obtain ⟨e1, e2⟩ := ((lwR_is rs h).2 p).mp hp
    obtain ⟨w, e3, rfl⟩ := Option.map_eq_some_iff.mp e
    exact ⟨p.2, e2, e1.symm, e3⟩
  · rintro ⟨r, h1, h2, h3⟩
    refine ⟨(r.1, r), ((lwR_is rs h).2 _).mpr ⟨rfl, h1⟩, ?_⟩
    rw [h3, h2]
    rfl
theorem kn_srt {rs : List Rw} (h : Srt rs) (n : Int) : (kn rs n).Pairwise fun x y => x.1 < y.1 := by
  unfold kn
  rw [List.pairwise_filterMap]
  refine (lwR_is rs h).1.imp fun {a b} l x hx y hy => ?_
  obtain ⟨w, _, rfl⟩ := Option.map_eq_some_iff.mp hx
  obtain ⟨u, _, rfl⟩ := Option.map_eq_some_iff.mp hy
  exact l
theorem kn_len (rs : List Rw) (n : Int) : (kn rs n).length ≤ rs.length := Nat.le_trans (List.length_filterMap_le _ _) (lwR_len rs n)
theorem kn_ext {rs qs : List Rw} (h1 : Srt rs) (h2 : Srt qs) {n m : Int} (h : ∀ r, r.2.2 ≠ none → (IsLast rs n r ↔ IsLast qs m r)) : kn rs n = kn qs m := by
  refine ext_sorted (lt := fun x y => x.1 < y.1) (fun a => Int.lt_irrefl _) (fun a b c => Int.lt_trans) (kn_srt h1 n) (kn_srt h2 m) fun x => ?_
  rw [mem_kn h1, mem_kn h2]
  constructor
  · rintro ⟨r, a, b, c⟩
    exact ⟨r, (h r (by rw [c]; simp)).mp a, b, c⟩
  · rintro ⟨r, a, b, c⟩
    exact ⟨r, (h r (by rw [c]; simp)).mpr a, b, c⟩
/-! ### what is needed -/
instance (rs : List Rw) (n : Int) (r : Rw) : Decidable (IsLast rs n r) := by
  unfold IsLast
  exact inferInstance
def Need (rs : List Rw) (n : Int) (r : Rw) : Prop := n < r.2.1 ∨ (IsLast rs n r ∧ ¬ r.2.2 = none)
instance (rs : List Rw) (n : Int) (r : Rw) : Decidable (Need rs n r) := by
  unfold Need
  exact inferInstance
def fl (rs : List Rw) (n : Int) (r : Rw) : Bool := decide (Need rs n r)
def thin (rs : List Rw) (n : Int) : List Rw := rs.filter (fl rs n)
def ndl (rs : List Rw) (n : Int) : List Rw := rs.filter fun r => !fl rs n r
theorem thin_known {rs : List Rw} (h : Srt rs) {n m : Int} (le : n ≤ m) : kn (thin rs n) m = kn rs m := by
  refine kn_ext (h.sub _) h fun r hr => ?_
  constructor
  · rintro ⟨a1, a2, a3⟩
    obtain ⟨b1, b2⟩ := List.mem_filter.mp a1
    have b3 : Need rs n r := of_decide_eq_true b2
    refine ⟨b1, a2, fun q hq e1 e2 => ?_⟩
    by_cases c : n < q.2.1
    · exact a3 q (List.mem_filter.mpr ⟨hq, decide_eq_true (.inl c)⟩) e1 e2
    · rcases b3 with z | z
      · omega
      · exact z.1.2.2 q hq e1 (by omega)
  · rintro ⟨a1, a2, a3⟩
    refine ⟨List.mem_filter.mpr ⟨a1, decide_eq_true ?_⟩, a2, fun q hq e1 e2 => a3 q (List.mem_filter.mp hq).1 e1 e2⟩
    by_cases c : n < r.2.1
    · exact .inl c
    · exact .inr ⟨⟨a1, by omega, fun q hq e1 e2 => a3 q hq e1 (by omega)⟩, hr⟩
/-- a row left out is missed -/
theorem missed {rs : List Rw} (h : Srt rs) {n : Int} {row : Rw} (hm : row ∈ thin rs n) (hw : ¬ row.2.2 = none) {b : Int} (eb : b = max n row.2.1)
    (he : (((thin rs n).filter fun q => !decide (q = row)).filter fun q => decide (q.1 = row.1 ∧ q.2.1 ≤ b)).getLast?.map (·.2.2) ≠ some row.2.2) :
    kn ((thin rs n).filter fun q => !decide (q = row)) b ≠ kn (thin rs n) b := fun z => by
  have hl : Srt (thin rs n) := h.sub _
  have hf : Srt ((thin rs n).filter fun q => !decide (q = row)) := hl.sub _
  obtain ⟨w, ew⟩ : ∃ w, row.2.2 = some w := by
    cases e : row.2.2 with
    | none => exact absurd e hw
    | some w => exact ⟨w, rfl⟩
  have last : IsLast (thin rs n) b row := by
    refine ⟨hm, by omega, fun q hq e1 e2 => ?_⟩
    obtain ⟨m1, m2⟩ := List.mem_filter.mp hm
    have nd : Need rs n row := of_decide_eq_true m2
    rcases nd with c | c
    · omega
    · have := c.1.2.1
      exact c.1.2.2 q (List.mem_filter.mp hq).1 e1 (by omega)
  have m1 : (row.1, w) ∈ kn (thin rs n) b := (mem_kn hl).mpr ⟨row, last, rfl, ew⟩
  rw [← z, mem_kn hf] at m1
  obtain ⟨r, r1, r2, r3⟩ := m1
  cases e : (((thin rs n).filter fun q => !decide (q = row)).filter fun q => decide (q.1 = row.1 ∧ q.2.1 ≤ b)).getLast? with
  | none =>
    rw [List.getLast?_eq_none_iff] at e
    have : r ∈ ((thin rs n).filter fun q => !decide (q = row)).filter fun q => decide (q.1 = row.1 ∧ q.2.1 ≤ b) := List.mem_filter.mpr ⟨r1.1, decide_eq_true ⟨r2, r1.2.1⟩⟩
    rw [e] at this
    cases this
  | some l =>
    obtain ⟨l1, l2⟩ := last_of hf e
    have el := last_uniq hf r1 l1 (by rw [l2]; exact r2)
    refine he ?_
    rw [e, ← el, ew]
    exact congrArg some r3
/-! ### the tables as dicts -/
def lwV (f : Rw → V) (rs : List Rw) (n : Int) : List (Key × V) := rs.foldl (fun m r => if r.2.1 ≤ n then putK m (Sum.inl r.1) (f r) else m) []
theorem lwV_snoc (f : Rw → V) (rs : List Rw) (n : Int) (r : Rw) : lwV f (rs ++ [r]) n = if r.2.1 ≤ n then putK (lwV f rs n) (Sum.inl r.1) (f r) else lwV f rs n := by
  unfold lwV
  rw [List.foldl_append]
  rfl
theorem putK_map (f : Rw → V) (m : List (Int × Rw)) (t : Int) (r : Rw) : putK (m.map fun p => ((Sum.inl p.1 : Key), f p.2)) (Sum.inl t) (f r) = (putL m t r).map fun p => ((Sum.inl p.1 : Key), f p.2) := by
  unfold putK putL
  have e : ((m.map fun p => ((Sum.inl p.1 : Key), f p.2)).any fun kv => decide (kv.1 = Sum.inl t)) = m.any fun p => decide (p.1 = t) := by
    rw [List.any_map]
    refine List.any_congr rfl fun p => ?_
    simp only [Function.comp_apply, Sum.inl.injEq]
  rw [e]
  by_cases c : (m.any fun p => decide (p.1 = t)) = true
  · rw [if_pos c, if_pos c, List.map_map, List.map_map]
    refine List.map_congr_left fun p _ => ?_
    simp only [Function.comp_apply]
    by_cases d : p.1 = t
    · rw [if_pos (congrArg Sum.inl d), if_pos d]
    · rw [if_neg (fun z => d (Sum.inl.inj z)), if_neg d]
  · rw [if_neg c, if_neg c, List.map_append]
    rfl
theorem lwV_eq (f : Rw → V) (rs : List Rw) (n : Int) : lwV f rs n = (lwR rs n).map fun p => ((Sum.inl p.1 : Key), f p.2) := by
  obtain ⟨k, hk⟩ : ∃ k, rs.length = k := ⟨_, rfl⟩
  induction k generalizing rs with
  | zero =>
    rw [List.length_eq_zero_iff.mp hk]
    rfl
  | succ k ih =>
    rcases List.eq_nil_or_concat rs with rfl | ⟨q, x, e⟩
    · rfl
    · rw [List.concat_eq_append] at e
      subst e
      rw [List.length_append] at hk
      have i1 := ih q (by simp at hk; exact hk)
      rw [lwV_snoc, lwR_snoc, i1]
      by_cases c : x.2.1 ≤ n
      · rw [if_pos c, if_pos c, putK_map]
      · rw [if_neg c, if_neg c]
theorem lwV_len (f : Rw → V) (rs : List Rw) (n : Int) : (lwV f rs n).length ≤ rs.length := by
  rw [lwV_eq, List.length_map]
  exact lwR_len rs n
theorem valV_of {f : Rw → V} : ∀ {m : List (Int × Rw)} {p : Int × Rw}, (m.Pairwise fun x y => x.1 < y.1) → p ∈ m → valV (m.map fun p => ((Sum.inl p.1 : Key), f p.2)) (Sum.inl p.1) = some (f p.2)
  | [], p, _, h => nomatch h
  | q :: m, p, .cons h1 h2, there => by
    rcases List.mem_cons.mp there with rfl | h
    · exact valV_pos rfl
    · rw [List.map_cons, valV_neg (fun z => by
        have := h1 p h
        have : q.1 = p.1 := Sum.inl.inj z
        omega)]
      exact valV_of h2 h
theorem lwV_last {f : Rw → V} {rs : List Rw} (h : Srt rs) {n : Int} {r : Rw} (hl : IsLast rs n r) : valV (lwV f rs n) (Sum.inl r.1 : Key) = some (f r) := by
  rw [lwV_eq]
  exact valV_of (p := (r.1, r)) (lwR_is rs h).1 (((lwR_is rs h).2 _).mpr ⟨rfl, hl⟩)
/-- the values of a list of unlike rows, as a function -/
theorem val_fun : ∀ (rs : List Rw) (xs : List V), rs.Nodup → ∃ f : Rw → V, ∀ (i : Nat) (r : Rw) (v : V), rs[i]? = some r → xs[i]? = some v → f r = v
  | [], xs, _ => ⟨fun _ => .non, fun i r v h => by simp at h⟩
  | r0 :: rs, [], _ => ⟨fun _ => .non, fun i r v _ h => by simp at h⟩
  | r0 :: rs, x :: xs, nd => by
    have n1 := (List.nodup_cons.mp nd).1
    obtain ⟨f, hf⟩ := val_fun rs xs (List.nodup_cons.mp nd).2
    refine ⟨fun r => if r = r0 then x else f r, fun i r v h1 h2 => ?_⟩
    cases i with
    | zero =>
      simp only [List.getElem?_cons_zero, Option.some.injEq] at h1 h2
      show (if r = r0 then x else f r) = v
      rw [if_pos h1.symm, h2]
    | succ i =>
      rw [List.getElem?_cons_succ] at h1 h2
      have ne : ¬ r = r0 := fun z => n1 (z ▸ List.mem_of_getElem? h1)
      show (if r = r0 then x else f r) = v
      rw [if_neg ne]
      exact hf i r v h1 h2
end Tg

namespace Tg
open PySem PySem.Spec PyProof.Rows L2
/-! ### rows and points as data -/
def dw : Option Int → PyData
  | none => .none
  | some i => .int i
def vw : Option Int → V
  | none => .non
  | some i => .int i
theorem dp_vw {K : PySem.W.Frag} {H : Hp} : ∀ o : Option Int, Dp K H (vw o) (dw o)
  | none => .non
  | some i => .int i
theorem dp_dw {K : PySem.W.Frag} {H : Hp} {v : V} : ∀ {o : Option Int}, Dp K H v (dw o) → v = vw o
  | none, h => by
    cases h
    rfl
  | some i, h => by
    cases h
    rfl
theorem vw_non (o : Option Int) : decide (vw o = .non) = o.isNone := by
  cases o with
  | none => rfl
  | some i => rfl
theorem td_dw : ∀ o : Option Int, TD (dw o)
  | none => .non
  | some i => .int i
theorem eq_dw (a b : Option Int) : PyData.eqv (dw a) (dw b) = decide (a = b) := by
  cases a with
  | none =>
    cases b with
    | none => rfl
    | some j => rfl
  | some i =>
    cases b with
    | none => rfl
    | some j =>
      show (i == j) = _
      by_cases c : i = j
      · rw [c, beq_self_eq_true, decide_eq_true rfl]
      · rw [beq_eq_false_iff_ne.mpr c, decide_eq_false fun z => c (Option.some.inj z)]
def rd (r : Rw) : PyData := .tuple [.int r.1, .int r.2.1, dw r.2.2]
def pd (x : Int × Int) : PyData := .tuple [.int x.1, .int x.2]
theorem td_rd (r : Rw) : TD (rd r) := .tup fun d hd => by
  simp only [List.mem_cons, List.not_mem_nil, or_false] at hd
  rcases hd with rfl | rfl | rfl
  · exact .int _
  · exact .int _
  · exact td_dw _
theorem td_rds (rs : List Rw) : ∀ d, d ∈ rs.map rd → TD d := fun d hd => by
  obtain ⟨x, _, rfl⟩ := List.mem_map.mp hd
  exact td_rd x
theorem td_pd (x : Int × Int) : TD (pd x) := .tup fun d hd => by
  simp only [List.mem_cons, List.not_mem_nil, or_false] at hd
  rcases hd with rfl | rfl
  · exact .int _
  · exact .int _
theorem td_pds (ps : List (Int × Int)) : ∀ d, d ∈ ps.map pd → TD d := fun d hd => by
  obtain ⟨x, _, rfl⟩ := List.mem_map.mp hd
  exact td_pd x
theorem dp_rd {K : PySem.W.Frag} {H : Hp} {v : V} {r : Rw} (h : Dp K H v (rd r)) : ∃ a, v = .ref a ∧ SqT K H a [.int r.1, .int r.2.1, vw r.2.2] := by
  cases h with
  | tup a b =>
    cases b with
    | cons h1 b =>
      cases b with
      | cons h2 b =>
        cases b with
        | cons h3 b =>
          cases b
          cases h1
          cases h2
          rw [dp_dw h3] at a
          exact ⟨_, rfl, a⟩
theorem rd_new {K : PySem.W.Frag} {H : Hp} {a : Addr} {r : Rw} (h : SqT K H a [.int r.1, .int r.2.1, vw r.2.2]) : Dp K H (.ref a) (rd r) := .tup h (.cons (.int _) (.cons (.int _) (.cons (dp_vw _) .nil)))
theorem pd_new {K : PySem.W.Frag} {H : Hp} {a : Addr} {x : Int × Int} (h : H a = some (.tup [.int x.1, .int x.2])) : Dp K H (.ref a) (pd x) := .tup (SqT.of h) (.cons (.int _) (.cons (.int _) .nil))
theorem lay_dw : ∀ o : Option Int, (dw o).canLay0 = true
  | none => rfl
  | some i => rfl
theorem dep_dw : ∀ o : Option Int, (dw o).depth = 0
  | none => rfl
  | some i => rfl
theorem lay_rd (r : Rw) : (rd r).canLay0 = true := by
  show (true && (true && ((dw r.2.2).canLay0 && true))) = true
  rw [lay_dw]
  rfl
theorem dep_rd (r : Rw) : (rd r).depth = 1 := by
  show max 0 (max 0 (max (dw r.2.2).depth 0)) + 1 = 1
  rw [dep_dw]
  rfl
theorem eq_rd (a b : Rw) : PyData.eqv (rd a) (rd b) = decide (a = b) := by
  show ((a.1 == b.1) && ((a.2.1 == b.2.1) && (PyData.eqv (dw a.2.2) (dw b.2.2) && true))) = _
  rw [eq_dw]
  by_cases c : a = b
  · subst c
    rw [beq_self_eq_true, beq_self_eq_true, decide_eq_true rfl, decide_eq_true rfl]
    rfl
  · rw [decide_eq_false c]
    by_cases c1 : a.1 = b.1
    · by_cases c2 : a.2.1 = b.2.1
      · by_cases c3 : a.2.2 = b.2.2
        · exact absurd (Prod.ext c1 (Prod.ext c2 c3)) c
        · rw [decide_eq_false c3]
          simp
      · rw [beq_eq_false_iff_ne.mpr c2]
        simp
    · rw [beq_eq_false_iff_ne.mpr c1]
      rfl
/-- lists of things of such a form -/
theorem form_all {α : Type} {f : α → PyData} (h1 : ∀ x, (f x).canLay0 = true) (h2 : ∀ x, (f x).depth ≤ 1) (h3 : ∀ x, PyData.eqv (f x) (f x) = true) (xs : List α) :
    PyData.canLayAll0 (xs.map f) = true ∧ PyData.depthAll (xs.map f) ≤ 1 ∧ PyData.eqvAll (xs.map f) (xs.map f) = true := by
  induction xs with
  | nil => exact ⟨rfl, Nat.zero_le _, rfl⟩
  | cons x r ih =>
    obtain ⟨i1, i2, i3⟩ := ih
    refine ⟨?_, ?_, ?_⟩
    · show ((f x).canLay0 && PyData.canLayAll0 (r.map f)) = true
      rw [h1, i1]
      rfl
    · show max (f x).depth (PyData.depthAll (r.map f)) ≤ 1
      have := h2 x
      omega
    · show (PyData.eqv (f x) (f x) && PyData.eqvAll (r.map f) (r.map f)) = true
      rw [h3, i3]
      rfl
theorem form_list {α : Type} {f : α → PyData} (h1 : ∀ x, (f x).canLay0 = true) (h2 : ∀ x, (f x).depth ≤ 1) (h3 : ∀ x, PyData.eqv (f x) (f x) = true) (xs : List α) : SeqAt.shaped (.list (xs.map f)) = true ∧ PyData.eqv (.list (xs.map f)) (.list (xs.map f)) = true := by
  obtain ⟨a, b, c⟩ := form_all h1 h2 h3 xs
  refine ⟨shaped_of a ?_, c⟩
  show PyData.depthAll (xs.map f) + 1 ≤ 64
  omega
theorem ref_rd (r : Rw) : PyData.eqv (rd r) (rd r) = true := by
  rw [eq_rd]
  exact decide_eq_true rfl
theorem rds_form (rs : List Rw) : SeqAt.shaped (.list (rs.map rd)) = true ∧ PyData.eqv (.list (rs.map rd)) (.list (rs.map rd)) = true := form_list lay_rd (fun r => Nat.le_of_eq (dep_rd r)) ref_rd rs
theorem ref_pd (x : Int × Int) : PyData.eqv (pd x) (pd x) = true := by
  show ((x.1 == x.1) && ((x.2 == x.2) && true)) = true
  rw [beq_self_eq_true, beq_self_eq_true]
  rfl
theorem pds_form (ps : List (Int × Int)) : SeqAt.shaped (.list (ps.map pd)) = true ∧ PyData.eqv (.list (ps.map pd)) (.list (ps.map pd)) = true := form_list (f := pd) (fun _ => rfl) (fun _ => Nat.le_refl 1) ref_pd ps
theorem sh_rd (r : Rw) : SeqAt.shaped (rd r) = true := shaped_of (lay_rd r) (by rw [dep_rd]; decide)
theorem dl_at {α : Type} {f : α → PyData} {K : PySem.W.Frag} {H : Hp} {xs : List V} {ps : List α} (h : DpAll K H xs (ps.map f)) {i : Nat} {v : V} (e : xs[i]? = some v) : ∃ x, ps[i]? = some x ∧ Dp K H v (f x) := by
  obtain ⟨d, h1, h2⟩ := dpAll_at h i v e
  rw [List.getElem?_map] at h1
  obtain ⟨x, h3, rfl⟩ := Option.map_eq_some_iff.mp h1
  exact ⟨x, h3, h2⟩
theorem dl_get {α : Type} {f : α → PyData} {K : PySem.W.Frag} {H : Hp} {xs : List V} {ps : List α} (h : DpAll K H xs (ps.map f)) {i : Nat} {x : α} (e : ps[i]? = some x) : ∃ v, xs[i]? = some v ∧ Dp K H v (f x) := dpAll_tk h i (f x) (by rw [List.getElem?_map, e]; rfl)
theorem dl_len {α : Type} {f : α → PyData} {K : PySem.W.Frag} {H : Hp} {xs : List V} {ps : List α} (h : DpAll K H xs (ps.map f)) : xs.length = ps.length := by
  have := dpAll_len h
  rw [List.length_map] at this
  exact this
theorem nodup_len {α : Type} [DecidableEq α] : ∀ {rs L : List α}, rs.Nodup → (∀ r, r ∈ rs → r ∈ L) → rs.length ≤ L.length
  | [], L, _, _ => Nat.zero_le _
  | r :: rs, L, nd, h => by
    have n1 := (List.nodup_cons.mp nd).1
    have n2 := (List.nodup_cons.mp nd).2
    have hr : r ∈ L := h r List.mem_cons_self
    have i := nodup_len (rs := rs) (L := L.erase r) n2 fun q hq => (List.mem_erase_of_ne (fun z : q = r => n1 (by rw [← z]; exact hq))).mpr (h q (List.mem_cons_of_mem _ hq))
    rw [List.length_erase_of_mem hr] at i
    have := List.length_pos_of_mem hr
    show rs.length + 1 ≤ L.length
    omega
theorem take_snoc {α : Type} {L : List α} {i : Nat} {x : α} (h : L[i]? = some x) : L.take (i + 1) = L.take i ++ [x] := by
  rw [List.take_add_one, h]
  rfl
end Tg

namespace Tg
open PySem PySem.Spec PyProof.Rows L2
/-! ### a new thing that is only read from now on -/
section
variable {X : Cx} {e : Expr} {t : TE}
def tFrz (t : TE) : TE := fun σ H Q => t σ H fun x H1 => ∃ d u, x = .ref d ∧ H1 d = some u ∧ Mut (some u) ∧ ∀ od, Q x (upd H1 d (.frz od u))
theorem pe_frz (h : PE X e t) : PE X e (tFrz t) := by
  constructor
  intro pins s σ H Q I read
  refine thn (h.run pins s σ H _ I read) fun v s1 y => ?_
  obtain ⟨x, H1, J, r, d, u, ex, hd, mu, q⟩ := y
  obtain ⟨od, J2⟩ := J.lock hd mu
  exact ⟨x, _, J2, r, q od⟩
/-- a statement that is never reached -/
theorem ps_dead {st : Stmt} : PS X st (fun _ _ _ => False) := ⟨fun _ _ _ _ _ _ h => h.elim⟩
end
end Tg

set_option maxHeartbeats 2000000
namespace Tg
open PySem PySem.Spec PyProof.Rows L2
/-! ### a caught exception that is kept in a name: try: .. except T as e: kept = e -/
/-- the exception of the class cls, its dict at d, at a -/
def ExV (cls : Value) (d : Option Addr) (a : Addr) : HO := .ext fun h => ∃ (oe : Obj) (vs : Array Value), h.get? a = some oe ∧ Zc cls d oe ∧ oe.data = .fields vs
theorem exV_ok {P : Program} {w : World} {H : Hp} {h : Heap} {a : Addr} {cls : Value} {d : Option Addr} {oe : Obj} {vs : Array Value} (e : h.get? a = some oe) (z : Zc cls d oe) (q : oe.data = .fields vs) : ObjOk P w H h a (ExV cls d a) := by
  refine ⟨⟨oe, vs, e, z, q⟩, ⟨oe, e⟩, fun h1 h2 y st => ?_⟩
  obtain ⟨o1, v1, e1, z1, q1⟩ := y
  exact ⟨o1, v1, st _ e1, z1, q1⟩
section
variable {X : Cx} {s : Shared} {H : Hp} {σ : L2.St} {pins : List (Addr × Obj)}
theorem track {a : Addr} {oe : Obj} {vs : Array Value} {o : HO} (I : Inv X pins σ H s) (h0 : X.s_0.heap.get? a = none) (he : s.heap.get? a = some oe) (hd : oe.data = .fields vs) (na : H a = none)
    (nL : a ≠ X.env.locals) (np : ∀ p, p ∈ X.pn ++ pins → p.1 ≠ a) (new : ObjOk X.prog X.w (upd H a o) s.heap a o) : Inv X pins σ (upd H a o) s where
  ok := I.ok
  os := I.os
  bare := I.bare
  base := {
    keep := I.base.keep
    slot := I.base.slot
    free := fun b u q n x => by
      rw [upd_ne (fun z => by rw [z, h0] at q; cases q)]
      exact I.base.free b u q n x
    there := I.base.there
    tups := fun b xs q => by
      have y := I.base.tups b xs q
      rw [upd_ne (ne_of_none y na)]
      exact y
    frzs := fun b u xs q => by
      have y := I.base.frzs b u xs q
      rw [upd_ne (ne_of_none y na)]
      exact y
    tbls := fun b ps q => by
      obtain ⟨m, y⟩ := I.base.tbls b ps q
      refine ⟨m, ?_⟩
      rw [upd_ne (ne_of_none y na)]
      exact y }
  loc := I.loc
  cell := I.cell
  free := by
    rw [upd_ne nL.symm]
    exact I.free
  freeC := fun x c e => by
    have nc : c ≠ a := fun z => by
      obtain ⟨v, y⟩ := I.cell x c e
      obtain ⟨oc, y1, y2⟩ := y
      rw [z, he] at y1
      cases y1
      rw [hd] at y2
      cases y2
    rw [upd_ne nc]
    exact I.freeC x c e
  pin := fun p hp => by
    obtain ⟨y1, y2, y3⟩ := I.pin p hp
    refine ⟨y1, ?_, y3⟩
    rw [upd_ne (np p hp)]
    exact y2
  hok := I.hok.laidN (fun _ _ z => z) na new
  len := I.len
/-- what is wanted of an exception of the body: its class is one that the clause takes; it is kept in slot j -/
def wKeep (Mt : Value → Prop) (i j : Nat) (D : Ends) : WX := fun cls d σ H => Mt cls ∧ ∀ a, H a = none → D.nx (((σ.set i (some (.ref a))).set j (some (.ref a))).set i none) (upd H a (ExV cls d a))
/-- the clause's test: its value takes each exception of such a class -/
def Tests (X : Cx) (test : Expr) (Mt : Value → Prop) : Prop := ∀ (a : Addr) (oe : Obj) (pn : List (Addr × Obj)) (s : Shared) (σ : L2.St) (H : Hp) (Q : Value → Shared → Prop) (E : Value → Shared → Prop),
  Inv (X.suite a ((a, oe) :: pn)) [] σ H s → s.heap.get? a = some oe → Mt oe.cls →
  (∀ (c : Value) (s' : Shared), (∀ b o, s.heap.get? b = some o → s'.heap.get? b = some o) → s'.os = s.os → s'.gens = s.gens → PySem.W.Looks (model X.prog X.w) s'.heap (excMatches (.ref a) c) true → Q c s') →
    wpAny (model X.prog X.w) (X.A.mark (some (.ref a))) (eval test X.env) Q E s
theorem flying_keeps {B : Heap} {l : List Env} {a : Addr} {Z : Obj → Prop} {h h' : Heap} (k : ∀ b o, h.get? b = some o → h'.get? b = some o) (f : HandSPX.FlyingZ B l a Z h) : HandSPX.FlyingZ B l a Z h' := by
  obtain ⟨f1, f2, f3, oe, vs, T, oT, ts, y1, y2, y3, y4, y5, y6, y7, y8, y9⟩ := f
  exact ⟨fun b o e => k _ _ (f1 b o e), f2, Heap.FunFrames.of_keeps (fun b o e _ => ⟨o, k _ _ e, rfl⟩) f3, oe, vs, T, oT, ts, k _ _ y1, y2, y3, y4, y5, y6, k _ _ y7, y8, y9⟩
variable {n y : Str} {i j : Nat} {body : List Stmt} {test : Expr} {py pn' ps' pos pos' : Pos} {tb : WX → TS} {Mt : Value → Prop}
/-- a try's body, whatever is wished of the exceptions that leave it -/
def Bodies (X : Cx) (body : List Stmt) (tb : WX → TS) : Prop := ∀ W pn xe, Takes (X.tr pn xe) W → PassesOwn (model X.prog X.w) X.A X.env xe → PSs (X.tr pn xe) body (tb W)
/-- the same state, one thing more (or less) pinned -/
theorem repin {Y Z : Cx} {p q : List (Addr × Obj)} (I : Inv Y p σ H s) (ok : Z.Ok) (e : Z = { Y with A := Z.A, calm := Z.calm, pn := Z.pn, xe := Z.xe }) (sub : ∀ r, r ∈ Z.pn ++ q → r ∈ Y.pn ++ p) : Inv Z q σ H s := by
  obtain ⟨_, f2, f3, f4, f5, f6, f7, f8, f9, f10, f11⟩ := I
  rw [e] at ok sub ⊢
  exact ⟨ok, f2, f3, f4, f5, f6, f7, f8, fun r hr => f9 r (sub r hr), f10, f11⟩
theorem ps_try_keep (top : X.stack = X.env :: X.outer) (own : X.env.frame = some X.env.locals) (noex : X.ex = []) (nd : X.N.Nodup) (at_i : X.N[i]? = some n) (at_j : X.N[j]? = some y) (loc_n : X.env.scope.names.lookup n = some .local)
    (loc_y : X.env.scope.names.lookup y = some .local) (takes : Tests X test Mt) (bodies : Bodies X body tb) (nodebug : (n == ("__debug__" : Str)) = false := by decide) (noclass : (n == ("__classdict__" : Str)) = false := by decide) :
    PS X (.Try body [.ExceptHandler (some test) (some n) [.Assign [.Name y py] (.Name n pn') ps'] pos'] [] [] pos) (fun D σ H => tb (wKeep Mt i j D) D σ H) := by
  constructor
  intro pins s σ H D I read
  have frames := I.ok.frames.trans (congrArg some top)
  refine wpAny_Try_except (wpAny_mono ((bodies (wKeep Mt i j D) (X.pn ++ pins) _ (fun u s' air => ?_) PassesOwn.looking).run [] s σ H D (I.toTry _) read) (fun f s1 z => ?_) (fun _ _ z => z))
  · obtain ⟨a, B, s0, _, σ0, H0, cls, d, rfl, J0, ground, up, sky, na, os, gens, takes_it, wish⟩ := air
    have J : Inv X pins σ0 H0 s0 := J0.ofTry I.ok
    rw [show (X.tr (X.pn ++ pins) _).stack = X.env :: X.outer from top] at sky ground
    refine Sky.land Zc.steady frames own sky fun h3 fly3 up3 => ?_
    have J3 := J.landed (s' := { s' with heap := h3 }) (B := B) (by rw [top]; exact ground) fly3.1 (up.trans up3) os gens
    obtain ⟨o3, v3, get3, kind3, data3⟩ := fly3.there
    -- it is none of the frames, and it wasn't there ahead of the try
    have noframe : a ∉ frs (X.env :: X.outer) := fun m => by
      obtain ⟨_, _, e, nofields⟩ := fly3.2.2.1.mem m
      cases get3.symm.trans e
      exact nofields _ data3
    have noloc : a ≠ X.env.locals := fun z => noframe (by
      rw [z]
      exact List.mem_filterMap.mpr ⟨X.env, List.mem_cons_self, own⟩)
    have noouter : a ∉ X.fs := fun m => noframe (by
      obtain ⟨env, h1, h2⟩ := List.mem_filterMap.mp m
      exact List.mem_filterMap.mpr ⟨env, .tail _ h1, h2⟩)
    have new0 : s0.heap.get? a = none := by
      rcases q : s0.heap.get? a with _ | o
      · rfl
      · exact nomatch (ground a o q noframe).symm.trans fly3.2.1
    have new : X.s_0.heap.get? a = none := by
      rcases q : X.s_0.heap.get? a with _ | o
      · rfl
      · exact (J.base.there a o q (by rw [noex]; exact List.not_mem_nil)).elim fun _ z => nomatch z.symm.trans new0
    have nopin : ∀ p, p ∈ X.pn ++ pins → p.1 ≠ a := fun p m z => by
      have there := (J.pin p m).1
      rw [z, new0] at there
      cases there
    refine wpAny_handleBy_cons (codeAny_handlers_test (takes a o3 _ _ σ0 H0 _ _ (J3.suite get3 data3 na noloc noouter) get3 (by rw [kind3.1]; exact takes_it) fun c s4 kp4 os4 gens4 match4 => match4.here ?_)) (fun z => nomatch z)
    refine codeAny_handlers_suite_as (HandSPX.lands_againZ (flying_keeps kp4 fly3) fun h5 fly5 up5 => ?_)
    have up4 : h3.UpToSlots s4.heap := fun b o z _ => ⟨o.slots, kp4 _ _ z⟩
    have J5 := J.landed (s' := { s4 with heap := h5 }) (B := B) (by rw [top]; exact ground) fly5.1 (((up.trans up3).trans up4).trans up5) (os4.trans os) (by rw [show ({ s4 with heap := h5 } : Shared).gens = s4.gens from rfl, gens4]; exact gens)
    obtain ⟨o5, v5, get5, kind5, data5⟩ := fly5.there
    refine store_ok (X := X.suite a ((a, o5) :: (X.pn ++ pins))) (v := .ref a) (J5.suite get5 data5 na noloc noouter) nd at_i (.inl loc_n) rfl (fun s6 J6 => ?_) (.inr loc_n)
    -- kept = e
    have keep : PSs (X.suite a ((a, o5) :: (X.pn ++ pins))) [.Assign [.Name y py] (.Name n pn') ps'] (tAsg (tVar i) (gName j)) := pss_one (ps_set nd at_j (.inl loc_y) (pe_var at_i (.inl loc_n) nodebug noclass) (by rfl) (.inr loc_y))
    have short : i < σ0.length := by
      rw [J.len]
      exact (List.getElem?_eq_some_iff.mp at_i).1
    refine wpAny_mono (keep.run [] s6 _ H0 { nx := fun σ7 H7 => σ7 = (σ0.set i (some (.ref a))).set j (some (.ref a)) ∧ H0 = H7, rt := fun _ _ => False, bk := fun _ _ => False, ct := fun _ _ => False } J6 ⟨.ref a, by rw [List.getElem?_set_self short], rfl, rfl⟩) (fun f s7 z => ?_) (fun _ _ z => z.elim)
    match f, z with
    | .next, ⟨_, _, J7, e7, eH⟩ =>
      subst e7
      subst eH
      refine gone_ok (repin (q := (a, o5) :: pins) J7 I.ok rfl fun r m => ?_) nd at_i loc_n fun s8 J8 => ?_
      · refine List.mem_append_left _ ?_
        rcases List.mem_append.mp m with m | m
        · exact .tail _ (List.mem_append_left _ m)
        · cases m with
          | head => exact .head _
          | tail _ m => exact .tail _ (List.mem_append_right _ m)
      · have get8 := (J8.pin (a, o5) (List.mem_append_right _ (.head _))).1
        have J9 : Inv X pins (((σ0.set i (some (.ref a))).set j (some (.ref a))).set i none) H0 s8 := repin J8 I.ok rfl fun r m => by
          rcases List.mem_append.mp m with m | m
          · exact List.mem_append_left _ m
          · exact List.mem_append_right _ (.tail _ m)
        exact ⟨_, _, track J9 new get8 data5 na noloc nopin (exV_ok get8 kind5 data5), wish a na⟩
    | .brk, ⟨_, _, _, z⟩ => exact z.elim
    | .cont, ⟨_, _, _, z⟩ => exact z.elim
    | .ret _, ⟨_, _, _, _, _, z⟩ => exact z.elim
  · match f, z with
    | .next, ⟨σ1, H1, J1, z⟩ => exact wpAny_execs_nil ⟨σ1, H1, J1.ofTry I.ok, z⟩
    | .brk, ⟨σ1, H1, J1, z⟩ => exact ⟨σ1, H1, J1.ofTry I.ok, z⟩
    | .cont, ⟨σ1, H1, J1, z⟩ => exact ⟨σ1, H1, J1.ofTry I.ok, z⟩
    | .ret _, ⟨v, σ1, H1, J1, rel, z⟩ => exact ⟨v, σ1, H1, J1.ofTry I.ok, rel, z⟩
end
end Tg

set_option maxHeartbeats 2000000
namespace Tg
open PySem PySem.Spec PyProof.Rows L2
section
variable {X : Cx} {x1 x2 x3 x4 : Str} {c1 c2 c3 c4 : Value} {p1 p2 p3 p4 pos : Pos}
theorem tests_one (hc : Names X x1 c1) : Tests X (.Name x1 p1) (fun cls => PySem.W.exmOne X.K cls c1 = some true) := by
  intro a oe pn s σ H Q E I he mt h
  have LT : PySem.W.Looks (model X.prog X.w) s.heap (typeOf (.ref a)) oe.cls := fun A Q E s k q => wpAny_typeOf_ref (k _ _ he) q
  have LM := PySem.W.exm_one (M := model X.prog X.w) I.kIn LT mt
  have told := h c1 s (fun _ _ z => z) rfl rfl LM
  rcases hc with ⟨gl, nodebug, own | ⟨none_, boot, noname⟩⟩
  · exact ld_glob (X := X.suite a ((a, oe) :: pn)) I gl own told nodebug
  · exact ld_blt (X := X.suite a ((a, oe) :: pn)) I gl none_ boot told noname nodebug
/-- own classes named one after the other -/
structure Glb (X : Cx) (x : Str) (c : Value) : Prop where
  gl : Gl X x
  mg : X.mg x = some c
  db : (x == ("__debug__" : Str)) = false := by decide
theorem glb_args {a : Addr} {oe : Obj} {pn : List (Addr × Obj)} {s : Shared} {σ : L2.St} {H : Hp} {E : Value → Shared → Prop} {pos : Pos} (I : Inv (X.suite a ((a, oe) :: pn)) [] σ H s) :
    ∀ {xs : List (Str × Pos)} {cs : List Value} {Q : List Value → Shared → Prop}, Paired (fun x c => Glb X x.1 c) xs cs → Q cs s →
      wpAny (model X.prog X.w) (X.A.mark (some (.ref a))) (spliced (backTo pos (starEach (xs.map fun x => .Name x.1 x.2) X.env))) Q E s
  | _, _, Q, .nil, q => args_nil q
  | (x, p) :: xs, c :: cs, Q, .cons g r, q => by
    refine args_cons (ld_glob (X := X.suite a ((a, oe) :: pn)) I g.gl g.mg (glb_args I r q) g.db) rfl
theorem tests_tup {xs : List (Str × Pos)} {cs : List Value} {kt : Nat} (hp : Paired (fun x c => Glb X x.1 c) xs cs) (hl : cs.length ≤ sizeLine)
    (hm : ∀ {h : Heap} {a tp : Addr} {cls : Value}, X.K.In h → PySem.W.Looks (model X.prog X.w) h (typeOf (.ref a)) cls → h.get? tp = some { cls := .type "tuple", data := .seq cs.toArray } → PySem.W.exmAny X.K cls cs = some true → PySem.W.Looks (model X.prog X.w) h (excMatches (.ref a) (.ref tp)) true) :
    Tests X (.Tuple (xs.map fun x => .Name x.1 x.2) kt pos) (fun cls => PySem.W.exmAny X.K cls cs = some true) := by
  intro a oe pn s σ H Q E I he mt h
  refine wpAny_Tuple_spliced (glb_args I hp ⟨hl, ?_⟩)
  have kk : ∀ b o, s.heap.get? b = some o → (s.heap.push { cls := .type "tuple", data := .seq cs.toArray }).get? b = some o := fun b o e => Heap.get?_push_of_some _ e
  have LT : PySem.W.Looks (model X.prog X.w) (s.heap.push { cls := .type "tuple", data := .seq cs.toArray }) (typeOf (.ref a)) oe.cls := fun A Q E s k q => wpAny_typeOf_ref (k _ _ (kk _ _ he)) q
  exact h _ _ kk rfl rfl (hm (I.kIn.keeps kk) LT (Heap.get?_push_size _ rfl) mt)
theorem tests_2 {kt : Nat} (h1 : Glb X x1 c1) (h2 : Glb X x2 c2) : Tests X (.Tuple [.Name x1 p1, .Name x2 p2] kt pos) (fun cls => PySem.W.exmAny X.K cls [c1, c2] = some true) :=
  tests_tup (xs := [(x1, p1), (x2, p2)]) (.cons h1 (.cons h2 .nil)) (by show 2 ≤ sizeLine; decide) fun X LT hp mt => PySem.W.exm_tup2 X LT hp mt
theorem tests_3 {kt : Nat} (h1 : Glb X x1 c1) (h2 : Glb X x2 c2) (h3 : Glb X x3 c3) : Tests X (.Tuple [.Name x1 p1, .Name x2 p2, .Name x3 p3] kt pos) (fun cls => PySem.W.exmAny X.K cls [c1, c2, c3] = some true) :=
  tests_tup (xs := [(x1, p1), (x2, p2), (x3, p3)]) (.cons h1 (.cons h2 (.cons h3 .nil))) (by show 3 ≤ sizeLine; decide) fun X LT hp mt => PySem.W.exm_tup3 X LT hp mt
theorem tests_4 {kt : Nat} (h1 : Glb X x1 c1) (h2 : Glb X x2 c2) (h3 : Glb X x3 c3) (h4 : Glb X x4 c4) : Tests X (.Tuple [.Name x1 p1, .Name x2 p2, .Name x3 p3, .Name x4 p4] kt pos) (fun cls => PySem.W.exmAny X.K cls [c1, c2, c3, c4] = some true) :=
  tests_tup (xs := [(x1, p1), (x2, p2), (x3, p3), (x4, p4)]) (.cons h1 (.cons h2 (.cons h3 (.cons h4 .nil)))) (by show 4 ≤ sizeLine; decide) fun X LT hp mt => PySem.W.exm_tup4 X LT hp mt
end
/-! ### what is asked of it later: a field, isinstance -/
section
variable {X : Cx} {e : Expr} {te : TE} {pos : Pos} {n : Str}
/-- kept.f -/
def tExf (K : PySem.W.Frag) (f : Str) (te : TE) : TE := fun σ H Q => te σ H fun x H1 => ∃ (a C dd : Addr) (fs : List (Str × V)) (v : V), x = .ref a ∧ H1 a = some (ExV (.ref C) (some dd) a) ∧ XfC K C ∧ PySem.W.findIn K (.ref C) f = some none ∧ H1 dd = some (.xd fs) ∧ fs.lookup f = some v ∧ Q v H1
theorem exV_inst {a C dd : Addr} {fs : List (Str × V)} {pins : List (Addr × Obj)} {σ : L2.St} {H : Hp} {s : Shared} (I : Inv X pins σ H s) (ea : H a = some (ExV (.ref C) (some dd) a)) (ed : H dd = some (.xd fs)) :
    ∃ (oe od : Obj) (m : Str → Option Value), PySem.W.InstAt s.heap a oe C (some od) ∧ (∀ f, RelO (fs.lookup f) (m f)) ∧ ∀ x, PySem.W.lookIn x od = some (m x) := by
  obtain ⟨⟨oe, vs, he, hz, hd⟩, _, _⟩ := (show ObjOk X.prog X.w H s.heap a (ExV (.ref C) (some dd) a) from I.hok a _ ea)
  obtain ⟨m, ns, rel⟩ := (show ObjOk X.prog X.w H s.heap dd (.xd fs) from I.hok dd _ ed)
  obtain ⟨od, get, look⟩ := lookIn_ns ns
  exact ⟨oe, od, m, ⟨he, hz.1, by unfold PySem.W.notCls; rw [hd] <;> rfl, by rw [hz.2]; exact get⟩, rel, look⟩
theorem pe_exf (he : PE X e te) (base : attributeBase e n X.env (eval e X.env) = eval e X.env := by rfl) : PE X (.Attribute e n pos) (tExf X.K n te) := by
  constructor
  intro pins s σ H Q I read
  refine attr_of base (thn (he.run pins s σ H _ I read) fun u s1 z => ?_)
  obtain ⟨_, H1, J, ru, a, C, dd, fs, v, rfl, ea, T, none_, ed, is_v, told⟩ := z
  obtain rfl : u = .ref a := ru
  obtain ⟨oe, od, m, inst, rel, look⟩ := exV_inst J ea ed
  have there := rel n
  rw [is_v] at there
  obtain ⟨w, mw, rw_⟩ := RelO.some_of there
  exact HandSPX.exc_get J.kIn inst T.ga T.gg T.exC (PySem.W.findObj_own T.hdC none_ rfl ((look n).trans (congrArg some mw))) (handed_of rw_) ⟨v, H1, J.tok _, rw_, told⟩
theorem cls_some {K : PySem.W.Frag} {D : Addr} (h : PySem.W.hasDictIn K D = true) : (PySem.W.clsIn K D).isSome = true := by
  obtain ⟨cd, hc, _⟩ := PySem.W.any_some h
  rw [hc]
  rfl
/-- isinstance(kept, c) -/
def rIsV (K : PySem.W.Frag) : List V → Hp → VK → Prop := fun xs H Q => ∃ (a D dd : Addr) (fs : List (Str × V)) (c : V) (cv : Value) (b : Bool), xs = [.ref a, c] ∧ H a = some (ExV (.ref D) (some dd) a) ∧ H dd = some (.xd fs) ∧ ExcC K D ∧ ClsV c cv ∧ PySem.W.kitOne K (.ref D) cv = some b ∧ Q (.bl b) H
theorem call_isV : CallR X (.builtin "isinstance") (rIsV X.K) := by
  rintro pins s σ H _ us Q I rel ⟨a, D, dd, fs, c, cv, b, rfl, ea, ed, C, cls, kit, told⟩
  match us, rel with
  | [_, _], .cons ra (.cons rc .nil) =>
    cases ra
    cases cls.eq rc
    obtain ⟨_, _, _, inst, _⟩ := exV_inst I ea ed
    exact PySem.W.kia_one (PySem.W.kitx_exc (cls_some C.hd) C.hg C.hk C.hs C.ha C.hn C.ht C.hm) I.kIn inst kit (fun z => nomatch z) fun tk => ⟨.bl b, H, I.tok tk, rfl, told⟩
/-- isinstance(kept, (c1, c2, ..)) -/
def rIsVT (K : PySem.W.Frag) : List V → Hp → VK → Prop := fun xs H Q => ∃ (a D dd tp : Addr) (fs : List (Str × V)) (cs : List V) (us : List Value) (b : Bool), xs = [.ref a, .ref tp] ∧ H a = some (ExV (.ref D) (some dd) a) ∧ H dd = some (.xd fs) ∧ ExcC K D ∧
  H tp = some (.tup cs) ∧ Paired ClsV cs us ∧ PySem.W.kitAny K (.ref D) us = some b ∧ Q (.bl b) H
theorem call_isVT : CallR X (.builtin "isinstance") (rIsVT X.K) := by
  rintro pins s σ H _ us Q I rel ⟨a, D, dd, tp, fs, cs, ws, b, rfl, ea, ed, C, tup, cls, kit, told⟩
  match us, rel with
  | [_, _], .cons ra (.cons rt .nil) =>
    cases ra
    cases rt
    obtain ⟨_, _, _, inst, _⟩ := exV_inst I ea ed
    obtain ⟨_, items, ri, ⟨oc, od, dt, sl⟩, get, is_tup, m, is_seq⟩ := (show ObjOk X.prog X.w H s.heap tp (.tup cs) from I.hok tp _ tup)
    cases ClsV.all cls ri
    cases is_tup
    cases is_seq
    exact PySem.W.kia_tup (PySem.W.kitx_exc (cls_some C.hd) C.hg C.hk C.hs C.ha C.hn C.ht C.hm) I.kIn inst get kit (fun z => nomatch z) fun tk => ⟨.bl b, H, I.tok tk, rfl, told⟩
end
end Tg

set_option maxHeartbeats 2000000
namespace Tg
open PySem PySem.Spec PyProof.Rows L2
/-! ### class X(ValueError): def __init__(self, at): ValueError.__init__(self, "..") ; self.at = at -/
def inCls (s : Stmt) (i : Nat) : Stmt := match s with
  | .ClassDef _ _ _ body _ _ _ _ _ _ _ => body.getD i (.Pass ⟨0, 0, 0, 0⟩)
  | _ => .Pass ⟨0, 0, 0, 0⟩
/-- what __init__ leaves: the field in a new dict -/
def spErr (C : Addr) (f : Str) : Sp := fun vs H Q _ => ∃ (a : Addr) (v : V), vs = [.ref a, v] ∧ H a = some (exo a C none) ∧ ∀ dx, H dx = none → dx ≠ a → Q .non (upd (upd H dx (exd dx [(f, v)])) a (exo a C (some dx)))
/-- what raise X(v) then leads to -/
theorem err_read {C : Addr} {f : Str} {ta : TE} {σ : L2.St} {H : Hp} {Q : XK} (h : ta σ H fun v H1 => ∀ (d : Addr) (H' : Hp), Same H1 H' → H1 d = none → H' d = some (.xd [(f, v)]) → Q (.ref C) (some d) H')
    (mono : ∀ {Q Q' : VK}, (∀ v H1, Q v H1 → Q' v H1) → ta σ H Q → ta σ H Q') : tMkO C (spErr C f) [] (tCons ta tNil) σ H Q := by
  refine mono (fun v H1 q => ⟨by show 1 ≤ 1000; decide, fun a na => ?_⟩) h
  refine ⟨a, v, rfl, upd_same, fun dx nd da => ⟨rfl, dx, [(f, v)], upd_same, ?_, ?_, ?_⟩⟩
  · rw [upd_ne da, upd_same]
  · rw [upd_ne da] at nd
    exact nd
  · have nd' : H1 dx = none := by
      rw [upd_ne da] at nd
      exact nd
    refine q dx _ (fun b o e => ?_) nd' upd_same
    have nb : b ≠ dx := ne_of_none e nd'
    have nba : b ≠ a := ne_of_none e na
    rw [upd_ne nb, del_ne nba, upd_ne nba, upd_ne nb, upd_ne nba]
    exact e
end Tg

set_option maxHeartbeats 2000000
namespace Tg
open PySem PySem.Spec PyProof.Rows L2
/-! ### a call by keywords that may raise, in a try -/
section
variable {X : Cx} {CX : CXT} {k : Nat} {f : Addr} {fd : FuncData} {ps ks : List Str} {sp : Sp} {E : L2.St → XK} {x : Str} {p pos : Pos} {kws : List Keyword} {tk : TA} {g : List Value → List Value → List Value} {gV : List V → List V → List V}
theorem pe_kwS (F : FnOk X.prog X.w X.K X.mg X.base CX k f fd ps sp) (room : Room k X.A) (gl : Gl X x) (at_x : X.mg x = some (.ref f)) (kept : PySem.W.keepIn X.K (.ref f) = true) (binds : KBn X.K fd ps 0 ks g gV) (lets : ∀ σ, PassesAt CX X σ (E σ)) (vals : PK X kws tk)
    (named : (backToKw pos (keywordEach kws X.env)).all (·.1.isSome) = true := by rfl) (names : (backToKw pos (keywordEach kws X.env)).filterMap (·.1) = ks := by rfl) (nodebug : (x == ("__debug__" : Str)) = false := by decide)
    (nostar : ((backTo pos (starEach [] X.env)).any (·.1) || (backToKw pos (keywordEach kws X.env)).any (·.1.isNone)) = false := by rfl) : PE X (.Call (.Name x p) [] kws pos) (fun σ H Q => tk σ H fun zs H2 => zs.length = ks.length ∧ sp (gV [] zs) H2 Q (E σ)) := by
  constructor
  intro pins s σ H Q I read
  refine wpAny_Call_Name_kw (ld_glob I gl at_x (PySem.W.callWith_KW0 (h₀ := X.base) I.ok.mod.kin kept named (thn (vals.run pos pins s σ H _ I read) fun ws s2 y => ?_) nostar) nodebug)
  obtain ⟨zs, H2, J, rel, many, told⟩ := y
  rw [names]
  refine ⟨J.kIn, wpAny_call (codeAny_mono (F.run X.A X.stack s2 H2 ⟨[], ks.zip ws⟩ (g [] ws) (gV [] zs) Q (E σ) room J.env0 (binds.to s2 [] ws J.kIn rfl (rel.length.symm.trans many)) (binds.rel (vs := []) (us := []) .nil rel) told) fun a s' z => ?_)⟩
  match a, z with
  | .error e, z => exact lets σ pins H2 s2 e s' J z
  | .ok (.ret u), z => exact J.after z
end
end Tg

set_option maxHeartbeats 2000000
namespace Tg
open PySem PySem.Spec PyProof.Rows L2
/-! ### own errors, and classes whose __init__ may raise, as a caller needs them -/
section
variable (P : Program) (w : World) (K : PySem.W.Frag) (mg : Str → Option Value) (base : Heap)
/-- the error x, of the class C over ValueError, made of one thing that is its field fld -/
def CalE (k : Nat) (x : Str) (C : Addr) (fld : Str) : Prop := ∃ fI fdI, OexC K C ∧ PySem.W.findIn K (.ref C) "__init__" = some (some (.ref fI)) ∧ PySem.W.typeIn K (.ref fI) = some (.type "function") ∧
  FnOk P w K mg base CX0 k fI fdI ["self", fld] (spErr C fld) ∧ Binds K fdI ["self", fld] [] ∧ mg x = some (.ref C)
/-- a def that may raise -/
def CalR (k : Nat) (x : Str) (ps : List Str) (sp : Sp) : Prop := ∃ f fd, FnOk P w K mg base (L2.CX P w) k f fd ps sp ∧ mg x = some (.ref f) ∧ PySem.W.keepIn K (.ref f) = true ∧ Binds K fd ps []
def CalRK (k : Nat) (x : Str) (ps ks : List Str) (is : List Nat) (sp : Sp) : Prop := ∃ f fd, FnOk P w K mg base (L2.CX P w) k f fd ps sp ∧ mg x = some (.ref f) ∧ PySem.W.keepIn K (.ref f) = true ∧ KBn K fd ps 0 ks (fun _ ws => prm is ws) (fun _ zs => prm is zs)
/-- a class whose __init__ may raise -/
def CalRC (k : Nat) (x : Str) (C : Addr) (ps : List Str) (sp : Sp) : Prop := ∃ f fd, FnOk P w K mg base (L2.CX P w) k f fd ps sp ∧ mg x = some (.ref C) ∧ Mk K C f ∧ Binds K fd ps []
def CalRCK (k : Nat) (x : Str) (C : Addr) (ps ks : List Str) (is : List Nat) (sp : Sp) : Prop := ∃ f fd, FnOk P w K mg base (L2.CX P w) k f fd ps sp ∧ mg x = some (.ref C) ∧ Mk K C f ∧ KBn K fd ps 1 ks (fun us ws => us ++ prm is ws) (fun vs zs => vs ++ prm is zs)
end
section
variable {X : Cx} {k : Nat} {ps ks : List Str} {is : List Nat} {sp : Sp} {x fld : Str} {C : Addr} {e : Expr} {es : List Expr} {p pos : Pos} {kws : List Keyword} {ta : TE} {t tk : TA} {W : WX}
theorem pm_err (c : CalE X.prog X.w X.K X.mg X.base k x C fld) (room : Room (k + 1) X.A) (gl : Gl X x) (he : PE X e ta) (nodebug : (x == ("__debug__" : Str)) = false := by decide)
    (star : starEach [e] X.env = (false, eval e X.env) :: starEach [] X.env := by rfl) : PMk X (.Call (.Name x p) [e] [] pos) (tMkO C (spErr C fld) [] (tCons ta tNil)) := by
  obtain ⟨fI, fdI, T, iC, tI, F, b, m⟩ := c
  exact pmk_oex T iC tI F room b .nil (fun _ _ _ _ _ _ _ z => z.elim) gl m (pa_cons he pa_nil star) nodebug star
/-- raise x(e), out of the def -/
def tErr (C : Addr) (fld : Str) (ta : TE) (E : XK) : TS := fun _ σ H => ta σ H fun v H1 => ∀ (d : Addr) (H' : Hp), Same H1 H' → H1 d = none → H' d = some (.xd [(fld, v)]) → E (.ref C) (some d) H'
/-- a call that may raise, in a def that lets it out -/
def tCalR (sp : Sp) (E : XK) (t : TA) : TE := fun σ H Q => t σ H fun vs H1 => sp vs H1 Q E
theorem pe_calR {E : XK} (c : CalR X.prog X.w X.K X.mg X.base k x ps sp) (hr : Room k X.A) (gl : Gl X x) (lets : Passes (L2.CX X.prog X.w) X E) (ha : PA X (e :: es) t) (nodebug : (x == ("__debug__" : Str)) = false := by decide)
    (star : starEach (e :: es) X.env = (false, eval e X.env) :: starEach es X.env := by rfl) (plain : (backTo pos (starEach es X.env)).any (·.1) = false := by rfl) : PE X (.Call (.Name x p) (e :: es) [] pos) (tCall sp [] E t) := by
  obtain ⟨f, fd, F, m, kp, b⟩ := c
  exact pe_call F hr gl m kp b .nil lets ha nodebug star plain
/-- the same in a try -/
theorem pe_calT (c : CalR X.prog X.w X.K X.mg X.base k x ps sp) (hr : Room k X.A) (gl : Gl X x) (tks : Takes X W) (ha : PA X (e :: es) t) (nodebug : (x == ("__debug__" : Str)) = false := by decide)
    (star : starEach (e :: es) X.env = (false, eval e X.env) :: starEach es X.env := by rfl) (plain : (backTo pos (starEach es X.env)).any (·.1) = false := by rfl) : PE X (.Call (.Name x p) (e :: es) [] pos) (tCallS sp (WE W) t) := by
  obtain ⟨f, fd, F, m, kp, b⟩ := c
  exact pe_callS F hr gl m kp b (fun σ => passAt tks σ) ha nodebug star plain
def tKwT (n : Nat) (sp : Sp) (is : List Nat) (W : WX) (tk : TA) : TE := fun σ H Q => tk σ H fun zs H2 => zs.length = n ∧ sp (prm is zs) H2 Q (WE W σ)
theorem pe_calKT (c : CalRK X.prog X.w X.K X.mg X.base k x ps ks is sp) (hr : Room k X.A) (gl : Gl X x) (tks : Takes X W) (vals : PK X kws tk)
    (named : (backToKw pos (keywordEach kws X.env)).all (·.1.isSome) = true := by rfl) (names : (backToKw pos (keywordEach kws X.env)).filterMap (·.1) = ks := by rfl) (nodebug : (x == ("__debug__" : Str)) = false := by decide)
    (nostar : ((backTo pos (starEach [] X.env)).any (·.1) || (backToKw pos (keywordEach kws X.env)).any (·.1.isNone)) = false := by rfl) : PE X (.Call (.Name x p) [] kws pos) (tKwT ks.length sp is W tk) := by
  obtain ⟨f, fd, F, m, kp, b⟩ := c
  exact pe_kwS (E := WE W) F hr gl m kp b (fun σ => passAt tks σ) vals named names nodebug nostar
/-! ### C(..), whose __init__ may raise, in a try -/
theorem made_or_raised {CX : CXT} {f : Addr} {fd : FuncData} {pins : List (Addr × Obj)} {σ : L2.St} {H : Hp} {s : Shared} {Q : VK} {E : L2.St → XK} {us zs : List Value} {kwv : List (Str × Value)} {vs : List V} (M : Mk X.K C f) (F : FnOk X.prog X.w X.K X.mg X.base CX k f fd ps sp)
    (room : Room (k + 1) X.A) (lets : PassesAt CX X σ (E σ)) (I : Inv X pins σ H s) (bound : ∀ s2 : Shared, X.K.In s2.heap → BindsTo s2 fd ⟨.ref (s.heap.objs.size + 1) :: us, kwv⟩ (ps.zip zs)) (rel : Vals (.ref (s.heap.objs.size + 1) :: vs) zs)
    (told : ∀ a d, H a = none → H d = none → d ≠ a → sp (.ref a :: vs) (upd (upd H d (.own a)) a (.ins C d [])) (fun v H2 => v = .non ∧ Q (.ref a) H2) (E σ)) : wpAny (model X.prog X.w) X.A (call (.ref C) us kwv) (EP X pins σ Q) X.xe s := by
  have new := I.made (C := C)
  have now := told _ _ (I.hok.fresh (Nat.le_succ s.heap.objs.size)) (I.hok.fresh (Nat.le_refl s.heap.objs.size)) (Nat.ne_of_lt (Nat.lt_succ_self _))
  have ran := F.run _ X.stack _ _ _ zs _ _ (E σ) (room.make C us kwv) (new.env0.make C us kwv) (bound _ new.kIn) rel now
  refine wpAny_call (make_map (f := f) I.kIn M.makes M.init (beq_iff_eq.mp M.fn) (codeAny_mono ran fun out s' z => ?_))
  match out, z with
  | .error err, z => exact lets pins _ _ err s' new z
  | .ok (.ret u), z =>
    obtain ⟨_, H3, J, r, rfl, q⟩ := new.after z
    exact ⟨r, .ref (s.heap.objs.size + 1), H3, J, rfl, q⟩
def tMkT (C : Addr) (sp : Sp) (W : WX) (t : TA) : TE := fun σ H Q => t σ H fun vs H1 => ∀ a d, H1 a = none → H1 d = none → d ≠ a → sp (.ref a :: vs) (upd (upd H1 d (.own a)) a (.ins C d [])) (fun v H2 => v = .non ∧ Q (.ref a) H2) (WE W σ)
theorem pe_mkT (c : CalRC X.prog X.w X.K X.mg X.base k x C ps sp) (room : Room (k + 1) X.A) (gl : Gl X x) (tks : Takes X W) (ha : PA X (e :: es) t) (nodebug : (x == ("__debug__" : Str)) = false := by decide)
    (star : starEach (e :: es) X.env = (false, eval e X.env) :: starEach es X.env := by rfl) (plain : (backTo pos (starEach es X.env)).any (·.1) = false := by rfl) : PE X (.Call (.Name x p) (e :: es) [] pos) (tMkT C sp W t) := by
  obtain ⟨f, fd, F, m, M, b⟩ := c
  constructor
  intro pins s σ H Q I read
  refine wpAny_Call_Name_kw (ld_glob I gl m (PySem.W.callWith_K (h₀ := X.base) I.ok.mod.kin M.kp (thn (ha.run pos pins s σ H _ I read) fun us s1 y => ?_) star plain) nodebug)
  obtain ⟨vs, H1, J, rel, told⟩ := y
  refine ⟨J.kIn, made_or_raised (E := WE W) (zs := .ref (s1.heap.objs.size + 1) :: us) M F room (passAt tks σ) J (fun s2 kin => ?_) (.cons rfl rel) told⟩
  have many : (V.ref (s1.heap.objs.size + 1) :: vs).length = ps.length := F.len _ _ _ _ (told _ _ (J.hok.fresh (Nat.le_succ s1.heap.objs.size)) (J.hok.fresh (Nat.le_refl s1.heap.objs.size)) (Nat.ne_of_lt (Nat.lt_succ_self _)))
  have z := b s2 (.ref (s1.heap.objs.size + 1) :: us) kin (by rw [List.append_nil, List.length_cons, ← rel.length]; exact many)
  rw [List.append_nil] at z
  exact z
def tMkKT (C : Addr) (n : Nat) (sp : Sp) (is : List Nat) (W : WX) (tk : TA) : TE := fun σ H Q => tk σ H fun zs H1 => zs.length = n ∧ ∀ a d, H1 a = none → H1 d = none → d ≠ a → sp (.ref a :: prm is zs) (upd (upd H1 d (.own a)) a (.ins C d [])) (fun v H2 => v = .non ∧ Q (.ref a) H2) (WE W σ)
theorem pe_mkKT (c : CalRCK X.prog X.w X.K X.mg X.base k x C ps ks is sp) (room : Room (k + 1) X.A) (gl : Gl X x) (tks : Takes X W) (vals : PK X kws tk)
    (named : (backToKw pos (keywordEach kws X.env)).all (·.1.isSome) = true := by rfl) (names : (backToKw pos (keywordEach kws X.env)).filterMap (·.1) = ks := by rfl) (nodebug : (x == ("__debug__" : Str)) = false := by decide)
    (nostar : ((backTo pos (starEach [] X.env)).any (·.1) || (backToKw pos (keywordEach kws X.env)).any (·.1.isNone)) = false := by rfl) : PE X (.Call (.Name x p) [] kws pos) (tMkKT C ks.length sp is W tk) := by
  obtain ⟨f, fd, F, m, M, b⟩ := c
  constructor
  intro pins s σ H Q I read
  refine wpAny_Call_Name_kw (ld_glob I gl m (PySem.W.callWith_KW0 (h₀ := X.base) I.ok.mod.kin M.kp named (thn (vals.run pos pins s σ H _ I read) fun ws s1 y => ?_) nostar) nodebug)
  obtain ⟨zs, H1, J, rel, many, told⟩ := y
  rw [names]
  exact ⟨J.kIn, made_or_raised (E := WE W) (us := []) (zs := .ref (s1.heap.objs.size + 1) :: prm is ws) M F room (passAt tks σ) J (fun s2 kin => b.to s2 [.ref (s1.heap.objs.size + 1)] ws kin rfl (rel.length.symm.trans many)) (.cons rfl (prm_rel rel is)) told⟩
end
end Tg

/-! a derivation with a told precondition in the place of the one that is read off -/
namespace Tg
open PySem PySem.Spec PyProof.Rows L2
theorem pss_by {X : Cx} {rest : List Stmt} {u R : TS} (h : PSs X rest u) (hr : ∀ D σ H, R D σ H → u D σ H) : PSs X rest R := ⟨fun pins s σ H D I hw => h.run pins s σ H D I (hr D σ H hw)⟩
theorem pe_by {X : Cx} {e : Expr} {u R : TE} (h : PE X e u) (hr : ∀ σ H Q, R σ H Q → u σ H Q) : PE X e R := ⟨fun pins s σ H Q I hw => h.run pins s σ H Q I (hr σ H Q hw)⟩
theorem pt_by {X : Cx} {e : Expr} {u R : TT} (h : PT X e u) (hr : ∀ σ H Q, R σ H Q → u σ H Q) : PT X e R := ⟨fun pins s σ H Q I hw => h.run pins s σ H Q I (hr σ H Q hw)⟩
end Tg

/-! f'{n:b}' and int(text, 2) -/
namespace Tg
open PySem PySem.Spec PyProof.Rows L2
/-- the signs of a number by twos -/
def binC (n : Nat) : List Nat := (Nat.toDigits 2 n).map Char.toNat
def fB : Builtin.Float.FormatSpec := { fill := 32, align := 62, type := some 98 }
theorem parse_b : Builtin.Float.parseFormatSpec (Str.ofString "b").cps.toList "int" 62 = .ok fB := by with_unfolding_all rfl
theorem ret_to {M : Model} {A : Around} {txt T : Str} {Q : PySem.Fin → Shared → Prop} {E : Value → Shared → Prop} {s : Shared} (e : txt = T) (h : wpAny M A (retStr T) Q E s) : wpAny M A (retStr txt) Q E s := by
  rw [e]
  exact h
section
variable {prog : Program} {w : World} {A : Around} {E : Value → Shared → Prop} {s : Shared}
theorem field_b {a : Int} {t : Tok} {Q : Value → Shared → Prop} (a0 : 0 ≤ a) (fits : (binC a.natAbs).length ≤ sizeLine) (h : ∀ (u k : Nat), Q (.str ⟨(binC a.natAbs).toArray⟩ u) { s with toks := k }) : wpAny (model prog w) A (formatField (.int a t) "b") Q E s := by
  show wpAny _ _ (holding [.int a t] (pyFormat (.int a t) "b")) Q E s
  refine wpAny_holding ?_
  unfold pyFormat
  refine wpAny_bind (wpAny_mkStr ?_ (by decide +kernel))
  refine wpAny_bind (m := callSpecial? (.int a t) (Str.ofString "__format__") [.str "b" s.toks]) (wpAny_callSpecial?_slot (name := Str.ofString "__format__") (typeIs_int _ a t) PySem.F.slot_int_format ?_)
  refine wpAny_call (codeAny_call_builtin PySem.F.slot_int_format.plain PySem.F.entry_int_format (PySem.F.slot_int_format.check _ _ _ _ _ _ _ _ (typeIs_int _ a t) (PySem.F.args_int_format_2 _ _) ?_))
  have e1 : ((Str.ofString "b").length == 0) = false := by decide +kernel
  have e2 : (((Str.ofString "b").cps.toList.drop 1).any (· ≥ 128) || ((Str.ofString "b").cps.getD 0 0 ≥ 128 && !([60, 62, 61, 94] : List Nat).contains ((Str.ofString "b").cps.getD 1 0))) = false := by decide +kernel
  simp only [Builtin.«int.__format__», selfAndOne, noKeywords, Builtin.Int.intOfSelf, asInt?, asStr?, List.isEmpty_nil, if_true, pure_bind, bind_pure, bind_assoc, e1, e2, Bool.false_eq_true, if_false, show (Value.str (Str.ofString "b") s.toks == Value.none) = false from rfl]
  refine wpAny_bind (wpAny_typeNameOf (T := "str") (typeIs_str _ _ _) (by decide) fun _ => wpAny_bind (wpAny_typeNameOfCut_int ?_))
  simp only [parse_b]
  have t98 : fB.type.getD (if ((Str.ofString "b").cps.back? == some 0) = true then 0 else 100) = 98 := rfl
  simp only [t98]
  rw [if_pos (by decide)]
  have neg : decide (a < 0) = false := decide_eq_false (by omega)
  refine ret_to (T := ⟨(binC a.natAbs).toArray⟩) ?_ ?_
  · rw [neg]
    obtain ⟨ds, eds⟩ : ∃ ds, (Nat.toDigits 2 a.natAbs).map (fun c => (if ((98 : Nat) == 88) = true then c.toUpper else c).toNat) = ds := ⟨_, rfl⟩
    have eb : binC a.natAbs = ds := eds
    rw [eb]
    show PyProof.Rows.intField' fB false [] _ [] 4 = _
    rw [eds]
    unfold PyProof.Rows.intField' fB
    cases ds with
    | nil => rfl
    | cons d r =>
      have p0 : ((-1 : Int) - 0 - ((d :: r).length : Nat)).toNat = 0 := by omega
      simp [p0]
      omega
  · unfold retStr
    refine wpAny_bind (wpAny_mkStr (wpAny_pure ?_) ?_)
    · exact wpAny_bind (wpAny_isInstance (T := "str") (typeIs_str _ _ _) isSubtype_str_str (wpAny_pure (h _ _)))
    · exact fits
end
section
variable {X : Cx}
/-- {n:b} -/
def tFmtB (te : TE) : TE := fun σ H Q => te σ H fun x H1 => ∃ n : Nat, x = .int (n : Nat) ∧ (binC n).length ≤ sizeLine ∧ Q (.str (SX.S (binC n))) H1
theorem pe_fmtB {e spec : Expr} {te : TE} {pos : Pos} (he : PE X e te) (hs : PE X spec (tC (.str "b"))) : PE X (.FormattedValue e (-1) (some spec) pos) (tFmtB te) := by
  refine ⟨fun pins s σ H Q I h => ?_⟩
  refine wpAny_FormattedValue_spec (thn (he.run pins s σ H _ I h) fun v s1 ⟨x, H1, I1, r1, n, ex, fits, q⟩ => ?_)
  subst ex
  obtain ⟨t, rfl⟩ := r1
  refine thn (hs.run pins s1 σ H1 (fun y H2 => y = .str "b" ∧ H2 = H1) I1 ⟨rfl, rfl⟩) fun r s2 ⟨y, H2, I2, r2, ey, eH⟩ => ?_
  subst ey eH
  obtain ⟨u, rfl⟩ := r2
  refine ⟨_, u, rfl, field_b (by omega) (by rw [Int.natAbs_natCast]; exact fits) fun u k => ⟨.str (SX.S (binC n)), H2, I2.tok k, ⟨u, by rw [Int.natAbs_natCast]⟩, q⟩⟩
end
/-! ### int(text, 2) -/
def IsBin (c : Nat) : Prop := c = 48 ∨ c = 49
theorem IsBin.hex {c : Nat} (h : IsBin c) : Hx.IsHex c := .inl (by unfold IsBin at h; omega)
def binNum (l : List Nat) : Nat := l.foldl (fun a c => a * 2 + (c - 48)) 0
theorem bin_step {ds : Array Nat} {b : Bool} {c : Nat} (h : IsBin c) : PySem.NumText.step 2 (ds, b) c = some (ds.push (c - 48), true) := by
  have e : PySem.NumText.digit? c = some (c - 48) := by
    rw [Hx.digit_hex h.hex]
    unfold Hx.hv
    rw [if_pos (by unfold IsBin at h; omega)]
  have n95 : ¬ (c == 95) = true := by
    rw [beq_iff_eq]
    unfold IsBin at h
    omega
  unfold PySem.NumText.step
  rw [if_neg n95, e]
  exact if_pos (by unfold IsBin at h; omega)
theorem bin_fold : ∀ (cs : List Nat) (ds : Array Nat), (∀ c ∈ cs, IsBin c) → cs.foldlM (PySem.NumText.step 2) (ds, true) = some (cs.foldl (fun acc c => acc.push (c - 48)) ds, true)
  | [], _, _ => rfl
  | c :: cs, ds, h => by
    rw [List.foldlM_cons, bin_step (h c List.mem_cons_self)]
    exact bin_fold cs (ds.push (c - 48)) fun d hd => h d (List.mem_cons_of_mem _ hd)
theorem bin_digits {c : Nat} {cs : List Nat} (h : ∀ d ∈ c :: cs, IsBin d) : PySem.NumText.digits? 2 (c :: cs) = some ((c :: cs).foldl (fun acc c => acc.push (c - 48)) #[]) := by
  have z := bin_fold cs ((#[] : Array Nat).push (c - 48)) fun d hd => h d (List.mem_cons_of_mem _ hd)
  unfold PySem.NumText.digits?
  rw [List.foldlM_cons, bin_step (h c List.mem_cons_self)]
  show (cs.foldlM (PySem.NumText.step 2) ((#[] : Array Nat).push (c - 48), true)).bind _ = _
  rw [z]
  rfl
theorem bin_value : ∀ (cs : List Nat) (ds : Array Nat), (cs.foldl (fun acc c => acc.push (c - 48)) ds).foldl (fun acc d => acc * 2 + d) 0 = cs.foldl (fun a c => a * 2 + (c - 48)) (ds.foldl (fun acc d => acc * 2 + d) 0)
  | [], _ => rfl
  | c :: cs, ds => by
    rw [List.foldl_cons, bin_value cs (ds.push (c - 48)), List.foldl_cons, Array.foldl_push]
theorem bin_pref {cs : List Nat} (h : ∀ c ∈ cs, IsBin c) : PySem.NumText.prefix? cs = none := by
  match cs, h with
  | [], _ => rfl
  | [a], _ =>
    unfold PySem.NumText.prefix?
    split
    · rename_i e
      cases e
    · rfl
  | a :: c :: r, h =>
    have hc := h c (List.mem_cons_of_mem _ List.mem_cons_self)
    unfold IsBin at hc
    by_cases ha : a = 48
    · subst ha
      have n : ∀ k : Nat, 60 ≤ k → ¬ (c == k) = true := fun k hk z => by
        have := beq_iff_eq.mp z
        omega
      show (if (c == 120 || c == 88) = true then some 16 else if (c == 111 || c == 79) = true then some 8 else if (c == 98 || c == 66) = true then some 2 else none) = none
      have o : ∀ k l : Nat, 60 ≤ k → 60 ≤ l → ¬ (c == k || c == l) = true := fun k l hk hl z => (Bool.or_eq_true _ _ ▸ z).elim (n k hk) (n l hl)
      rw [if_neg (o _ _ (by decide) (by decide)), if_neg (o _ _ (by decide) (by decide)), if_neg (o _ _ (by decide) (by decide))]
    · unfold PySem.NumText.prefix?
      split
      · rename_i e
        exact (ha (List.cons.inj e).1).elim
      · rfl
theorem bin_based {cs : List Nat} (h : ∀ c ∈ cs, IsBin c) : PySem.NumText.based 2 cs = (2, false, cs) := by
  unfold PySem.NumText.based
  rw [bin_pref h]
  rfl
open PySem.NumText PySem.Calls in
theorem bin_read {cs : List Nat} (h : ∀ c ∈ cs, IsBin c) (ne : cs ≠ []) : (int_private% "readNumeral") 0 2 cs = (int_private% "Numeral.value") ((binNum cs : Nat) : Int) := by
  have hx : ∀ c ∈ cs, Hx.IsHex c := fun c hc => (h c hc).hex
  have hr : ∀ c ∈ cs.reverse, Hx.IsHex c := fun c hc => hx c (List.mem_reverse.mp hc)
  obtain ⟨c, r, rfl⟩ := List.exists_cons_of_ne_nil ne
  have dg := bin_digits h
  have vl := bin_value (c :: r) #[]
  refine (readNumeral_eq 0 2 (c :: r)).trans ?_
  rw [Hx.dropB hx, Hx.signH hx]
  show judge 0 false (based 2 (c :: r)).1 (based 2 (c :: r)).2.1 (digits? (based 2 (c :: r)).1 (((based 2 (c :: r)).2.2.reverse.dropWhile blank).reverse)) = _
  rw [bin_based h]
  show judge 0 false 2 false (digits? 2 (((c :: r).reverse.dropWhile blank).reverse)) = _
  rw [Hx.dropB hr, List.reverse_reverse, dg]
  show (int_private% "Numeral.value") ((((c :: r).foldl (fun acc c => acc.push (c - 48)) (#[] : Array Nat)).foldl (fun acc d => acc * 2 + d) 0 : Nat) : Int) = _
  rw [vl]
  rfl
set_option maxHeartbeats 4000000 in
open PySem.NumText PySem.Calls in
theorem gives_bin {x : Str} {u t : Tok} (hl : x.length ≤ 640) (h : ∀ c ∈ x.cps.toList, IsBin c) (ne : x.cps.toList ≠ []) : Gives (Builtin.«int.__new__» ⟨[.type "int", .str x u, .int 2 t], []⟩) (.int ((binNum x.cps.toList : Nat) : Int)) :=
  .of_wp fun M A E s Q hQ => by
    obtain ⟨heap, gens, drawn, toks, out⟩ := s
    have f1 := PySem.F.conv_sub_int
    have f2 := PySem.F.madeHere_int
    have strT : typeOf (.str x u) = pure (.type "str") := rfl
    obtain ⟨same1, same2⟩ := Hx.seen_hex fun c hc => (h c hc).hex
    have few : (numSeenOf x).length ≤ 640 := by
      rw [same2, Array.length_toList]
      exact hl
    have told : (int_private% "readNumeral") 0 2 (numSeenOf x) = (int_private% "Numeral.value") ((binNum x.cps.toList : Nat) : Int) := by
      rw [same2]
      exact bin_read h ne
    have whole : ((numSeenOf x).length == (numTextOf x).length) = true := by
      rw [same1, same2]
      exact beq_self_eq_true _
    have hk := Hx.Hid.mk (And.intro few (And.intro told whole))
    clear few told whole same1 same2 hl ne h
    repeat (any_goals (first
      | assumption
      | ((with_reducible show wpAny _ _ ((int_private% "intFromText") _ _ _) _ _ _); refine Hx.wp_textB hk.out.1 hk.out.2.1 hk.out.2.2 ?_)
      | wp_step))
    all_goals (try exact ⟨_, rfl, hQ⟩)
def rIntBin : List V → Hp → VK → Prop := fun xs H Q => ∃ l : List Nat, xs = [.str (SX.S l), .int 2] ∧ l ≠ [] ∧ l.length ≤ 640 ∧ (∀ c ∈ l, IsBin c) ∧ Q (.int ((binNum l : Nat) : Int)) H
theorem call_int_bin {X : Cx} : CallR X (.type "int") rIntBin := by
  rintro pins s σ H _ us Q I r ⟨l, rfl, ne, few, bin, q⟩
  obtain ⟨u, v, rfl, r1, r2⟩ := vals2 r
  obtain ⟨t1, rfl⟩ := r1
  obtain ⟨t2, rfl⟩ := r2
  have g := gives_bin (x := SX.S l) (u := t1) (t := t2) (by rw [SX.S_len]; exact few) bin ne
  exact callType_new PySem.F.called_int PySem.F.newNe_int (Hx.typeCall_int_2 _ _) (Hx.newCall_int_2 _ _) (fun obj => PySem.F.initArgs_range_2 obj _ _) PySem.F.entry_int_new g.meets (show (Made.int ((binNum l : Nat) : Int)).post _ s from ⟨rfl, .int ((binNum l : Nat) : Int), H, I.tok _, ⟨_, rfl⟩, q⟩)
end Tg

namespace Tg
open PySem PySem.Spec PyProof.Rows L2
/-! ### numbers by twos -/
/-- the last w signs of n by twos -/
def bt : Nat → Nat → List Nat
  | 0, _ => []
  | w + 1, n => bt w (n / 2) ++ [48 + n % 2]
theorem bt_len : ∀ w n, (bt w n).length = w
  | 0, _ => rfl
  | w + 1, n => by
    show (bt w (n / 2) ++ [48 + n % 2]).length = w + 1
    rw [List.length_append, bt_len w]
    rfl
theorem bt_bin : ∀ w n c, c ∈ bt w n → IsBin c
  | 0, _, _, h => nomatch h
  | w + 1, n, c, h => by
    rcases List.mem_append.mp (show c ∈ bt w (n / 2) ++ [48 + n % 2] from h) with h | h
    · exact bt_bin w _ c h
    · rw [List.mem_singleton.mp h]
      unfold IsBin
      omega
theorem num_snoc (l : List Nat) (c : Nat) : binNum (l ++ [c]) = binNum l * 2 + (c - 48) := by
  unfold binNum
  rw [List.foldl_append]
  rfl
theorem num_bt : ∀ w n, binNum (bt w n) = n % 2 ^ w
  | 0, n => by
    show 0 = n % 1
    omega
  | w + 1, n => by
    show binNum (bt w (n / 2) ++ [48 + n % 2]) = _
    rw [num_snoc, num_bt w, Nat.pow_succ, Nat.mul_comm (2 ^ w) 2, Nat.mod_mul]
    omega
theorem bt_split (d : Nat) : ∀ w n, bt (d + w) n = bt d (n / 2 ^ w) ++ bt w n
  | 0, n => by
    rw [Nat.pow_zero]
    rw [Nat.div_one]
    exact (List.append_nil _).symm
  | w + 1, n => by
    show bt (d + w) (n / 2) ++ [48 + n % 2] = _ ++ (bt w (n / 2) ++ [48 + n % 2])
    rw [bt_split d w (n / 2), Nat.div_div_eq_div_mul, Nat.mul_comm 2, ← Nat.pow_succ, List.append_assoc]
theorem bt_zero : ∀ d, bt d 0 = List.replicate d 48
  | 0 => rfl
  | d + 1 => by
    show bt d (0 / 2) ++ [48 + 0 % 2] = _
    rw [Nat.zero_div, bt_zero d, List.replicate_succ']
/-- how many signs n has by twos -/
def blen (n : Nat) : Nat := if n = 0 then 0 else n.log2 + 1
theorem blen_pos {n : Nat} (h : 0 < n) : blen n = n.log2 + 1 := if_neg (by omega)
theorem blen_half {n : Nat} (h : 0 < n) : blen n = blen (n / 2) + 1 := by
  rw [blen_pos h, Nat.log2_def]
  by_cases c : 2 ≤ n
  · rw [if_pos c, blen_pos (show 0 < n / 2 by omega)]
  · rw [if_neg c, show n / 2 = 0 by omega]
    rfl
theorem lt_blen (n : Nat) : n < 2 ^ blen n := by
  by_cases h : n = 0
  · subst h
    decide
  · rw [blen_pos (by omega)]
    exact Nat.lt_log2_self
theorem bin_zero : binC 0 = [48] := by
  unfold binC
  rw [Nat.toDigits_zero]
  rfl
theorem bin_digit {n : Nat} : (n % 2).digitChar.toNat = 48 + n % 2 := by
  rcases Nat.mod_two_eq_zero_or_one n with e | e <;> rw [e] <;> rfl
theorem bin_is {n : Nat} : 0 < n → binC n = bt (blen n) n := by
  refine Nat.strongRecOn n fun n ih h => ?_
  · skip
    rw [blen_half h]
    show binC n = bt (blen (n / 2)) (n / 2) ++ [48 + n % 2]
    unfold binC
    by_cases c : 2 ≤ n
    · rw [Nat.toDigits_of_base_le (by decide) c, List.map_append, ← ih (n / 2) (by omega) (by omega)]
      show _ ++ [(n % 2).digitChar.toNat] = _
      rw [bin_digit]
      rfl
    · have : n = 1 := by omega
      subst this
      rfl
theorem bt_pad {w n : Nat} (h : blen n ≤ w) : bt w n = List.replicate (w - blen n) 48 ++ bt (blen n) n := by
  have e := bt_split (w - blen n) (blen n) n
  rw [show w - blen n + blen n = w by omega, Nat.div_eq_of_lt (lt_blen n), bt_zero] at e
  exact e
/-- a number's own code -/
def ownL (n : Nat) : List Nat := List.replicate (n + 1).log2 48 ++ 49 :: bt (n + 1).log2 (n + 1)
theorem own_is (n : Nat) : List.replicate (blen (n + 1) - 1) 48 ++ bt (blen (n + 1)) (n + 1) = ownL n := by
  have b := blen_pos (Nat.succ_pos n)
  have one : (n + 1) / 2 ^ (n + 1).log2 = 1 := by
    have h1 := Nat.log2_self_le (n := n + 1) (by omega)
    have h2 := Nat.lt_log2_self (n := n + 1)
    refine Nat.div_eq_of_lt_le (by rw [Nat.one_mul]; exact h1) ?_
    rw [Nat.pow_succ] at h2
    omega
  have e := bt_split 1 (n + 1).log2 (n + 1)
  rw [one] at e
  unfold ownL
  rw [b, Nat.add_sub_cancel, Nat.add_comm _ 1, e]
  rfl
theorem own_len (n : Nat) : (ownL n).length = 2 * (n + 1).log2 + 1 := by
  unfold ownL
  rw [List.length_append, List.length_replicate, List.length_cons, bt_len]
  omega
theorem own_lo {n v : Nat} (h : v < (n + 1).log2) : (ownL n)[v]? = some 48 := by
  unfold ownL
  rw [List.getElem?_append_left (by rw [List.length_replicate]; exact h), List.getElem?_replicate, if_pos h]
theorem own_one (n : Nat) : (ownL n)[(n + 1).log2]? = some 49 := by
  unfold ownL
  rw [List.getElem?_append_right (by rw [List.length_replicate]; exact Nat.le_refl _), List.length_replicate, Nat.sub_self]
  rfl
theorem own_tail (n : Nat) : (ownL n).drop (n + 1).log2 = bt (blen (n + 1)) (n + 1) := by
  rw [← own_is, List.drop_append_of_le_length (by rw [List.length_replicate, blen_pos (show 0 < n + 1 by omega)]; omega), List.drop_of_length_le (by rw [List.length_replicate, blen_pos (show 0 < n + 1 by omega)]; omega)]
  rfl
theorem own_num (n : Nat) : binNum (bt (blen (n + 1)) (n + 1)) = n + 1 := by
  rw [num_bt, Nat.mod_eq_of_lt (lt_blen _)]
/-! ### find -/
theorem from_nat (m a : Nat) : fromIndex m (a : Int) = a := by
  unfold fromIndex
  rw [if_neg (by omega)]
  omega
theorem getD_S (l : List Nat) (v : Nat) : (SX.S l).cps.getD v 0 = l.getD v 0 := by
  show l.toArray.getD v 0 = l.getD v 0
  rw [Array.getD_eq_getD_getElem?, List.getElem?_toArray, List.getD_eq_getElem?_getD]
theorem find_at {l : List Nat} {a j : Nat} (hj : l[j]? = some 49) (aj : a ≤ j) (no : ∀ v, a ≤ v → v < j → l[v]? ≠ some 49) : Txt.find3 (SX.S l) ⟨#[49]⟩ (a : Int) = (j : Nat) := by
  have lj := (List.getElem?_eq_some_iff.mp hj).1
  have gj : l.getD j 0 = 49 := by rw [List.getD_eq_getElem?_getD, hj]; rfl
  rcases StrLaws.find3_spec (SX.S l) 49 (a : Int) with ⟨_, h⟩ | ⟨k, e, h1, h2, h3, h4⟩
  · rw [from_nat, SX.S_len] at h
    exact absurd (by rw [getD_S]; exact gj) (h j aj lj)
  · rw [from_nat] at h1 h4
    rw [SX.S_len] at h2
    rw [getD_S] at h3
    rw [e]
    rcases Nat.lt_trichotomy k j with lt | rfl | gt
    · refine absurd ?_ (no k h1 lt)
      rw [List.getElem?_eq_getElem h2]
      rw [List.getD_eq_getElem?_getD, List.getElem?_eq_getElem h2] at h3
      exact congrArg some h3
    · rfl
    · exact absurd (by rw [getD_S]; exact gj) (h4 j aj gt)
theorem find_no {l : List Nat} {a : Nat} (no : ∀ v, a ≤ v → l[v]? ≠ some 49) : Txt.find3 (SX.S l) ⟨#[49]⟩ (a : Int) = -1 := by
  rcases StrLaws.find3_spec (SX.S l) 49 (a : Int) with ⟨e, _⟩ | ⟨k, e, h1, h2, h3, _⟩
  · exact e
  · rw [from_nat] at h1
    rw [SX.S_len] at h2
    rw [getD_S, List.getD_eq_getElem?_getD, List.getElem?_eq_getElem h2] at h3
    exact absurd (by rw [List.getElem?_eq_getElem h2]; exact congrArg some h3) (no k h1)
/-! ### zfill -/
theorem zfill_is {l : List Nat} {w : Nat} (bin : ∀ c ∈ l, IsBin c) : Txt.zfill (SX.S l) (w : Int) = SX.S (List.replicate (w - l.length) 48 ++ l) := by
  unfold Txt.zfill
  by_cases c : (w : Int) ≤ (SX.S l).length
  · rw [if_pos c]
    rw [SX.S_len] at c
    rw [show w - l.length = 0 by omega]
    rfl
  · rw [if_neg c, SX.S_len]
    have e : zfilled (SX.S l) ((w : Int).toNat - l.length) = Builtin.Str.padded (SX.S l) ((w : Int).toNat - l.length) 0 48 := by
      unfold zfilled
      cases l with
      | nil => rfl
      | cons d r =>
        have := bin d List.mem_cons_self
        unfold IsBin at this
        rcases this with rfl | rfl <;> rfl
    rw [e]
    unfold Builtin.Str.padded
    rw [show (w : Int).toNat = w from rfl]
    show (⟨Array.replicate (w - l.length) 48 ++ l.toArray ++ Array.replicate 0 48⟩ : Str) = ⟨(List.replicate (w - l.length) 48 ++ l).toArray⟩
    congr 1
    apply Array.ext'
    simp
/-! ### a sign many times -/
def rTimes (c : Nat) : R2 := fun x y H Q => ∃ n : Nat, x = .str (SX.S [c]) ∧ y = .int (n : Nat) ∧ n ≤ 1000 ∧ Q (.str (SX.S (List.replicate n c))) H
theorem op_times {X : Cx} {c : Nat} : OpR X (binaryOp .Mult) (rTimes c) := by
  rintro pins s σ H _ _ v u Q I rx ry ⟨n, rfl, rfl, few, q⟩
  obtain ⟨t, rfl⟩ := rx
  obtain ⟨t2, rfl⟩ := ry
  have l1 : (SX.S [c]).length = 1 := rfl
  have rep : ∀ (m : Nat) (acc : Array Nat), (List.replicate m (SX.S [c]).cps).foldl (· ++ ·) acc = acc ++ (List.replicate m c).toArray := fun m => by
    induction m with
    | zero =>
      intro acc
      show acc = acc ++ #[]
      simp
    | succ m ih =>
      intro acc
      rw [List.replicate_succ, List.foldl_cons, ih]
      apply Array.ext'
      simp [List.replicate_succ]
  refine PySem.P.mul_str ?_ (fun _ _ => ?_) (fun _ _ => ?_) ?_
  · rw [decide_eq_false (by omega), decide_eq_false (by omega)]
    rfl
  · rw [l1]
    intro z
    have : (1 : Int) ≤ (2 ^ 63 - 1) / (n : Int) := by
      by_cases n0 : n = 0
      · subst n0
        omega
      · exact (Int.le_ediv_iff_mul_le (by omega)).mpr (by omega)
    omega
  · rw [l1]
    unfold Builtin.Str.tooLong
    exact decide_eq_false (by rw [sizeLine_eq]; omega)
  · by_cases c0 : (n : Int) < 1
    · obtain rfl : n = 0 := by omega
      rw [if_pos c0]
      exact ⟨by decide, .str (SX.S []), H, I.tok _, ⟨_, rfl⟩, q⟩
    · rw [if_neg c0]
      by_cases c1 : ((n : Int) == 1 || (SX.S [c]).length == 0) = true
      · rw [if_pos c1]
        have n1 : n = 1 := by
          rw [l1] at c1
          have : ((n : Int) == 1) = true := by
            cases e : (n : Int) == 1 with
            | true => rfl
            | false =>
              rw [e] at c1
              cases c1
          have := beq_iff_eq.mp this
          omega
        subst n1
        exact ⟨.str (SX.S [c]), H, I, ⟨t, rfl⟩, q⟩
      · rw [if_neg c1]
        have e : (List.replicate (n : Int).toNat (SX.S [c]).cps).foldl (· ++ ·) #[] = (List.replicate n c).toArray := by
          rw [show (n : Int).toNat = n from rfl, rep]
          simp
        rw [e]
        refine ⟨?_, .str (SX.S (List.replicate n c)), H, I.tok _, ⟨_, rfl⟩, q⟩
        rw [SX.S_len, List.length_replicate, sizeLine_eq]
        omega
end Tg

namespace Tg
open PySem PySem.Spec PyProof.Rows L2
/-! ### the text -/
def topS (i : Nat) : Stmt := PySem.Challenge.pw_timegranary_k20_codes_of_numbers.main.body.getD i (.Pass ⟨0, 0, 0, 0⟩)
abbrev sDraws : Stmt := topS 14
abbrev sNext : Stmt := topS 15
theorem scDraws : FnScope ["_law_cell", "_law_cut", "_law_k"] ["_law_cell"] (defScope sDraws) := ⟨rfl, rfl, rfl, by decide +kernel, rfl, by decide +kernel, by decide +kernel⟩
theorem scNext : FnScope ["_law_draws_here", "_law_k", "_law_a_number"] ["_law_draws_here"] (defScope sNext) := ⟨rfl, rfl, rfl, by decide +kernel, rfl, by decide +kernel, by decide +kernel⟩
section
variable {P : Program} {w : World} {K : PySem.W.Frag} {mg : Str → Option Value} {base : Heap}
/-! ### _law_draws -/
/-- the draws at p, of which at most n were taken -/
def Dr (H : Hp) (p : Addr) (n : Nat) : Prop := ∃ (a k : Int) (b : Bool), H p = some (.lst [.int a, .int k, .bl b]) ∧ 0 ≤ k ∧ k ≤ n
theorem Dr.same {H H' : Hp} {p : Addr} {n : Nat} (s : Same H H') (d : Dr H p n) : Dr H' p n := by
  obtain ⟨a, k, b, h, r⟩ := d
  exact ⟨a, k, b, s _ _ h, r⟩
theorem Dr.ne {H : Hp} {p l : Addr} {n : Nat} (d : Dr H p n) (h : H l = none) : l ≠ p := fun z => by
  obtain ⟨_, _, _, z2, _⟩ := d
  rw [z, z2] at h
  cases h
def spDraws : Sp := fun vs H Q _ => ∃ c : Int, vs = [.int c] ∧ ∀ (p : Addr) (a : Int) (b : Bool), H p = none → Q (.ref p) (upd H p (.lst [.int a, .int 0, .bl b]))
theorem ok_draws {f : Addr} {fd : FuncData} {k : Nat} (F : Fun K "_law_draws" "_law_draws" sDraws f fd) (mr : mg "range" = none) : FnOk P w K mg base CX0 (k + 1) f fd ["_law_cell"] spDraws := by
  refine F.ok scDraws (fun vs H Q E h => ?_) (fun cdv A outer s H vs Q E hr h => ?_)
  · obtain ⟨c, rfl, _⟩ := h
    rfl
  · obtain ⟨c, rfl, q⟩ := h
    refine ⟨_, pss_cons (ps_set (i := 1) scDraws.nd rfl (.inl rfl) (pe_op op_pow pe_int pe_int))
      (pss_cons (ps_for PassesOwn.never rfl (pi_range1 (by rfl) mr (pa_cons pe_int pa_nil)) (pg_name (i := 2) scDraws.nd rfl (.inl rfl))
        (pss_one (ps_set (i := 1) scDraws.nd rfl (.inl rfl) (pe_op op_mulW (pv 1) (pv 1)))))
      (pss_one (ps_ret (pe_lst (pa_cons (pe_op op_mod (pv 0) (pv 1)) (pa_cons pe_int (pa_cons (pe_cmpR op_ge (pv 0) (pe_op op_pow pe_int pe_int) (nomark _)) pa_nil))))))), ?_⟩
    refine ⟨10, 60, rfl, rfl, ⟨by decide, by decide, by decide⟩, ?_⟩
    refine ⟨7, rfl, by decide, by decide, for_range (n := 7) (fun i σ H2 => ∃ (x : Int) (y : Option V), σ = [some (.int c), some (.int x), y] ∧ H2 = H ∧ 0 < x ∧ x.natAbs < 2 ^ (200 * 2 ^ i)) ?_ ?_ ?_⟩
    · exact ⟨_, none, rfl, rfl, by decide, by decide⟩
    · rintro i σ H2 hi ⟨x, y, rfl, rfl, hx, hb⟩
      refine ⟨_, rfl, _, rfl, x, x, rfl, rfl, ?_, x * x, _, rfl, rfl, Int.mul_pos hx hx, ?_⟩
      · have h7 : 2 ^ i ≤ 2 ^ 6 := Nat.pow_le_pow_right (by decide) (by omega)
        have h0 : 0 < 2 ^ i := Nat.pow_pos (by decide)
        exact wide_mul hb hb (by omega) (by omega) (by omega)
      · have e := wide_lt hb hb
        rw [show 200 * 2 ^ (i + 1) = 200 * 2 ^ i + 200 * 2 ^ i by rw [Nat.pow_succ]; omega]
        exact e
    · rintro σ H2 ⟨x, y, rfl, rfl, hx, _⟩
      refine ⟨_, rfl, _, rfl, c, x, rfl, rfl, hx, _, rfl, 10, 18, rfl, rfl, ⟨by decide, by decide, by decide⟩, c, _, rfl, rfl, ?_, fun p hp => ?_⟩
      · show 3 ≤ sizeLine
        decide
      · exact q p _ _ hp
/-! ### _law_next -/
def spNext : Sp := fun vs H Q _ => ∃ (p : Addr) (n : Nat), vs = [.ref p] ∧ Dr H p n ∧ n < 1000000 ∧
  ∀ (v : Int) (H' : Hp), Kp p H H' → Dr H' p (n + 1) → 0 ≤ v → v < 1000000000 → Q (.int v) H'
theorem ok_next {f : Addr} {fd : FuncData} {k : Nat} (F : Fun K "_law_next" "_law_next" sNext f fd) : FnOk P w K mg base CX0 (k + 1) f fd ["_law_draws_here"] spNext := by
  refine F.ok scNext (fun vs H Q E h => ?_) (fun cdv A outer s H vs Q E hr h => ?_)
  · obtain ⟨p, n, rfl, _⟩ := h
    rfl
  · obtain ⟨p, n, rfl, ⟨a, k, b, hp, k0, kn⟩, hn, q⟩ := h
    refine ⟨_, pss_cons (ps_asg (pe_op op_add (pe_ix ix_list (pv 0) pe_int (fun _ _ => rfl)) pe_int) (pg_sub (pv 0) pe_int set_list))
      (pss_cons (ps_set (i := 1) scNext.nd rfl (.inl rfl) (pe_ix ix_list (pv 0) pe_int (fun _ _ => rfl)))
      (pss_cons (ps_if (pt_val (pe_ix ix_list (pv 0) pe_int (fun _ _ => rfl)))
        (pss_cons (ps_set (i := 2) scNext.nd rfl (.inl rfl) (pe_op op_mod (pe_ix ix_list (pv 0) pe_int (fun _ _ => rfl)) (pe_op op_pow pe_int pe_int)))
        (pss_cons (ps_asg (pe_op op_fdiv (pe_ix ix_list (pv 0) pe_int (fun _ _ => rfl)) (pe_op op_pow pe_int pe_int)) (pg_sub (pv 0) pe_int set_list))
        (pss_one (ps_ret (pv 2))))) pss_nil)
      (pss_cons (ps_set (i := 2) scNext.nd rfl (.inl rfl) (pe_op op_mod (pe_op op_mul (pe_op op_add (pe_op op_add (pe_op op_mod (pe_ix ix_list (pv 0) pe_int (fun _ _ => rfl)) pe_int) (pe_op op_mul (pe_op op_mul (pv 1) (pv 1)) pe_int)) (pv 1)) pe_int) pe_int))
      (pss_cons (ps_set (i := 2) scNext.nd rfl (.inl rfl) (pe_op op_mod (pe_op op_mul (pv 2) (pv 2)) pe_int))
      (pss_one (ps_ret (pe_op op_fdiv (pe_op op_mod (pe_op op_mul (pv 2) (pe_op op_add (pv 2) pe_int)) pe_int) pe_int))))))), ?_⟩
    have h1 : (upd H p (.lst [.int a, .int (k + 1), .bl b])) p = some (.lst [.int a, .int (k + 1), .bl b]) := upd_same
    refine ⟨_, rfl, p, _, 1, .int k, rfl, rfl, SqL.of hp, rfl, k, 1, rfl, rfl, _, rfl, p, _, 1, 1, rfl, rfl, hp, rfl, ?_⟩
    refine ⟨_, rfl, p, _, 1, .int (k + 1), rfl, rfl, SqL.of h1, rfl, ?_⟩
    refine ⟨_, rfl, p, _, 2, .bl b, rfl, rfl, SqL.of h1, rfl, b, rfl, ?_⟩
    cases b with
    | true =>
      refine ⟨_, rfl, p, _, 0, .int a, rfl, rfl, SqL.of h1, rfl, 10, 6, rfl, rfl, ⟨by decide, by decide, by decide⟩, a, 1000000, rfl, rfl, (by show (0 : Int) < 1000000; decide), ?_⟩
      refine ⟨_, rfl, p, _, 0, .int a, rfl, rfl, SqL.of h1, rfl, 10, 6, rfl, rfl, ⟨by decide, by decide, by decide⟩, a, 1000000, rfl, rfl, ⟨by decide, by decide⟩, _, rfl, p, _, 0, 0, rfl, rfl, h1, rfl, ?_⟩
      refine ⟨_, rfl, ?_⟩
      rw [upd_upd]
      exact q _ _ Kp.put ⟨_, _, _, upd_same, by omega, by omega⟩ (Int.emod_nonneg _ (by decide)) (Int.lt_of_lt_of_le (Int.emod_lt_of_pos _ (by decide)) (by decide))
    | false =>
      refine ⟨_, rfl, p, _, 0, .int a, rfl, rfl, SqL.of h1, rfl, a, 1000003, rfl, rfl, (by show (0 : Int) < 1000003; decide), _, rfl, _, rfl, k + 1, k + 1, rfl, rfl, .inl ⟨by omega, by omega⟩, _, 7919, rfl, rfl, .inr ⟨by decide, by decide⟩,
        _, _, rfl, rfl, _, rfl, _, k + 1, rfl, rfl, _, 48271, rfl, rfl, .inr ⟨by decide, by decide⟩, _, 2147483629, rfl, rfl, (by show (0 : Int) < 2147483629; decide), ?_⟩
      obtain ⟨x, ex⟩ : ∃ x : Int, (a % 1000003 + (k + 1) * (k + 1) * 7919 + (k + 1)) * 48271 % 2147483629 = x := ⟨_, rfl⟩
      have x0 : 0 ≤ x := by
        rw [← ex]
        exact Int.emod_nonneg _ (by decide)
      have x1 : x < 2147483629 := by
        rw [← ex]
        exact Int.emod_lt_of_pos _ (by decide)
      refine ⟨_, rfl, _, rfl, x, x, congrArg V.int ex, congrArg V.int ex, .inl ⟨by omega, by omega⟩, _, 2147483587, rfl, rfl, (by show (0 : Int) < 2147483587; decide), ?_⟩
      obtain ⟨y, ey⟩ : ∃ y : Int, x * x % 2147483587 = y := ⟨_, rfl⟩
      have y0 : 0 ≤ y := by
        rw [← ey]
        exact Int.emod_nonneg _ (by decide)
      have y1 : y < 2147483587 := by
        rw [← ey]
        exact Int.emod_lt_of_pos _ (by decide)
      refine ⟨_, rfl, _, rfl, y, 2, congrArg V.int ey, rfl, y, _, congrArg V.int ey, rfl, .inl ⟨by omega, by omega⟩, _, 2147483579, rfl, rfl, (by show (0 : Int) < 2147483579; decide), _, 7, rfl, rfl, ⟨by decide, by decide⟩, ?_⟩
      have z0 : 0 ≤ y * (y + 2) % 2147483579 := Int.emod_nonneg _ (by decide)
      have z1 : y * (y + 2) % 2147483579 < 2147483579 := Int.emod_lt_of_pos _ (by decide)
      exact q _ _ Kp.put ⟨_, _, _, upd_same, by omega, by omega⟩ (by omega) (by omega)
end
theorem if_n {b : Bool} {A B : Prop} (e : b = false) (h : B) : if b = true then A else B := by
  rw [e]
  exact if_f h
theorem if_y {b : Bool} {A B : Prop} (e : b = true) (h : A) : if b = true then A else B := by
  rw [e]
  exact if_t h
end Tg

namespace Tg
open PySem PySem.Spec PyProof.Rows L2
abbrev sPl : Stmt := topS 7
abbrev sTu : Stmt := topS 8
abbrev sBa : Stmt := topS 9
abbrev sOw : Stmt := topS 10
abbrev sOz : Stmt := topS 11
abbrev sNu : Stmt := topS 16
abbrev sLe : Stmt := topS 17
abbrev sLP : Stmt := topS 18
abbrev sLO : Stmt := topS 19
abbrev sLT : Stmt := topS 20
theorem scPl : FnScope ["number", "width"] ["number", "width"] (defScope sPl) := ⟨rfl, rfl, rfl, by decide +kernel, rfl, by decide +kernel, by decide +kernel⟩
theorem scTu : FnScope ["number"] ["number"] (defScope sTu) := ⟨rfl, rfl, rfl, by decide +kernel, rfl, by decide +kernel, by decide +kernel⟩
theorem scBa : FnScope ["number"] ["number"] (defScope sBa) := ⟨rfl, rfl, rfl, by decide +kernel, rfl, by decide +kernel, by decide +kernel⟩
theorem scOw : FnScope ["number", "figures"] ["number"] (defScope sOw) := ⟨rfl, rfl, rfl, by decide +kernel, rfl, by decide +kernel, by decide +kernel⟩
theorem scOz : FnScope ["number"] ["number"] (defScope sOz) := ⟨rfl, rfl, rfl, by decide +kernel, rfl, by decide +kernel, by decide +kernel⟩
theorem scNu : FnScope ["_law_draws_here", "_law_pick", "_law_far", "_law_some"] ["_law_draws_here"] (defScope sNu) := ⟨rfl, rfl, rfl, by decide +kernel, rfl, by decide +kernel, by decide +kernel⟩
theorem scLe : FnScope ["_law_a_number", "_law_told"] ["_law_a_number"] (defScope sLe) := ⟨rfl, rfl, rfl, by decide +kernel, rfl, by decide +kernel, by decide +kernel⟩
theorem scLP : FnScope ["_law_a_number", "_law_a_width", "_law_told", "_law_k"] ["_law_a_number", "_law_a_width"] (defScope sLP) := ⟨rfl, rfl, rfl, by decide +kernel, rfl, by decide +kernel, by decide +kernel⟩
theorem scLO : FnScope ["_law_a_number", "_law_a_width"] ["_law_a_number"] (defScope sLO) := ⟨rfl, rfl, rfl, by decide +kernel, rfl, by decide +kernel, by decide +kernel⟩
theorem scLT : FnScope ["_law_a_number"] ["_law_a_number"] (defScope sLT) := ⟨rfl, rfl, rfl, by decide +kernel, rfl, by decide +kernel, by decide +kernel⟩
def tn (n : Int) : Int := if 0 ≤ n then 2 * n else -2 * n - 1
def bk (m : Int) : Int := if m % 2 = 0 then m / 2 else -(m / 2) - 1
theorem vi_z (n : Int) : decide (V.int n = V.int 0) = decide (n = 0) := by
  rw [dec_int]
  rfl
theorem s_nil : (Str.ofString "") = SX.S [] := by decide +kernel
theorem s_0 : (Str.ofString "0") = SX.S [48] := by decide +kernel
theorem s_1 : (Str.ofString "1") = SX.S [49] := by decide +kernel
theorem z500 {n : Nat} (h : n ≤ 1200) : n ≤ sizeLine := Nat.le_trans h (by decide)
theorem blen_small {n : Nat} (h : n < 2 ^ 64) : blen n ≤ 64 := by
  unfold blen
  split
  · exact Nat.zero_le _
  · rename_i c
    exact (Nat.log2_lt c).mpr h
section
variable {P : Program} {w : World} {K : PySem.W.Frag} {mg : Str → Option Value} {base : Heap} {f : Addr} {fd : FuncData} {k : Nat}
def spPl : Sp := fun vs H Q _ => ∃ n w : Nat, vs = [.int (n : Nat), .int (w : Nat)] ∧ blen n ≤ w ∧ w ≤ 500 ∧ Q (.str (SX.S (bt w n))) H
theorem ok_pl (F : Fun K "plain" "plain" sPl f fd) : FnOk P w K mg base CX0 (k + 1) f fd ["number", "width"] spPl := by
  refine F.ok scPl (fun vs H Q E h => ?_) (fun cdv A outer s H vs Q E hr h => ?_)
  · obtain ⟨n, w, rfl, _⟩ := h
    rfl
  · obtain ⟨n, w, rfl, le, few, q⟩ := h
    refine ⟨_, pss_one (ps_ret (pe_ifExp (pt_cmpR op_gt (pv 1) pe_int (nomark _)) (pe_bm PySem.F.plainAttrs_str PySem.F.slot_str_zfill PySem.F.type_str_zfill mt_zfill (pe_joined1 (pe_fmtB (pv 0) (pe_joined1 pe_str))) (pa_cons (pv 1) pa_nil)) pe_str)), ?_⟩
    refine ⟨_, rfl, _, _, rfl, rfl, _, rfl, ite2 (fun g => ?_) (fun g => ?_)⟩
    · have w0 : 0 < w := by
        have := of_decide_eq_true g
        omega
      have bl : (binC n).length ≤ 500 ∧ Txt.zfill (SX.S (binC n)) (w : Int) = SX.S (bt w n) := by
        by_cases n0 : n = 0
        · subst n0
          rw [bin_zero]
          refine ⟨by decide, ?_⟩
          rw [zfill_is (fun c hc => by rw [List.mem_singleton.mp hc]; exact .inl rfl), bt_zero]
          show SX.S (List.replicate (w - 1) 48 ++ [48]) = _
          rw [← List.replicate_succ', show w - 1 + 1 = w by omega]
        · have e := bin_is (n := n) (by omega)
          rw [e]
          refine ⟨by rw [bt_len]; omega, ?_⟩
          rw [zfill_is (bt_bin _ _), bt_len, ← bt_pad le]
      refine ⟨_, rfl, n, rfl, z500 (by omega), rfl, _, rfl, _, _, rfl, rfl, ?_, ?_⟩
      · unfold PadOk fitsSsize Builtin.Str.tooLong
        rw [decide_eq_false (by omega), decide_eq_false (by omega), decide_eq_false (by rw [sizeLine_eq]; omega)]
        rfl
      · rw [bl.2]
        exact q
    · have w0 : w = 0 := by
        have : ¬ ((w : Nat) : Int) > 0 := fun z => g (decide_eq_true z)
        omega
      subst w0
      show Q (.str "") H
      rw [s_nil]
      exact q
def spTu : Sp := fun vs H Q _ => ∃ n : Int, vs = [.int n] ∧ n.natAbs < 2 ^ 62 ∧ Q (.int (tn n)) H
theorem ok_tu (F : Fun K "turned" "turned" sTu f fd) : FnOk P w K mg base CX0 (k + 1) f fd ["number"] spTu := by
  refine F.ok scTu (fun vs H Q E h => ?_) (fun cdv A outer s H vs Q E hr h => ?_)
  · obtain ⟨n, rfl, _⟩ := h
    rfl
  · obtain ⟨n, rfl, few, q⟩ := h
    refine ⟨_, pss_one (ps_ret (pe_ifExp (pt_cmpR op_ge (pv 0) pe_int (nomark _)) (pe_op op_mul pe_int (pv 0)) (pe_op op_sub (pe_op op_mul (pe_un un_neg pe_int) (pv 0)) pe_int))), ?_⟩
    unfold tn at q
    refine ⟨_, rfl, _, _, rfl, rfl, _, rfl, ite2 (fun g => ?_) (fun g => ?_)⟩
    · rw [if_pos (of_decide_eq_true g)] at q
      exact ⟨_, rfl, _, _, rfl, rfl, .inl ⟨by decide, by decide⟩, q⟩
    · rw [if_neg (fun z => g (decide_eq_true z))] at q
      exact ⟨_, rfl, _, rfl, _, _, rfl, rfl, .inl ⟨by decide, by decide⟩, _, _, rfl, rfl, q⟩
def spBa : Sp := fun vs H Q _ => ∃ n : Int, vs = [.int n] ∧ n.natAbs < 2 ^ 63 ∧ Q (.int (bk n)) H
theorem ok_ba (F : Fun K "back" "back" sBa f fd) : FnOk P w K mg base CX0 (k + 1) f fd ["number"] spBa := by
  refine F.ok scBa (fun vs H Q E h => ?_) (fun cdv A outer s H vs Q E hr h => ?_)
  · obtain ⟨n, rfl, _⟩ := h
    rfl
  · obtain ⟨n, rfl, few, q⟩ := h
    refine ⟨_, pss_one (ps_ret (pe_ifExp (pt_cmpR op_eq (pe_op op_mod (pv 0) pe_int) pe_int (nomark _)) (pe_op op_fdiv (pv 0) pe_int) (pe_op op_sub (pe_un un_neg (pe_op op_fdiv (pv 0) pe_int)) pe_int))), ?_⟩
    unfold bk at q
    refine ⟨_, rfl, _, _, rfl, rfl, (by show (0 : Int) < 2; decide), rfl, _, rfl, ite2 (fun g => ?_) (fun g => ?_)⟩
    · rw [vi_z] at g
      rw [if_pos (of_decide_eq_true g)] at q
      exact ⟨_, rfl, _, _, rfl, rfl, ⟨by decide, by decide⟩, q⟩
    · rw [vi_z] at g
      rw [if_neg (fun z => g (decide_eq_true z))] at q
      exact ⟨_, rfl, _, _, rfl, rfl, ⟨by decide, by decide⟩, _, rfl, _, _, rfl, rfl, q⟩
def spOw : Sp := fun vs H Q _ => ∃ n : Nat, vs = [.int (n : Nat)] ∧ n < 2 ^ 63 ∧ Q (.str (SX.S (ownL n))) H
theorem own_64 {n : Nat} (h : n < 2 ^ 63) : blen (n + 1) ≤ 64 := blen_small (by omega)
theorem ok_ow (F : Fun K "own" "own" sOw f fd) (m_len : mg "len" = none) : FnOk P w K mg base CX0 (k + 1) f fd ["number"] spOw := by
  refine F.ok scOw (fun vs H Q E h => ?_) (fun cdv A outer s H vs Q E hr h => ?_)
  · obtain ⟨n, rfl, _⟩ := h
    rfl
  · obtain ⟨n, rfl, few, q⟩ := h
    refine ⟨_, pss_cons (ps_set (i := 1) scOw.nd rfl (.inl rfl) (pe_joined1 (pe_fmtB (pe_op op_add (pv 0) pe_int) (pe_joined1 pe_str))))
      (pss_one (ps_ret (pe_op op_add_str (pe_op (op_times (c := 48)) pe_str (pe_op op_sub (pe_callB call_len_str (by rfl) m_len (by decide +kernel) (pa_cons (pv 1) pa_nil)) pe_int)) (pv 1)))), ?_⟩
    have b64 := own_64 few
    have e := bin_is (n := n + 1) (by omega)
    have lb : (binC (n + 1)).length = blen (n + 1) := by rw [e, bt_len]
    have bp := blen_pos (show 0 < n + 1 by omega)
    refine ⟨_, rfl, _, _, rfl, rfl, n + 1, rfl, z500 (by omega), ?_⟩
    refine ⟨_, rfl, _, rfl, (by rw [SX.S_len]; exact z500 (by omega)), _, _, rfl, rfl, blen (n + 1) - 1, (by rw [← s_0]), ?_, by omega, _, rfl, _, _, rfl, rfl, ?_, ?_⟩
    · rw [SX.S_len, lb]
      exact congrArg V.int (by omega)
    · rw [SX.S_len, SX.S_len, List.length_replicate, lb]
      exact z500 (by omega)
    · rw [SX.S_cat, e, own_is]
      exact q
def spOz : Sp := fun vs H Q _ => ∃ n : Nat, vs = [.int (n : Nat)] ∧ n < 2 ^ 63 ∧ Q (.int ((ownL n).length : Nat)) H
theorem ok_oz (F : Fun K "own_size" "own_size" sOz f fd) : FnOk P w K mg base CX0 (k + 1) f fd ["number"] spOz := by
  refine F.ok scOz (fun vs H Q E h => ?_) (fun cdv A outer s H vs Q E hr h => ?_)
  · obtain ⟨n, rfl, _⟩ := h
    rfl
  · obtain ⟨n, rfl, few, q⟩ := h
    refine ⟨_, pss_one (ps_ret (pe_op op_sub (pe_op op_mul pe_int (pe_bits (pe_op op_add (pv 0) pe_int))) pe_int)), ?_⟩
    refine ⟨_, rfl, _, _, rfl, rfl, _, rfl, _, _, rfl, rfl, .inl ⟨by decide, by decide⟩, _, _, rfl, rfl, ?_⟩
    have e : Builtin.Int.intBits ((n : Int) + 1) = (n + 1).log2 + 1 := by
      unfold Builtin.Int.intBits
      rw [if_neg (by rw [beq_iff_eq]; omega), show ((n : Int) + 1).natAbs = n + 1 by omega]
    rw [e]
    rw [own_len] at q
    have : (2 * (((n + 1).log2 + 1 : Nat) : Int) - 1) = ((2 * (n + 1).log2 + 1 : Nat) : Int) := by omega
    have q2 : Q (V.int (2 * (((n + 1).log2 + 1 : Nat) : Int) - 1)) H := by
      rw [this]
      exact q
    exact q2
def spNu : Sp := fun vs H Q _ => ∃ (p : Addr) (n : Nat), vs = [.ref p] ∧ Dr H p n ∧ n < 900000 ∧ ∀ (v : Int) (H' : Hp), Kp p H H' → Dr H' p (n + 2) → v.natAbs < 2 ^ 61 → Q (.int v) H'
theorem ok_nu (F : Fun K "_law_number" "_law_number" sNu f fd) (L_next : Cal P w K mg base k "_law_next" ["_law_draws_here"] spNext) : FnOk P w K mg base CX0 (k + 1) f fd ["_law_draws_here"] spNu := by
  refine F.ok scNu (fun vs H Q E h => ?_) (fun cdv A outer s H vs Q E hr h => ?_)
  · obtain ⟨p, n, rfl, _⟩ := h
    rfl
  · obtain ⟨p, n, rfl, dr, n9, q⟩ := h
    refine ⟨_, pss_cons (ps_set (i := 1) scNu.nd rfl (.inl rfl) (pe_cal L_next (hr.mono (by omega)) (by rfl) (pa_cons (pv 0) pa_nil)))
      (pss_cons (ps_set (i := 2) scNu.nd rfl (.inl rfl) (pe_op op_add (pe_op op_mul (pe_op op_mod (pe_op op_mul (pe_op op_fdiv (pv 1) pe_int) (pe_op op_pow pe_int pe_int)) (pe_op op_pow pe_int pe_int)) (pe_op op_pow pe_int pe_int)) (pe_cal L_next (hr.mono (by omega)) (by rfl) (pa_cons (pv 0) pa_nil))))
      (pss_cons (ps_set (i := 3) scNu.nd rfl (.inl rfl) (pe_lst (pa_cons (pe_op op_mod (pe_op op_fdiv (pv 1) pe_int) pe_int) (pa_cons (pe_op op_sub pe_int (pe_op op_mod (pe_op op_fdiv (pv 1) pe_int) pe_int)) (pa_cons (pe_op op_mod (pe_op op_fdiv (pv 1) pe_int) pe_int) (pa_cons (pe_op op_sub pe_int (pe_op op_mod (pe_op op_fdiv (pv 1) pe_int) pe_int)) (pa_cons (pv 2) (pa_cons (pe_op op_sub pe_int (pv 2)) (pa_cons pe_int (pa_cons pe_int pa_nil))))))))))
      (pss_one (ps_ret (pe_ix ix_list (pv 3) (pe_op op_mod (pv 1) pe_int) (fun _ _ => rfl)))))), ?_⟩
    refine ⟨_, rfl, p, n, rfl, dr, by omega, fun a H1 k1 d1 a0 a1 => ?_⟩
    refine ⟨_, rfl, _, _, rfl, rfl, ⟨by decide, by decide⟩, _, _, rfl, rfl, ⟨by decide, by decide, by decide⟩, _, _, rfl, rfl, .inr ⟨by decide, by decide⟩, _, _, rfl, rfl, ⟨by decide, by decide, by decide⟩, _, _, rfl, rfl, (by show (0 : Int) < 10 ^ Int.toNat 9; decide), _, _, rfl, rfl, ⟨by decide, by decide, by decide⟩, _, _, rfl, rfl, .inr ⟨by decide, by decide⟩, ?_⟩
    refine ⟨_, rfl, p, _, rfl, d1, by omega, fun b H2 k2 d2 b0 b1 => ⟨_, _, rfl, rfl, ?_⟩⟩
    obtain ⟨fr, ef⟩ : ∃ fr : Int, a / 8 * 10 ^ Int.toNat 6 % 10 ^ Int.toNat 9 * 10 ^ Int.toNat 6 + b = fr := ⟨_, rfl⟩
    have fb : 0 ≤ fr ∧ fr < 2 ^ 60 := by
      rw [← ef]
      have h1 : 0 ≤ a / 8 * 10 ^ Int.toNat 6 % 10 ^ Int.toNat 9 := Int.emod_nonneg _ (by decide)
      have h2 : a / 8 * 10 ^ Int.toNat 6 % 10 ^ Int.toNat 9 < 10 ^ Int.toNat 9 := Int.emod_lt_of_pos _ (by decide)
      have e9 : (10 : Int) ^ Int.toNat 9 = 1000000000 := by decide
      have e6 : (10 : Int) ^ Int.toNat 6 = 1000000 := by decide
      rw [e9] at h1 h2 ⊢
      rw [e6] at h1 h2 ⊢
      omega
    dsimp only
    rw [ef]
    refine ⟨_, rfl, _, _, rfl, rfl, ⟨by decide, by decide⟩, _, _, rfl, rfl, (by show (0 : Int) < 4; decide), _, rfl, _, _, rfl, rfl, ⟨by decide, by decide⟩, _, _, rfl, rfl, (by show (0 : Int) < 4; decide), _, _, rfl, rfl, _, rfl, _, _, rfl, rfl, ⟨by decide, by decide⟩, _, _, rfl, rfl, (by show (0 : Int) < 1000; decide), _, rfl, _, _, rfl, rfl, ⟨by decide, by decide⟩, _, _, rfl, rfl, (by show (0 : Int) < 1000; decide), _, _, rfl, rfl, _, rfl, _, rfl, _, _, rfl, rfl, (by show 8 ≤ sizeLine; decide), fun u nu => ?_⟩
    obtain ⟨mv, mm, me⟩ := atI_mem (xs := [a / 8 % 4, 0 - a / 8 % 4, a / 8 % 1000, 0 - a / 8 % 1000, fr, 0 - fr, 0, 1]) (i := a % 8) (by omega) (by show a % 8 < ((8 : Nat) : Int); omega)
    have mb : mv.natAbs < 2 ^ 61 := by
      simp only [List.mem_cons, List.not_mem_nil, or_false] at mm
      omega
    have su := same_new (o := .lst [.int (a / 8 % 4), .int (0 - a / 8 % 4), .int (a / 8 % 1000), .int (0 - a / 8 % 1000), .int fr, .int (0 - fr), .int 0, .int 1]) nu
    exact ⟨_, rfl, _, rfl, _, _, rfl, rfl, (by show (0 : Int) < 8; decide), u, _, _, _, rfl, rfl, SqL.of upd_same, me, q mv _ (k1.trans (k2.trans (Kp.of su))) (d2.same su) mb⟩
def spLe : Sp := fun vs H Q _ => ∃ n : Nat, vs = [.int (n : Nat)] ∧ Q (.int (blen n : Nat)) H
theorem ok_le (F : Fun K "_law_length" "_law_length" sLe f fd) : FnOk P w K mg base CX0 (k + 1) f fd ["_law_a_number"] spLe := by
  refine F.ok scLe (fun vs H Q E h => ?_) (fun cdv A outer s H vs Q E hr h => ?_)
  · obtain ⟨n, rfl, _⟩ := h
    rfl
  · obtain ⟨n, rfl, q⟩ := h
    refine ⟨_, pss_cons (ps_set (i := 1) scLe.nd rfl (.inl rfl) pe_int)
      (pss_cons (ps_while PassesOwn.never (pt_cmpR op_gt (pv 0) pe_int (nomark _))
        (pss_cons (ps_set (i := 0) scLe.nd rfl (.inl rfl) (pe_op op_fdiv (pv 0) pe_int))
        (pss_one (ps_set (i := 1) scLe.nd rfl (.inl rfl) (pe_op op_add (pv 1) pe_int)))))
      (pss_one (ps_ret (pv 1)))), ?_⟩
    refine while_by (fun σ H2 => ∃ m t : Nat, σ = [some (.int (m : Nat)), some (.int (t : Nat))] ∧ H2 = H ∧ t + blen m = blen n) (fun σ _ => match σ with | some (.int m) :: _ => m.toNat | _ => 0) ⟨n, 0, rfl, rfl, Nat.zero_add _⟩ ?_ ?_
    · rintro σ H2 ⟨m, t, rfl, rfl, e⟩
      refine ⟨_, rfl, _, _, rfl, rfl, _, rfl, ite2 (fun g => ?_) (fun g => ?_)⟩
      · have m0 : 0 < m := by
          have := of_decide_eq_true g
          omega
        refine ⟨_, rfl, _, _, rfl, rfl, ⟨by decide, by decide⟩, _, rfl, _, _, rfl, rfl, ⟨m / 2, t + 1, rfl, rfl, ?_⟩, ?_⟩
        · rw [← e, blen_half m0]
          omega
        · show ((((m : Nat) : Int) / 2)).toNat < ((m : Nat) : Int).toNat
          omega
      · have m0 : m = 0 := by
          have : ¬ ((m : Nat) : Int) > 0 := fun z => g (decide_eq_true z)
          omega
        subst m0
        refine ⟨_, rfl, ?_⟩
        rw [show t = blen n by rw [← e]; rfl]
        exact q
    · rintro σ H2 Q1 Q2 hq ⟨v, e, a, b, e1, e2, c, e3, h⟩
      exact ⟨v, e, a, b, e1, e2, c, e3, hq _ _ h⟩
def spLP : Sp := fun vs H Q _ => ∃ n w : Nat, vs = [.int (n : Nat), .int (w : Nat)] ∧ w ≤ 500 ∧ Q (.str (SX.S (bt w n))) H
theorem ok_lp (F : Fun K "_law_plain" "_law_plain" sLP f fd) (m_range : mg "range" = none) : FnOk P w K mg base CX0 (k + 1) f fd ["_law_a_number", "_law_a_width"] spLP := by
  refine F.ok scLP (fun vs H Q E h => ?_) (fun cdv A outer s H vs Q E hr h => ?_)
  · obtain ⟨n, w, rfl, _⟩ := h
    rfl
  · obtain ⟨n, w, rfl, few, q⟩ := h
    refine ⟨_, pss_cons (ps_set (i := 2) scLP.nd rfl (.inl rfl) pe_str)
      (pss_cons (ps_for PassesOwn.never rfl (pi_range1 (by rfl) m_range (pa_cons (pv 1) pa_nil)) (pg_name (i := 3) scLP.nd rfl (.inl rfl))
        (pss_cons (ps_set (i := 2) scLP.nd rfl (.inl rfl) (pe_op op_add_str (pe_item_str pe_str (pe_op op_mod (pv 0) pe_int) (fun _ _ => rfl)) (pv 2)))
        (pss_one (ps_set (i := 0) scLP.nd rfl (.inl rfl) (pe_op op_fdiv (pv 0) pe_int)))))
      (pss_one (ps_ret (pv 2)))), ?_⟩
    refine ⟨_, rfl, _, rfl, by omega, by omega, for_range (n := w) (fun i σ H2 => ∃ z : Option V, σ = [some (.int (n / 2 ^ i : Nat)), some (.int (w : Nat)), some (.str (SX.S (bt i n))), z] ∧ H2 = H) ?_ ?_ ?_⟩
    · refine ⟨none, ?_, rfl⟩
      rw [Nat.pow_zero]
      rw [Nat.div_one]
      show _ = [some (V.int (n : Nat)), some (V.int (w : Nat)), some (V.str (SX.S [])), none]
      rw [← s_nil]
      rfl
    · rintro i σ H2 hi ⟨z, rfl, rfl⟩
      obtain ⟨m, em⟩ : ∃ m, n / 2 ^ i = m := ⟨_, rfl⟩
      have e01 : (Str.ofString "01") = SX.S [48, 49] := by decide +kernel
      have one : bt (i + 1) n = [48 + m % 2] ++ bt i n := by
        have e := bt_split 1 i n
        rw [em, Nat.add_comm 1 i] at e
        exact e
      have hc : (SX.S [48, 49]).cps[(((m : Nat) : Int) % 2).toNat]? = some (48 + m % 2) := by
        rcases Nat.mod_two_eq_zero_or_one m with c | c
        · rw [show (((m : Nat) : Int) % 2).toNat = 0 by omega, c]
          rfl
        · rw [show (((m : Nat) : Int) % 2).toNat = 1 by omega, c]
          rfl
      rw [em]
      refine ⟨_, rfl, _, _, rfl, rfl, (by show (0 : Int) < 2; decide), SX.S [48, 49], _, _, congrArg V.str e01, rfl, by omega, by omega, (by show ((m : Nat) : Int) % 2 < ((2 : Nat) : Int); omega), hc, _, rfl, _, _, rfl, rfl, ?_, ?_⟩
      · rw [SX.S_len, SX.S_len, bt_len]
        show 1 + i ≤ sizeLine
        exact z500 (by omega)
      · refine ⟨_, rfl, _, _, rfl, rfl, ⟨by decide, by decide⟩, some (.int (0 + (i : Nat))), ?_, rfl⟩
        have e2 : n / 2 ^ (i + 1) = m / 2 := by rw [Nat.pow_succ, ← Nat.div_div_eq_div_mul, em]
        rw [one, e2, ← SX.S_cat]
        rfl
    · rintro σ H2 ⟨z, rfl, rfl⟩
      exact ⟨_, rfl, q⟩
def spLO : Sp := fun vs H Q _ => ∃ n : Nat, vs = [.int (n : Nat)] ∧ n < 2 ^ 63 ∧ Q (.str (SX.S (ownL n))) H
theorem ok_lo (F : Fun K "_law_own" "_law_own" sLO f fd) (L_length : Cal P w K mg base k "_law_length" ["_law_a_number"] spLe) (L_plain : Cal P w K mg base k "_law_plain" ["_law_a_number", "_law_a_width"] spLP) : FnOk P w K mg base CX0 (k + 1) f fd ["_law_a_number"] spLO := by
  refine F.ok scLO (fun vs H Q E h => ?_) (fun cdv A outer s H vs Q E hr h => ?_)
  · obtain ⟨n, rfl, _⟩ := h
    rfl
  · obtain ⟨n, rfl, few, q⟩ := h
    refine ⟨_, pss_cons (ps_set (i := 1) scLO.nd rfl (.inl rfl) (pe_cal L_length (hr.mono (by omega)) (by rfl) (pa_cons (pe_op op_add (pv 0) pe_int) pa_nil)))
      (pss_one (ps_ret (pe_op op_add_str (pe_op (op_times (c := 48)) pe_str (pe_op op_sub (pv 1) pe_int)) (pe_cal L_plain (hr.mono (by omega)) (by rfl) (pa_cons (pe_op op_add (pv 0) pe_int) (pa_cons (pv 1) pa_nil)))))), ?_⟩
    have b64 := own_64 few
    have bp := blen_pos (show 0 < n + 1 by omega)
    refine ⟨_, rfl, _, _, rfl, rfl, n + 1, rfl, ?_⟩
    refine ⟨_, rfl, _, _, rfl, rfl, blen (n + 1) - 1, (by rw [← s_0]), congrArg V.int (by omega), by omega, _, rfl, _, _, rfl, rfl, _, rfl, n + 1, blen (n + 1), rfl, by omega, _, _, rfl, rfl, ?_, ?_⟩
    · rw [SX.S_len, SX.S_len, List.length_replicate, bt_len]
      exact z500 (by omega)
    · rw [SX.S_cat, own_is]
      exact q
def spLT : Sp := fun vs H Q _ => ∃ n : Int, vs = [.int n] ∧ n.natAbs < 2 ^ 62 ∧ ∀ H', Same H H' → Q (.int (tn n)) H'
theorem ok_lt (F : Fun K "_law_turned" "_law_turned" sLT f fd) (m_int : mg "int" = none) : FnOk P w K mg base CX0 (k + 1) f fd ["_law_a_number"] spLT := by
  refine F.ok scLT (fun vs H Q E h => ?_) (fun cdv A outer s H vs Q E hr h => ?_)
  · obtain ⟨n, rfl, _⟩ := h
    rfl
  · obtain ⟨n, rfl, few, q⟩ := h
    refine ⟨_, pss_one (ps_ret (pe_ix ix_list (pe_lst (pa_cons (pe_op op_mul pe_int (pv 0)) (pa_cons (pe_op op_sub (pe_op op_sub pe_int (pe_op op_mul pe_int (pv 0))) pe_int) pa_nil))) (pe_callTy call_int1 (by rfl) m_int (by decide +kernel) (pa_cons (pe_cmpR op_lt (pv 0) pe_int (nomark _)) pa_nil)) (fun _ _ => rfl))), ?_⟩
    refine ⟨_, rfl, _, _, rfl, rfl, .inl ⟨by decide, by decide⟩, _, rfl, _, _, rfl, rfl, .inl ⟨by decide, by decide⟩, _, _, rfl, rfl, _, _, rfl, rfl, (by show 2 ≤ sizeLine; decide), fun u nu => ?_⟩
    have su := same_new (o := .lst [.int (2 * n), .int (0 - 2 * n - 1)]) nu
    refine ⟨_, rfl, _, _, rfl, rfl, .inr ⟨_, rfl, ?_⟩⟩
    unfold tn at q
    by_cases c : n < 0
    · rw [decide_eq_true c]
      rw [if_neg (by omega), show -2 * n - 1 = 0 - 2 * n - 1 by omega] at q
      exact ⟨u, _, _, _, rfl, rfl, SqL.of upd_same, rfl, q _ su⟩
    · rw [decide_eq_false c]
      rw [if_pos (by omega)] at q
      exact ⟨u, _, _, _, rfl, rfl, SqL.of upd_same, rfl, q _ su⟩
end
end Tg

namespace Tg
open PySem PySem.Spec PyProof.Rows L2
abbrev sRO : Stmt := topS 12
abbrev sErB : Stmt := inCls (topS 2) 0
abbrev sRef : Stmt := topS 21
theorem scRO : FnScope ["bits", "at", "first", "behind"] ["bits", "at"] (defScope sRO) := ⟨rfl, rfl, rfl, by decide +kernel, rfl, by decide +kernel, by decide +kernel⟩
theorem scErB : FnScope ["self", "at"] ["self", "at"] (defScope sErB) := ⟨rfl, rfl, rfl, by decide +kernel, rfl, by decide +kernel, by decide +kernel⟩
theorem scRef : FnScope ["_law_a_bits", "_law_a_at", "_law_kept", "e"] ["_law_a_bits", "_law_a_at"] (defScope sRef) := ⟨rfl, rfl, rfl, by decide +kernel, rfl, by decide +kernel, by decide +kernel⟩
theorem pss_dead {X : Cx} {b : List Stmt} : PSs X b (fun _ _ _ => False) := ⟨fun _ _ _ _ _ _ h => h.elim⟩
/-- a code stands whole behind a signs -/
theorem code_at (a rest : List Nat) (n v : Nat) : (a ++ (ownL n ++ rest))[a.length + v]? = (ownL n ++ rest)[v]? := by
  rw [List.getElem?_append_right (Nat.le_add_right _ _), Nat.add_sub_cancel_left]
theorem code_find (a rest : List Nat) (n : Nat) : Txt.find3 (SX.S (a ++ (ownL n ++ rest))) ⟨#[49]⟩ ((a.length : Nat) : Int) = ((a.length + (n + 1).log2 : Nat) : Int) := by
  have lo := own_len n
  refine find_at ?_ (Nat.le_add_right _ _) fun v h1 h2 => ?_
  · rw [code_at, List.getElem?_append_left (by rw [lo]; omega)]
    exact own_one n
  · obtain ⟨d, rfl⟩ : ∃ d, v = a.length + d := ⟨v - a.length, by omega⟩
    rw [code_at, List.getElem?_append_left (by rw [lo]; omega), own_lo (by omega)]
    exact fun z => nomatch z
theorem cut_S (l : List Nat) {i j : Nat} (ij : i ≤ j) (jl : j ≤ l.length) : cutS (SX.S l) (some (i : Int)) (some (j : Int)) = SX.S ((l.drop i).take (j - i)) := by
  unfold cutS
  rw [HT.sIx_nat, HT.sIx_nat, SX.S_len, Nat.min_eq_left jl, Nat.min_eq_left (Nat.le_trans ij jl)]
/-- no code stands whole at a -/
def NoCode (l : List Nat) (a : Nat) : Prop := (∀ v, a ≤ v → l[v]? ≠ some 49) ∨ ∃ j, l[a + j]? = some 49 ∧ (∀ v, a ≤ v → v < a + j → l[v]? ≠ some 49) ∧ l.length < a + 2 * j + 1
section
variable {P : Program} {w : World} {K : PySem.W.Frag} {mg : Str → Option Value} {base : Heap} {CB : Addr} {f : Addr} {fd : FuncData} {k : Nat}
def spRO (K : PySem.W.Frag) : Sp := fun vs H Q _ => ∃ (a rest : List Nat) (n : Nat), vs = [.str (SX.S (a ++ (ownL n ++ rest))), .int (a.length : Nat)] ∧ n < 2 ^ 63 ∧ (a ++ (ownL n ++ rest)).length ≤ 1000 ∧ ∀ t H', Same H H' → SqT K H' t [.int (n : Nat), .int ((a.length + (ownL n).length : Nat) : Int)] → Q (.ref t) H'
theorem ok_ro (F : Fun K "read_own" "read_own" sRO f fd) (m_len : mg "len" = none) (m_int : mg "int" = none) : FnOk P w K mg base CX0 (k + 1) f fd ["bits", "at"] (spRO K) := by
  refine F.ok scRO (fun vs H Q E h => ?_) (fun cdv A outer s H vs Q E hr h => ?_)
  · obtain ⟨a, rest, n, rfl, _⟩ := h
    rfl
  · obtain ⟨a, rest, n, rfl, few, l1000, q⟩ := h
    refine ⟨_, pss_cons (ps_set (i := 2) scRO.nd rfl (.inl rfl) (pe_bm PySem.F.plainAttrs_str PySem.F.slot_str_find PySem.F.type_str_find mt_find3 (pv 0) (pa_cons pe_str (pa_cons (pv 1) pa_nil))))
      (pss_cons (ps_set (i := 3) scRO.nd rfl (.inl rfl) (pe_op op_add (pe_op op_sub (pe_op op_mul pe_int (pv 2)) (pv 1)) pe_int))
      (pss_cons (ps_if (PW.pt (pw_or (pt_cmpR op_lt (pv 2) pe_int (nomark _)) (pw_or1 (pt_cmpR op_gt (pv 3) (pe_callB call_len_str (by rfl) m_len (by decide +kernel) (pa_cons (pv 0) pa_nil)) (nomark _)))))
        (pss_one ps_dead)
        pss_nil)
      (pss_one (ps_ret (pe_tup (pa_cons (pe_op op_sub (pe_callTy call_int_bin (by rfl) m_int (by decide +kernel) (pa_cons (pe_slice sl_str (pv 0) (po_some (pv 2)) (po_some (pv 3))) (pa_cons pe_int pa_nil))) pe_int) (pa_cons (pv 3) pa_nil))))))), ?_⟩
    have fnd := code_find a rest n
    have lo := own_len n
    have b64 := own_64 few
    have bp := blen_pos (show 0 < n + 1 by omega)
    obtain ⟨l, el⟩ : ∃ l, a ++ (ownL n ++ rest) = l := ⟨_, rfl⟩
    have ll : a.length + (ownL n).length ≤ l.length := by
      rw [← el, List.length_append, List.length_append]
      omega
    have part : (l.drop (a.length + (n + 1).log2)).take (blen (n + 1)) = bt (blen (n + 1)) (n + 1) := by
      rw [← el, ← List.drop_drop, List.drop_left, List.drop_append_of_le_length (by omega), own_tail, List.take_append_of_le_length (by rw [bt_len]; exact Nat.le_refl _), List.take_of_length_le (by rw [bt_len]; exact Nat.le_refl _)]
    rw [el] at l1000 fnd ⊢
    obtain ⟨m, em⟩ : ∃ m, (n + 1).log2 = m := ⟨_, rfl⟩
    rw [em] at fnd part lo bp
    refine ⟨_, rfl, rfl, _, rfl, SX.S l, SX.S [49], _, rfl, (by rw [← s_1]), ?_⟩
    rw [fnd]
    refine ⟨_, rfl, _, _, rfl, rfl, .inl ⟨by decide, by decide⟩, _, rfl, _, _, rfl, rfl, _, _, rfl, rfl, ?_⟩
    have eb : (2 * ((a.length + m : Nat) : Int) - ((a.length : Nat) : Int) + 1) = ((a.length + (2 * m + 1) : Nat) : Int) := by omega
    dsimp only
    rw [eb]
    refine ⟨_, rfl, _, _, rfl, rfl, _, rfl, if_n (decide_eq_false (by omega)) ?_⟩
    refine ⟨_, rfl, _, rfl, _, rfl, (by rw [SX.S_len]; exact z500 (by omega)), _, _, rfl, rfl, _, rfl, if_n (decide_eq_false (by rw [SX.S_len]; omega)) ?_⟩
    refine ⟨_, rfl, _, rfl, _, rfl, _, rfl, _, rfl, _, rfl, (by rw [SX.S_len]; exact z500 (by omega)), ?_⟩
    rw [cut_S l (by omega) (by omega), show a.length + (2 * m + 1) - (a.length + m) = blen (n + 1) by omega, part]
    refine ⟨bt (blen (n + 1)) (n + 1), rfl, (fun z => by have := bt_len (blen (n + 1)) (n + 1); rw [z] at this; rw [bp] at this; cases this), by rw [bt_len]; omega, bt_bin _ _, ?_⟩
    rw [own_num]
    refine ⟨_, _, rfl, rfl, _, rfl, (by show 2 ≤ sizeLine; decide), fun t nt => ?_⟩
    have e1 : ((((n + 1 : Nat) : Nat) : Int) - 1) = ((n : Nat) : Int) := by omega
    rw [lo] at q
    refine q t _ (same_new nt) ?_
    dsimp only
    rw [e1]
    exact SqT.of upd_same
theorem ok_errB (F : Fun K "__init__" "NoBits.__init__" sErB f fd) (T : OexC K CB) (hno : PySem.W.findIn K (.ref CB) "at" = some none) (mV : mg "ValueError" = none)
    (vV : PySem.W.findCls K (.type "ValueError") (.type "type") "__init__" = some (.val (.builtin "ValueError.__init__"))) : FnOk P w K mg base CX0 (k + 1) f fd ["self", "at"] (spErr CB "at") := by
  refine F.ok scErB (fun vs H Q E h => ?_) (fun cdv A outer s H vs Q E hr h => ?_)
  · obtain ⟨a, v, rfl, _⟩ := h
    rfl
  · obtain ⟨a, v, rfl, ha, q⟩ := h
    refine ⟨_, pss_cons (ps_expr (pe_veinit (by rfl) mV vV (pa_cons (pv 0) (pa_cons pe_str pa_nil)))) (pss_one (ps_ost (pv 0) (pv 1))), ?_⟩
    exact ⟨_, rfl, a, CB, _, rfl, by show 1 ≤ 1000; decide, T, ha, _, rfl, _, rfl, a, CB, rfl, T, hno, .inl ⟨ha, fun dx nd da => q dx nd da⟩⟩
def spRON (K : PySem.W.Frag) (CB : Addr) : Sp := fun vs H Q E => ∃ (l : List Nat) (a : Nat), vs = [.str (SX.S l), .int (a : Nat)] ∧ NoCode l a ∧ l.length ≤ 1000 ∧ ∀ (d : Addr) (H' : Hp), Same H H' → H d = none → H' d = some (.xd [("at", .int (a : Nat))]) → E (.ref CB) (some d) H'
theorem ok_roN (F : Fun K "read_own" "read_own" sRO f fd) (m_len : mg "len" = none) (C_err : CalE P w K mg base k "NoBits" CB "at") : FnOk P w K mg base (L2.CX P w) (k + 2) f fd ["bits", "at"] (spRON K CB) := by
  refine F.okX scRO (fun vs H Q E h => ?_) (fun cdv A outer s H vs Q E hr h => ?_)
  · obtain ⟨l, a, rfl, _⟩ := h
    rfl
  · obtain ⟨l, a, rfl, no, l1000, q⟩ := h
    refine ⟨_, pss_cons (ps_set (i := 2) scRO.nd rfl (.inl rfl) (pe_bm PySem.F.plainAttrs_str PySem.F.slot_str_find PySem.F.type_str_find mt_find3 (pv 0) (pa_cons pe_str (pa_cons (pv 1) pa_nil))))
      (pss_cons (ps_set (i := 3) scRO.nd rfl (.inl rfl) (pe_op op_add (pe_op op_sub (pe_op op_mul pe_int (pv 2)) (pv 1)) pe_int))
      (pss_cons (ps_if (PW.pt (pw_or (pt_cmpR op_lt (pv 2) pe_int (nomark _)) (pw_or1 (pt_cmpR op_gt (pv 3) (pe_callB call_len_str (by rfl) m_len (by decide +kernel) (pa_cons (pv 0) pa_nil)) (nomark _))))) (pss_one (ps_raise rfl (takes_of rfl rfl rfl rfl) (pm_err C_err hr (by rfl) (pv 1)))) pss_nil) pss_dead)), ?_⟩
    refine ⟨_, rfl, rfl, _, rfl, SX.S l, SX.S [49], _, rfl, (by rw [← s_1]), ?_⟩
    rcases no with no | ⟨j, h1, h2, h3⟩
    · rw [find_no no]
      refine ⟨_, rfl, _, _, rfl, rfl, .inl ⟨by decide, by decide⟩, _, rfl, _, _, rfl, rfl, _, _, rfl, rfl, ?_⟩
      exact ⟨_, rfl, _, _, rfl, rfl, _, rfl, if_y (by decide) (if_t (err_read ⟨_, rfl, fun d H' s' nd hd => q d H' s' nd hd⟩ fun {Q Q'} hq ⟨v, e, q⟩ => ⟨v, e, hq _ _ q⟩))⟩
    · rw [find_at h1 (Nat.le_add_right _ _) h2]
      refine ⟨_, rfl, _, _, rfl, rfl, .inl ⟨by decide, by decide⟩, _, rfl, _, _, rfl, rfl, _, _, rfl, rfl, ?_⟩
      refine ⟨_, rfl, _, _, rfl, rfl, _, rfl, if_n (decide_eq_false (by omega)) ?_⟩
      exact ⟨_, rfl, _, rfl, _, rfl, (by rw [SX.S_len]; exact z500 (by omega)), _, _, rfl, rfl, _, rfl, if_y (decide_eq_true (by rw [SX.S_len]; omega)) (err_read ⟨_, rfl, fun d H' s' nd hd => q d H' s' nd hd⟩ fun {Q Q'} hq ⟨v, e, q⟩ => ⟨v, e, hq _ _ q⟩)⟩
end
end Tg

namespace Tg
open PySem PySem.Spec PyProof.Rows L2
abbrev sTR : Stmt := topS 22
abbrev sRi : Stmt := topS 23
abbrev sLaw : Stmt := topS 24
abbrev NRi : List Str := ["_law_draws_here", "_law_a_number", "_law_a_width", "_law_code", "_law_ahead", "_law_rest", "_law_a_bits", "_law_cut"]
theorem scTR : FnScope ["_law_a_number", "_law_told"] ["_law_a_number"] (defScope sTR) := ⟨rfl, rfl, rfl, by decide +kernel, rfl, by decide +kernel, by decide +kernel⟩
theorem scRi : FnScope NRi ["_law_draws_here"] (defScope sRi) := ⟨rfl, rfl, rfl, by decide +kernel, rfl, by decide +kernel, by decide +kernel⟩
theorem scLaw : FnScope ["_law_script", "_law_cell"] ["_law_script"] (defScope sLaw) := ⟨rfl, rfl, rfl, by decide +kernel, rfl, by decide +kernel, by decide +kernel⟩
/-- the errors that are named -/
structure Errs (K : PySem.W.Frag) (mg : Str → Option Value) (CB C1 C2 C3 C4 : Addr) : Prop where
  mB : mg "NoBits" = some (.ref CB)
  m1 : mg "NoBlock" = some (.ref C1)
  m2 : mg "NoLog" = some (.ref C2)
  m3 : mg "NoOrder" = some (.ref C3)
  m4 : mg "NoText" = some (.ref C4)
  mi : mg "isinstance" = none
  mV : mg "ValueError" = none
  kV : PySem.W.kitOne K (.ref CB) (.type "ValueError") = some true
  kN : PySem.W.kitAny K (.ref CB) [.ref C1, .ref C2, .ref C3, .ref C4] = some false
  xc : ExcC K CB
  xf : XfC K CB
  no : PySem.W.findIn K (.ref CB) "at" = some none
  ex : PySem.W.exmOne K (.ref CB) (.ref CB) = some true
theorem tn_small {n : Int} (h : n.natAbs < 2 ^ 61) : 0 ≤ tn n ∧ tn n < 2 ^ 63 := by
  unfold tn
  split <;> omega
theorem bk_tn (n : Int) : bk (tn n) = n := by
  unfold bk tn
  by_cases c : 0 ≤ n
  · rw [if_pos c, if_pos (by omega)]
    omega
  · rw [if_neg c, if_neg (by omega)]
    omega
theorem tn_bk {m : Int} (h : 0 ≤ m) : tn (bk m) = m := by
  unfold bk tn
  by_cases c : m % 2 = 0
  · rw [if_pos c, if_pos (by omega)]
    omega
  · rw [if_neg c, if_neg (by omega)]
    omega
section
variable {P : Program} {w : World} {K : PySem.W.Frag} {mg : Str → Option Value} {base : Heap} {CB C1 C2 C3 C4 : Addr} {f : Addr} {fd : FuncData} {k : Nat} {cdv : Value} {A : Around} {outer : List Env} {s : Shared} {H0 : Hp} {E : XK}
def spRef : Sp := fun vs H Q _ => ∃ (l : List Nat) (a : Nat), vs = [.str (SX.S l), .int (a : Nat)] ∧ NoCode l a ∧ l.length ≤ 1000 ∧ ∀ H', Same H H' → Q (.bl true) H'
theorem ok_ref (F : Fun K "_law_refused" "_law_refused" sRef f fd) (T : Errs K mg CB C1 C2 C3 C4) (C_read_own : CalR P w K mg base k "read_own" ["bits", "at"] (spRON K CB)) : FnOk P w K mg base CX0 (k + 1) f fd ["_law_a_bits", "_law_a_at"] spRef := by
  refine F.ok scRef (fun vs H Q E h => ?_) (fun cdv A outer s H vs Q E hr h => ?_)
  · obtain ⟨l, a, rfl, _⟩ := h
    rfl
  · obtain ⟨l, a, rfl, no, l1000, q⟩ := h
    refine ⟨_, pss_cons (ps_set (i := 2) scRef.nd rfl (.inl rfl) pe_non)
      (pss_cons (ps_try_keep (i := 3) (j := 2) rfl rfl rfl scRef.nd rfl rfl rfl rfl (tests_one ⟨by rfl, by decide, .inl T.mB⟩)
        (fun W pn xe tk _ => pss_one (ps_expr (pe_calT C_read_own hr (by rfl) tk (pa_cons (pv 0) (pa_cons (pv 1) pa_nil))))))
      (pss_cons (ps_if (PW.pt (pw_or (pt_cmpR op_isN (pv 2) pe_non (nomark _)) (pw_or (pt_not (pt_val (pe_callB call_isV (by rfl) T.mi PyProof.Rows.boot_isinstance (pa_cons (pv 2) (pa_cons (pe_bltn (v := .ty "ValueError") (by rfl) T.mV PyProof.Rows.Boot.«ValueError» rfl) pa_nil)))))
          (pw_or1 (pt_val (pe_callB call_isVT (by rfl) T.mi PyProof.Rows.boot_isinstance (pa_cons (pv 2) (pa_cons (pe_tup (pa_cons (pe_glob (v := .ref C1) (by rfl) T.m1 rfl) (pa_cons (pe_glob (v := .ref C2) (by rfl) T.m2 rfl) (pa_cons (pe_glob (v := .ref C3) (by rfl) T.m3 rfl) (pa_cons (pe_glob (v := .ref C4) (by rfl) T.m4 rfl) pa_nil))))) pa_nil))))))))
        (pss_one (ps_ret pe_bl)) pss_nil)
      (pss_one (ps_ret (pe_cmpR op_eq (pe_exf (pv 2)) (pv 1) (nomark _)))))), ?_⟩
    refine ⟨_, rfl, _, rfl, l, a, rfl, no, l1000, fun d H' s' nd hd => ⟨T.ex, fun e ne => ?_⟩⟩
    have sb : Same H' (upd H' e (ExV (.ref CB) (some d) e)) := same_new ne
    have hb : (upd H' e (ExV (.ref CB) (some d) e)) e = some (ExV (.ref CB) (some d) e) := upd_same
    have hdd := sb _ _ hd
    refine ⟨_, rfl, rfl, false, congrArg V.bl (decide_eq_false (fun z => nomatch z)), if_f ?_⟩
    refine ⟨_, rfl, e, CB, d, _, .ty "ValueError", .type "ValueError", true, rfl, hb, hdd, T.xc, .ty _, T.kV, true, rfl, if_f ?_⟩
    refine ⟨_, rfl, (by show 4 ≤ sizeLine; decide), fun tp ntp => ?_⟩
    have st := same_new (o := .tup [.ref C1, .ref C2, .ref C3, .ref C4]) ntp
    refine ⟨e, CB, d, tp, _, _, [.ref C1, .ref C2, .ref C3, .ref C4], false, rfl, st _ _ hb, st _ _ hdd, T.xc, upd_same, .cons (.own _) (.cons (.own _) (.cons (.own _) (.cons (.own _) .nil))), T.kN, false, rfl, if_f ?_⟩
    refine ⟨_, rfl, e, CB, d, _, .int (a : Nat), rfl, st _ _ hb, T.xf, T.no, st _ _ hdd, rfl, _, rfl, rfl, ?_⟩
    rw [decide_eq_true rfl]
    exact q _ ((s'.trans sb).trans st)
def spTR : Sp := fun vs H Q _ => ∃ n : Int, vs = [.int n] ∧ n.natAbs < 2 ^ 61 ∧ ∀ H', Same H H' → Q (.bl true) H'
theorem ok_tr (F : Fun K "_law_turns_right" "_law_turns_right" sTR f fd) (C_turned : Cal P w K mg base k "turned" ["number"] spTu) (C_turned_k : CalK P w K mg base k "turned" ["number"] ["number"] [0] spTu) (C_back : Cal P w K mg base k "back" ["number"] spBa) (C_back_k : CalK P w K mg base k "back" ["number"] ["number"] [0] spBa) (C_own_k : CalK P w K mg base k "own" ["number"] ["number"] [0] spOw) (C_own_size_k : CalK P w K mg base k "own_size" ["number"] ["number"] [0] spOz)
    (L_turned : Cal P w K mg base k "_law_turned" ["_law_a_number"] spLT) (L_own : Cal P w K mg base k "_law_own" ["_law_a_number"] spLO) (m_isinstance : mg "isinstance" = none) (m_bool : mg "bool" = none) (m_len : mg "len" = none) (m_abs : mg "abs" = none) : FnOk P w K mg base CX0 (k + 1) f fd ["_law_a_number"] spTR := by
  refine F.ok scTR (fun vs H Q E h => ?_) (fun cdv A outer s H vs Q E hr h => ?_)
  · obtain ⟨n, rfl, _⟩ := h
    rfl
  · obtain ⟨n, rfl, few, q⟩ := h
    refine ⟨_, pss_cons (ps_set (i := 1) scTR.nd rfl (.inl rfl) (pe_cal C_turned (hr.mono (by omega)) (by rfl) (pa_cons (pv 0) pa_nil)))
      (pss_cons (ps_if (PW.pt (pw_or (pt_cmpR op_ne (pv 1) (pe_cal L_turned (hr.mono (by omega)) (by rfl) (pa_cons (pv 0) pa_nil)) (nomark _)) (pw_or (pt_val (pe_callB call_isi (by rfl) m_isinstance (by decide +kernel) (pa_cons (pv 1) (pa_cons (pe_bltn (v := .ty "bool") (by rfl) m_bool (by decide +kernel) rfl) pa_nil)))) (pw_or1 (pt_cmpR op_ne (pe_cal C_back (hr.mono (by omega)) (by rfl) (pa_cons (pv 1) pa_nil)) (pv 0) (nomark _))))))
        (pss_one (ps_ret pe_bl))
        pss_nil)
      (pss_cons (ps_if (PW.pt (pw_or (pt_cmpR op_ne (pe_calK C_turned_k (hr.mono (by omega)) (by rfl) (pk_cons (pv 0) pk_nil)) (pv 1) (nomark _)) (pw_or1 (pt_cmpR op_ne (pe_calK C_own_k (hr.mono (by omega)) (by rfl) (pk_cons (pv 1) pk_nil)) (pe_cal L_own (hr.mono (by omega)) (by rfl) (pa_cons (pv 1) pa_nil)) (nomark _)))))
        (pss_one (ps_ret pe_bl))
        pss_nil)
      (pss_cons (ps_if (pt_cmpR op_ne (pe_calK C_own_size_k (hr.mono (by omega)) (by rfl) (pk_cons (pv 1) pk_nil)) (pe_callB call_len_str (by rfl) m_len (by decide +kernel) (pa_cons (pe_cal L_own (hr.mono (by omega)) (by rfl) (pa_cons (pv 1) pa_nil)) pa_nil)) (nomark _))
        (pss_one (ps_ret pe_bl))
        pss_nil)
      (pss_one (ps_ret (pe_and (pe_cmpR op_eq (pe_cal C_turned (hr.mono (by omega)) (by rfl) (pa_cons (pe_cal C_back (hr.mono (by omega)) (by rfl) (pa_cons (pe_callB call_abs (by rfl) m_abs (by decide +kernel) (pa_cons (pv 0) pa_nil)) pa_nil)) pa_nil)) (pe_callB call_abs (by rfl) m_abs (by decide +kernel) (pa_cons (pv 0) pa_nil)) (nomark _)) (pe_one (pe_cmpR op_eq (pe_calK C_back_k (hr.mono (by omega)) (by rfl) (pk_cons (pv 1) pk_nil)) (pv 0) (nomark _))))))))), ?_⟩
    obtain ⟨t0, t1⟩ := tn_small few
    have e1 := bk_tn n
    obtain ⟨m, em⟩ : ∃ m : Nat, tn n = (m : Nat) := ⟨(tn n).toNat, by omega⟩
    refine ⟨_, rfl, n, rfl, by omega, ?_⟩
    rw [em]
    rw [em] at e1
    have m63 : m < 2 ^ 63 := by omega
    refine ⟨_, rfl, _, rfl, n, rfl, by omega, fun H1 s1 => ⟨rfl, false, ?_, if_f ?_⟩⟩
    · rw [em]
      exact congrArg V.bl (by rw [decide_eq_true rfl]; rfl)
    refine ⟨_, rfl, .int (m : Nat), .ty "bool", .type "int", .type "bool", false, rfl, .ty "bool", .base (.int _), rfl, false, rfl, if_f ?_⟩
    refine ⟨_, rfl, _, rfl, by omega, _, rfl, rfl, false, ?_, if_f ?_⟩
    · rw [e1]
      exact congrArg V.bl (by rw [decide_eq_true rfl]; rfl)
    refine ⟨_, rfl, rfl, n, rfl, by omega, _, rfl, rfl, false, ?_, if_f ?_⟩
    · rw [em]
      exact congrArg V.bl (by rw [decide_eq_true rfl]; rfl)
    refine ⟨_, rfl, rfl, m, rfl, m63, _, rfl, m, rfl, m63, rfl, false, congrArg V.bl (by rw [decide_eq_true rfl]; rfl), if_f ?_⟩
    have b64 := own_64 m63
    have lo := own_len m
    have bp := blen_pos (show 0 < m + 1 by omega)
    refine ⟨_, rfl, rfl, m, rfl, m63, _, rfl, m, rfl, m63, _, rfl, (by rw [SX.S_len]; exact z500 (by omega)), rfl, false, ?_, if_f ?_⟩
    · rw [SX.S_len]
      exact congrArg V.bl (by rw [decide_eq_true rfl]; rfl)
    have ea : (if n < 0 then -n else n) = ((n.natAbs : Nat) : Int) := by
      split <;> omega
    refine ⟨_, rfl, n, rfl, ?_⟩
    rw [ea]
    refine ⟨_, rfl, by omega, _, rfl, ?_, _, rfl, n, rfl, ?_⟩
    · unfold bk
      split <;> omega
    rw [ea, tn_bk (by omega)]
    refine ⟨rfl, true, congrArg V.bl (decide_eq_true rfl), if_t ?_⟩
    refine ⟨_, rfl, rfl, _, rfl, by omega, _, rfl, rfl, ?_⟩
    rw [e1, decide_eq_true rfl]
    exact q H1 s1
end
end Tg

namespace Tg
open PySem PySem.Spec PyProof.Rows L2
theorem cut_code {a : List Nat} {n m : Nat} (h : m < (ownL n).length) : NoCode (a ++ (ownL n).take m) a.length := by
  have lo := own_len n
  have at_ : ∀ d, (a ++ (ownL n).take m)[a.length + d]? = if d < m then (ownL n)[d]? else none := fun d => by
    rw [List.getElem?_append_right (Nat.le_add_right _ _), Nat.add_sub_cancel_left, List.getElem?_take]
  have zero : ∀ v, a.length ≤ v → v < a.length + (n + 1).log2 → (a ++ (ownL n).take m)[v]? ≠ some 49 := fun v h1 h2 => by
    obtain ⟨d, rfl⟩ : ∃ d, v = a.length + d := ⟨v - a.length, by omega⟩
    rw [at_, own_lo (by omega)]
    split <;> exact fun z => nomatch z
  by_cases c : m ≤ (n + 1).log2
  · refine .inl fun v h1 => ?_
    rcases Nat.lt_or_ge v (a.length + (n + 1).log2) with lt | ge
    · exact zero v h1 lt
    · obtain ⟨d, rfl⟩ : ∃ d, v = a.length + d := ⟨v - a.length, by omega⟩
      rw [at_, if_neg (by omega)]
      exact fun z => nomatch z
  · refine .inr ⟨(n + 1).log2, ?_, zero, ?_⟩
    · rw [at_, if_pos (by omega)]
      exact own_one n
    · rw [List.length_append, List.length_take]
      omega
theorem end_code (l : List Nat) : NoCode l l.length := .inl fun v h => by
  rw [List.getElem?_eq_none h]
  exact fun z => nomatch z
theorem zeros_code (l : List Nat) : NoCode (l ++ List.replicate 3 48) l.length := .inl fun v h => by
  rw [List.getElem?_append_right h, List.getElem?_replicate]
  split
  · exact fun z => nomatch z
  · exact fun z => nomatch z
theorem cut_toS (l : List Nat) {j : Nat} (jl : j ≤ l.length) : cutS (SX.S l) none (some (j : Int)) = SX.S (l.take j) := by
  unfold cutS
  rw [HT.sIx_none, HT.sIx_nat, SX.S_len, Nat.min_eq_left jl]
  rfl
section
variable {P : Program} {w : World} {K : PySem.W.Frag} {mg : Str → Option Value} {base : Heap} {f : Addr} {fd : FuncData} {k : Nat} {cdv : Value} {A : Around} {outer : List Env} {s : Shared} {H0 : Hp} {E : XK}
structure Fns (P : Program) (w : World) (K : PySem.W.Frag) (mg : Str → Option Value) (base : Heap) (k : Nat) : Prop where
  plain : Cal P w K mg base k "plain" ["number", "width"] spPl
  plain_k : CalK P w K mg base k "plain" ["number", "width"] ["width", "number"] [1, 0] spPl
  own : Cal P w K mg base k "own" ["number"] spOw
  own_size : Cal P w K mg base k "own_size" ["number"] spOz
  read_own : Cal P w K mg base k "read_own" ["bits", "at"] (spRO K)
  read_own_k : CalK P w K mg base k "read_own" ["bits", "at"] ["at", "bits"] [1, 0] (spRO K)
  next : Cal P w K mg base k "_law_next" ["_law_draws_here"] spNext
  number : Cal P w K mg base k "_law_number" ["_law_draws_here"] spNu
  length : Cal P w K mg base k "_law_length" ["_law_a_number"] spLe
  lplain : Cal P w K mg base k "_law_plain" ["_law_a_number", "_law_a_width"] spLP
  lown : Cal P w K mg base k "_law_own" ["_law_a_number"] spLO
  refused : Cal P w K mg base k "_law_refused" ["_law_a_bits", "_law_a_at"] spRef
  turns : Cal P w K mg base k "_law_turns_right" ["_law_a_number"] spTR
  m_abs : mg "abs" = none
  m_len : mg "len" = none
  m_isinstance : mg "isinstance" = none
  m_bool : mg "bool" = none
/-- from the cut on -/
def RRi (p : Addr) : TS := fun D σ H => ∃ (v0 v2 v7 : Option V) (n m : Nat) (a rest : List Nat), σ = [some (.ref p), some (.int (n : Nat)), v2, some (.str (SX.S (ownL n))), some (.str (SX.S a)), some (.str (SX.S rest)), some (.str (SX.S (a ++ (ownL n ++ rest)))), v7] ∧ Dr H p m ∧ m < 900000 ∧ n < 2 ^ 61 ∧ a.length ≤ 9 ∧ rest.length ≤ 9 ∧
  ∀ H', Kp p H H' → D.rt (.bl true) H'
theorem ri_t {p : Addr} (hr : Room k (A.deeper (envOfC "_law_right" (defScope sRi) s.heap.objs.size f cdv))) (Z : Fns P w K mg base k) :
    PSs (cxOf CX0 P w K mg base NRi "_law_right" (defScope sRi) f cdv A outer s H0 E).nox ((defBody sRi).drop 9) (RRi p) := by
  obtain ⟨C_plain, C_plain_k, C_own, C_own_size, C_read_own, C_read_own_k, L_next, L_number, L_length, L_plain, L_own, L_refused, L_turns_right, m_abs, m_len, m_isinstance, m_bool⟩ := Z
  have hu := hr.units
  refine pss_by (pss_cons (ps_if (pt_cmpR (op_neD hu) (pe_cal C_read_own (hr.mono (by omega)) (by rfl) (pa_cons (pv 6) (pa_cons (pe_callB call_len_str (by rfl) m_len (by decide +kernel) (pa_cons (pv 4) pa_nil)) pa_nil))) (pe_tup (pa_cons (pv 1) (pa_cons (pe_op op_add (pe_callB call_len_str (by rfl) m_len (by decide +kernel) (pa_cons (pv 4) pa_nil)) (pe_callB call_len_str (by rfl) m_len (by decide +kernel) (pa_cons (pv 3) pa_nil))) pa_nil))) (nomark _))
        (pss_one (ps_ret pe_bl))
        pss_nil)
      (pss_cons (ps_if (pt_cmpR (op_neD hu) (pe_calK C_read_own_k (hr.mono (by omega)) (by rfl) (pk_cons (pe_callB call_len_str (by rfl) m_len (by decide +kernel) (pa_cons (pv 4) pa_nil)) (pk_cons (pv 6) pk_nil))) (pe_tup (pa_cons (pv 1) (pa_cons (pe_op op_add (pe_callB call_len_str (by rfl) m_len (by decide +kernel) (pa_cons (pv 4) pa_nil)) (pe_callB call_len_str (by rfl) m_len (by decide +kernel) (pa_cons (pv 3) pa_nil))) pa_nil))) (nomark _))
        (pss_one (ps_ret pe_bl))
        pss_nil)
      (pss_cons (ps_set (i := 7) scRi.nd rfl (.inl rfl) (pe_op op_add_str (pv 4) (pe_slice sl_str (pv 3) po_none (po_some (pe_op op_mod (pe_cal L_next (hr.mono (by omega)) (by rfl) (pa_cons (pv 0) pa_nil)) (pe_callB call_len_str (by rfl) m_len (by decide +kernel) (pa_cons (pv 3) pa_nil)))))))
      (pss_cons (ps_if (PW.pt (pw_or (pt_not (pt_val (pe_cal L_refused (hr.mono (by omega)) (by rfl) (pa_cons (pv 7) (pa_cons (pe_callB call_len_str (by rfl) m_len (by decide +kernel) (pa_cons (pv 4) pa_nil)) pa_nil))))) (pw_or1 (pt_not (pt_val (pe_cal L_refused (hr.mono (by omega)) (by rfl) (pa_cons (pe_op op_add_str (pv 6) (pe_op (op_times (c := 48)) pe_str pe_int)) (pa_cons (pe_callB call_len_str (by rfl) m_len (by decide +kernel) (pa_cons (pv 6) pa_nil)) pa_nil))))))))
        (pss_one (ps_ret pe_bl))
        pss_nil)
      (pss_one (ps_ret (pe_and (pe_cal L_refused (hr.mono (by omega)) (by rfl) (pa_cons (pv 6) (pa_cons (pe_callB call_len_str (by rfl) m_len (by decide +kernel) (pa_cons (pv 6) pa_nil)) pa_nil))) (pe_and (pe_cal L_turns_right (hr.mono (by omega)) (by rfl) (pa_cons (pv 1) pa_nil)) (pe_one (pe_cal L_turns_right (hr.mono (by omega)) (by rfl) (pa_cons (pe_op op_sub pe_int (pv 1)) pa_nil))))))))))) ?_
  rintro D σ H ⟨v0, v2, v7, n, m, a, rest, rfl, dr, m9, n61, la, lr, q⟩
  have n63 : n < 2 ^ 63 := by omega
  have lo := own_len n
  have b64 := own_64 n63
  have bp := blen_pos (show 0 < n + 1 by omega)
  have lb : (a ++ (ownL n ++ rest)).length = a.length + ((ownL n).length + rest.length) := by rw [List.length_append, List.length_append]
  have l300 : (a ++ (ownL n ++ rest)).length ≤ 300 := by omega
  have zl : ∀ l : List Nat, l.length ≤ 400 → (SX.S l).length ≤ sizeLine := fun l h => by
    rw [SX.S_len]
    exact z500 (by omega)
  have shp : ∀ q, SeqAt.shaped (pd q) = true := fun q => shaped_of rfl (by show 1 ≤ 64; decide)
  refine ⟨_, rfl, _, rfl, _, rfl, zl _ (by omega), a, rest, n, ?_, n63, by omega, fun t1 H1 s1 h1 => ?_⟩
  · rw [SX.S_len]
    rfl
  refine ⟨_, rfl, _, rfl, _, rfl, zl _ (by omega), _, rfl, _, rfl, zl _ (by omega), _, _, rfl, rfl, (by show 2 ≤ sizeLine; decide), fun t2 n2 => ?_⟩
  have s2 := same_new (o := .tup [.int (n : Nat), .int (((SX.S a).length : Nat) + ((SX.S (ownL n)).length : Nat))]) n2
  have ee : (((SX.S a).length : Nat) : Int) + ((SX.S (ownL n)).length : Nat) = ((a.length + (ownL n).length : Nat) : Int) := by
    rw [SX.S_len, SX.S_len]
    omega
  have dt : ∀ {Hc : Hp} {t : Addr} {x y : Int}, SqT K Hc t [.int x, .int y] → Dp K Hc (.ref t) (pd (x, y)) := fun h => .tup h (.cons (.int _) (.cons (.int _) .nil))
  refine ⟨_, _, dt (sqT_same s2 h1), dt (SqT.of upd_same), shp _, shp _, false, congrArg V.bl (by show (!PyData.eqv _ _) = false; rw [ee, ref_pd]; rfl), if_f ?_⟩
  refine ⟨_, rfl, _, rfl, zl _ (by omega), _, rfl, rfl, a, rest, n, ?_, n63, by omega, fun t3 H3 s3 h3 => ?_⟩
  · rw [SX.S_len]
    rfl
  refine ⟨_, rfl, _, rfl, _, rfl, zl _ (by omega), _, rfl, _, rfl, zl _ (by omega), _, _, rfl, rfl, (by show 2 ≤ sizeLine; decide), fun t4 n4 => ?_⟩
  have s4 := same_new (o := .tup [.int (n : Nat), .int (((SX.S a).length : Nat) + ((SX.S (ownL n)).length : Nat))]) n4
  refine ⟨_, _, dt (sqT_same s4 h3), dt (SqT.of upd_same), shp _, shp _, false, congrArg V.bl (by show (!PyData.eqv _ _) = false; rw [ee, ref_pd]; rfl), if_f ?_⟩
  have s04 := (s1.trans s2).trans (s3.trans s4)
  have d4 := dr.same s04
  refine ⟨_, rfl, _, rfl, _, rfl, p, m, rfl, d4, by omega, fun v H5 k5 d5 v0 _ => ?_⟩
  have lp : (0 : Int) < ((SX.S (ownL n)).length : Nat) := by
    rw [SX.S_len]
    omega
  refine ⟨_, rfl, _, rfl, zl _ (by omega), _, _, rfl, rfl, lp, ?_⟩
  have c0 : 0 ≤ v % ((SX.S (ownL n)).length : Nat) := Int.emod_nonneg _ (by omega)
  have c1 : v % ((SX.S (ownL n)).length : Nat) < ((SX.S (ownL n)).length : Nat) := Int.emod_lt_of_pos _ lp
  obtain ⟨c, ec⟩ : ∃ c : Nat, v % ((SX.S (ownL n)).length : Nat) = (c : Nat) := ⟨(v % ((SX.S (ownL n)).length : Nat)).toNat, by omega⟩
  rw [SX.S_len] at ec c1
  have cl : c < (ownL n).length := by omega
  dsimp only
  rw [SX.S_len, ec]
  refine ⟨_, rfl, _, rfl, zl _ (by omega), ?_⟩
  rw [cut_toS _ (Nat.le_of_lt cl)]
  have lt : ((ownL n).take c).length ≤ 200 := by
    rw [List.length_take]
    omega
  refine ⟨_, _, rfl, rfl, ?_, ?_⟩
  · rw [SX.S_len, SX.S_len]
    exact z500 (by omega)
  rw [SX.S_cat]
  refine ⟨_, rfl, _, rfl, _, rfl, zl _ (by omega), a ++ (ownL n).take c, a.length, ?_, cut_code cl, by rw [List.length_append]; omega, fun H6 s6 => ⟨true, rfl, if_f ?_⟩⟩
  · rw [SX.S_len]
    rfl
  refine ⟨_, rfl, 3, (by rw [← s_0]), rfl, by decide, _, _, rfl, rfl, ?_, ?_⟩
  · rw [SX.S_len, SX.S_len, List.length_replicate]
    exact z500 (by omega)
  rw [SX.S_cat]
  refine ⟨_, rfl, _, rfl, zl _ (by omega), (a ++ (ownL n ++ rest)) ++ List.replicate 3 48, (a ++ (ownL n ++ rest)).length, ?_, zeros_code _, by rw [List.length_append, List.length_replicate]; omega, fun H7 s7 => ⟨true, rfl, if_f ?_⟩⟩
  · rw [SX.S_len]
    rfl
  refine ⟨_, rfl, _, rfl, _, rfl, zl _ (by omega), a ++ (ownL n ++ rest), (a ++ (ownL n ++ rest)).length, ?_, end_code _, by omega, fun H8 s8 => ⟨true, rfl, if_t ?_⟩⟩
  · rw [SX.S_len]
    rfl
  refine ⟨_, rfl, _, rfl, by omega, fun H9 s9 => ⟨true, rfl, if_t ?_⟩⟩
  refine ⟨_, rfl, _, _, rfl, rfl, _, rfl, (by show (0 - ((n : Nat) : Int)).natAbs < 2 ^ 61; omega), fun HA sA => ?_⟩
  exact q HA ((Kp.of s04).trans (k5.trans (Kp.of ((s6.trans s7).trans (s8.trans (s9.trans sA))))))
end
end Tg

namespace Tg
open PySem PySem.Spec PyProof.Rows L2
theorem ne_f {v : V} : (!decide (v = v)) = false := by
  rw [decide_eq_true rfl]
  rfl
theorem cut_ints (ns : List Int) (lo hi : Option Int) : ∃ ms : List Int, cutV (ns.map V.int) lo hi = ms.map V.int ∧ ms.length ≤ ns.length := by
  unfold cutV
  refine ⟨(ns.drop (HT.sIx (ns.map V.int).length 0 lo)).take (HT.sIx (ns.map V.int).length (ns.map V.int).length hi - HT.sIx (ns.map V.int).length 0 lo), ?_, ?_⟩
  · rw [List.map_take]
    rw [List.map_drop]
  · rw [List.length_take, List.length_drop]
    omega
section
variable {P : Program} {w : World} {K : PySem.W.Frag} {mg : Str → Option Value} {base : Heap} {f : Addr} {fd : FuncData} {k : Nat}
def spRi : Sp := fun vs H Q _ => ∃ (p : Addr), vs = [.ref p] ∧ Dr H p 0 ∧ ∀ H', Kp p H H' → Q (.bl true) H'
theorem ok_ri (F : Fun K "_law_right" "_law_right" sRi f fd) (Z : Fns P w K mg base k) : FnOk P w K mg base CX0 (k + 1) f fd ["_law_draws_here"] spRi := by
  refine F.ok scRi (fun vs H Q E h => ?_) (fun cdv A outer s H vs Q E hr h => ?_)
  · obtain ⟨p, rfl, _⟩ := h
    rfl
  · obtain ⟨p, rfl, dr, q⟩ := h
    have tail := ri_t (p := p) (cdv := cdv) (outer := outer) (H0 := H) (E := E) hr Z
    obtain ⟨C_plain, C_plain_k, C_own, C_own_size, C_read_own, C_read_own_k, L_next, L_number, L_length, L_plain, L_own, L_refused, L_turns_right, m_abs, m_len, m_isinstance, m_bool⟩ := Z
    refine ⟨_, pss_cons (ps_set (i := 1) scRi.nd rfl (.inl rfl) (pe_callB call_abs (by rfl) m_abs (by decide +kernel) (pa_cons (pe_cal L_number (hr.mono (by omega)) (by rfl) (pa_cons (pv 0) pa_nil)) pa_nil)))
      (pss_cons (ps_set (i := 2) scRi.nd rfl (.inl rfl) (pe_op op_add (pe_cal L_length (hr.mono (by omega)) (by rfl) (pa_cons (pv 1) pa_nil)) (pe_op op_mod (pe_cal L_next (hr.mono (by omega)) (by rfl) (pa_cons (pv 0) pa_nil)) pe_int)))
      (pss_cons (ps_if (pt_cmpR op_ne (pe_cal C_plain (hr.mono (by omega)) (by rfl) (pa_cons (pv 1) (pa_cons (pv 2) pa_nil))) (pe_cal L_plain (hr.mono (by omega)) (by rfl) (pa_cons (pv 1) (pa_cons (pv 2) pa_nil))) (nomark _))
        (pss_one (ps_ret pe_bl))
        pss_nil)
      (pss_cons (ps_if (pt_cmpR op_ne (pe_calK C_plain_k (hr.mono (by omega)) (by rfl) (pk_cons (pv 2) (pk_cons (pv 1) pk_nil))) (pe_cal L_plain (hr.mono (by omega)) (by rfl) (pa_cons (pv 1) (pa_cons (pv 2) pa_nil))) (nomark _))
        (pss_one (ps_ret pe_bl))
        pss_nil)
      (pss_cons (ps_set (i := 3) scRi.nd rfl (.inl rfl) (pe_cal C_own (hr.mono (by omega)) (by rfl) (pa_cons (pv 1) pa_nil)))
      (pss_cons (ps_if (PW.pt (pw_or (pt_cmpR op_ne (pv 3) (pe_cal L_own (hr.mono (by omega)) (by rfl) (pa_cons (pv 1) pa_nil)) (nomark _)) (pw_or (pt_cmpR op_ne (pe_cal C_own_size (hr.mono (by omega)) (by rfl) (pa_cons (pv 1) pa_nil)) (pe_callB call_len_str (by rfl) m_len (by decide +kernel) (pa_cons (pv 3) pa_nil)) (nomark _)) (pw_or1 (pt_val (pe_callB call_isi (by rfl) m_isinstance (by decide +kernel) (pa_cons (pe_cal C_own_size (hr.mono (by omega)) (by rfl) (pa_cons (pv 1) pa_nil)) (pa_cons (pe_bltn (v := .ty "bool") (by rfl) m_bool (by decide +kernel) rfl) pa_nil))))))))
        (pss_one (ps_ret pe_bl))
        pss_nil)
      (pss_cons (ps_set (i := 4) scRi.nd rfl (.inl rfl) (pe_cal L_plain (hr.mono (by omega)) (by rfl) (pa_cons (pe_cal L_next (hr.mono (by omega)) (by rfl) (pa_cons (pv 0) pa_nil)) (pa_cons (pe_op op_mod (pe_cal L_next (hr.mono (by omega)) (by rfl) (pa_cons (pv 0) pa_nil)) pe_int) pa_nil))))
      (pss_cons (ps_set (i := 5) scRi.nd rfl (.inl rfl) (pe_cal L_plain (hr.mono (by omega)) (by rfl) (pa_cons (pe_cal L_next (hr.mono (by omega)) (by rfl) (pa_cons (pv 0) pa_nil)) (pa_cons (pe_op op_mod (pe_cal L_next (hr.mono (by omega)) (by rfl) (pa_cons (pv 0) pa_nil)) pe_int) pa_nil))))
      (pss_cons (ps_set (i := 6) scRi.nd rfl (.inl rfl) (pe_op op_add_str (pe_op op_add_str (pv 4) (pv 3)) (pv 5)))
      tail)))))))), ?_⟩
    refine ⟨_, rfl, p, 0, rfl, dr, by decide, fun v H1 k1 d1 v61 => ?_⟩
    have ea : (if v < 0 then -v else v) = ((v.natAbs : Nat) : Int) := by
      split <;> omega
    refine ⟨v, rfl, ?_⟩
    rw [ea]
    obtain ⟨n, en⟩ : ∃ n, v.natAbs = n := ⟨_, rfl⟩
    rw [en] at v61 ⊢
    have n63 : n < 2 ^ 63 := by omega
    have b64 : blen n ≤ 64 := blen_small (by omega)
    refine ⟨_, rfl, n, rfl, _, rfl, p, _, rfl, d1, by decide, fun x H2 k2 d2 x0 _ => ⟨_, _, rfl, rfl, (by show (0 : Int) < 4; decide), _, _, rfl, rfl, ?_⟩⟩
    obtain ⟨w, ew⟩ : ∃ w : Nat, ((blen n : Nat) : Int) + x % 4 = (w : Nat) := ⟨(((blen n : Nat) : Int) + x % 4).toNat, by omega⟩
    have w1 : blen n ≤ w := by omega
    have w2 : w ≤ 100 := by omega
    dsimp only
    rw [ew]
    refine ⟨_, rfl, _, rfl, n, w, rfl, w1, by omega, _, rfl, _, rfl, n, w, rfl, by omega, rfl, false, congrArg V.bl ne_f, if_f ?_⟩
    refine ⟨_, rfl, _, rfl, rfl, n, w, rfl, w1, by omega, _, rfl, _, rfl, n, w, rfl, by omega, rfl, false, congrArg V.bl ne_f, if_f ?_⟩
    refine ⟨_, rfl, n, rfl, n63, ?_⟩
    have lo := own_len n
    have o64 := own_64 n63
    have bp := blen_pos (show 0 < n + 1 by omega)
    refine ⟨_, rfl, _, rfl, n, rfl, n63, rfl, false, congrArg V.bl ne_f, if_f ?_⟩
    refine ⟨_, rfl, n, rfl, n63, _, rfl, _, rfl, (by rw [SX.S_len]; exact z500 (by omega)), rfl, false, (by rw [SX.S_len]; exact congrArg V.bl ne_f), if_f ?_⟩
    refine ⟨_, rfl, n, rfl, n63, .int _, .ty "bool", .type "int", .type "bool", false, rfl, .ty "bool", .base (.int _), rfl, false, rfl, if_f ?_⟩
    refine ⟨_, rfl, p, _, rfl, d2, by decide, fun x3 H3 k3 d3 x30 _ => ⟨_, rfl, p, _, rfl, d3, by decide, fun x4 H4 k4 d4 x40 _ => ⟨_, _, rfl, rfl, (by show (0 : Int) < 9; decide), ?_⟩⟩⟩
    obtain ⟨y3, e3⟩ : ∃ y : Nat, x3 = (y : Nat) := ⟨x3.toNat, by omega⟩
    obtain ⟨y4, e4⟩ : ∃ y : Nat, x4 % 9 = (y : Nat) := ⟨(x4 % 9).toNat, by omega⟩
    refine ⟨y3, y4, ?_, by omega, ?_⟩
    · dsimp only
      rw [e3, e4]
      rfl
    refine ⟨_, rfl, p, _, rfl, d4, by decide, fun x5 H5 k5 d5 x50 _ => ⟨_, rfl, p, _, rfl, d5, by decide, fun x6 H6 k6 d6 x60 _ => ⟨_, _, rfl, rfl, (by show (0 : Int) < 9; decide), ?_⟩⟩⟩
    obtain ⟨y5, e5⟩ : ∃ y : Nat, x5 = (y : Nat) := ⟨x5.toNat, by omega⟩
    obtain ⟨y6, e6⟩ : ∃ y : Nat, x6 % 9 = (y : Nat) := ⟨(x6 % 9).toNat, by omega⟩
    refine ⟨y5, y6, ?_, by omega, ?_⟩
    · dsimp only
      rw [e5, e6]
      rfl
    have la : (bt y4 y3).length ≤ 9 := by
      rw [bt_len]
      omega
    have lr : (bt y6 y5).length ≤ 9 := by
      rw [bt_len]
      omega
    refine ⟨_, rfl, _, rfl, _, _, rfl, rfl, ?_, _, rfl, _, _, rfl, rfl, ?_, ?_⟩
    · rw [SX.S_len, SX.S_len]
      exact z500 (by omega)
    · rw [SX.S_cat, SX.S_len, SX.S_len, List.length_append]
      exact z500 (by omega)
    rw [SX.S_cat, SX.S_cat, List.append_assoc]
    exact ⟨none, _, _, n, _, bt y4 y3, bt y6 y5, rfl, d6, by decide, v61, la, lr, fun H' k' => q H' ((k1.trans k2).trans (k3.trans (k4.trans (k5.trans (k6.trans k')))))⟩
def spLaw (K : PySem.W.Frag) : Sp := fun vs H Q _ => ∃ (a : Addr) (ns : List Int), vs = [.ref a] ∧ SqL K H a (ns.map V.int) ∧ ns.length ≤ 63 ∧ ∀ H', Q (.bl true) H'
theorem ok_law (F : Fun K "law" "law" sLaw f fd) (L_draws : Cal P w K mg base k "_law_draws" ["_law_cell"] spDraws) (L_right : Cal P w K mg base k "_law_right" ["_law_draws_here"] spRi) : FnOk P w K mg base CX0 (k + 1) f fd ["_law_script"] (spLaw K) := by
  refine F.ok scLaw (fun vs H Q E h => ?_) (fun cdv A outer s H vs Q E hr h => ?_)
  · obtain ⟨a, ns, rfl, _⟩ := h
    rfl
  · obtain ⟨a, ns, rfl, hS, hlen, q⟩ := h
    refine ⟨_, pss_cons (ps_for PassesOwn.never rfl (pi_list (pe_op op_cat (pe_slice sl_list (pv 0) po_none (po_some pe_int)) (pe_lst (pa_cons pe_int pa_nil)))) (pg_name (i := 1) scLaw.nd rfl (.inl rfl))
        (pss_one (ps_if (pt_not (pt_val (pe_cal L_right (hr.mono (by omega)) (by rfl) (pa_cons (pe_cal L_draws (hr.mono (by omega)) (by rfl) (pa_cons (pv 1) pa_nil)) pa_nil))))
          (pss_one (ps_ret pe_bl))
          pss_nil)))
      (pss_one (ps_ret pe_bl)), ?_⟩
    obtain ⟨ms, em, lm⟩ := cut_ints ns none (some 8)
    refine ⟨_, rfl, 8, rfl, a, _, rfl, hS, fun l1 n1 => ?_⟩
    rw [em]
    refine ⟨(by show 1 ≤ sizeLine; decide), fun l2 n2 => ?_⟩
    have s2 := same_new (o := .lst [.int 0]) n2
    refine ⟨l1, l2, _, _, rfl, rfl, s2 _ _ upd_same, upd_same, Nat.le_of_lt (small1000 (by rw [List.length_map]; show ms.length + 1 ≤ 1000; omega)), fun l3 n3 => ?_⟩
    have e3 : (ms.map V.int ++ [V.int 0]) = (ms ++ [0]).map V.int := by
      rw [List.map_append]
      rfl
    rw [e3]
    obtain ⟨H3, eH3⟩ : ∃ H3, upd (upd (upd H l1 (.lst (ms.map V.int))) l2 (.lst [.int 0])) l3 (.lst ((ms ++ [0]).map V.int)) = H3 := ⟨_, rfl⟩
    have m3 : H3 l3 = some (.lst ((ms ++ [0]).map V.int)) := by
      rw [← eH3]
      exact upd_same
    rw [eH3]
    refine ⟨l3, rfl, ⟨_, SqL.of m3⟩, for_list (K := K) (a := l3) (xs := (ms ++ [0]).map V.int) (fun i σ Hc => ∃ z1 : Option V, σ = [some (.ref a), z1] ∧ Same H3 Hc) ⟨none, rfl, Same.refl _⟩ ?_ ?_ ?_⟩
    · rintro i σ Hc _ ⟨_, _, h⟩
      exact SqL.of (h _ _ m3)
    · rintro i xv σ Hc hx ⟨z1, rfl, sc⟩
      obtain ⟨c, rfl⟩ : ∃ c : Int, xv = .int c := by
        rw [List.getElem?_map] at hx
        obtain ⟨c, _, e⟩ := Option.map_eq_some_iff.mp hx
        exact ⟨c, e.symm⟩
      refine ⟨_, rfl, c, rfl, fun p da db np => ?_⟩
      have sp := same_new (o := .lst [.int da, .int 0, .bl db]) np
      have d0 : Dr (upd Hc p (.lst [.int da, .int 0, .bl db])) p 0 := ⟨da, 0, db, upd_same, by decide, by decide⟩
      refine ⟨p, rfl, d0, fun H4 k4 => ⟨true, rfl, if_f ?_⟩⟩
      exact ⟨_, rfl, sc.trans (Kp.same sp np k4)⟩
    · rintro σ Hc ⟨_, rfl, _⟩
      exact q Hc
end
end Tg

namespace Tg
open PySem PySem.Spec PyProof.Rows L2
section
variable {K : PySem.W.Frag}
theorem kbn_1 {x a : Str} {st : Stmt} {f : Addr} {fd : FuncData} (F : Fun K x x st f fd) (h : ∀ (kV doc pm : Value) (an : Option Addr) (cdv ct u : Value), bindArgs (PySem.W.fnOf x x (defArgs st) (defBody st) (defScope st) .none kV doc pm an cdv ct) ⟨[], [(a, u)]⟩ = pure [(a, u)]) : KBn K fd [a] 0 [a] (fun _ ws => prm [0] ws) (fun _ zs => prm [0] zs) := by
  obtain ⟨_, _, kV, doc, pm, an, cdv, ct, _, rfl, _, _⟩ := F.ex
  exact ⟨fun s us ws _ h0 h2 => match us, ws, h0, h2 with | [], [u], _, _ => .of_eq (h kV doc pm an cdv ct u), fun _ r => prm_rel r _⟩
theorem kbn_2 {x a b : Str} {st : Stmt} {f : Addr} {fd : FuncData} (F : Fun K x x st f fd) (h : ∀ (kV doc pm : Value) (an : Option Addr) (cdv ct u v : Value), bindArgs (PySem.W.fnOf x x (defArgs st) (defBody st) (defScope st) .none kV doc pm an cdv ct) ⟨[], [(b, u), (a, v)]⟩ = pure [(a, v), (b, u)]) : KBn K fd [a, b] 0 [b, a] (fun _ ws => prm [1, 0] ws) (fun _ zs => prm [1, 0] zs) := by
  obtain ⟨_, _, kV, doc, pm, an, cdv, ct, _, rfl, _, _⟩ := F.ex
  exact ⟨fun s us ws _ h0 h2 => match us, ws, h0, h2 with | [], [u, v], _, _ => .of_eq (h kV doc pm an cdv ct u v), fun _ r => prm_rel r _⟩
end
/-! ### what the top has written; the law's own head -/
theorem all_mk {l : PySem.W.OpenLaw} {w : World} {K : PySem.W.Frag} {h : Heap} {mg : Str → Option Value} {fa CB C1 C2 C3 C4 f1 f2 f3 f4 f5 f6 f7 f8 f9 f10 f11 f12 f13 f14 f15 f16 f17 f18 : Addr} {nmCB qCB : Str} {NCB : Addr} {bsCB : List Value} {snCB : List Str} {subCB : List Value} {abCB : Bool} {colCB : Option Bool} {ddCB : Option Addr} {v0CB v1CB v2CB v3CB v5CB : Option Value} (X : K.In h) (G : h.Ns mainGlobals mg) (hfa : mg "law" = some (.ref fa))
    {od1 an1 od2 an2 od3 an3 od4 an4 od5 an5 od6 an6 od7 an7 od8 an8 od9 an9 od10 an10 od11 an11 od12 an12 od13 an13 od14 an14 od15 an15 od16 an16 od17 an17 od18 an18 : Option Addr} {sl1 sl2 sl3 sl4 sl5 sl6 sl7 sl8 sl9 sl10 sl11 sl12 sl13 sl14 sl15 sl16 sl17 sl18 : Array (Option Value)} {oc1 kV1 dc1 pm1 cd1 ct1 oc2 kV2 dc2 pm2 cd2 ct2 oc3 kV3 dc3 pm3 cd3 ct3 oc4 kV4 dc4 pm4 cd4 ct4 oc5 kV5 dc5 pm5 cd5 ct5 oc6 kV6 dc6 pm6 cd6 ct6 oc7 kV7 dc7 pm7 cd7 ct7 oc8 kV8 dc8 pm8 cd8 ct8 oc9 kV9 dc9 pm9 cd9 ct9 oc10 kV10 dc10 pm10 cd10 ct10 oc11 kV11 dc11 pm11 cd11 ct11 oc12 kV12 dc12 pm12 cd12 ct12 oc13 kV13 dc13 pm13 cd13 ct13 oc14 kV14 dc14 pm14 cd14 ct14 oc15 kV15 dc15 pm15 cd15 ct15 oc16 kV16 dc16 pm16 cd16 ct16 oc17 kV17 dc17 pm17 cd17 ct17 oc18 kV18 dc18 pm18 cd18 ct18 : Value}
    (aCB : PySem.W.nsIn K mainGlobals "NoBits" = some (some (.ref CB)))
    (xCB : K.lookup CB = some (excClassObj nmCB qCB CB NCB bsCB [.type "ValueError", .type "Exception", .type "BaseException", .type "object"] true snCB subCB abCB colCB ddCB v0CB v1CB v2CB v3CB v5CB "ValueError.__new__"))
    (saCB : PySem.W.findIn K (.ref CB) "__setattr__" = some (some (.builtin "object.__setattr__")))
    (gaCB : PySem.W.findIn K (.ref CB) "__getattribute__" = some (some (.builtin "BaseException.__getattribute__")))
    (ggCB : PySem.W.findIn K (.ref CB) "__getattr__" = some none)
    (noCB : PySem.W.findIn K (.ref CB) "at" = some none)
    (kcCB : PySem.W.keepIn K (.ref CB) = true)
    (ecCB : PySem.W.subIn K (.ref CB) (.type "BaseException") = some true)
    (tcCB : PySem.W.typeIn K (.ref CB) = some (.type "type"))
    (hcCB : PySem.W.hasDictIn K CB = true)
    (ccCB : PySem.W.findIn K (.ref CB) "__class__" = some (some (.builtin "object.__class__")))
    (moCB : PySem.W.mroIn K CB (.type "object") = some true)
    (xmCB : PySem.W.exmOne K (.ref CB) (.ref CB) = some true)
    (hnC : PySem.W.specialIn K (.builtin "object.__class__") "__get__" = some (some (.builtin "getset_descriptor.__get__")))
    (htC : PySem.W.takesIn K (.builtin "object.__class__") = some true)
    (vV : PySem.W.findCls K (.type "ValueError") (.type "type") "__init__" = some (.val (.builtin "ValueError.__init__")))
    (aC1 : PySem.W.nsIn K mainGlobals "NoBlock" = some (some (.ref C1)))
    (aC2 : PySem.W.nsIn K mainGlobals "NoLog" = some (some (.ref C2)))
    (aC3 : PySem.W.nsIn K mainGlobals "NoOrder" = some (some (.ref C3)))
    (aC4 : PySem.W.nsIn K mainGlobals "NoText" = some (some (.ref C4)))
    (a1 : PySem.W.findIn K (.ref CB) "__init__" = some (some (.ref f1)))
    (t1 : PySem.W.typeIn K (.ref f1) = some (.type "function"))
    (l1 : K.lookup f1 = some ⟨oc1, od1, .func (PySem.W.fnOf "__init__" "NoBits.__init__" (defArgs sErB) (defBody sErB) (defScope sErB) .none kV1 dc1 pm1 an1 cd1 ct1), sl1⟩)
    (c1 : PySem.W.codeIn K cd1 "NoBits.__init__" = true)
    (k1 : PySem.W.keepIn K (.ref f1) = true)
    (a2 : PySem.W.nsIn K mainGlobals "plain" = some (some (.ref f2)))
    (l2 : K.lookup f2 = some ⟨oc2, od2, .func (PySem.W.fnOf "plain" "plain" (defArgs sPl) (defBody sPl) (defScope sPl) .none kV2 dc2 pm2 an2 cd2 ct2), sl2⟩)
    (c2 : PySem.W.codeIn K cd2 "plain" = true)
    (k2 : PySem.W.keepIn K (.ref f2) = true)
    (a3 : PySem.W.nsIn K mainGlobals "turned" = some (some (.ref f3)))
    (l3 : K.lookup f3 = some ⟨oc3, od3, .func (PySem.W.fnOf "turned" "turned" (defArgs sTu) (defBody sTu) (defScope sTu) .none kV3 dc3 pm3 an3 cd3 ct3), sl3⟩)
    (c3 : PySem.W.codeIn K cd3 "turned" = true)
    (k3 : PySem.W.keepIn K (.ref f3) = true)
    (a4 : PySem.W.nsIn K mainGlobals "back" = some (some (.ref f4)))
    (l4 : K.lookup f4 = some ⟨oc4, od4, .func (PySem.W.fnOf "back" "back" (defArgs sBa) (defBody sBa) (defScope sBa) .none kV4 dc4 pm4 an4 cd4 ct4), sl4⟩)
    (c4 : PySem.W.codeIn K cd4 "back" = true)
    (k4 : PySem.W.keepIn K (.ref f4) = true)
    (a5 : PySem.W.nsIn K mainGlobals "own" = some (some (.ref f5)))
    (l5 : K.lookup f5 = some ⟨oc5, od5, .func (PySem.W.fnOf "own" "own" (defArgs sOw) (defBody sOw) (defScope sOw) .none kV5 dc5 pm5 an5 cd5 ct5), sl5⟩)
    (c5 : PySem.W.codeIn K cd5 "own" = true)
    (k5 : PySem.W.keepIn K (.ref f5) = true)
    (a6 : PySem.W.nsIn K mainGlobals "own_size" = some (some (.ref f6)))
    (l6 : K.lookup f6 = some ⟨oc6, od6, .func (PySem.W.fnOf "own_size" "own_size" (defArgs sOz) (defBody sOz) (defScope sOz) .none kV6 dc6 pm6 an6 cd6 ct6), sl6⟩)
    (c6 : PySem.W.codeIn K cd6 "own_size" = true)
    (k6 : PySem.W.keepIn K (.ref f6) = true)
    (a7 : PySem.W.nsIn K mainGlobals "read_own" = some (some (.ref f7)))
    (l7 : K.lookup f7 = some ⟨oc7, od7, .func (PySem.W.fnOf "read_own" "read_own" (defArgs sRO) (defBody sRO) (defScope sRO) .none kV7 dc7 pm7 an7 cd7 ct7), sl7⟩)
    (c7 : PySem.W.codeIn K cd7 "read_own" = true)
    (k7 : PySem.W.keepIn K (.ref f7) = true)
    (a8 : PySem.W.nsIn K mainGlobals "_law_draws" = some (some (.ref f8)))
    (l8 : K.lookup f8 = some ⟨oc8, od8, .func (PySem.W.fnOf "_law_draws" "_law_draws" (defArgs sDraws) (defBody sDraws) (defScope sDraws) .none kV8 dc8 pm8 an8 cd8 ct8), sl8⟩)
    (c8 : PySem.W.codeIn K cd8 "_law_draws" = true)
    (k8 : PySem.W.keepIn K (.ref f8) = true)
    (a9 : PySem.W.nsIn K mainGlobals "_law_next" = some (some (.ref f9)))
    (l9 : K.lookup f9 = some ⟨oc9, od9, .func (PySem.W.fnOf "_law_next" "_law_next" (defArgs sNext) (defBody sNext) (defScope sNext) .none kV9 dc9 pm9 an9 cd9 ct9), sl9⟩)
    (c9 : PySem.W.codeIn K cd9 "_law_next" = true)
    (k9 : PySem.W.keepIn K (.ref f9) = true)
    (a10 : PySem.W.nsIn K mainGlobals "_law_number" = some (some (.ref f10)))
    (l10 : K.lookup f10 = some ⟨oc10, od10, .func (PySem.W.fnOf "_law_number" "_law_number" (defArgs sNu) (defBody sNu) (defScope sNu) .none kV10 dc10 pm10 an10 cd10 ct10), sl10⟩)
    (c10 : PySem.W.codeIn K cd10 "_law_number" = true)
    (k10 : PySem.W.keepIn K (.ref f10) = true)
    (a11 : PySem.W.nsIn K mainGlobals "_law_length" = some (some (.ref f11)))
    (l11 : K.lookup f11 = some ⟨oc11, od11, .func (PySem.W.fnOf "_law_length" "_law_length" (defArgs sLe) (defBody sLe) (defScope sLe) .none kV11 dc11 pm11 an11 cd11 ct11), sl11⟩)
    (c11 : PySem.W.codeIn K cd11 "_law_length" = true)
    (k11 : PySem.W.keepIn K (.ref f11) = true)
    (a12 : PySem.W.nsIn K mainGlobals "_law_plain" = some (some (.ref f12)))
    (l12 : K.lookup f12 = some ⟨oc12, od12, .func (PySem.W.fnOf "_law_plain" "_law_plain" (defArgs sLP) (defBody sLP) (defScope sLP) .none kV12 dc12 pm12 an12 cd12 ct12), sl12⟩)
    (c12 : PySem.W.codeIn K cd12 "_law_plain" = true)
    (k12 : PySem.W.keepIn K (.ref f12) = true)
    (a13 : PySem.W.nsIn K mainGlobals "_law_own" = some (some (.ref f13)))
    (l13 : K.lookup f13 = some ⟨oc13, od13, .func (PySem.W.fnOf "_law_own" "_law_own" (defArgs sLO) (defBody sLO) (defScope sLO) .none kV13 dc13 pm13 an13 cd13 ct13), sl13⟩)
    (c13 : PySem.W.codeIn K cd13 "_law_own" = true)
    (k13 : PySem.W.keepIn K (.ref f13) = true)
    (a14 : PySem.W.nsIn K mainGlobals "_law_turned" = some (some (.ref f14)))
    (l14 : K.lookup f14 = some ⟨oc14, od14, .func (PySem.W.fnOf "_law_turned" "_law_turned" (defArgs sLT) (defBody sLT) (defScope sLT) .none kV14 dc14 pm14 an14 cd14 ct14), sl14⟩)
    (c14 : PySem.W.codeIn K cd14 "_law_turned" = true)
    (k14 : PySem.W.keepIn K (.ref f14) = true)
    (a15 : PySem.W.nsIn K mainGlobals "_law_refused" = some (some (.ref f15)))
    (l15 : K.lookup f15 = some ⟨oc15, od15, .func (PySem.W.fnOf "_law_refused" "_law_refused" (defArgs sRef) (defBody sRef) (defScope sRef) .none kV15 dc15 pm15 an15 cd15 ct15), sl15⟩)
    (c15 : PySem.W.codeIn K cd15 "_law_refused" = true)
    (k15 : PySem.W.keepIn K (.ref f15) = true)
    (a16 : PySem.W.nsIn K mainGlobals "_law_turns_right" = some (some (.ref f16)))
    (l16 : K.lookup f16 = some ⟨oc16, od16, .func (PySem.W.fnOf "_law_turns_right" "_law_turns_right" (defArgs sTR) (defBody sTR) (defScope sTR) .none kV16 dc16 pm16 an16 cd16 ct16), sl16⟩)
    (c16 : PySem.W.codeIn K cd16 "_law_turns_right" = true)
    (k16 : PySem.W.keepIn K (.ref f16) = true)
    (a17 : PySem.W.nsIn K mainGlobals "_law_right" = some (some (.ref f17)))
    (l17 : K.lookup f17 = some ⟨oc17, od17, .func (PySem.W.fnOf "_law_right" "_law_right" (defArgs sRi) (defBody sRi) (defScope sRi) .none kV17 dc17 pm17 an17 cd17 ct17), sl17⟩)
    (c17 : PySem.W.codeIn K cd17 "_law_right" = true)
    (k17 : PySem.W.keepIn K (.ref f17) = true)
    (a18 : PySem.W.nsIn K mainGlobals "law" = some (some (.ref f18)))
    (l18 : K.lookup f18 = some ⟨oc18, od18, .func (PySem.W.fnOf "law" "law" (defArgs sLaw) (defBody sLaw) (defScope sLaw) .none kV18 dc18 pm18 an18 cd18 ct18), sl18⟩)
    (c18 : PySem.W.codeIn K cd18 "law" = true)
    (k18 : PySem.W.keepIn K (.ref f18) = true)
    (z_range : PySem.W.nsIn K mainGlobals "range" = some none)
    (z_len : PySem.W.nsIn K mainGlobals "len" = some none)
    (z_abs : PySem.W.nsIn K mainGlobals "abs" = some none)
    (z_int : PySem.W.nsIn K mainGlobals "int" = some none)
    (z_bool : PySem.W.nsIn K mainGlobals "bool" = some none)
    (z_isinstance : PySem.W.nsIn K mainGlobals "isinstance" = some none)
    (z_ValueError : PySem.W.nsIn K mainGlobals "ValueError" = some none)
    (kitV : PySem.W.kitOne K (.ref CB) (.type "ValueError") = some true)
    (kitN : PySem.W.kitAny K (.ref CB) [.ref C1, .ref C2, .ref C3, .ref C4] = some false)
    : ∃ fd : FuncData, (∀ (s : Shared) (v : Value), BindsTo s fd ⟨[v], []⟩ [("_law_script", v)]) ∧ ∀ base : Heap, K.In base → base.Ns mainGlobals mg → FnOk l.prog w K mg base CX0 6 fa fd ["_law_script"] (spLaw K) := by
  have e := hfa.symm.trans (PySem.W.mg_of X G a18)
  cases e
  have F1 := fun_mk (st := sErB) l1 c1 k1
  have F2 := fun_mk (st := sPl) l2 c2 k2
  have F3 := fun_mk (st := sTu) l3 c3 k3
  have F4 := fun_mk (st := sBa) l4 c4 k4
  have F5 := fun_mk (st := sOw) l5 c5 k5
  have F6 := fun_mk (st := sOz) l6 c6 k6
  have F7 := fun_mk (st := sRO) l7 c7 k7
  have F8 := fun_mk (st := sDraws) l8 c8 k8
  have F9 := fun_mk (st := sNext) l9 c9 k9
  have F10 := fun_mk (st := sNu) l10 c10 k10
  have F11 := fun_mk (st := sLe) l11 c11 k11
  have F12 := fun_mk (st := sLP) l12 c12 k12
  have F13 := fun_mk (st := sLO) l13 c13 k13
  have F14 := fun_mk (st := sLT) l14 c14 k14
  have F15 := fun_mk (st := sRef) l15 c15 k15
  have F16 := fun_mk (st := sTR) l16 c16 k16
  have F17 := fun_mk (st := sRi) l17 c17 k17
  have F18 := fun_mk (st := sLaw) l18 c18 k18
  have b1 := F1.binds (ps := ["self", "at"]) fun _ _ _ _ _ _ us hl => match us, hl with | [_, _], _ => rfl
  have b2 := F2.binds (ps := ["number", "width"]) fun _ _ _ _ _ _ us hl => match us, hl with | [_, _], _ => rfl
  have b3 := F3.binds (ps := ["number"]) fun _ _ _ _ _ _ us hl => match us, hl with | [_], _ => rfl
  have b4 := F4.binds (ps := ["number"]) fun _ _ _ _ _ _ us hl => match us, hl with | [_], _ => rfl
  have b5 := F5.binds (ps := ["number"]) fun _ _ _ _ _ _ us hl => match us, hl with | [_], _ => rfl
  have b6 := F6.binds (ps := ["number"]) fun _ _ _ _ _ _ us hl => match us, hl with | [_], _ => rfl
  have b7 := F7.binds (ps := ["bits", "at"]) fun _ _ _ _ _ _ us hl => match us, hl with | [_, _], _ => rfl
  have b8 := F8.binds (ps := ["_law_cell"]) fun _ _ _ _ _ _ us hl => match us, hl with | [_], _ => rfl
  have b9 := F9.binds (ps := ["_law_draws_here"]) fun _ _ _ _ _ _ us hl => match us, hl with | [_], _ => rfl
  have b10 := F10.binds (ps := ["_law_draws_here"]) fun _ _ _ _ _ _ us hl => match us, hl with | [_], _ => rfl
  have b11 := F11.binds (ps := ["_law_a_number"]) fun _ _ _ _ _ _ us hl => match us, hl with | [_], _ => rfl
  have b12 := F12.binds (ps := ["_law_a_number", "_law_a_width"]) fun _ _ _ _ _ _ us hl => match us, hl with | [_, _], _ => rfl
  have b13 := F13.binds (ps := ["_law_a_number"]) fun _ _ _ _ _ _ us hl => match us, hl with | [_], _ => rfl
  have b14 := F14.binds (ps := ["_law_a_number"]) fun _ _ _ _ _ _ us hl => match us, hl with | [_], _ => rfl
  have b15 := F15.binds (ps := ["_law_a_bits", "_law_a_at"]) fun _ _ _ _ _ _ us hl => match us, hl with | [_, _], _ => rfl
  have b16 := F16.binds (ps := ["_law_a_number"]) fun _ _ _ _ _ _ us hl => match us, hl with | [_], _ => rfl
  have b17 := F17.binds (ps := ["_law_draws_here"]) fun _ _ _ _ _ _ us hl => match us, hl with | [_], _ => rfl
  have g2 := PySem.W.mg_of X G a2
  have g3 := PySem.W.mg_of X G a3
  have g4 := PySem.W.mg_of X G a4
  have g5 := PySem.W.mg_of X G a5
  have g6 := PySem.W.mg_of X G a6
  have g7 := PySem.W.mg_of X G a7
  have g8 := PySem.W.mg_of X G a8
  have g9 := PySem.W.mg_of X G a9
  have g10 := PySem.W.mg_of X G a10
  have g11 := PySem.W.mg_of X G a11
  have g12 := PySem.W.mg_of X G a12
  have g13 := PySem.W.mg_of X G a13
  have g14 := PySem.W.mg_of X G a14
  have g15 := PySem.W.mg_of X G a15
  have g16 := PySem.W.mg_of X G a16
  have g17 := PySem.W.mg_of X G a17
  have gC1 := PySem.W.mg_of X G aC1
  have gC2 := PySem.W.mg_of X G aC2
  have gC3 := PySem.W.mg_of X G aC3
  have gC4 := PySem.W.mg_of X G aC4
  have gCB := PySem.W.mg_of X G aCB
  have OCB : OexC K CB := ⟨⟨nmCB, qCB, NCB, bsCB, _, snCB, subCB, abCB, colCB, ddCB, v0CB, v1CB, v2CB, v3CB, v5CB, xCB, by decide +kernel⟩, saCB, ecCB, tcCB, kcCB⟩
  have ECB : ExcC K CB := ⟨gaCB, ggCB, ecCB, hcCB, ccCB, hnC, htC, moCB⟩
  have XCB : XfC K CB := ⟨gaCB, ggCB, ecCB, hcCB⟩
  have m_range := PySem.W.mg_none_of X G z_range
  have m_len := PySem.W.mg_none_of X G z_len
  have m_abs := PySem.W.mg_none_of X G z_abs
  have m_int := PySem.W.mg_none_of X G z_int
  have m_bool := PySem.W.mg_none_of X G z_bool
  have m_isinstance := PySem.W.mg_none_of X G z_isinstance
  have m_ValueError := PySem.W.mg_none_of X G z_ValueError
  refine ⟨PySem.W.fnOf "law" "law" (defArgs sLaw) (defBody sLaw) (defScope sLaw) .none kV18 dc18 pm18 an18 cd18 ct18, fun s v => .of_eq rfl, fun base _ _ => ?_⟩
  have CE : CalE l.prog w K mg base 1 "NoBits" CB "at" := ⟨f1, _, OCB, a1, t1, ok_errB (k := 0) F1 OCB noCB m_ValueError vV, b1, gCB⟩
  have ER : Errs K mg CB C1 C2 C3 C4 := ⟨gCB, gC1, gC2, gC3, gC4, m_isinstance, m_ValueError, kitV, kitN, ECB, XCB, noCB, xmCB⟩
  have PL : ∀ j, FnOk l.prog w K mg base CX0 (j + 1) f2 _ ["number", "width"] spPl := fun j => ok_pl F2
  have OW : ∀ j, FnOk l.prog w K mg base CX0 (j + 1) f5 _ ["number"] spOw := fun j => ok_ow F5 m_len
  have OZ : ∀ j, FnOk l.prog w K mg base CX0 (j + 1) f6 _ ["number"] spOz := fun j => ok_oz F6
  have TU : ∀ j, FnOk l.prog w K mg base CX0 (j + 1) f3 _ ["number"] spTu := fun j => ok_tu F3
  have BA : ∀ j, FnOk l.prog w K mg base CX0 (j + 1) f4 _ ["number"] spBa := fun j => ok_ba F4
  have RO : ∀ j, FnOk l.prog w K mg base CX0 (j + 1) f7 _ ["bits", "at"] (spRO K) := fun j => ok_ro F7 m_len m_int
  have LN : ∀ j, Cal l.prog w K mg base (j + 1) "_law_next" ["_law_draws_here"] spNext := fun j => ⟨f9, _, ok_next F9, g9, k9, b9⟩
  have LE : ∀ j, Cal l.prog w K mg base (j + 1) "_law_length" ["_law_a_number"] spLe := fun j => ⟨f11, _, ok_le F11, g11, k11, b11⟩
  have LP : ∀ j, Cal l.prog w K mg base (j + 1) "_law_plain" ["_law_a_number", "_law_a_width"] spLP := fun j => ⟨f12, _, ok_lp F12 m_range, g12, k12, b12⟩
  have LO : ∀ j, Cal l.prog w K mg base (j + 2) "_law_own" ["_law_a_number"] spLO := fun j => ⟨f13, _, ok_lo (k := j + 1) F13 (LE j) (LP j), g13, k13, b13⟩
  have RF : Cal l.prog w K mg base 4 "_law_refused" ["_law_a_bits", "_law_a_at"] spRef := ⟨f15, _, ok_ref (k := 3) F15 ER ⟨f7, _, ok_roN (k := 1) F7 m_len CE, g7, k7, b7⟩, g15, k15, b15⟩
  have TR : Cal l.prog w K mg base 4 "_law_turns_right" ["_law_a_number"] spTR := ⟨f16, _, ok_tr (k := 3) F16 ⟨f3, _, TU 2, g3, k3, b3⟩ ⟨f3, _, TU 2, g3, k3, kbn_1 F3 fun _ _ _ _ _ _ _ => rfl⟩ ⟨f4, _, BA 2, g4, k4, b4⟩ ⟨f4, _, BA 2, g4, k4, kbn_1 F4 fun _ _ _ _ _ _ _ => rfl⟩ ⟨f5, _, OW 2, g5, k5, kbn_1 F5 fun _ _ _ _ _ _ _ => rfl⟩ ⟨f6, _, OZ 2, g6, k6, kbn_1 F6 fun _ _ _ _ _ _ _ => rfl⟩ ⟨f14, _, ok_lt F14 m_int, g14, k14, b14⟩ (LO 1) m_isinstance m_bool m_len m_abs, g16, k16, b16⟩
  have Z : Fns l.prog w K mg base 4 := ⟨⟨f2, _, PL 3, g2, k2, b2⟩, ⟨f2, _, PL 3, g2, k2, kbn_2 F2 fun _ _ _ _ _ _ _ _ => rfl⟩, ⟨f5, _, OW 3, g5, k5, b5⟩, ⟨f6, _, OZ 3, g6, k6, b6⟩, ⟨f7, _, RO 3, g7, k7, b7⟩, ⟨f7, _, RO 3, g7, k7, kbn_2 F7 fun _ _ _ _ _ _ _ _ => rfl⟩, LN 3, ⟨f10, _, ok_nu (k := 3) F10 (LN 2), g10, k10, b10⟩, LE 3, LP 3, LO 2, RF, TR, m_abs, m_len, m_isinstance, m_bool⟩
  exact ok_law (k := 5) F18 ⟨f8, _, ok_draws F8 m_range, g8, k8, b8⟩ ⟨f17, _, ok_ri F17 Z, g17, k17, b17⟩
end Tg
open PySem PySem.W PyProof.Rows
set_option maxRecDepth 100000 in
set_option maxHeartbeats 0 in
theorem PySem.Challenge.cw_timegranary_k20_codes_of_numbers_holds : PySem.Challenge.rw_timegranary_k20_codes_of_numbers.Holds := by
  w_on; o_law; k_head; (case hw => w_witness2)
  k_fill
  refine L2.walk_of (l := PySem.Challenge.rw_timegranary_k20_codes_of_numbers) (n := 63) (k := 6) (x := "_law_script") (CX := fun _ => L2.CX0) (sp := fun w => Tg.spLaw _) rfl (by decide) rfl ⟨rfl, by decide, by decide⟩ (fun w h Y => PySem.W.kIn_of Y) ?F (fun _ _ a ns hl _ hS => ⟨a, ns, rfl, hS, hl, fun _ => rfl⟩) (fun _ _ _ _ _ h => h)
  case F =>
    intro w mg fa h KX G hmg
    refine' Tg.all_mk KX G hmg ?aCB ?xCB ?saCB ?gaCB ?ggCB ?noCB ?kcCB ?ecCB ?tcCB ?hcCB ?ccCB ?moCB ?xmCB ?hnC ?htC ?vV ?aC1 ?aC2 ?aC3 ?aC4 ?a1 ?t1 ?l1 ?c1 ?k1 ?a2 ?l2 ?c2 ?k2 ?a3 ?l3 ?c3 ?k3 ?a4 ?l4 ?c4 ?k4 ?a5 ?l5 ?c5 ?k5 ?a6 ?l6 ?c6 ?k6 ?a7 ?l7 ?c7 ?k7 ?a8 ?l8 ?c8 ?k8 ?a9 ?l9 ?c9 ?k9 ?a10 ?l10 ?c10 ?k10 ?a11 ?l11 ?c11 ?k11 ?a12 ?l12 ?c12 ?k12 ?a13 ?l13 ?c13 ?k13 ?a14 ?l14 ?c14 ?k14 ?a15 ?l15 ?c15 ?k15 ?a16 ?l16 ?c16 ?k16 ?a17 ?l17 ?c17 ?k17 ?a18 ?l18 ?c18 ?k18 ?z_range ?z_len ?z_abs ?z_int ?z_bool ?z_isinstance ?z_ValueError ?kitV ?kitN
    (case aCB => k_is); (case xCB => k_is); (case saCB => k_is); (case gaCB => k_is); (case ggCB => k_is); (case noCB => k_is)
    (case kcCB => k_is); (case ecCB => k_is); (case tcCB => k_is); (case hcCB => k_is); (case ccCB => k_is); (case moCB => k_is)
    (case xmCB => first | k_is | rfl); (case hnC => k_is); (case htC => k_is); (case vV => first | k_is | rfl); (case aC1 => k_is); (case aC2 => k_is)
    (case aC3 => k_is); (case aC4 => k_is); (case a1 => k_is); (case t1 => k_is); (case l1 => k_is); (case c1 => k_is)
    (case k1 => k_is); (case a2 => k_is); (case l2 => k_is); (case c2 => k_is); (case k2 => k_is); (case a3 => k_is)
    (case l3 => k_is); (case c3 => k_is); (case k3 => k_is); (case a4 => k_is); (case l4 => k_is); (case c4 => k_is)
    (case k4 => k_is); (case a5 => k_is); (case l5 => k_is); (case c5 => k_is); (case k5 => k_is); (case a6 => k_is)
    (case l6 => k_is); (case c6 => k_is); (case k6 => k_is); (case a7 => k_is); (case l7 => k_is); (case c7 => k_is)
    (case k7 => k_is); (case a8 => k_is); (case l8 => k_is); (case c8 => k_is); (case k8 => k_is); (case a9 => k_is)
    (case l9 => k_is); (case c9 => k_is); (case k9 => k_is); (case a10 => k_is); (case l10 => k_is); (case c10 => k_is)
    (case k10 => k_is); (case a11 => k_is); (case l11 => k_is); (case c11 => k_is); (case k11 => k_is); (case a12 => k_is)
    (case l12 => k_is); (case c12 => k_is); (case k12 => k_is); (case a13 => k_is); (case l13 => k_is); (case c13 => k_is)
    (case k13 => k_is); (case a14 => k_is); (case l14 => k_is); (case c14 => k_is); (case k14 => k_is); (case a15 => k_is)
    (case l15 => k_is); (case c15 => k_is); (case k15 => k_is); (case a16 => k_is); (case l16 => k_is); (case c16 => k_is)
    (case k16 => k_is); (case a17 => k_is); (case l17 => k_is); (case c17 => k_is); (case k17 => k_is); (case a18 => k_is)
    (case l18 => k_is); (case c18 => k_is); (case k18 => k_is); (case z_range => k_is); (case z_len => k_is); (case z_abs => k_is)
    (case z_int => k_is); (case z_bool => k_is); (case z_isinstance => k_is); (case z_ValueError => k_is); (case kitV => first | k_is | rfl); (case kitN => first | k_is | rfl)

