import PyProof.Rows.All
import Wide.All
import OpenK.AllK
import Wide.FinOn
import HandS.ForMost
import HandS.Conv
import HandS.Wide
import HandS.IsInst
import HandS.Defaults
import HandS.Iter
import HandS.Walk
import HandS.Exc
import HandS.ExcInit
import HandS.ExcIs
import HandS.ExcField
import HandS.ExcValue
import KE.KExcIs
import KE.KTryMore
import HandS.WordsExc
import HandS.ExcOwn
import HandS.FStr
import HandS.IntHex
import PyProof.FString3
import PyProof.Rows.StrIntSpec
import HandS.Codes
import HandS.StrMore
import PyProof.StrLawsFrom
import HandS.DictComp
import HandS.SetFor
import HandS.Strs
import HandS.SortInts
import HandS.WrittenGet
import PyProof.ReprRoads
import HandS.OwnEq
import PyProof.InstSpecial
import HandS.Deep
import HandS.WideBits
import PySem.Challenge.RW_timegranary_k24_bits_that_tell_columns
import HandS.More
import HandS.CallLocal
import HandS.NoneIn
set_option Elab.async false
set_option linter.all false
set_option maxRecDepth 100000
namespace Tg
open PySem PySem.Spec PyProof.Rows L2

/-! ### rules of my own: a call by keywords alone; list(range(a, b, c)) -/
section
variable {X : Cx} {CX : CXT} {k : Nat} {f : Addr} {fd : FuncData} {ps ks : List Str} {sp : Sp} {E : XK} {x : Str} {p pos : Pos} {kws : List Keyword} {tk : TA}
  {g : List Value → List Value → List Value} {gV : List V → List V → List V}
def tKw0 (n : Nat) (sp : Sp) (gV : List V → List V → List V) (E : XK) (tk : TA) : TE :=
  fun σ H Q => tk σ H fun zs H2 => zs.length = n ∧ sp (gV [] zs) H2 Q E
theorem pe_kw0 (F : FnOk X.prog X.w X.K X.mg X.base CX k f fd ps sp) (room : Room k X.A) (gl : Gl X x) (at_x : X.mg x = some (.ref f)) (kept : PySem.W.keepIn X.K (.ref f) = true) (binds : KBn X.K fd ps 0 ks g gV) (lets : Passes CX X E) (vals : PK X kws tk)
    (named : (backToKw pos (keywordEach kws X.env)).all (·.1.isSome) = true := by rfl) (names : (backToKw pos (keywordEach kws X.env)).filterMap (·.1) = ks := by rfl) (nodebug : (x == ("__debug__" : Str)) = false := by decide)
    (nostar : ((backTo pos (starEach [] X.env)).any (·.1) || (backToKw pos (keywordEach kws X.env)).any (·.1.isNone)) = false := by rfl) : PE X (.Call (.Name x p) [] kws pos) (tKw0 ks.length sp gV E tk) := by
  constructor
  intro pins s σ H Q I read
  refine wpAny_Call_Name_kw (ld_glob I gl at_x (PySem.W.callWith_KW0 (h₀ := X.base) I.ok.mod.kin kept named (thn (vals.run pos pins s σ H _ I read) fun ws s2 y => ?_) nostar) nodebug)
  obtain ⟨zs, H2, J, rel, many, h⟩ := y
  rw [names]
  exact ⟨J.kIn, run_fnN (us := []) (vs := []) F room binds lets J .nil rel rfl many h⟩
end

/-- two keywords, the second parameter's first -/
def sw2 {α : Type} : List α → List α
  | [y, x] => [x, y]
  | _ => []
/-- three keywords, the parameters' from the last on -/
def sw3 {α : Type} : List α → List α
  | [z, y, x] => [x, y, z]
  | _ => []
theorem sw2_rel : ∀ {zs : List V} {ws : List Value}, Vals zs ws → Vals (sw2 zs) (sw2 ws)
  | _, _, .nil => .nil
  | _, _, .cons _ .nil => .nil
  | _, _, .cons a (.cons b .nil) => .cons b (.cons a .nil)
  | _, _, .cons _ (.cons _ (.cons _ _)) => .nil
theorem sw3_rel : ∀ {zs : List V} {ws : List Value}, Vals zs ws → Vals (sw3 zs) (sw3 ws)
  | _, _, .nil => .nil
  | _, _, .cons _ .nil => .nil
  | _, _, .cons _ (.cons _ .nil) => .nil
  | _, _, .cons a (.cons b (.cons c .nil)) => .cons c (.cons b (.cons a .nil))
  | _, _, .cons _ (.cons _ (.cons _ (.cons _ _))) => .nil

section
variable {X : Cx} {a b c : Expr} {ta : TA}
def rg3 (a c : Int) (n : Nat) : List V := (List.range n).map fun i => V.int (a + (i : Nat) * c)
theorem rg3_length (a c : Int) (n : Nat) : (rg3 a c n).length = n := by
  simp [rg3]
def R3 (a b c : Int) (n : Nat) : Prop :=
  c ≠ 0 ∧ c.natAbs.log2 < 9000 ∧ Builtin.Range.small a b c = true ∧ Builtin.Range.rangeSize a b c = n ∧ n ≤ 2 ^ 24
def tLst3 (ta : TA) : TE := fun σ H Q => ta σ H fun vs H1 => ∃ (a b c : Int) (n : Nat), vs = [.int a, .int b, .int c] ∧ R3 a b c n ∧
  ∀ q, H1 q = none → Q (.ref q) (upd H1 q (.lst (rg3 a c n)))
theorem pe_lst3 {p p2 pos pos2 : Pos} (calm : X.calm = true) (gl : Gl X "list") (nl : X.mg "list" = none) (gr : Gl X "range") (nr : X.mg "range" = none) (args : PA X [a, b, c] ta)
    (one : starEach [a, b, c] X.env = (false, eval a X.env) :: starEach [b, c] X.env := by rfl) (nostar : (backTo pos2 (starEach [b, c] X.env)).any (·.1) = false := by rfl)
    (whole : starEach [.Call (.Name "range" p2) [a, b, c] [] pos2] X.env = (false, eval (.Call (.Name "range" p2) [a, b, c] [] pos2) X.env) :: starEach [] X.env := by rfl) :
    PE X (.Call (.Name "list" p) [.Call (.Name "range" p2) [a, b, c] [] pos2] [] pos) (tLst3 ta) := by
  constructor
  intro pins s σ H Q I read
  refine Call_ (ld_blt I gl nl boot_list (PyProof.Rows.callWith_type1 (args_cons (Call_ (ld_blt I gr nr boot_range (PyProof.Rows.callWith_type1 (thn (args.run pos2 pins s σ H _ I read) fun us s1 y => ?_) one nostar))) whole) whole))
  obtain ⟨zs, H1, J, rel, i, j, k, n, e, ⟨c0, c1, c2, c3, c4⟩, h⟩ := y
  subst e
  match us, rel with
  | [_, _, _], .cons ⟨t, ei⟩ (.cons ⟨u, ej⟩ (.cons ⟨v, ek⟩ .nil)) =>
    subst ei
    subst ej
    subst ek
    refine call_range_3 c0 (args_nil ?_) (.inl (PyProof.noPylong_of_log2 c1))
    obtain ⟨hx, ehx⟩ : ∃ hx, hx = s1.heap.push { cls := .type "range", data := .fields #[.int i t, .int j u, .int k v] } := ⟨_, rfl⟩
    have J2 : Inv X pins σ H1 { s1 with heap := hx } := by
      rw [ehx]
      exact J.kept (t' := s1.toks) fun _ _ z => Heap.get?_push_of_some _ z
    rw [← ehx]
    refine call_list_range (s := { s1 with heap := hx }) (n := n) (J2.ok.hd calm) (by rw [ehx]; exact IsRange.new ..) c2 c3 c4 fun h' tk acc cc kp made items => ?_
    have len : acc.toList.length = n := Array.length_toList.trans items.1
    have vals : Vals (rg3 i k n) acc.toList := by
      have z := vals_of_get acc.toList (fun m : Nat => V.int (i + m * k)) fun m w hw => by
        obtain ⟨tw, ew⟩ := items.2 m w (by rw [← hw, Array.getElem?_toList])
        exact ⟨tw, ew⟩
      rw [len] at z
      exact z
    refine ⟨.ref hx.objs.size, upd H1 hx.objs.size (.lst (rg3 i k n)), J2.laid kp (Nat.le_refl _) (show ObjOk X.prog X.w _ _ _ (.lst (rg3 i k n)) from ⟨?_, acc.toList, cc, vals, ?_⟩), rfl, h _ (J2.hok.fresh (Nat.le_refl _))⟩
    · rw [rg3_length, sizeLine_eq]
      omega
    · rw [Array.toArray_toList]
      exact made
end

/-! ### lists of ints, compared -/
theorem dp_ints {K : PySem.W.Frag} {H : Hp} : ∀ ns : List Int, DpAll K H (ns.map V.int) (ns.map PyData.int)
  | [] => .nil
  | n :: r => .cons (.int n) (dp_ints r)
theorem lay_ints : ∀ ns : List Int, PyData.canLayAll0 (ns.map PyData.int) = true
  | [] => rfl
  | n :: r => by
    show (true && PyData.canLayAll0 (r.map PyData.int)) = true
    rw [lay_ints r]
    rfl
theorem depth_ints : ∀ ns : List Int, PyData.depthAll (ns.map PyData.int) = 0
  | [] => rfl
  | n :: r => by
    show max 0 (PyData.depthAll (r.map PyData.int)) = 0
    rw [depth_ints r]
    rfl
theorem shaped_ints (ns : List Int) : SeqAt.shaped (.list (ns.map PyData.int)) = true := by
  unfold SeqAt.shaped
  have h1 : PyData.canLay0 (.list (ns.map PyData.int)) = true := lay_ints ns
  have h2 : PyData.depth (.list (ns.map PyData.int)) = 1 := by
    show PyData.depthAll (ns.map PyData.int) + 1 = 1
    rw [depth_ints]
  rw [h1, h2]
  rfl
theorem eqv_ints : ∀ ns : List Int, PyData.eqvAll (ns.map PyData.int) (ns.map PyData.int) = true
  | [] => rfl
  | n :: r => by
    show ((n == n) && PyData.eqvAll (r.map PyData.int) (r.map PyData.int)) = true
    rw [eqv_ints r, beq_self_eq_true]
    rfl
theorem dp_lst {K : PySem.W.Frag} {H : Hp} {a : Addr} {ns : List Int} (h : SqL K H a (ns.map V.int)) : Dp K H (.ref a) (.list (ns.map PyData.int)) := .lst h (dp_ints ns)
end Tg

namespace Tg
open PySem PySem.Spec PyProof.Rows L2
/-! ### defs, methods and classes as a caller needs them -/
section
variable (P : Program) (w : World) (K : PySem.W.Frag) (mg : Str → Option Value) (base : Heap)
/-- the def x is there, and keeps sp by level k -/
def Cal (k : Nat) (x : Str) (ps : List Str) (sp : Sp) : Prop := ∃ f fd, FnOk P w K mg base CX0 k f fd ps sp ∧ mg x = some (.ref f) ∧ PySem.W.keepIn K (.ref f) = true ∧ Binds K fd ps []
/-- the places that is tells, out of a list -/
def prm {α : Type} (is : List Nat) (zs : List α) : List α := is.filterMap fun i => zs[i]?
/-- the same with keywords alone, ks in this order; is: the places of the parameters among them -/
def CalK (k : Nat) (x : Str) (ps ks : List Str) (is : List Nat) (sp : Sp) : Prop := ∃ f fd, FnOk P w K mg base CX0 k f fd ps sp ∧ mg x = some (.ref f) ∧ PySem.W.keepIn K (.ref f) = true ∧ KBn K fd ps 0 ks (fun _ ws => prm is ws) (fun _ zs => prm is zs)
/-- a method of the class C -/
def CalM (k : Nat) (C : Addr) (m : Str) (ps : List Str) (sp : Sp) : Prop := ∃ f fd, FnOk P w K mg base CX0 k f fd ps sp ∧ Meth K C m f ∧ Binds K fd ps []
def CalMK (k : Nat) (C : Addr) (m : Str) (ps ks : List Str) (is : List Nat) (sp : Sp) : Prop := ∃ f fd, FnOk P w K mg base CX0 k f fd ps sp ∧ Meth K C m f ∧ KBn K fd ps 1 ks (fun us ws => us ++ prm is ws) (fun vs zs => vs ++ prm is zs)
/-- a class, by its __init__ -/
def CalC (k : Nat) (x : Str) (C : Addr) (ps : List Str) (sp : Sp) : Prop := ∃ f fd, FnOk P w K mg base CX0 k f fd ps sp ∧ mg x = some (.ref C) ∧ Mk K C f ∧ Binds K fd ps []
end
theorem vals_at : ∀ {zs : List V} {ws : List Value}, Vals zs ws → ∀ i : Nat, (zs[i]? = none ∧ ws[i]? = none) ∨ ∃ z w, zs[i]? = some z ∧ ws[i]? = some w ∧ RelV z w
  | _, _, .nil, i => .inl ⟨by simp, by simp⟩
  | _, _, .cons a b, i => by
    cases i with
    | zero => exact .inr ⟨_, _, rfl, rfl, a⟩
    | succ i => exact vals_at b i
theorem prm_rel {zs : List V} {ws : List Value} (h : Vals zs ws) : ∀ is : List Nat, Vals (prm is zs) (prm is ws)
  | [] => .nil
  | i :: r => by
    have ih := prm_rel h r
    unfold prm at ih ⊢
    rcases vals_at h i with ⟨h1, h2⟩ | ⟨z, w, h1, h2, h3⟩
    · rw [List.filterMap_cons_none h1, List.filterMap_cons_none h2]
      exact ih
    · rw [List.filterMap_cons_some h1, List.filterMap_cons_some h2]
      exact .cons h3 ih
section
variable {X : Cx} {k : Nat} {ps ks : List Str} {is : List Nat} {sp : Sp} {x m : Str} {C : Addr} {o e : Expr} {es : List Expr} {p pos apos : Pos} {kws : List Keyword} {ta t tk : TA} {to : TE}
theorem pe_cal (c : Cal X.prog X.w X.K X.mg X.base k x ps sp) (hr : Room k X.A) (gl : Gl X x) (ha : PA X (e :: es) t) (hdb : (x == ("__debug__" : Str)) = false := by decide)
    (he : starEach (e :: es) X.env = (false, eval e X.env) :: starEach es X.env := by rfl) (hpl : (backTo pos (starEach es X.env)).any (·.1) = false := by rfl) : PE X (.Call (.Name x p) (e :: es) [] pos) (tCall sp [] E0 t) := by
  obtain ⟨f, fd, F, hm, hk, hb⟩ := c
  exact pe_call F hr gl hm hk hb .nil pass0 ha hdb he hpl
theorem pe_calK (c : CalK X.prog X.w X.K X.mg X.base k x ps ks is sp) (hr : Room k X.A) (gl : Gl X x) (vals : PK X kws tk)
    (named : (backToKw pos (keywordEach kws X.env)).all (·.1.isSome) = true := by rfl) (names : (backToKw pos (keywordEach kws X.env)).filterMap (·.1) = ks := by rfl) (nodebug : (x == ("__debug__" : Str)) = false := by decide)
    (nostar : ((backTo pos (starEach [] X.env)).any (·.1) || (backToKw pos (keywordEach kws X.env)).any (·.1.isNone)) = false := by rfl) :
    PE X (.Call (.Name x p) [] kws pos) (tKw0 ks.length sp (fun _ zs => prm is zs) E0 tk) := by
  obtain ⟨f, fd, F, hm, hk, hb⟩ := c
  exact pe_kw0 F hr gl hm hk hb pass0 vals named names nodebug nostar
theorem pe_calM {pl : Sem Bool} (he : PE X o to) (cl : Cls X.K C) (c : CalM X.prog X.w X.K X.mg X.base k C m ps sp) (hr : Room k X.A) (ha : PA X (e :: es) t)
    (hst : starEach (e :: es) X.env = (false, eval e X.env) :: starEach es X.env := by rfl) (hpl : (backTo pos (starEach es X.env)).any (·.1) = false := by rfl) (ht : eval (.Call (.Attribute o m apos) (e :: es) [] pos) X.env = (do let ov ← eval o X.env; standAt apos.atName; let (f, first) ← holding [ov] (getMethod ov m pl); callWith pos f first (backTo pos (starEach (e :: es) X.env)) (backToKw pos (keywordEach [] X.env))) := by rfl) :
    PE X (.Call (.Attribute o m apos) (e :: es) [] pos) (tMeth C m sp [] E0 to t) := by
  obtain ⟨f, fd, F, hm, hb⟩ := c
  exact pe_meth (pl := pl) he cl hm F hr hb .nil pass0 ha hst hpl ht
theorem pe_calM0 {pl : Sem Bool} (he : PE X o to) (cl : Cls X.K C) (c : CalM X.prog X.w X.K X.mg X.base k C m ps sp) (hr : Room k X.A)
    (ht : eval (.Call (.Attribute o m apos) [] [] pos) X.env = (do let ov ← eval o X.env; standAt apos.atName; let (f, first) ← holding [ov] (getMethod ov m pl); callWith pos f first (backTo pos (starEach [] X.env)) (backToKw pos (keywordEach [] X.env))) := by rfl) :
    PE X (.Call (.Attribute o m apos) [] [] pos) (tMeth C m sp [] E0 to tNil) := by
  obtain ⟨f, fd, F, hm, hb⟩ := c
  exact pe_meth0 (pl := pl) he cl hm F hr hb .nil pass0 ht
/-- o.m(k = v, ..) -/
def tMethK (C : Addr) (m : Str) (n : Nat) (sp : Sp) (is : List Nat) (E : XK) (to : TE) (tk : TA) : TE := fun σ H Q => to σ H fun x H1 => ∃ a dx fs, x = .ref a ∧ H1 a = some (.ins C dx fs) ∧ fs.lookup m = none ∧ tk σ H1 fun zs H2 => zs.length = n ∧ sp (x :: prm is zs) H2 Q E
theorem pe_calMK {pl : Sem Bool} (he : PE X o to) (cl : Cls X.K C) (c : CalMK X.prog X.w X.K X.mg X.base k C m ps ks is sp) (hr : Room k X.A) (vals : PK X kws tk)
    (named : (backToKw pos (keywordEach kws X.env)).all (·.1.isSome) = true := by rfl) (names : (backToKw pos (keywordEach kws X.env)).filterMap (·.1) = ks := by rfl)
    (nostar : ((backTo pos (starEach [] X.env)).any (·.1) || (backToKw pos (keywordEach kws X.env)).any (·.1.isNone)) = false := by rfl)
    (ht : eval (.Call (.Attribute o m apos) [] kws pos) X.env = (do let ov ← eval o X.env; standAt apos.atName; let (f, first) ← holding [ov] (getMethod ov m pl); callWith pos f first (backTo pos (starEach [] X.env)) (backToKw pos (keywordEach kws X.env))) := by rfl) :
    PE X (.Call (.Attribute o m apos) [] kws pos) (tMethK C m ks.length sp is E0 to tk) := by
  obtain ⟨f, fd, F, hm, hb⟩ := c
  constructor
  intro pins s σ H Q I read
  refine PySem.W.methodCall_KW (pl := pl) (thn (he.run pins s σ H _ I read) fun u s1 ⟨x, H1, I1, rx, a, dx, fs, ex, ea, l, q⟩ => ?_) ht
  subst ex
  obtain rfl : u = .ref a := rx
  refine getmeth_ok I1 ea cl hm l ?_
  refine PySem.W.callWith_KW0 (first := [.ref a]) (h₀ := X.base) I.ok.mod.kin hm.kp named (thn (vals.run pos pins s1 σ H1 _ I1 q) fun ws s2 y => ?_) nostar
  obtain ⟨zs, H2, J, rel, many, h⟩ := y
  rw [names]
  exact ⟨J.kIn, run_fnN (E := E0) (us := [.ref a]) (vs := [.ref a]) F hr hb pass0 J (.cons rfl .nil) rel rfl many h⟩
theorem pe_calC0 (c : CalC X.prog X.w X.K X.mg X.base k x C ps sp) (hr : Room (k + 1) X.A) (gl : Gl X x) (hdb : (x == ("__debug__" : Str)) = false := by decide) : PE X (.Call (.Name x p) [] [] pos) (tMake C sp [] E0 tNil) := by
  obtain ⟨f, fd, F, hm, M, hb⟩ := c
  exact pe_make0 M F hr gl hm hb .nil pass0 hdb
theorem pe_calC (c : CalC X.prog X.w X.K X.mg X.base k x C ps sp) (hr : Room (k + 1) X.A) (gl : Gl X x) (ha : PA X (e :: es) t) (hdb : (x == ("__debug__" : Str)) = false := by decide)
    (he : starEach (e :: es) X.env = (false, eval e X.env) :: starEach es X.env := by rfl) (hpl : (backTo pos (starEach es X.env)).any (·.1) = false := by rfl) : PE X (.Call (.Name x p) (e :: es) [] pos) (tMake C sp [] E0 t) := by
  obtain ⟨f, fd, F, hm, M, hb⟩ := c
  exact pe_make M F hr gl hm hb .nil pass0 ha hdb he hpl
end
end Tg

namespace Tg
open PySem PySem.Spec PyProof.Rows L2
/-! ### the heap: what stands -/
/-- all but p stands as it stood -/
def Kp (p : Addr) (H H' : Hp) : Prop := ∀ b o, b ≠ p → H b = some o → H' b = some o
theorem Kp.refl (p : Addr) (H : Hp) : Kp p H H := fun _ _ _ h => h
theorem Kp.trans {p : Addr} {H H1 H2 : Hp} (a : Kp p H H1) (b : Kp p H1 H2) : Kp p H H2 := fun c o hc h => b c o hc (a c o hc h)
theorem Kp.of {p : Addr} {H H' : Hp} (s : Same H H') : Kp p H H' := fun c o _ h => s c o h
theorem Kp.put {p : Addr} {H : Hp} {o : HO} : Kp p H (upd H p o) := fun c u hc h => by
  rw [upd_ne hc]
  exact h
/-- what is new stays apart -/
theorem Kp.same {p : Addr} {H H1 H2 : Hp} (s : Same H H1) (n : H p = none) (k : Kp p H1 H2) : Same H H2 := fun b o h => k b o (ne_of_none h n) (s b o h)
theorem same_new {H : Hp} {p : Addr} {o : HO} (h : H p = none) : Same H (upd H p o) := fun b x e => by
  rw [upd_ne (ne_of_none e h)]
  exact e
theorem same_put {H H' : Hp} {D : Addr} {o : HO} (n : H D = none) (s : Same H H') : Same H (upd H' D o) := fun b x e => by
  rw [upd_ne (ne_of_none e n)]
  exact s _ _ e
/-- what can't be changed: tuples, and what is locked -/
def Fix : HO → Prop
  | .tup _ => True
  | .frz _ _ => True
  | _ => False
/-- all that can't be changed stands -/
def KT (H H' : Hp) : Prop := ∀ a o, Fix o → H a = some o → H' a = some o
theorem KT.refl (H : Hp) : KT H H := fun _ _ _ h => h
theorem KT.trans {H H1 H2 : Hp} (a : KT H H1) (b : KT H1 H2) : KT H H2 := fun c o f h => b c o f (a c o f h)
theorem KT.of {H H' : Hp} (s : Same H H') : KT H H' := fun c o _ h => s c o h
theorem KT.kp {p : Addr} {H H' : Hp} {o : HO} (k : Kp p H H') (h : H p = some o) (n : ¬ Fix o) : KT H H' := fun a u f e => k a u (fun z => n (by
  rw [z, h] at e
  cases e
  exact f)) e
theorem KT.put {p : Addr} {H : Hp} {o u : HO} (h : H p = some o) (n : ¬ Fix o) : KT H (upd H p u) := KT.kp Kp.put h n
theorem KT.new {p : Addr} {H : Hp} {u : HO} (h : H p = none) : KT H (upd H p u) := KT.of (same_new h)
theorem nfix_lst {xs : List V} : ¬ Fix (.lst xs) := fun z => z
theorem nfix_dK {xs : List (Key × V)} : ¬ Fix (.dK xs) := fun z => z
theorem nfix_ins {C dx : Addr} {fs : List (Str × V)} : ¬ Fix (.ins C dx fs) := fun z => z
/-! ### data -/
theorem rd_same {H H' : Hp} {a : Addr} {o : HO} (s : Same H H') (h : Rd H a o) : Rd H' a o := by
  rcases h with h | ⟨ob, h⟩
  · exact .inl (s _ _ h)
  · exact .inr ⟨ob, s _ _ h⟩
theorem sqL_same {K : PySem.W.Frag} {H H' : Hp} {a : Addr} {xs : List V} (s : Same H H') (h : SqL K H a xs) : SqL K H' a xs := h.imp (rd_same s) id
theorem sqT_same {K : PySem.W.Frag} {H H' : Hp} {a : Addr} {xs : List V} (s : Same H H') (h : SqT K H a xs) : SqT K H' a xs := h.imp (rd_same s) id
theorem sqT_kt {K : PySem.W.Frag} {H H' : Hp} {a : Addr} {xs : List V} (s : KT H H') (h : SqT K H a xs) : SqT K H' a xs := by
  refine h.imp (fun h => ?_) id
  rcases h with h | ⟨ob, h⟩
  · exact .inl (s _ _ trivial h)
  · exact .inr ⟨ob, s _ _ trivial h⟩
mutual
theorem dp_same {K : PySem.W.Frag} {H H' : Hp} (s : Same H H') : ∀ {x : V} {d : PyData}, Dp K H x d → Dp K H' x d
  | _, _, .non => .non
  | _, _, .bl b => .bl b
  | _, _, .int i => .int i
  | _, _, .str z => .str z
  | _, _, .lst a b => .lst (sqL_same s a) (dpAll_same s b)
  | _, _, .tup a b => .tup (sqT_same s a) (dpAll_same s b)
theorem dpAll_same {K : PySem.W.Frag} {H H' : Hp} (s : Same H H') : ∀ {xs : List V} {ds : List PyData}, DpAll K H xs ds → DpAll K H' xs ds
  | _, _, .nil => .nil
  | _, _, .cons a b => .cons (dp_same s a) (dpAll_same s b)
end
/-- no list and no dict in it -/
inductive TD : PyData → Prop
  | non : TD .none
  | bl (b : Bool) : TD (.bool b)
  | int (i : Int) : TD (.int i)
  | str (z : Str) : TD (.str z)
  | tup {ds : List PyData} : (∀ d, d ∈ ds → TD d) → TD (.tuple ds)
mutual
theorem dp_kt {K : PySem.W.Frag} {H H' : Hp} (s : KT H H') : ∀ {x : V} {d : PyData}, Dp K H x d → TD d → Dp K H' x d
  | _, _, .non, _ => .non
  | _, _, .bl b, _ => .bl b
  | _, _, .int i, _ => .int i
  | _, _, .str z, _ => .str z
  | _, _, .lst _ _, t => nomatch t
  | _, _, .tup a b, .tup t => .tup (sqT_kt s a) (dpAll_kt s b t)
theorem dpAll_kt {K : PySem.W.Frag} {H H' : Hp} (s : KT H H') : ∀ {xs : List V} {ds : List PyData}, DpAll K H xs ds → (∀ d, d ∈ ds → TD d) → DpAll K H' xs ds
  | _, _, .nil, _ => .nil
  | _, _, .cons a b, t => .cons (dp_kt s a (t _ List.mem_cons_self)) (dpAll_kt s b fun d hd => t d (List.mem_cons_of_mem _ hd))
end
theorem dpAll_len {K : PySem.W.Frag} {H : Hp} : ∀ {xs : List V} {ds : List PyData}, DpAll K H xs ds → xs.length = ds.length
  | _, _, .nil => rfl
  | _, _, .cons _ b => congrArg Nat.succ (dpAll_len b)
theorem dpAll_at {K : PySem.W.Frag} {H : Hp} : ∀ {xs : List V} {ds : List PyData}, DpAll K H xs ds → ∀ (i : Nat) (x : V), xs[i]? = some x → ∃ d, ds[i]? = some d ∧ Dp K H x d
  | _, _, .nil => fun i x h => by simp at h
  | _, _, .cons a b => fun i x h => by
    cases i with
    | zero =>
      simp only [Option.some.injEq, List.getElem?_cons_zero] at h
      subst h
      exact ⟨_, rfl, a⟩
    | succ i =>
      rw [List.getElem?_cons_succ] at h ⊢
      exact dpAll_at b i x h
theorem dpAll_tk {K : PySem.W.Frag} {H : Hp} : ∀ {xs : List V} {ds : List PyData}, DpAll K H xs ds → ∀ (i : Nat) (d : PyData), ds[i]? = some d → ∃ x, xs[i]? = some x ∧ Dp K H x d
  | _, _, .nil => fun i x h => by simp at h
  | _, _, .cons a b => fun i x h => by
    cases i with
    | zero =>
      simp only [Option.some.injEq, List.getElem?_cons_zero] at h
      subst h
      exact ⟨_, rfl, a⟩
    | succ i =>
      rw [List.getElem?_cons_succ] at h ⊢
      exact dpAll_tk b i x h
theorem dpAll_app {K : PySem.W.Frag} {H : Hp} : ∀ {xs ys : List V} {ds es : List PyData}, DpAll K H xs ds → DpAll K H ys es → DpAll K H (xs ++ ys) (ds ++ es)
  | _, _, _, _, .nil, h => h
  | _, _, _, _, .cons a b, h => .cons a (dpAll_app b h)
theorem dpAll_snoc {K : PySem.W.Frag} {H : Hp} {xs : List V} {ds : List PyData} {y : V} {e : PyData} (h : DpAll K H xs ds) (a : Dp K H y e) : DpAll K H (xs ++ [y]) (ds ++ [e]) := dpAll_app h (.cons a .nil)
/-- a list of data that can't be changed itself -/
def LD (K : PySem.W.Frag) (H : Hp) (a : Addr) (ds : List PyData) : Prop := ∃ xs, H a = some (.lst xs) ∧ DpAll K H xs ds
theorem LD.dp {K : PySem.W.Frag} {H : Hp} {a : Addr} {ds : List PyData} (h : LD K H a ds) : Dp K H (.ref a) (.list ds) := by
  obtain ⟨xs, h1, h2⟩ := h
  exact .lst (SqL.of h1) h2
theorem LD.same {K : PySem.W.Frag} {H H' : Hp} {a : Addr} {ds : List PyData} (s : Same H H') (h : LD K H a ds) : LD K H' a ds := by
  obtain ⟨xs, h1, h2⟩ := h
  exact ⟨xs, s _ _ h1, dpAll_same s h2⟩
/-- where the list itself stands and all tuples do -/
theorem LD.kt {K : PySem.W.Frag} {H H' : Hp} {a : Addr} {ds : List PyData} (s : KT H H') (e : ∀ o, H a = some o → H' a = some o) (t : ∀ d, d ∈ ds → TD d) (h : LD K H a ds) : LD K H' a ds := by
  obtain ⟨xs, h1, h2⟩ := h
  exact ⟨xs, e _ h1, dpAll_kt s h2 t⟩
theorem LD.kp {K : PySem.W.Frag} {H H' : Hp} {a p : Addr} {o : HO} {ds : List PyData} (k : Kp p H H') (hp : H p = some o) (n : ¬ Fix o) (ne : a ≠ p) (t : ∀ d, d ∈ ds → TD d) (h : LD K H a ds) : LD K H' a ds :=
  h.kt (KT.kp k hp n) (fun u e => k _ _ ne e) t
/-- one more at the end -/
theorem LD.snoc {K : PySem.W.Frag} {H H1 : Hp} {a : Addr} {xs : List V} {ds : List PyData} {y : V} {e : PyData} (k : KT H H1) (h1 : H1 a = some (.lst xs)) (hd : DpAll K H xs ds) (t : ∀ d, d ∈ ds → TD d) (hy : Dp K H1 y e) (te : TD e) :
    LD K (upd H1 a (.lst (xs ++ [y]))) a (ds ++ [e]) :=
  ⟨_, upd_same, dpAll_snoc (dpAll_kt (k.trans (KT.put h1 nfix_lst)) hd t) (dp_kt (KT.put h1 nfix_lst) hy te)⟩
theorem shaped_of {d : PyData} (h1 : d.canLay0 = true) (h2 : d.depth ≤ 64) : SeqAt.shaped d = true := by
  unfold SeqAt.shaped
  rw [h1, decide_eq_true h2]
  rfl
theorem if_f {A B : Prop} (h : B) : if false = true then A else B := by
  rw [if_neg (by decide)]
  exact h
theorem if_t {A B : Prop} (h : A) : if true = true then A else B := by
  rw [if_pos rfl]
  exact h
theorem atI_mem {xs : List Int} {i : Int} (h0 : 0 ≤ i) (h1 : i < xs.length) : ∃ v, v ∈ xs ∧ atI (xs.map V.int) i = some (.int v) := by
  have hn : i.toNat < xs.length := by omega
  obtain ⟨j, rfl⟩ : ∃ j : Nat, i = (j : Int) := ⟨i.toNat, by omega⟩
  have hj : j < xs.length := by omega
  refine ⟨xs[j], List.getElem_mem hj, atI_nat ?_⟩
  rw [List.getElem?_map, List.getElem?_eq_getElem hj]
  rfl
end Tg

namespace Tg
open PySem PySem.Spec PyProof.Rows L2
/-! ### a new thing that is only read from now on -/
section
variable {X : Cx} {e : Expr} {t : TE}
def tFrz (t : TE) : TE := fun σ H Q => t σ H fun x H1 => ∃ d u, x = .ref d ∧ H1 d = some u ∧ Mut (some u) ∧ ∀ od, Q x (upd H1 d (.frz od u))
theorem pe_frz (h : PE X e t) : PE X e (tFrz t) := by
  constructor
  intro pins s σ H Q I read
  refine thn (h.run pins s σ H _ I read) fun v s1 y => ?_
  obtain ⟨x, H1, J, r, d, u, ex, hd, mu, q⟩ := y
  obtain ⟨od, J2⟩ := J.lock hd mu
  exact ⟨x, _, J2, r, q od⟩
/-- a statement that is never reached -/
theorem ps_dead {st : Stmt} : PS X st (fun _ _ _ => False) := ⟨fun _ _ _ _ _ _ h => h.elim⟩
end
end Tg

set_option maxHeartbeats 2000000
namespace Tg
open PySem PySem.Spec PyProof.Rows L2
/-! ### a caught exception that is kept in a name: try: .. except T as e: kept = e -/
/-- the exception of the class cls, its dict at d, at a -/
def ExV (cls : Value) (d : Option Addr) (a : Addr) : HO := .ext fun h => ∃ (oe : Obj) (vs : Array Value), h.get? a = some oe ∧ Zc cls d oe ∧ oe.data = .fields vs
theorem exV_ok {P : Program} {w : World} {H : Hp} {h : Heap} {a : Addr} {cls : Value} {d : Option Addr} {oe : Obj} {vs : Array Value} (e : h.get? a = some oe) (z : Zc cls d oe) (q : oe.data = .fields vs) : ObjOk P w H h a (ExV cls d a) := by
  refine ⟨⟨oe, vs, e, z, q⟩, ⟨oe, e⟩, fun h1 h2 y st => ?_⟩
  obtain ⟨o1, v1, e1, z1, q1⟩ := y
  exact ⟨o1, v1, st _ e1, z1, q1⟩
section
variable {X : Cx} {s : Shared} {H : Hp} {σ : L2.St} {pins : List (Addr × Obj)}
theorem track {a : Addr} {oe : Obj} {vs : Array Value} {o : HO} (I : Inv X pins σ H s) (h0 : X.s_0.heap.get? a = none) (he : s.heap.get? a = some oe) (hd : oe.data = .fields vs) (na : H a = none)
    (nL : a ≠ X.env.locals) (np : ∀ p, p ∈ X.pn ++ pins → p.1 ≠ a) (new : ObjOk X.prog X.w (upd H a o) s.heap a o) : Inv X pins σ (upd H a o) s where
  ok := I.ok
  os := I.os
  bare := I.bare
  base := {
    keep := I.base.keep
    slot := I.base.slot
    free := fun b u q n x => by
      rw [upd_ne (fun z => by rw [z, h0] at q; cases q)]
      exact I.base.free b u q n x
    there := I.base.there
    tups := fun b xs q => by
      have y := I.base.tups b xs q
      rw [upd_ne (ne_of_none y na)]
      exact y
    frzs := fun b u xs q => by
      have y := I.base.frzs b u xs q
      rw [upd_ne (ne_of_none y na)]
      exact y
    tbls := fun b ps q => by
      obtain ⟨m, y⟩ := I.base.tbls b ps q
      refine ⟨m, ?_⟩
      rw [upd_ne (ne_of_none y na)]
      exact y }
  loc := I.loc
  cell := I.cell
  free := by
    rw [upd_ne nL.symm]
    exact I.free
  freeC := fun x c e => by
    have nc : c ≠ a := fun z => by
      obtain ⟨v, y⟩ := I.cell x c e
      obtain ⟨oc, y1, y2⟩ := y
      rw [z, he] at y1
      cases y1
      rw [hd] at y2
      cases y2
    rw [upd_ne nc]
    exact I.freeC x c e
  pin := fun p hp => by
    obtain ⟨y1, y2, y3⟩ := I.pin p hp
    refine ⟨y1, ?_, y3⟩
    rw [upd_ne (np p hp)]
    exact y2
  hok := I.hok.laidN (fun _ _ z => z) na new
  len := I.len
/-- what is wanted of an exception of the body: its class is one that the clause takes; it is kept in slot j -/
def wKeep (Mt : Value → Prop) (i j : Nat) (D : Ends) : WX := fun cls d σ H => Mt cls ∧ ∀ a, H a = none → D.nx (((σ.set i (some (.ref a))).set j (some (.ref a))).set i none) (upd H a (ExV cls d a))
/-- the clause's test: its value takes each exception of such a class -/
def Tests (X : Cx) (test : Expr) (Mt : Value → Prop) : Prop := ∀ (a : Addr) (oe : Obj) (pn : List (Addr × Obj)) (s : Shared) (σ : L2.St) (H : Hp) (Q : Value → Shared → Prop) (E : Value → Shared → Prop),
  Inv (X.suite a ((a, oe) :: pn)) [] σ H s → s.heap.get? a = some oe → Mt oe.cls →
  (∀ (c : Value) (s' : Shared), (∀ b o, s.heap.get? b = some o → s'.heap.get? b = some o) → s'.os = s.os → s'.gens = s.gens → PySem.W.Looks (model X.prog X.w) s'.heap (excMatches (.ref a) c) true → Q c s') →
    wpAny (model X.prog X.w) (X.A.mark (some (.ref a))) (eval test X.env) Q E s
theorem flying_keeps {B : Heap} {l : List Env} {a : Addr} {Z : Obj → Prop} {h h' : Heap} (k : ∀ b o, h.get? b = some o → h'.get? b = some o) (f : HandSPX.FlyingZ B l a Z h) : HandSPX.FlyingZ B l a Z h' := by
  obtain ⟨f1, f2, f3, oe, vs, T, oT, ts, y1, y2, y3, y4, y5, y6, y7, y8, y9⟩ := f
  exact ⟨fun b o e => k _ _ (f1 b o e), f2, Heap.FunFrames.of_keeps (fun b o e _ => ⟨o, k _ _ e, rfl⟩) f3, oe, vs, T, oT, ts, k _ _ y1, y2, y3, y4, y5, y6, k _ _ y7, y8, y9⟩
variable {n y : Str} {i j : Nat} {body : List Stmt} {test : Expr} {py pn' ps' pos pos' : Pos} {tb : WX → TS} {Mt : Value → Prop}
/-- a try's body, whatever is wished of the exceptions that leave it -/
def Bodies (X : Cx) (body : List Stmt) (tb : WX → TS) : Prop := ∀ W pn xe, Takes (X.tr pn xe) W → PassesOwn (model X.prog X.w) X.A X.env xe → PSs (X.tr pn xe) body (tb W)
/-- the same state, one thing more (or less) pinned -/
theorem repin {Y Z : Cx} {p q : List (Addr × Obj)} (I : Inv Y p σ H s) (ok : Z.Ok) (e : Z = { Y with A := Z.A, calm := Z.calm, pn := Z.pn, xe := Z.xe }) (sub : ∀ r, r ∈ Z.pn ++ q → r ∈ Y.pn ++ p) : Inv Z q σ H s := by
  obtain ⟨_, f2, f3, f4, f5, f6, f7, f8, f9, f10, f11⟩ := I
  rw [e] at ok sub ⊢
  exact ⟨ok, f2, f3, f4, f5, f6, f7, f8, fun r hr => f9 r (sub r hr), f10, f11⟩
theorem ps_try_keep (top : X.stack = X.env :: X.outer) (own : X.env.frame = some X.env.locals) (noex : X.ex = []) (nd : X.N.Nodup) (at_i : X.N[i]? = some n) (at_j : X.N[j]? = some y) (loc_n : X.env.scope.names.lookup n = some .local)
    (loc_y : X.env.scope.names.lookup y = some .local) (takes : Tests X test Mt) (bodies : Bodies X body tb) (nodebug : (n == ("__debug__" : Str)) = false := by decide) (noclass : (n == ("__classdict__" : Str)) = false := by decide) :
    PS X (.Try body [.ExceptHandler (some test) (some n) [.Assign [.Name y py] (.Name n pn') ps'] pos'] [] [] pos) (fun D σ H => tb (wKeep Mt i j D) D σ H) := by
  constructor
  intro pins s σ H D I read
  have frames := I.ok.frames.trans (congrArg some top)
  refine wpAny_Try_except (wpAny_mono ((bodies (wKeep Mt i j D) (X.pn ++ pins) _ (fun u s' air => ?_) PassesOwn.looking).run [] s σ H D (I.toTry _) read) (fun f s1 z => ?_) (fun _ _ z => z))
  · obtain ⟨a, B, s0, _, σ0, H0, cls, d, rfl, J0, ground, up, sky, na, os, gens, takes_it, wish⟩ := air
    have J : Inv X pins σ0 H0 s0 := J0.ofTry I.ok
    rw [show (X.tr (X.pn ++ pins) _).stack = X.env :: X.outer from top] at sky ground
    refine Sky.land Zc.steady frames own sky fun h3 fly3 up3 => ?_
    have J3 := J.landed (s' := { s' with heap := h3 }) (B := B) (by rw [top]; exact ground) fly3.1 (up.trans up3) os gens
    obtain ⟨o3, v3, get3, kind3, data3⟩ := fly3.there
    -- it is none of the frames, and it wasn't there ahead of the try
    have noframe : a ∉ frs (X.env :: X.outer) := fun m => by
      obtain ⟨_, _, e, nofields⟩ := fly3.2.2.1.mem m
      cases get3.symm.trans e
      exact nofields _ data3
    have noloc : a ≠ X.env.locals := fun z => noframe (by
      rw [z]
      exact List.mem_filterMap.mpr ⟨X.env, List.mem_cons_self, own⟩)
    have noouter : a ∉ X.fs := fun m => noframe (by
      obtain ⟨env, h1, h2⟩ := List.mem_filterMap.mp m
      exact List.mem_filterMap.mpr ⟨env, .tail _ h1, h2⟩)
    have new0 : s0.heap.get? a = none := by
      rcases q : s0.heap.get? a with _ | o
      · rfl
      · exact nomatch (ground a o q noframe).symm.trans fly3.2.1
    have new : X.s_0.heap.get? a = none := by
      rcases q : X.s_0.heap.get? a with _ | o
      · rfl
      · exact (J.base.there a o q (by rw [noex]; exact List.not_mem_nil)).elim fun _ z => nomatch z.symm.trans new0
    have nopin : ∀ p, p ∈ X.pn ++ pins → p.1 ≠ a := fun p m z => by
      have there := (J.pin p m).1
      rw [z, new0] at there
      cases there
    refine wpAny_handleBy_cons (codeAny_handlers_test (takes a o3 _ _ σ0 H0 _ _ (J3.suite get3 data3 na noloc noouter) get3 (by rw [kind3.1]; exact takes_it) fun c s4 kp4 os4 gens4 match4 => match4.here ?_)) (fun z => nomatch z)
    refine codeAny_handlers_suite_as (HandSPX.lands_againZ (flying_keeps kp4 fly3) fun h5 fly5 up5 => ?_)
    have up4 : h3.UpToSlots s4.heap := fun b o z _ => ⟨o.slots, kp4 _ _ z⟩
    have J5 := J.landed (s' := { s4 with heap := h5 }) (B := B) (by rw [top]; exact ground) fly5.1 (((up.trans up3).trans up4).trans up5) (os4.trans os) (by rw [show ({ s4 with heap := h5 } : Shared).gens = s4.gens from rfl, gens4]; exact gens)
    obtain ⟨o5, v5, get5, kind5, data5⟩ := fly5.there
    refine store_ok (X := X.suite a ((a, o5) :: (X.pn ++ pins))) (v := .ref a) (J5.suite get5 data5 na noloc noouter) nd at_i (.inl loc_n) rfl (fun s6 J6 => ?_) (.inr loc_n)
    -- kept = e
    have keep : PSs (X.suite a ((a, o5) :: (X.pn ++ pins))) [.Assign [.Name y py] (.Name n pn') ps'] (tAsg (tVar i) (gName j)) := pss_one (ps_set nd at_j (.inl loc_y) (pe_var at_i (.inl loc_n) nodebug noclass) (by rfl) (.inr loc_y))
    have short : i < σ0.length := by
      rw [J.len]
      exact (List.getElem?_eq_some_iff.mp at_i).1
    refine wpAny_mono (keep.run [] s6 _ H0 { nx := fun σ7 H7 => σ7 = (σ0.set i (some (.ref a))).set j (some (.ref a)) ∧ H0 = H7, rt := fun _ _ => False, bk := fun _ _ => False, ct := fun _ _ => False } J6 ⟨.ref a, by rw [List.getElem?_set_self short], rfl, rfl⟩) (fun f s7 z => ?_) (fun _ _ z => z.elim)
    match f, z with
    | .next, ⟨_, _, J7, e7, eH⟩ =>
      subst e7
      subst eH
      refine gone_ok (repin (q := (a, o5) :: pins) J7 I.ok rfl fun r m => ?_) nd at_i loc_n fun s8 J8 => ?_
      · refine List.mem_append_left _ ?_
        rcases List.mem_append.mp m with m | m
        · exact .tail _ (List.mem_append_left _ m)
        · cases m with
          | head => exact .head _
          | tail _ m => exact .tail _ (List.mem_append_right _ m)
      · have get8 := (J8.pin (a, o5) (List.mem_append_right _ (.head _))).1
        have J9 : Inv X pins (((σ0.set i (some (.ref a))).set j (some (.ref a))).set i none) H0 s8 := repin J8 I.ok rfl fun r m => by
          rcases List.mem_append.mp m with m | m
          · exact List.mem_append_left _ m
          · exact List.mem_append_right _ (.tail _ m)
        exact ⟨_, _, track J9 new get8 data5 na noloc nopin (exV_ok get8 kind5 data5), wish a na⟩
    | .brk, ⟨_, _, _, z⟩ => exact z.elim
    | .cont, ⟨_, _, _, z⟩ => exact z.elim
    | .ret _, ⟨_, _, _, _, _, z⟩ => exact z.elim
  · match f, z with
    | .next, ⟨σ1, H1, J1, z⟩ => exact wpAny_execs_nil ⟨σ1, H1, J1.ofTry I.ok, z⟩
    | .brk, ⟨σ1, H1, J1, z⟩ => exact ⟨σ1, H1, J1.ofTry I.ok, z⟩
    | .cont, ⟨σ1, H1, J1, z⟩ => exact ⟨σ1, H1, J1.ofTry I.ok, z⟩
    | .ret _, ⟨v, σ1, H1, J1, rel, z⟩ => exact ⟨v, σ1, H1, J1.ofTry I.ok, rel, z⟩
end
end Tg

set_option maxHeartbeats 2000000
namespace Tg
open PySem PySem.Spec PyProof.Rows L2
section
variable {X : Cx} {x1 x2 x3 x4 : Str} {c1 c2 c3 c4 : Value} {p1 p2 p3 p4 pos : Pos}
theorem tests_one (hc : Names X x1 c1) : Tests X (.Name x1 p1) (fun cls => PySem.W.exmOne X.K cls c1 = some true) := by
  intro a oe pn s σ H Q E I he mt h
  have LT : PySem.W.Looks (model X.prog X.w) s.heap (typeOf (.ref a)) oe.cls := fun A Q E s k q => wpAny_typeOf_ref (k _ _ he) q
  have LM := PySem.W.exm_one (M := model X.prog X.w) I.kIn LT mt
  have told := h c1 s (fun _ _ z => z) rfl rfl LM
  rcases hc with ⟨gl, nodebug, own | ⟨none_, boot, noname⟩⟩
  · exact ld_glob (X := X.suite a ((a, oe) :: pn)) I gl own told nodebug
  · exact ld_blt (X := X.suite a ((a, oe) :: pn)) I gl none_ boot told noname nodebug
/-- own classes named one after the other -/
structure Glb (X : Cx) (x : Str) (c : Value) : Prop where
  gl : Gl X x
  mg : X.mg x = some c
  db : (x == ("__debug__" : Str)) = false := by decide
theorem glb_args {a : Addr} {oe : Obj} {pn : List (Addr × Obj)} {s : Shared} {σ : L2.St} {H : Hp} {E : Value → Shared → Prop} {pos : Pos} (I : Inv (X.suite a ((a, oe) :: pn)) [] σ H s) :
    ∀ {xs : List (Str × Pos)} {cs : List Value} {Q : List Value → Shared → Prop}, Paired (fun x c => Glb X x.1 c) xs cs → Q cs s →
      wpAny (model X.prog X.w) (X.A.mark (some (.ref a))) (spliced (backTo pos (starEach (xs.map fun x => .Name x.1 x.2) X.env))) Q E s
  | _, _, Q, .nil, q => args_nil q
  | (x, p) :: xs, c :: cs, Q, .cons g r, q => by
    refine args_cons (ld_glob (X := X.suite a ((a, oe) :: pn)) I g.gl g.mg (glb_args I r q) g.db) rfl
theorem tests_tup {xs : List (Str × Pos)} {cs : List Value} {kt : Nat} (hp : Paired (fun x c => Glb X x.1 c) xs cs) (hl : cs.length ≤ sizeLine)
    (hm : ∀ {h : Heap} {a tp : Addr} {cls : Value}, X.K.In h → PySem.W.Looks (model X.prog X.w) h (typeOf (.ref a)) cls → h.get? tp = some { cls := .type "tuple", data := .seq cs.toArray } → PySem.W.exmAny X.K cls cs = some true → PySem.W.Looks (model X.prog X.w) h (excMatches (.ref a) (.ref tp)) true) :
    Tests X (.Tuple (xs.map fun x => .Name x.1 x.2) kt pos) (fun cls => PySem.W.exmAny X.K cls cs = some true) := by
  intro a oe pn s σ H Q E I he mt h
  refine wpAny_Tuple_spliced (glb_args I hp ⟨hl, ?_⟩)
  have kk : ∀ b o, s.heap.get? b = some o → (s.heap.push { cls := .type "tuple", data := .seq cs.toArray }).get? b = some o := fun b o e => Heap.get?_push_of_some _ e
  have LT : PySem.W.Looks (model X.prog X.w) (s.heap.push { cls := .type "tuple", data := .seq cs.toArray }) (typeOf (.ref a)) oe.cls := fun A Q E s k q => wpAny_typeOf_ref (k _ _ (kk _ _ he)) q
  exact h _ _ kk rfl rfl (hm (I.kIn.keeps kk) LT (Heap.get?_push_size _ rfl) mt)
theorem tests_2 {kt : Nat} (h1 : Glb X x1 c1) (h2 : Glb X x2 c2) : Tests X (.Tuple [.Name x1 p1, .Name x2 p2] kt pos) (fun cls => PySem.W.exmAny X.K cls [c1, c2] = some true) :=
  tests_tup (xs := [(x1, p1), (x2, p2)]) (.cons h1 (.cons h2 .nil)) (by show 2 ≤ sizeLine; decide) fun X LT hp mt => PySem.W.exm_tup2 X LT hp mt
theorem tests_3 {kt : Nat} (h1 : Glb X x1 c1) (h2 : Glb X x2 c2) (h3 : Glb X x3 c3) : Tests X (.Tuple [.Name x1 p1, .Name x2 p2, .Name x3 p3] kt pos) (fun cls => PySem.W.exmAny X.K cls [c1, c2, c3] = some true) :=
  tests_tup (xs := [(x1, p1), (x2, p2), (x3, p3)]) (.cons h1 (.cons h2 (.cons h3 .nil))) (by show 3 ≤ sizeLine; decide) fun X LT hp mt => PySem.W.exm_tup3 X LT hp mt
theorem tests_4 {kt : Nat} (h1 : Glb X x1 c1) (h2 : Glb X x2 c2) (h3 : Glb X x3 c3) (h4 : Glb X x4 c4) : Tests X (.Tuple [.Name x1 p1, .Name x2 p2, .Name x3 p3, .Name x4 p4] kt pos) (fun cls => PySem.W.exmAny X.K cls [c1, c2, c3, c4] = some true) :=
  tests_tup (xs := [(x1, p1), (x2, p2), (x3, p3), (x4, p4)]) (.cons h1 (.cons h2 (.cons h3 (.cons h4 .nil)))) (by show 4 ≤ sizeLine; decide) fun X LT hp mt => PySem.W.exm_tup4 X LT hp mt
end
/-! ### what is asked of it later: a field, isinstance -/
section
variable {X : Cx} {e : Expr} {te : TE} {pos : Pos} {n : Str}
/-- kept.f -/
def tExf (K : PySem.W.Frag) (f : Str) (te : TE) : TE := fun σ H Q => te σ H fun x H1 => ∃ (a C dd : Addr) (fs : List (Str × V)) (v : V), x = .ref a ∧ H1 a = some (ExV (.ref C) (some dd) a) ∧ XfC K C ∧ PySem.W.findIn K (.ref C) f = some none ∧ H1 dd = some (.xd fs) ∧ fs.lookup f = some v ∧ Q v H1
theorem exV_inst {a C dd : Addr} {fs : List (Str × V)} {pins : List (Addr × Obj)} {σ : L2.St} {H : Hp} {s : Shared} (I : Inv X pins σ H s) (ea : H a = some (ExV (.ref C) (some dd) a)) (ed : H dd = some (.xd fs)) :
    ∃ (oe od : Obj) (m : Str → Option Value), PySem.W.InstAt s.heap a oe C (some od) ∧ (∀ f, RelO (fs.lookup f) (m f)) ∧ ∀ x, PySem.W.lookIn x od = some (m x) := by
  obtain ⟨⟨oe, vs, he, hz, hd⟩, _, _⟩ := (show ObjOk X.prog X.w H s.heap a (ExV (.ref C) (some dd) a) from I.hok a _ ea)
  obtain ⟨m, ns, rel⟩ := (show ObjOk X.prog X.w H s.heap dd (.xd fs) from I.hok dd _ ed)
  obtain ⟨od, get, look⟩ := lookIn_ns ns
  exact ⟨oe, od, m, ⟨he, hz.1, by unfold PySem.W.notCls; rw [hd] <;> rfl, by rw [hz.2]; exact get⟩, rel, look⟩
theorem pe_exf (he : PE X e te) (base : attributeBase e n X.env (eval e X.env) = eval e X.env := by rfl) : PE X (.Attribute e n pos) (tExf X.K n te) := by
  constructor
  intro pins s σ H Q I read
  refine attr_of base (thn (he.run pins s σ H _ I read) fun u s1 z => ?_)
  obtain ⟨_, H1, J, ru, a, C, dd, fs, v, rfl, ea, T, none_, ed, is_v, told⟩ := z
  obtain rfl : u = .ref a := ru
  obtain ⟨oe, od, m, inst, rel, look⟩ := exV_inst J ea ed
  have there := rel n
  rw [is_v] at there
  obtain ⟨w, mw, rw_⟩ := RelO.some_of there
  exact HandSPX.exc_get J.kIn inst T.ga T.gg T.exC (PySem.W.findObj_own T.hdC none_ rfl ((look n).trans (congrArg some mw))) (handed_of rw_) ⟨v, H1, J.tok _, rw_, told⟩
theorem cls_some {K : PySem.W.Frag} {D : Addr} (h : PySem.W.hasDictIn K D = true) : (PySem.W.clsIn K D).isSome = true := by
  obtain ⟨cd, hc, _⟩ := PySem.W.any_some h
  rw [hc]
  rfl
/-- isinstance(kept, c) -/
def rIsV (K : PySem.W.Frag) : List V → Hp → VK → Prop := fun xs H Q => ∃ (a D dd : Addr) (fs : List (Str × V)) (c : V) (cv : Value) (b : Bool), xs = [.ref a, c] ∧ H a = some (ExV (.ref D) (some dd) a) ∧ H dd = some (.xd fs) ∧ ExcC K D ∧ ClsV c cv ∧ PySem.W.kitOne K (.ref D) cv = some b ∧ Q (.bl b) H
theorem call_isV : CallR X (.builtin "isinstance") (rIsV X.K) := by
  rintro pins s σ H _ us Q I rel ⟨a, D, dd, fs, c, cv, b, rfl, ea, ed, C, cls, kit, told⟩
  match us, rel with
  | [_, _], .cons ra (.cons rc .nil) =>
    cases ra
    cases cls.eq rc
    obtain ⟨_, _, _, inst, _⟩ := exV_inst I ea ed
    exact PySem.W.kia_one (PySem.W.kitx_exc (cls_some C.hd) C.hg C.hk C.hs C.ha C.hn C.ht C.hm) I.kIn inst kit (fun z => nomatch z) fun tk => ⟨.bl b, H, I.tok tk, rfl, told⟩
/-- isinstance(kept, (c1, c2, ..)) -/
def rIsVT (K : PySem.W.Frag) : List V → Hp → VK → Prop := fun xs H Q => ∃ (a D dd tp : Addr) (fs : List (Str × V)) (cs : List V) (us : List Value) (b : Bool), xs = [.ref a, .ref tp] ∧ H a = some (ExV (.ref D) (some dd) a) ∧ H dd = some (.xd fs) ∧ ExcC K D ∧
  H tp = some (.tup cs) ∧ Paired ClsV cs us ∧ PySem.W.kitAny K (.ref D) us = some b ∧ Q (.bl b) H
theorem call_isVT : CallR X (.builtin "isinstance") (rIsVT X.K) := by
  rintro pins s σ H _ us Q I rel ⟨a, D, dd, tp, fs, cs, ws, b, rfl, ea, ed, C, tup, cls, kit, told⟩
  match us, rel with
  | [_, _], .cons ra (.cons rt .nil) =>
    cases ra
    cases rt
    obtain ⟨_, _, _, inst, _⟩ := exV_inst I ea ed
    obtain ⟨_, items, ri, ⟨oc, od, dt, sl⟩, get, is_tup, m, is_seq⟩ := (show ObjOk X.prog X.w H s.heap tp (.tup cs) from I.hok tp _ tup)
    cases ClsV.all cls ri
    cases is_tup
    cases is_seq
    exact PySem.W.kia_tup (PySem.W.kitx_exc (cls_some C.hd) C.hg C.hk C.hs C.ha C.hn C.ht C.hm) I.kIn inst get kit (fun z => nomatch z) fun tk => ⟨.bl b, H, I.tok tk, rfl, told⟩
end
end Tg

set_option maxHeartbeats 2000000
namespace Tg
open PySem PySem.Spec PyProof.Rows L2
/-! ### class X(ValueError): def __init__(self, at): ValueError.__init__(self, "..") ; self.at = at -/
def inCls (s : Stmt) (i : Nat) : Stmt := match s with
  | .ClassDef _ _ _ body _ _ _ _ _ _ _ => body.getD i (.Pass ⟨0, 0, 0, 0⟩)
  | _ => .Pass ⟨0, 0, 0, 0⟩
/-- what __init__ leaves: the field in a new dict -/
def spErr (C : Addr) (f : Str) : Sp := fun vs H Q _ => ∃ (a : Addr) (v : V), vs = [.ref a, v] ∧ H a = some (exo a C none) ∧ ∀ dx, H dx = none → dx ≠ a → Q .non (upd (upd H dx (exd dx [(f, v)])) a (exo a C (some dx)))
/-- what raise X(v) then leads to -/
theorem err_read {C : Addr} {f : Str} {ta : TE} {σ : L2.St} {H : Hp} {Q : XK} (h : ta σ H fun v H1 => ∀ (d : Addr) (H' : Hp), Same H1 H' → H1 d = none → H' d = some (.xd [(f, v)]) → Q (.ref C) (some d) H')
    (mono : ∀ {Q Q' : VK}, (∀ v H1, Q v H1 → Q' v H1) → ta σ H Q → ta σ H Q') : tMkO C (spErr C f) [] (tCons ta tNil) σ H Q := by
  refine mono (fun v H1 q => ⟨by show 1 ≤ 1000; decide, fun a na => ?_⟩) h
  refine ⟨a, v, rfl, upd_same, fun dx nd da => ⟨rfl, dx, [(f, v)], upd_same, ?_, ?_, ?_⟩⟩
  · rw [upd_ne da, upd_same]
  · rw [upd_ne da] at nd
    exact nd
  · have nd' : H1 dx = none := by
      rw [upd_ne da] at nd
      exact nd
    refine q dx _ (fun b o e => ?_) nd' upd_same
    have nb : b ≠ dx := ne_of_none e nd'
    have nba : b ≠ a := ne_of_none e na
    rw [upd_ne nb, del_ne nba, upd_ne nba, upd_ne nb, upd_ne nba]
    exact e
end Tg

set_option maxHeartbeats 2000000
namespace Tg
open PySem PySem.Spec PyProof.Rows L2
/-! ### a call by keywords that may raise, in a try -/
section
variable {X : Cx} {CX : CXT} {k : Nat} {f : Addr} {fd : FuncData} {ps ks : List Str} {sp : Sp} {E : L2.St → XK} {x : Str} {p pos : Pos} {kws : List Keyword} {tk : TA} {g : List Value → List Value → List Value} {gV : List V → List V → List V}
theorem pe_kwS (F : FnOk X.prog X.w X.K X.mg X.base CX k f fd ps sp) (room : Room k X.A) (gl : Gl X x) (at_x : X.mg x = some (.ref f)) (kept : PySem.W.keepIn X.K (.ref f) = true) (binds : KBn X.K fd ps 0 ks g gV) (lets : ∀ σ, PassesAt CX X σ (E σ)) (vals : PK X kws tk)
    (named : (backToKw pos (keywordEach kws X.env)).all (·.1.isSome) = true := by rfl) (names : (backToKw pos (keywordEach kws X.env)).filterMap (·.1) = ks := by rfl) (nodebug : (x == ("__debug__" : Str)) = false := by decide)
    (nostar : ((backTo pos (starEach [] X.env)).any (·.1) || (backToKw pos (keywordEach kws X.env)).any (·.1.isNone)) = false := by rfl) : PE X (.Call (.Name x p) [] kws pos) (fun σ H Q => tk σ H fun zs H2 => zs.length = ks.length ∧ sp (gV [] zs) H2 Q (E σ)) := by
  constructor
  intro pins s σ H Q I read
  refine wpAny_Call_Name_kw (ld_glob I gl at_x (PySem.W.callWith_KW0 (h₀ := X.base) I.ok.mod.kin kept named (thn (vals.run pos pins s σ H _ I read) fun ws s2 y => ?_) nostar) nodebug)
  obtain ⟨zs, H2, J, rel, many, told⟩ := y
  rw [names]
  refine ⟨J.kIn, wpAny_call (codeAny_mono (F.run X.A X.stack s2 H2 ⟨[], ks.zip ws⟩ (g [] ws) (gV [] zs) Q (E σ) room J.env0 (binds.to s2 [] ws J.kIn rfl (rel.length.symm.trans many)) (binds.rel (vs := []) (us := []) .nil rel) told) fun a s' z => ?_)⟩
  match a, z with
  | .error e, z => exact lets σ pins H2 s2 e s' J z
  | .ok (.ret u), z => exact J.after z
end
end Tg

set_option maxHeartbeats 2000000
namespace Tg
open PySem PySem.Spec PyProof.Rows L2
/-! ### own errors, and classes whose __init__ may raise, as a caller needs them -/
section
variable (P : Program) (w : World) (K : PySem.W.Frag) (mg : Str → Option Value) (base : Heap)
/-- the error x, of the class C over ValueError, made of one thing that is its field fld -/
def CalE (k : Nat) (x : Str) (C : Addr) (fld : Str) : Prop := ∃ fI fdI, OexC K C ∧ PySem.W.findIn K (.ref C) "__init__" = some (some (.ref fI)) ∧ PySem.W.typeIn K (.ref fI) = some (.type "function") ∧
  FnOk P w K mg base CX0 k fI fdI ["self", fld] (spErr C fld) ∧ Binds K fdI ["self", fld] [] ∧ mg x = some (.ref C)
/-- a def that may raise -/
def CalR (k : Nat) (x : Str) (ps : List Str) (sp : Sp) : Prop := ∃ f fd, FnOk P w K mg base (L2.CX P w) k f fd ps sp ∧ mg x = some (.ref f) ∧ PySem.W.keepIn K (.ref f) = true ∧ Binds K fd ps []
def CalRK (k : Nat) (x : Str) (ps ks : List Str) (is : List Nat) (sp : Sp) : Prop := ∃ f fd, FnOk P w K mg base (L2.CX P w) k f fd ps sp ∧ mg x = some (.ref f) ∧ PySem.W.keepIn K (.ref f) = true ∧ KBn K fd ps 0 ks (fun _ ws => prm is ws) (fun _ zs => prm is zs)
/-- a class whose __init__ may raise -/
def CalRC (k : Nat) (x : Str) (C : Addr) (ps : List Str) (sp : Sp) : Prop := ∃ f fd, FnOk P w K mg base (L2.CX P w) k f fd ps sp ∧ mg x = some (.ref C) ∧ Mk K C f ∧ Binds K fd ps []
def CalRCK (k : Nat) (x : Str) (C : Addr) (ps ks : List Str) (is : List Nat) (sp : Sp) : Prop := ∃ f fd, FnOk P w K mg base (L2.CX P w) k f fd ps sp ∧ mg x = some (.ref C) ∧ Mk K C f ∧ KBn K fd ps 1 ks (fun us ws => us ++ prm is ws) (fun vs zs => vs ++ prm is zs)
end
section
variable {X : Cx} {k : Nat} {ps ks : List Str} {is : List Nat} {sp : Sp} {x fld : Str} {C : Addr} {e : Expr} {es : List Expr} {p pos : Pos} {kws : List Keyword} {ta : TE} {t tk : TA} {W : WX}
theorem pm_err (c : CalE X.prog X.w X.K X.mg X.base k x C fld) (room : Room (k + 1) X.A) (gl : Gl X x) (he : PE X e ta) (nodebug : (x == ("__debug__" : Str)) = false := by decide)
    (star : starEach [e] X.env = (false, eval e X.env) :: starEach [] X.env := by rfl) : PMk X (.Call (.Name x p) [e] [] pos) (tMkO C (spErr C fld) [] (tCons ta tNil)) := by
  obtain ⟨fI, fdI, T, iC, tI, F, b, m⟩ := c
  exact pmk_oex T iC tI F room b .nil (fun _ _ _ _ _ _ _ z => z.elim) gl m (pa_cons he pa_nil star) nodebug star
/-- raise x(e), out of the def -/
def tErr (C : Addr) (fld : Str) (ta : TE) (E : XK) : TS := fun _ σ H => ta σ H fun v H1 => ∀ (d : Addr) (H' : Hp), Same H1 H' → H1 d = none → H' d = some (.xd [(fld, v)]) → E (.ref C) (some d) H'
/-- a call that may raise, in a def that lets it out -/
def tCalR (sp : Sp) (E : XK) (t : TA) : TE := fun σ H Q => t σ H fun vs H1 => sp vs H1 Q E
theorem pe_calR {E : XK} (c : CalR X.prog X.w X.K X.mg X.base k x ps sp) (hr : Room k X.A) (gl : Gl X x) (lets : Passes (L2.CX X.prog X.w) X E) (ha : PA X (e :: es) t) (nodebug : (x == ("__debug__" : Str)) = false := by decide)
    (star : starEach (e :: es) X.env = (false, eval e X.env) :: starEach es X.env := by rfl) (plain : (backTo pos (starEach es X.env)).any (·.1) = false := by rfl) : PE X (.Call (.Name x p) (e :: es) [] pos) (tCall sp [] E t) := by
  obtain ⟨f, fd, F, m, kp, b⟩ := c
  exact pe_call F hr gl m kp b .nil lets ha nodebug star plain
/-- the same in a try -/
theorem pe_calT (c : CalR X.prog X.w X.K X.mg X.base k x ps sp) (hr : Room k X.A) (gl : Gl X x) (tks : Takes X W) (ha : PA X (e :: es) t) (nodebug : (x == ("__debug__" : Str)) = false := by decide)
    (star : starEach (e :: es) X.env = (false, eval e X.env) :: starEach es X.env := by rfl) (plain : (backTo pos (starEach es X.env)).any (·.1) = false := by rfl) : PE X (.Call (.Name x p) (e :: es) [] pos) (tCallS sp (WE W) t) := by
  obtain ⟨f, fd, F, m, kp, b⟩ := c
  exact pe_callS F hr gl m kp b (fun σ => passAt tks σ) ha nodebug star plain
def tKwT (n : Nat) (sp : Sp) (is : List Nat) (W : WX) (tk : TA) : TE := fun σ H Q => tk σ H fun zs H2 => zs.length = n ∧ sp (prm is zs) H2 Q (WE W σ)
theorem pe_calKT (c : CalRK X.prog X.w X.K X.mg X.base k x ps ks is sp) (hr : Room k X.A) (gl : Gl X x) (tks : Takes X W) (vals : PK X kws tk)
    (named : (backToKw pos (keywordEach kws X.env)).all (·.1.isSome) = true := by rfl) (names : (backToKw pos (keywordEach kws X.env)).filterMap (·.1) = ks := by rfl) (nodebug : (x == ("__debug__" : Str)) = false := by decide)
    (nostar : ((backTo pos (starEach [] X.env)).any (·.1) || (backToKw pos (keywordEach kws X.env)).any (·.1.isNone)) = false := by rfl) : PE X (.Call (.Name x p) [] kws pos) (tKwT ks.length sp is W tk) := by
  obtain ⟨f, fd, F, m, kp, b⟩ := c
  exact pe_kwS (E := WE W) F hr gl m kp b (fun σ => passAt tks σ) vals named names nodebug nostar
/-! ### C(..), whose __init__ may raise, in a try -/
theorem made_or_raised {CX : CXT} {f : Addr} {fd : FuncData} {pins : List (Addr × Obj)} {σ : L2.St} {H : Hp} {s : Shared} {Q : VK} {E : L2.St → XK} {us zs : List Value} {kwv : List (Str × Value)} {vs : List V} (M : Mk X.K C f) (F : FnOk X.prog X.w X.K X.mg X.base CX k f fd ps sp)
    (room : Room (k + 1) X.A) (lets : PassesAt CX X σ (E σ)) (I : Inv X pins σ H s) (bound : ∀ s2 : Shared, X.K.In s2.heap → BindsTo s2 fd ⟨.ref (s.heap.objs.size + 1) :: us, kwv⟩ (ps.zip zs)) (rel : Vals (.ref (s.heap.objs.size + 1) :: vs) zs)
    (told : ∀ a d, H a = none → H d = none → d ≠ a → sp (.ref a :: vs) (upd (upd H d (.own a)) a (.ins C d [])) (fun v H2 => v = .non ∧ Q (.ref a) H2) (E σ)) : wpAny (model X.prog X.w) X.A (call (.ref C) us kwv) (EP X pins σ Q) X.xe s := by
  have new := I.made (C := C)
  have now := told _ _ (I.hok.fresh (Nat.le_succ s.heap.objs.size)) (I.hok.fresh (Nat.le_refl s.heap.objs.size)) (Nat.ne_of_lt (Nat.lt_succ_self _))
  have ran := F.run _ X.stack _ _ _ zs _ _ (E σ) (room.make C us kwv) (new.env0.make C us kwv) (bound _ new.kIn) rel now
  refine wpAny_call (make_map (f := f) I.kIn M.makes M.init (beq_iff_eq.mp M.fn) (codeAny_mono ran fun out s' z => ?_))
  match out, z with
  | .error err, z => exact lets pins _ _ err s' new z
  | .ok (.ret u), z =>
    obtain ⟨_, H3, J, r, rfl, q⟩ := new.after z
    exact ⟨r, .ref (s.heap.objs.size + 1), H3, J, rfl, q⟩
def tMkT (C : Addr) (sp : Sp) (W : WX) (t : TA) : TE := fun σ H Q => t σ H fun vs H1 => ∀ a d, H1 a = none → H1 d = none → d ≠ a → sp (.ref a :: vs) (upd (upd H1 d (.own a)) a (.ins C d [])) (fun v H2 => v = .non ∧ Q (.ref a) H2) (WE W σ)
theorem pe_mkT (c : CalRC X.prog X.w X.K X.mg X.base k x C ps sp) (room : Room (k + 1) X.A) (gl : Gl X x) (tks : Takes X W) (ha : PA X (e :: es) t) (nodebug : (x == ("__debug__" : Str)) = false := by decide)
    (star : starEach (e :: es) X.env = (false, eval e X.env) :: starEach es X.env := by rfl) (plain : (backTo pos (starEach es X.env)).any (·.1) = false := by rfl) : PE X (.Call (.Name x p) (e :: es) [] pos) (tMkT C sp W t) := by
  obtain ⟨f, fd, F, m, M, b⟩ := c
  constructor
  intro pins s σ H Q I read
  refine wpAny_Call_Name_kw (ld_glob I gl m (PySem.W.callWith_K (h₀ := X.base) I.ok.mod.kin M.kp (thn (ha.run pos pins s σ H _ I read) fun us s1 y => ?_) star plain) nodebug)
  obtain ⟨vs, H1, J, rel, told⟩ := y
  refine ⟨J.kIn, made_or_raised (E := WE W) (zs := .ref (s1.heap.objs.size + 1) :: us) M F room (passAt tks σ) J (fun s2 kin => ?_) (.cons rfl rel) told⟩
  have many : (V.ref (s1.heap.objs.size + 1) :: vs).length = ps.length := F.len _ _ _ _ (told _ _ (J.hok.fresh (Nat.le_succ s1.heap.objs.size)) (J.hok.fresh (Nat.le_refl s1.heap.objs.size)) (Nat.ne_of_lt (Nat.lt_succ_self _)))
  have z := b s2 (.ref (s1.heap.objs.size + 1) :: us) kin (by rw [List.append_nil, List.length_cons, ← rel.length]; exact many)
  rw [List.append_nil] at z
  exact z
def tMkKT (C : Addr) (n : Nat) (sp : Sp) (is : List Nat) (W : WX) (tk : TA) : TE := fun σ H Q => tk σ H fun zs H1 => zs.length = n ∧ ∀ a d, H1 a = none → H1 d = none → d ≠ a → sp (.ref a :: prm is zs) (upd (upd H1 d (.own a)) a (.ins C d [])) (fun v H2 => v = .non ∧ Q (.ref a) H2) (WE W σ)
theorem pe_mkKT (c : CalRCK X.prog X.w X.K X.mg X.base k x C ps ks is sp) (room : Room (k + 1) X.A) (gl : Gl X x) (tks : Takes X W) (vals : PK X kws tk)
    (named : (backToKw pos (keywordEach kws X.env)).all (·.1.isSome) = true := by rfl) (names : (backToKw pos (keywordEach kws X.env)).filterMap (·.1) = ks := by rfl) (nodebug : (x == ("__debug__" : Str)) = false := by decide)
    (nostar : ((backTo pos (starEach [] X.env)).any (·.1) || (backToKw pos (keywordEach kws X.env)).any (·.1.isNone)) = false := by rfl) : PE X (.Call (.Name x p) [] kws pos) (tMkKT C ks.length sp is W tk) := by
  obtain ⟨f, fd, F, m, M, b⟩ := c
  constructor
  intro pins s σ H Q I read
  refine wpAny_Call_Name_kw (ld_glob I gl m (PySem.W.callWith_KW0 (h₀ := X.base) I.ok.mod.kin M.kp named (thn (vals.run pos pins s σ H _ I read) fun ws s1 y => ?_) nostar) nodebug)
  obtain ⟨zs, H1, J, rel, many, told⟩ := y
  rw [names]
  exact ⟨J.kIn, made_or_raised (E := WE W) (us := []) (zs := .ref (s1.heap.objs.size + 1) :: prm is ws) M F room (passAt tks σ) J (fun s2 kin => b.to s2 [.ref (s1.heap.objs.size + 1)] ws kin rfl (rel.length.symm.trans many)) (.cons rfl (prm_rel rel is)) told⟩
end
end Tg

/-! f'{n:b}' and int(text, 2) -/
namespace Tg
open PySem PySem.Spec PyProof.Rows L2
/-- the signs of a number by twos -/
def binC (n : Nat) : List Nat := (Nat.toDigits 2 n).map Char.toNat
def fB : Builtin.Float.FormatSpec := { fill := 32, align := 62, type := some 98 }
theorem parse_b : Builtin.Float.parseFormatSpec (Str.ofString "b").cps.toList "int" 62 = .ok fB := by with_unfolding_all rfl
theorem ret_to {M : Model} {A : Around} {txt T : Str} {Q : PySem.Fin → Shared → Prop} {E : Value → Shared → Prop} {s : Shared} (e : txt = T) (h : wpAny M A (retStr T) Q E s) : wpAny M A (retStr txt) Q E s := by
  rw [e]
  exact h
section
variable {prog : Program} {w : World} {A : Around} {E : Value → Shared → Prop} {s : Shared}
theorem field_b {a : Int} {t : Tok} {Q : Value → Shared → Prop} (a0 : 0 ≤ a) (fits : (binC a.natAbs).length ≤ sizeLine) (h : ∀ (u k : Nat), Q (.str ⟨(binC a.natAbs).toArray⟩ u) { s with toks := k }) : wpAny (model prog w) A (formatField (.int a t) "b") Q E s := by
  show wpAny _ _ (holding [.int a t] (pyFormat (.int a t) "b")) Q E s
  refine wpAny_holding ?_
  unfold pyFormat
  refine wpAny_bind (wpAny_mkStr ?_ (by decide +kernel))
  refine wpAny_bind (m := callSpecial? (.int a t) (Str.ofString "__format__") [.str "b" s.toks]) (wpAny_callSpecial?_slot (name := Str.ofString "__format__") (typeIs_int _ a t) PySem.F.slot_int_format ?_)
  refine wpAny_call (codeAny_call_builtin PySem.F.slot_int_format.plain PySem.F.entry_int_format (PySem.F.slot_int_format.check _ _ _ _ _ _ _ _ (typeIs_int _ a t) (PySem.F.args_int_format_2 _ _) ?_))
  have e1 : ((Str.ofString "b").length == 0) = false := by decide +kernel
  have e2 : (((Str.ofString "b").cps.toList.drop 1).any (· ≥ 128) || ((Str.ofString "b").cps.getD 0 0 ≥ 128 && !([60, 62, 61, 94] : List Nat).contains ((Str.ofString "b").cps.getD 1 0))) = false := by decide +kernel
  simp only [Builtin.«int.__format__», selfAndOne, noKeywords, Builtin.Int.intOfSelf, asInt?, asStr?, List.isEmpty_nil, if_true, pure_bind, bind_pure, bind_assoc, e1, e2, Bool.false_eq_true, if_false, show (Value.str (Str.ofString "b") s.toks == Value.none) = false from rfl]
  refine wpAny_bind (wpAny_typeNameOf (T := "str") (typeIs_str _ _ _) (by decide) fun _ => wpAny_bind (wpAny_typeNameOfCut_int ?_))
  simp only [parse_b]
  have t98 : fB.type.getD (if ((Str.ofString "b").cps.back? == some 0) = true then 0 else 100) = 98 := rfl
  simp only [t98]
  rw [if_pos (by decide)]
  have neg : decide (a < 0) = false := decide_eq_false (by omega)
  refine ret_to (T := ⟨(binC a.natAbs).toArray⟩) ?_ ?_
  · rw [neg]
    obtain ⟨ds, eds⟩ : ∃ ds, (Nat.toDigits 2 a.natAbs).map (fun c => (if ((98 : Nat) == 88) = true then c.toUpper else c).toNat) = ds := ⟨_, rfl⟩
    have eb : binC a.natAbs = ds := eds
    rw [eb]
    show PyProof.Rows.intField' fB false [] _ [] 4 = _
    rw [eds]
    unfold PyProof.Rows.intField' fB
    cases ds with
    | nil => rfl
    | cons d r =>
      have p0 : ((-1 : Int) - 0 - ((d :: r).length : Nat)).toNat = 0 := by omega
      simp [p0]
      omega
  · unfold retStr
    refine wpAny_bind (wpAny_mkStr (wpAny_pure ?_) ?_)
    · exact wpAny_bind (wpAny_isInstance (T := "str") (typeIs_str _ _ _) isSubtype_str_str (wpAny_pure (h _ _)))
    · exact fits
end
section
variable {X : Cx}
/-- {n:b} -/
def tFmtB (te : TE) : TE := fun σ H Q => te σ H fun x H1 => ∃ n : Nat, x = .int (n : Nat) ∧ (binC n).length ≤ sizeLine ∧ Q (.str (SX.S (binC n))) H1
theorem pe_fmtB {e spec : Expr} {te : TE} {pos : Pos} (he : PE X e te) (hs : PE X spec (tC (.str "b"))) : PE X (.FormattedValue e (-1) (some spec) pos) (tFmtB te) := by
  refine ⟨fun pins s σ H Q I h => ?_⟩
  refine wpAny_FormattedValue_spec (thn (he.run pins s σ H _ I h) fun v s1 ⟨x, H1, I1, r1, n, ex, fits, q⟩ => ?_)
  subst ex
  obtain ⟨t, rfl⟩ := r1
  refine thn (hs.run pins s1 σ H1 (fun y H2 => y = .str "b" ∧ H2 = H1) I1 ⟨rfl, rfl⟩) fun r s2 ⟨y, H2, I2, r2, ey, eH⟩ => ?_
  subst ey eH
  obtain ⟨u, rfl⟩ := r2
  refine ⟨_, u, rfl, field_b (by omega) (by rw [Int.natAbs_natCast]; exact fits) fun u k => ⟨.str (SX.S (binC n)), H2, I2.tok k, ⟨u, by rw [Int.natAbs_natCast]⟩, q⟩⟩
end
/-! ### int(text, 2) -/
def IsBin (c : Nat) : Prop := c = 48 ∨ c = 49
theorem IsBin.hex {c : Nat} (h : IsBin c) : Hx.IsHex c := .inl (by unfold IsBin at h; omega)
def binNum (l : List Nat) : Nat := l.foldl (fun a c => a * 2 + (c - 48)) 0
theorem bin_step {ds : Array Nat} {b : Bool} {c : Nat} (h : IsBin c) : PySem.NumText.step 2 (ds, b) c = some (ds.push (c - 48), true) := by
  have e : PySem.NumText.digit? c = some (c - 48) := by
    rw [Hx.digit_hex h.hex]
    unfold Hx.hv
    rw [if_pos (by unfold IsBin at h; omega)]
  have n95 : ¬ (c == 95) = true := by
    rw [beq_iff_eq]
    unfold IsBin at h
    omega
  unfold PySem.NumText.step
  rw [if_neg n95, e]
  exact if_pos (by unfold IsBin at h; omega)
theorem bin_fold : ∀ (cs : List Nat) (ds : Array Nat), (∀ c ∈ cs, IsBin c) → cs.foldlM (PySem.NumText.step 2) (ds, true) = some (cs.foldl (fun acc c => acc.push (c - 48)) ds, true)
  | [], _, _ => rfl
  | c :: cs, ds, h => by
    rw [List.foldlM_cons, bin_step (h c List.mem_cons_self)]
    exact bin_fold cs (ds.push (c - 48)) fun d hd => h d (List.mem_cons_of_mem _ hd)
theorem bin_digits {c : Nat} {cs : List Nat} (h : ∀ d ∈ c :: cs, IsBin d) : PySem.NumText.digits? 2 (c :: cs) = some ((c :: cs).foldl (fun acc c => acc.push (c - 48)) #[]) := by
  have z := bin_fold cs ((#[] : Array Nat).push (c - 48)) fun d hd => h d (List.mem_cons_of_mem _ hd)
  unfold PySem.NumText.digits?
  rw [List.foldlM_cons, bin_step (h c List.mem_cons_self)]
  show (cs.foldlM (PySem.NumText.step 2) ((#[] : Array Nat).push (c - 48), true)).bind _ = _
  rw [z]
  rfl
theorem bin_value : ∀ (cs : List Nat) (ds : Array Nat), (cs.foldl (fun acc c => acc.push (c - 48)) ds).foldl (fun acc d => acc * 2 + d) 0 = cs.foldl (fun a c => a * 2 + (c - 48)) (ds.foldl (fun acc d => acc * 2 + d) 0)
  | [], _ => rfl
  | c :: cs, ds => by
    rw [List.foldl_cons, bin_value cs (ds.push (c - 48)), List.foldl_cons, Array.foldl_push]
theorem bin_pref {cs : List Nat} (h : ∀ c ∈ cs, IsBin c) : PySem.NumText.prefix? cs = none := by
  match cs, h with
  | [], _ => rfl
  | [a], _ =>
    unfold PySem.NumText.prefix?
    split
    · rename_i e
      cases e
    · rfl
  | a :: c :: r, h =>
    have hc := h c (List.mem_cons_of_mem _ List.mem_cons_self)
    unfold IsBin at hc
    by_cases ha : a = 48
    · subst ha
      have n : ∀ k : Nat, 60 ≤ k → ¬ (c == k) = true := fun k hk z => by
        have := beq_iff_eq.mp z
        omega
      show (if (c == 120 || c == 88) = true then some 16 else if (c == 111 || c == 79) = true then some 8 else if (c == 98 || c == 66) = true then some 2 else none) = none
      have o : ∀ k l : Nat, 60 ≤ k → 60 ≤ l → ¬ (c == k || c == l) = true := fun k l hk hl z => (Bool.or_eq_true _ _ ▸ z).elim (n k hk) (n l hl)
      rw [if_neg (o _ _ (by decide) (by decide)), if_neg (o _ _ (by decide) (by decide)), if_neg (o _ _ (by decide) (by decide))]
    · unfold PySem.NumText.prefix?
      split
      · rename_i e
        exact (ha (List.cons.inj e).1).elim
      · rfl
theorem bin_based {cs : List Nat} (h : ∀ c ∈ cs, IsBin c) : PySem.NumText.based 2 cs = (2, false, cs) := by
  unfold PySem.NumText.based
  rw [bin_pref h]
  rfl
open PySem.NumText PySem.Calls in
theorem bin_read {cs : List Nat} (h : ∀ c ∈ cs, IsBin c) (ne : cs ≠ []) : (int_private% "readNumeral") 0 2 cs = (int_private% "Numeral.value") ((binNum cs : Nat) : Int) := by
  have hx : ∀ c ∈ cs, Hx.IsHex c := fun c hc => (h c hc).hex
  have hr : ∀ c ∈ cs.reverse, Hx.IsHex c := fun c hc => hx c (List.mem_reverse.mp hc)
  obtain ⟨c, r, rfl⟩ := List.exists_cons_of_ne_nil ne
  have dg := bin_digits h
  have vl := bin_value (c :: r) #[]
  refine (readNumeral_eq 0 2 (c :: r)).trans ?_
  rw [Hx.dropB hx, Hx.signH hx]
  show judge 0 false (based 2 (c :: r)).1 (based 2 (c :: r)).2.1 (digits? (based 2 (c :: r)).1 (((based 2 (c :: r)).2.2.reverse.dropWhile blank).reverse)) = _
  rw [bin_based h]
  show judge 0 false 2 false (digits? 2 (((c :: r).reverse.dropWhile blank).reverse)) = _
  rw [Hx.dropB hr, List.reverse_reverse, dg]
  show (int_private% "Numeral.value") ((((c :: r).foldl (fun acc c => acc.push (c - 48)) (#[] : Array Nat)).foldl (fun acc d => acc * 2 + d) 0 : Nat) : Int) = _
  rw [vl]
  rfl
set_option maxHeartbeats 4000000 in
open PySem.NumText PySem.Calls in
theorem gives_bin {x : Str} {u t : Tok} (hl : x.length ≤ 640) (h : ∀ c ∈ x.cps.toList, IsBin c) (ne : x.cps.toList ≠ []) : Gives (Builtin.«int.__new__» ⟨[.type "int", .str x u, .int 2 t], []⟩) (.int ((binNum x.cps.toList : Nat) : Int)) :=
  .of_wp fun M A E s Q hQ => by
    obtain ⟨heap, gens, drawn, toks, out⟩ := s
    have f1 := PySem.F.conv_sub_int
    have f2 := PySem.F.madeHere_int
    have strT : typeOf (.str x u) = pure (.type "str") := rfl
    obtain ⟨same1, same2⟩ := Hx.seen_hex fun c hc => (h c hc).hex
    have few : (numSeenOf x).length ≤ 640 := by
      rw [same2, Array.length_toList]
      exact hl
    have told : (int_private% "readNumeral") 0 2 (numSeenOf x) = (int_private% "Numeral.value") ((binNum x.cps.toList : Nat) : Int) := by
      rw [same2]
      exact bin_read h ne
    have whole : ((numSeenOf x).length == (numTextOf x).length) = true := by
      rw [same1, same2]
      exact beq_self_eq_true _
    have hk := Hx.Hid.mk (And.intro few (And.intro told whole))
    clear few told whole same1 same2 hl ne h
    repeat (any_goals (first
      | assumption
      | ((with_reducible show wpAny _ _ ((int_private% "intFromText") _ _ _) _ _ _); refine Hx.wp_textB hk.out.1 hk.out.2.1 hk.out.2.2 ?_)
      | wp_step))
    all_goals (try exact ⟨_, rfl, hQ⟩)
def rIntBin : List V → Hp → VK → Prop := fun xs H Q => ∃ l : List Nat, xs = [.str (SX.S l), .int 2] ∧ l ≠ [] ∧ l.length ≤ 640 ∧ (∀ c ∈ l, IsBin c) ∧ Q (.int ((binNum l : Nat) : Int)) H
theorem call_int_bin {X : Cx} : CallR X (.type "int") rIntBin := by
  rintro pins s σ H _ us Q I r ⟨l, rfl, ne, few, bin, q⟩
  obtain ⟨u, v, rfl, r1, r2⟩ := vals2 r
  obtain ⟨t1, rfl⟩ := r1
  obtain ⟨t2, rfl⟩ := r2
  have g := gives_bin (x := SX.S l) (u := t1) (t := t2) (by rw [SX.S_len]; exact few) bin ne
  exact callType_new PySem.F.called_int PySem.F.newNe_int (Hx.typeCall_int_2 _ _) (Hx.newCall_int_2 _ _) (fun obj => PySem.F.initArgs_range_2 obj _ _) PySem.F.entry_int_new g.meets (show (Made.int ((binNum l : Nat) : Int)).post _ s from ⟨rfl, .int ((binNum l : Nat) : Int), H, I.tok _, ⟨_, rfl⟩, q⟩)
end Tg

namespace Tg
open PySem PySem.Spec PyProof.Rows L2
/-! ### a sign many times -/
def rTimes (c : Nat) : R2 := fun x y H Q => ∃ n : Nat, x = .str (SX.S [c]) ∧ y = .int (n : Nat) ∧ n ≤ 1000 ∧ Q (.str (SX.S (List.replicate n c))) H
theorem op_times {X : Cx} {c : Nat} : OpR X (binaryOp .Mult) (rTimes c) := by
  rintro pins s σ H _ _ v u Q I rx ry ⟨n, rfl, rfl, few, q⟩
  obtain ⟨t, rfl⟩ := rx
  obtain ⟨t2, rfl⟩ := ry
  have l1 : (SX.S [c]).length = 1 := rfl
  have rep : ∀ (m : Nat) (acc : Array Nat), (List.replicate m (SX.S [c]).cps).foldl (· ++ ·) acc = acc ++ (List.replicate m c).toArray := fun m => by
    induction m with
    | zero =>
      intro acc
      show acc = acc ++ #[]
      simp
    | succ m ih =>
      intro acc
      rw [List.replicate_succ, List.foldl_cons, ih]
      apply Array.ext'
      simp [List.replicate_succ]
  refine PySem.P.mul_str ?_ (fun _ _ => ?_) (fun _ _ => ?_) ?_
  · rw [decide_eq_false (by omega), decide_eq_false (by omega)]
    rfl
  · rw [l1]
    intro z
    have : (1 : Int) ≤ (2 ^ 63 - 1) / (n : Int) := by
      by_cases n0 : n = 0
      · subst n0
        omega
      · exact (Int.le_ediv_iff_mul_le (by omega)).mpr (by omega)
    omega
  · rw [l1]
    unfold Builtin.Str.tooLong
    exact decide_eq_false (by rw [sizeLine_eq]; omega)
  · by_cases c0 : (n : Int) < 1
    · obtain rfl : n = 0 := by omega
      rw [if_pos c0]
      exact ⟨by decide, .str (SX.S []), H, I.tok _, ⟨_, rfl⟩, q⟩
    · rw [if_neg c0]
      by_cases c1 : ((n : Int) == 1 || (SX.S [c]).length == 0) = true
      · rw [if_pos c1]
        have n1 : n = 1 := by
          rw [l1] at c1
          have : ((n : Int) == 1) = true := by
            cases e : (n : Int) == 1 with
            | true => rfl
            | false =>
              rw [e] at c1
              cases c1
          have := beq_iff_eq.mp this
          omega
        subst n1
        exact ⟨.str (SX.S [c]), H, I, ⟨t, rfl⟩, q⟩
      · rw [if_neg c1]
        have e : (List.replicate (n : Int).toNat (SX.S [c]).cps).foldl (· ++ ·) #[] = (List.replicate n c).toArray := by
          rw [show (n : Int).toNat = n from rfl, rep]
          simp
        rw [e]
        refine ⟨?_, .str (SX.S (List.replicate n c)), H, I.tok _, ⟨_, rfl⟩, q⟩
        rw [SX.S_len, List.length_replicate, sizeLine_eq]
        omega
end Tg

namespace Tg
open PySem PySem.Spec PyProof.Rows L2
/-! ### numbers by twos -/
/-- the last w signs of n by twos -/
def bt : Nat → Nat → List Nat
  | 0, _ => []
  | w + 1, n => bt w (n / 2) ++ [48 + n % 2]
theorem bt_len : ∀ w n, (bt w n).length = w
  | 0, _ => rfl
  | w + 1, n => by
    show (bt w (n / 2) ++ [48 + n % 2]).length = w + 1
    rw [List.length_append, bt_len w]
    rfl
theorem bt_bin : ∀ w n c, c ∈ bt w n → IsBin c
  | 0, _, _, h => nomatch h
  | w + 1, n, c, h => by
    rcases List.mem_append.mp (show c ∈ bt w (n / 2) ++ [48 + n % 2] from h) with h | h
    · exact bt_bin w _ c h
    · rw [List.mem_singleton.mp h]
      unfold IsBin
      omega
theorem num_snoc (l : List Nat) (c : Nat) : binNum (l ++ [c]) = binNum l * 2 + (c - 48) := by
  unfold binNum
  rw [List.foldl_append]
  rfl
theorem num_bt : ∀ w n, binNum (bt w n) = n % 2 ^ w
  | 0, n => by
    show 0 = n % 1
    omega
  | w + 1, n => by
    show binNum (bt w (n / 2) ++ [48 + n % 2]) = _
    rw [num_snoc, num_bt w, Nat.pow_succ, Nat.mul_comm (2 ^ w) 2, Nat.mod_mul]
    omega
theorem bt_split (d : Nat) : ∀ w n, bt (d + w) n = bt d (n / 2 ^ w) ++ bt w n
  | 0, n => by
    rw [Nat.pow_zero]
    rw [Nat.div_one]
    exact (List.append_nil _).symm
  | w + 1, n => by
    show bt (d + w) (n / 2) ++ [48 + n % 2] = _ ++ (bt w (n / 2) ++ [48 + n % 2])
    rw [bt_split d w (n / 2), Nat.div_div_eq_div_mul, Nat.mul_comm 2, ← Nat.pow_succ, List.append_assoc]
theorem bt_zero : ∀ d, bt d 0 = List.replicate d 48
  | 0 => rfl
  | d + 1 => by
    show bt d (0 / 2) ++ [48 + 0 % 2] = _
    rw [Nat.zero_div, bt_zero d, List.replicate_succ']
/-- how many signs n has by twos -/
def blen (n : Nat) : Nat := if n = 0 then 0 else n.log2 + 1
theorem blen_pos {n : Nat} (h : 0 < n) : blen n = n.log2 + 1 := if_neg (by omega)
theorem blen_half {n : Nat} (h : 0 < n) : blen n = blen (n / 2) + 1 := by
  rw [blen_pos h, Nat.log2_def]
  by_cases c : 2 ≤ n
  · rw [if_pos c, blen_pos (show 0 < n / 2 by omega)]
  · rw [if_neg c, show n / 2 = 0 by omega]
    rfl
theorem lt_blen (n : Nat) : n < 2 ^ blen n := by
  by_cases h : n = 0
  · subst h
    decide
  · rw [blen_pos (by omega)]
    exact Nat.lt_log2_self
theorem bin_zero : binC 0 = [48] := by
  unfold binC
  rw [Nat.toDigits_zero]
  rfl
theorem bin_digit {n : Nat} : (n % 2).digitChar.toNat = 48 + n % 2 := by
  rcases Nat.mod_two_eq_zero_or_one n with e | e <;> rw [e] <;> rfl
theorem bin_is {n : Nat} : 0 < n → binC n = bt (blen n) n := by
  refine Nat.strongRecOn n fun n ih h => ?_
  · skip
    rw [blen_half h]
    show binC n = bt (blen (n / 2)) (n / 2) ++ [48 + n % 2]
    unfold binC
    by_cases c : 2 ≤ n
    · rw [Nat.toDigits_of_base_le (by decide) c, List.map_append, ← ih (n / 2) (by omega) (by omega)]
      show _ ++ [(n % 2).digitChar.toNat] = _
      rw [bin_digit]
      rfl
    · have : n = 1 := by omega
      subst this
      rfl
theorem bt_pad {w n : Nat} (h : blen n ≤ w) : bt w n = List.replicate (w - blen n) 48 ++ bt (blen n) n := by
  have e := bt_split (w - blen n) (blen n) n
  rw [show w - blen n + blen n = w by omega, Nat.div_eq_of_lt (lt_blen n), bt_zero] at e
  exact e
/-- a number's own code -/
def ownL (n : Nat) : List Nat := List.replicate (n + 1).log2 48 ++ 49 :: bt (n + 1).log2 (n + 1)
theorem own_is (n : Nat) : List.replicate (blen (n + 1) - 1) 48 ++ bt (blen (n + 1)) (n + 1) = ownL n := by
  have b := blen_pos (Nat.succ_pos n)
  have one : (n + 1) / 2 ^ (n + 1).log2 = 1 := by
    have h1 := Nat.log2_self_le (n := n + 1) (by omega)
    have h2 := Nat.lt_log2_self (n := n + 1)
    refine Nat.div_eq_of_lt_le (by rw [Nat.one_mul]; exact h1) ?_
    rw [Nat.pow_succ] at h2
    omega
  have e := bt_split 1 (n + 1).log2 (n + 1)
  rw [one] at e
  unfold ownL
  rw [b, Nat.add_sub_cancel, Nat.add_comm _ 1, e]
  rfl
theorem own_len (n : Nat) : (ownL n).length = 2 * (n + 1).log2 + 1 := by
  unfold ownL
  rw [List.length_append, List.length_replicate, List.length_cons, bt_len]
  omega
theorem own_lo {n v : Nat} (h : v < (n + 1).log2) : (ownL n)[v]? = some 48 := by
  unfold ownL
  rw [List.getElem?_append_left (by rw [List.length_replicate]; exact h), List.getElem?_replicate, if_pos h]
theorem own_one (n : Nat) : (ownL n)[(n + 1).log2]? = some 49 := by
  unfold ownL
  rw [List.getElem?_append_right (by rw [List.length_replicate]; exact Nat.le_refl _), List.length_replicate, Nat.sub_self]
  rfl
theorem own_tail (n : Nat) : (ownL n).drop (n + 1).log2 = bt (blen (n + 1)) (n + 1) := by
  rw [← own_is, List.drop_append_of_le_length (by rw [List.length_replicate, blen_pos (show 0 < n + 1 by omega)]; omega), List.drop_of_length_le (by rw [List.length_replicate, blen_pos (show 0 < n + 1 by omega)]; omega)]
  rfl
theorem own_num (n : Nat) : binNum (bt (blen (n + 1)) (n + 1)) = n + 1 := by
  rw [num_bt, Nat.mod_eq_of_lt (lt_blen _)]
/-! ### find -/
theorem from_nat (m a : Nat) : fromIndex m (a : Int) = a := by
  unfold fromIndex
  rw [if_neg (by omega)]
  omega
theorem getD_S (l : List Nat) (v : Nat) : (SX.S l).cps.getD v 0 = l.getD v 0 := by
  show l.toArray.getD v 0 = l.getD v 0
  rw [Array.getD_eq_getD_getElem?, List.getElem?_toArray, List.getD_eq_getElem?_getD]
theorem find_at {l : List Nat} {a j : Nat} (hj : l[j]? = some 49) (aj : a ≤ j) (no : ∀ v, a ≤ v → v < j → l[v]? ≠ some 49) : Txt.find3 (SX.S l) ⟨#[49]⟩ (a : Int) = (j : Nat) := by
  have lj := (List.getElem?_eq_some_iff.mp hj).1
  have gj : l.getD j 0 = 49 := by rw [List.getD_eq_getElem?_getD, hj]; rfl
  rcases StrLaws.find3_spec (SX.S l) 49 (a : Int) with ⟨_, h⟩ | ⟨k, e, h1, h2, h3, h4⟩
  · rw [from_nat, SX.S_len] at h
    exact absurd (by rw [getD_S]; exact gj) (h j aj lj)
  · rw [from_nat] at h1 h4
    rw [SX.S_len] at h2
    rw [getD_S] at h3
    rw [e]
    rcases Nat.lt_trichotomy k j with lt | rfl | gt
    · refine absurd ?_ (no k h1 lt)
      rw [List.getElem?_eq_getElem h2]
      rw [List.getD_eq_getElem?_getD, List.getElem?_eq_getElem h2] at h3
      exact congrArg some h3
    · rfl
    · exact absurd (by rw [getD_S]; exact gj) (h4 j aj gt)
theorem find_no {l : List Nat} {a : Nat} (no : ∀ v, a ≤ v → l[v]? ≠ some 49) : Txt.find3 (SX.S l) ⟨#[49]⟩ (a : Int) = -1 := by
  rcases StrLaws.find3_spec (SX.S l) 49 (a : Int) with ⟨e, _⟩ | ⟨k, e, h1, h2, h3, _⟩
  · exact e
  · rw [from_nat] at h1
    rw [SX.S_len] at h2
    rw [getD_S, List.getD_eq_getElem?_getD, List.getElem?_eq_getElem h2] at h3
    exact absurd (by rw [List.getElem?_eq_getElem h2]; exact congrArg some h3) (no k h1)
/-! ### zfill -/
theorem zfill_is {l : List Nat} {w : Nat} (bin : ∀ c ∈ l, IsBin c) : Txt.zfill (SX.S l) (w : Int) = SX.S (List.replicate (w - l.length) 48 ++ l) := by
  unfold Txt.zfill
  by_cases c : (w : Int) ≤ (SX.S l).length
  · rw [if_pos c]
    rw [SX.S_len] at c
    rw [show w - l.length = 0 by omega]
    rfl
  · rw [if_neg c, SX.S_len]
    have e : zfilled (SX.S l) ((w : Int).toNat - l.length) = Builtin.Str.padded (SX.S l) ((w : Int).toNat - l.length) 0 48 := by
      unfold zfilled
      cases l with
      | nil => rfl
      | cons d r =>
        have := bin d List.mem_cons_self
        unfold IsBin at this
        rcases this with rfl | rfl <;> rfl
    rw [e]
    unfold Builtin.Str.padded
    rw [show (w : Int).toNat = w from rfl]
    show (⟨Array.replicate (w - l.length) 48 ++ l.toArray ++ Array.replicate 0 48⟩ : Str) = ⟨(List.replicate (w - l.length) 48 ++ l).toArray⟩
    congr 1
    apply Array.ext'
    simp
end Tg

namespace Tg
/-! ### columns: numbers turned, codes, gaps, runs -/
def tn (n : Int) : Int := if 0 ≤ n then 2 * n else -2 * n - 1
def bk (m : Int) : Int := if m % 2 = 0 then m / 2 else -(m / 2) - 1
theorem bk_tn (n : Int) : bk (tn n) = n := by
  unfold tn bk
  split
  · rw [if_pos (by omega)]
    omega
  · rw [if_neg (by omega)]
    omega
def tN (n : Int) : Nat := (tn n).toNat
theorem tn_nat (n : Int) : tn n = (tN n : Nat) := by
  unfold tN
  unfold tn
  split <;> omega
theorem tN_lt {n : Int} {b : Nat} (h : n.natAbs < 2 ^ b) : tN n < 2 ^ (b + 1) := by
  unfold tN tn
  rw [Nat.pow_succ]
  split <;> omega
theorem tN_inj {a b : Int} (h : tN a = tN b) : a = b := by
  have e : tn a = tn b := by rw [tn_nat, tn_nat, h]
  rw [← bk_tn a, ← bk_tn b, e]
def cd (n : Int) : List Nat := ownL (tN n)
def cds (xs : List Int) : List Nat := (xs.map cd).flatten
theorem cds_app (a b : List Int) : cds (a ++ b) = cds a ++ cds b := by
  unfold cds
  rw [List.map_append, List.flatten_append]
theorem cds_cons (a : Int) (b : List Int) : cds (a :: b) = cd a ++ cds b := rfl
/-- the code at the i-th place -/
theorem cds_at {cs : List Int} {i : Nat} {c : Int} (h : cs[i]? = some c) : cds cs = cds (cs.take i) ++ (cd c ++ cds (cs.drop (i + 1))) := by
  obtain ⟨lt, e⟩ := List.getElem?_eq_some_iff.mp h
  have z : cs = cs.take i ++ c :: cs.drop (i + 1) := by
    rw [← e, List.getElem_cons_drop, List.take_append_drop]
  calc cds cs = cds (cs.take i ++ c :: cs.drop (i + 1)) := by rw [← z]
    _ = _ := by rw [cds_app, cds_cons]
theorem cds_next {cs : List Int} {i : Nat} {c : Int} (h : cs[i]? = some c) : (cds (cs.take (i + 1))).length = (cds (cs.take i)).length + (cd c).length := by
  rw [List.take_add_one, h, Option.toList_some, cds_app, List.length_append]
  congr 1
  unfold cds
  simp
def difs : List Int → List Int
  | a :: b :: r => (b - a) :: difs (b :: r)
  | _ => []
theorem difs_len : ∀ xs : List Int, (difs xs).length = xs.length - 1
  | [] => rfl
  | [_] => rfl
  | a :: b :: r => by
    have := difs_len (b :: r)
    show (difs (b :: r)).length + 1 = _
    rw [this]
    rfl
theorem difs_at : ∀ (xs : List Int) (i : Nat) (a b : Int), xs[i]? = some a → xs[i + 1]? = some b → (difs xs)[i]? = some (b - a)
  | [], _, _, _, h, _ => by simp at h
  | [_], 0, _, _, _, h => by simp at h
  | [_], _ + 1, _, _, h, _ => by simp at h
  | x :: y :: r, 0, a, b, h1, h2 => by
    cases h1
    cases h2
    rfl
  | x :: y :: r, i + 1, a, b, h1, h2 => difs_at (y :: r) i a b h1 h2
def stp (xs : List Int) : List Int := xs.take 1 ++ difs xs
theorem stp_len (xs : List Int) : (stp xs).length = xs.length := by
  unfold stp
  rw [List.length_append, List.length_take, difs_len]
  omega
theorem stp_0 {xs : List Int} {a : Int} (h : xs[0]? = some a) : (stp xs)[0]? = some a := by
  cases xs with
  | nil => simp at h
  | cons x r =>
    cases h
    rfl
theorem stp_at {xs : List Int} {i : Nat} {a b : Int} (h1 : xs[i]? = some a) (h2 : xs[i + 1]? = some b) : (stp xs)[i + 1]? = some (b - a) := by
  unfold stp
  have := (List.getElem?_eq_some_iff.mp h1).1
  rw [List.getElem?_append_right (by rw [List.length_take]; omega), List.length_take, show i + 1 - min 1 xs.length = i by omega]
  exact difs_at xs i a b h1 h2
/-- the codes of turns -/
def trn (xs : List Int) : List Int := xs.take 1 ++ stp (difs xs)
theorem trn_len (xs : List Int) : (trn xs).length = xs.length := by
  unfold trn
  rw [List.length_append, List.length_take, stp_len, difs_len]
  omega
theorem trn_0 {xs : List Int} {a : Int} (h : xs[0]? = some a) : (trn xs)[0]? = some a := by
  cases xs with
  | nil => simp at h
  | cons x r =>
    cases h
    rfl
theorem trn_1 {xs : List Int} {a b : Int} (h1 : xs[0]? = some a) (h2 : xs[1]? = some b) : (trn xs)[1]? = some (b - a) := by
  unfold trn
  have := (List.getElem?_eq_some_iff.mp h1).1
  rw [List.getElem?_append_right (by rw [List.length_take]; omega), List.length_take, show 1 - min 1 xs.length = 0 by omega]
  exact stp_0 (difs_at xs 0 a b h1 h2)
theorem trn_at {xs : List Int} {i : Nat} {a b c : Int} (h1 : xs[i]? = some a) (h2 : xs[i + 1]? = some b) (h3 : xs[i + 2]? = some c) : (trn xs)[i + 2]? = some ((c - b) - (b - a)) := by
  unfold trn
  have := (List.getElem?_eq_some_iff.mp h1).1
  rw [List.getElem?_append_right (by rw [List.length_take]; omega), List.length_take, show i + 2 - min 1 xs.length = i + 1 by omega]
  exact stp_at (difs_at xs i a b h1 h2) (difs_at xs (i + 1) b c h2 h3)
/-! runs -/
abbrev Run := Int × Nat
def rnA (rs : List Run) (x : Int) : List Run := match rs.getLast? with
  | some (y, n) => if y = x then rs.dropLast ++ [(y, n + 1)] else rs ++ [(x, 1)]
  | none => [(x, 1)]
def rn (xs : List Int) : List Run := xs.foldl rnA []
theorem rn_snoc (xs : List Int) (x : Int) : rn (xs ++ [x]) = rnA (rn xs) x := by
  unfold rn
  rw [List.foldl_append]
  rfl
def unr (rs : List Run) : List Int := (rs.map fun r => List.replicate r.2 r.1).flatten
theorem unr_app (a b : List Run) : unr (a ++ b) = unr a ++ unr b := by
  unfold unr
  rw [List.map_append, List.flatten_append]
theorem unr_one (r : Run) : unr [r] = List.replicate r.2 r.1 := by
  unfold unr
  simp
theorem last_split {α : Type} {l : List α} {a : α} (h : l.getLast? = some a) : l = l.dropLast ++ [a] := by
  have ne : l ≠ [] := fun z => by
    rw [z] at h
    cases h
  rw [List.getLast?_eq_some_getLast ne] at h
  cases h
  exact (List.dropLast_concat_getLast ne).symm
theorem rnA_un (rs : List Run) (x : Int) : unr (rnA rs x) = unr rs ++ [x] := by
  unfold rnA
  split
  · rename_i y n h
    split
    · rename_i e
      have z := last_split h
      rw [unr_app, unr_one]
      conv => rhs; rw [z, unr_app, unr_one]
      show _ ++ List.replicate (n + 1) y = _ ++ List.replicate n y ++ [x]
      rw [List.replicate_succ', e, List.append_assoc]
    · rw [unr_app, unr_one]
      rfl
  · rename_i h
    rw [List.getLast?_eq_none_iff.mp h, unr_one]
    rfl
theorem rnA_pos {rs : List Run} (h : ∀ r, r ∈ rs → 1 ≤ r.2) (x : Int) : ∀ r, r ∈ rnA rs x → 1 ≤ r.2 := by
  unfold rnA
  split
  · split
    · intro r hr
      rcases List.mem_append.mp hr with old | new
      · exact h r ((List.dropLast_sublist _).subset old)
      · rw [List.mem_singleton.mp new]
        exact Nat.le_add_left _ _
    · intro r hr
      rcases List.mem_append.mp hr with old | new
      · exact h r old
      · rw [List.mem_singleton.mp new]
        exact Nat.le_refl 1
  · intro r hr
    rw [List.mem_singleton.mp hr]
    exact Nat.le_refl 1
theorem rn_all : ∀ xs : List Int, unr (rn xs) = xs ∧ ∀ r, r ∈ rn xs → 1 ≤ r.2 := by
  have go : ∀ (ys : List Int) (rs : List Run) (done : List Int), unr rs = done → (∀ r, r ∈ rs → 1 ≤ r.2) → unr (ys.foldl rnA rs) = done ++ ys ∧ ∀ r, r ∈ ys.foldl rnA rs → 1 ≤ r.2 := by
    intro ys
    induction ys with
    | nil => exact fun rs done h1 h2 => ⟨by rw [List.append_nil]; exact h1, h2⟩
    | cons y ys ih =>
      intro rs done h1 h2
      have z := ih (rnA rs y) (done ++ [y]) (by rw [rnA_un, h1]) (rnA_pos h2 y)
      rw [List.append_assoc] at z
      exact z
  exact fun xs => go xs [] [] rfl (fun r hr => nomatch hr)
def rcd (r : Run) : List Nat := cd r.1 ++ ownL (r.2 - 1)
def rcds (rs : List Run) : List Nat := (rs.map rcd).flatten
theorem rcds_app (a b : List Run) : rcds (a ++ b) = rcds a ++ rcds b := by
  unfold rcds
  rw [List.map_append, List.flatten_append]
theorem rcds_one (r : Run) : rcds [r] = rcd r := by
  unfold rcds
  simp
/-! ### ways that are read from code to code -/
inductive Way where
  | steps
  | turns
  | runs
/-- a mark: the place of the next code, the number ahead, what is kept beside -/
abbrev Mrk := Nat × Int × Option Int
def enc : Way → List Int → List Nat
  | .steps, xs => cds (stp xs)
  | .turns, xs => cds (trn xs)
  | .runs, xs => rcds (rn xs)
def ahd (xs : List Int) (i : Nat) : Int := if i = 0 then 0 else xs.getD (i - 1) 0
theorem ahd_next {xs : List Int} {i : Nat} {a : Int} (h : xs[i]? = some a) : ahd xs (i + 1) = a := by
  unfold ahd
  rw [if_neg (by omega), Nat.add_sub_cancel, List.getD_eq_getElem?_getD, h]
  rfl
def bsd (xs : List Int) (i : Nat) : Option Int := if i = 0 then none else if i = 1 then some 0 else some (ahd xs i - ahd xs (i - 1))
/-- the mark behind i numbers -/
def MkA : Way → List Int → Nat → Mrk → Prop
  | .steps, xs, i, m => m = ((cds ((stp xs).take i)).length, ahd xs i, none)
  | .turns, xs, i, m => m = ((cds ((trn xs).take i)).length, ahd xs i, bsd xs i)
  | .runs, xs, i, m => (i = 0 ∧ m = (0, 0, none)) ∨ ∃ (pre suf : List Run) (r : Run) (o : Nat), rn xs = pre ++ r :: suf ∧ 1 ≤ o ∧ o ≤ r.2 ∧ i = (unr pre).length + o ∧ m = ((rcds (pre ++ [r])).length, r.1, some ((r.2 - o : Nat) : Int))
theorem mk_begin (W : Way) (xs : List Int) : MkA W xs 0 (0, 0, none) := by
  cases W with
  | steps => rfl
  | turns => rfl
  | runs => exact .inl ⟨rfl, rfl⟩
theorem mk_end {W : Way} {xs : List Int} {m : Mrk} (h : MkA W xs xs.length m) : m.1 = (enc W xs).length := by
  cases W with
  | steps =>
    rw [show m = _ from h, ← stp_len, List.take_length]
    rfl
  | turns =>
    rw [show m = _ from h, ← trn_len, List.take_length]
    rfl
  | runs =>
    obtain ⟨u, pos⟩ := rn_all xs
    rcases h with ⟨e, rfl⟩ | ⟨pre, suf, r, o, er, o1, o2, ei, rfl⟩
    · rw [List.length_eq_zero_iff.mp e]
      rfl
    · have l : (unr (rn xs)).length = xs.length := by rw [u]
      rw [er, show pre ++ r :: suf = pre ++ [r] ++ suf by simp, unr_app, unr_app, unr_one, List.length_append, List.length_append, List.length_replicate] at l
      have z : suf = [] := by
        cases suf with
        | nil => rfl
        | cons q s =>
          have p := pos q (by rw [er]; simp)
          rw [show q :: s = [q] ++ s from rfl, unr_app, unr_one, List.length_append, List.length_replicate] at l
          omega
      subst z
      show (rcds (pre ++ [r])).length = (rcds (rn xs)).length
      rw [er]
end Tg

namespace Tg
open PySem PySem.Spec PyProof.Rows L2
/-! ### rules whose reading names K, said for a comprehension -/
theorem call_lenK {X : Cx} {K : PySem.W.Frag} (hK : X.K = K := by rfl) : CallR X (.builtin "len") (fun xs H Q => ∃ p ys, xs = [V.ref p] ∧ (SqL K H p ys ∨ SqT K H p ys) ∧ Q (V.int (ys.length : Nat)) H) := by
  subst hK
  exact call_len_seq
theorem mt_indexK {X : Cx} {K : PySem.W.Frag} (hK : X.K = K := by rfl) : MtR X "list.index" (rIndex K) := by
  subst hK
  exact mt_index
/-- a rule over X.K is one over K -/
theorem pe_overK {X : Cx} {K : PySem.W.Frag} {e : Expr} (t : PySem.W.Frag → TE) (h : PE X e (t X.K)) (hK : X.K = K := by rfl) : PE X e (t K) := hK ▸ h
theorem yes_i {σ : L2.St} {H : Hp} {Q : Bool → Hp → Prop} (h : Q true H) : tYes σ H Q := h
end Tg

namespace Tg
open PySem PySem.Spec PyProof.Rows L2
/-- the walk of enumerate(xs), xs a list -/
theorem for_enumL {K : PySem.W.Frag} {a : Addr} {xs : List V} {g : TG} {tb : TS} {D : Ends} {σ : L2.St} {H : Hp} (Pv : Nat → L2.St → Hp → Prop) (h0 : Pv 0 σ H) (hl : ∀ i σ H, i ≤ xs.length → Pv i σ H → SqL K H a xs)
    (hs : ∀ (i : Nat) (x : V) (T : Addr) σ H, xs[i]? = some x → Pv i σ H → H T = none → g (.ref T) σ (upd H T (.tup [.int (i : Nat), x])) fun σ2 H2 => tb { D with nx := Pv (i + 1), ct := Pv (i + 1), bk := D.nx } σ2 H2) (hd : ∀ σ H, Pv xs.length σ H → D.nx σ H) :
    ∃ Wk : Nat → Nat → L2.St → Hp → Prop, (∃ m, Wk 0 m σ H) ∧ ∀ i m σ H, Wk i m σ H →
      ((Ite K a).stop i H ∧ D.nx σ H) ∨ ((Ite K a).go i H ∧ ∃ N : L2.St → Hp → Prop, (∀ σ' H', N σ' H' → ∃ m', m' < m ∧ Wk (i + 1) m' σ' H') ∧ ∀ x H', (Ite K a).yld i H x H' → g x σ H' fun σ2 H2 => tb { D with nx := N, ct := N, bk := D.nx } σ2 H2) := by
  refine ⟨fun i m σ H => m = xs.length - i ∧ i ≤ xs.length ∧ Pv i σ H, ⟨xs.length - 0, rfl, Nat.zero_le _, h0⟩, ?_⟩
  rintro i m σ H ⟨rfl, hi, p⟩
  have q := hl i σ H hi p
  by_cases lt : i < xs.length
  · refine .inr ⟨⟨xs, xs[i], q, by simp [lt]⟩, Pv (i + 1), fun σ' H' p' => ⟨xs.length - (i + 1), by omega, rfl, lt, p'⟩, fun x H' y => ?_⟩
    obtain ⟨T, v, rfl, nT, rfl, fT⟩ := y
    exact hs i v T σ H (fT xs q) p nT
  · obtain rfl : i = xs.length := by omega
    exact Or.inl ⟨⟨xs, q, Nat.le_refl xs.length⟩, hd σ H p⟩
end Tg

namespace Tg
open PySem PySem.Spec PyProof.Rows L2
/-! ### a comprehension without a test whose items are known beforehand -/
/-- the new list at D takes y -/
abbrev Grows (D : Addr) (Nx : Hp → Prop) (y : V) (H : Hp) : Prop := ∃ acc, H D = some (.lst acc) ∧ acc.length < sizeLine ∧ Nx (upd H D (.lst (acc ++ [y])))
/-- the new dict at D takes y: z -/
abbrev Holds2 (D : Addr) (Nx : Hp → Prop) (y z : V) (H : Hp) : Prop := ∃ kvs k, y = kV k ∧ H D = some (.dK kvs) ∧ kvs.length < sizeLine ∧ Nx (upd H D (.dK (putK kvs k z)))
/-- a turn that takes x in, and goes on by fin -/
abbrev Turn1 (g : TG) (vs : List Nat) (σ : L2.St) (fin : L2.St → Hp → Prop) (Nx : Hp → Prop) (x : V) (H' : Hp) : Prop :=
  g x (wipe σ vs) H' fun σ2 H2 => wipe σ2 vs = wipe σ vs ∧ tYes σ2 H2 fun b H3 => if b = true then fin σ2 H3 else Nx H3
abbrev TurnL (g : TG) (te : TE) (vs : List Nat) (σ : L2.St) (D : Addr) (Nx : Hp → Prop) : V → Hp → Prop := Turn1 g vs σ (fun σ2 H3 => te σ2 H3 fun y H4 => Grows D Nx y H4) Nx
abbrev TurnD (g : TG) (tk tv : TE) (vs : List Nat) (σ : L2.St) (D : Addr) (Nx : Hp → Prop) : V → Hp → Prop := Turn1 g vs σ (fun σ2 H3 => tk σ2 H3 fun y H4 => tv σ2 H4 fun z H5 => Holds2 D Nx y z H5) Nx
/-- a walk of J from Z on, each turn by turn, what is wanted behind it Qd -/
abbrev Walked (J : It) (Z : Hp) (turn : (Hp → Prop) → V → Hp → Prop) (Qd : Hp → Prop) : Prop :=
  ∃ Wk : Nat → Nat → Hp → Prop, (∃ m, Wk 0 m Z) ∧ ∀ (i m : Nat) (Hc : Hp), Wk i m Hc →
    (J.stop i Hc ∧ Qd Hc) ∨ (J.go i Hc ∧ ∃ Nx : Hp → Prop, (∀ Hn, Nx Hn → ∃ m', m' < m ∧ Wk (i + 1) m' Hn) ∧ ∀ x Hn, J.yld i Hc x Hn → turn Nx x Hn)
section
variable {K : PySem.W.Frag} {g : TG} {te : TE} {vs : List Nat} {σ : L2.St} {H1 : Hp} {D : Addr} {Qd : Hp → Prop} {J : It}
/-- the walk J, of n turns; x: what it hands out at i (behind it the heap is told by R) -/
theorem lc_walk (n : Nat) (ys : List V) (ly : ys.length = n) (nD : H1 D = none) (small : n < sizeLine)
    (stop : ∀ Hc, Same H1 Hc → J.stop n Hc) (go : ∀ i Hc, i < n → Same H1 Hc → J.go i Hc)
    (hs : ∀ i x y Hc H' (Q : VK), i < n → ys[i]? = some y → Same H1 Hc → J.yld i Hc x H' → (∀ H4, Same H' H4 → Q y H4) → g x (wipe σ vs) H' fun σ2 H2 => wipe σ2 vs = wipe σ vs ∧ te σ2 H2 Q)
    (grow : ∀ i x Hc H', i < n → Same H1 Hc → J.yld i Hc x H' → Same Hc H')
    (hd : ∀ H', Same H1 H' → H' D = some (.lst ys) → Qd H') :
    Walked J (upd H1 D (.lst [])) (TurnL g te vs σ D) Qd := by
  refine ⟨fun i m H => m = n - i ∧ i ≤ n ∧ Same H1 H ∧ H D = some (.lst (ys.take i)), ⟨n, by omega, Nat.zero_le _, fun b o e => ?_, upd_same⟩, ?_⟩
  · rw [upd_ne (ne_of_none e nD)]
    exact e
  rintro i m H ⟨rfl, hi, sm, hD⟩
  by_cases lt : i < n
  · refine .inr ⟨go i H lt sm, fun H' => Same H1 H' ∧ H' D = some (.lst (ys.take (i + 1))), fun H' h => ⟨n - (i + 1), by omega, rfl, lt, h.1, h.2⟩, fun x H' yl => ?_⟩
    obtain ⟨y, ey⟩ : ∃ y, ys[i]? = some y := ⟨_, List.getElem?_eq_getElem (by omega)⟩
    have s2 := grow i x H H' lt sm yl
    have z := hs i x y H H' (fun y H4 => Grows D (fun H' => Same H1 H' ∧ H' D = some (.lst (ys.take (i + 1)))) y H4) lt ey sm yl fun H4 s4 => by
      refine ⟨ys.take i, s4 _ _ (s2 _ _ hD), ?_, fun b o e => ?_, ?_⟩
      · rw [List.length_take]
        omega
      · rw [upd_ne (ne_of_none e nD)]
        exact s4 _ _ (s2 _ _ (sm _ _ e))
      · rw [upd_same, List.take_add_one, ey]
        rfl
    refine cast (congrArg (g x (wipe σ vs) H') (funext fun σ2 => funext fun H2 => ?_)) z
    unfold tYes
    exact congrArg _ (if_pos rfl).symm
  · obtain rfl : i = n := by omega
    refine .inl ⟨stop H sm, hd H sm ?_⟩
    rw [hD, List.take_of_length_le (by omega)]
/-- [.. for x in xs] -/
theorem lc_mapL {a : Addr} {xs : List V} (ys : List V) (ly : ys.length = xs.length) (nD : H1 D = none) (hx : SqL K H1 a xs) (small : xs.length < sizeLine)
    (hs : ∀ (i : Nat) (x y : V) (Hc : Hp) (Q : VK), xs[i]? = some x → ys[i]? = some y → Same H1 Hc → (∀ H4, Same Hc H4 → Q y H4) → g x (wipe σ vs) Hc fun σ2 H2 => wipe σ2 vs = wipe σ vs ∧ te σ2 H2 Q)
    (hd : ∀ H', Same H1 H' → H' D = some (.lst ys) → Qd H') :
    Walked (Itl K a) (upd H1 D (.lst [])) (TurnL g te vs σ D) Qd :=
  lc_walk (J := Itl K a) xs.length ys ly nD small (fun Hc sm => ⟨xs, sm.seq hx, Nat.le_refl _⟩) (fun i Hc lt sm => ⟨xs, xs[i], sm.seq hx, List.getElem?_eq_getElem lt⟩)
    (fun i x y Hc H' Q lt ey sm yl q => by
      obtain ⟨rfl, h⟩ := yl
      exact hs i x y _ Q (h xs (sm.seq hx)) ey sm q) (fun i x Hc H' _ _ yl => by rw [yl.1]; exact Same.refl _) hd
/-- [.. for x, y in zip(xs, ys)] -/
theorem lc_mapZ {a b : Addr} {xs zs : List V} (ys : List V) (n : Nat) (en : n = min xs.length zs.length) (ly : ys.length = n) (nD : H1 D = none) (hx : SqL K H1 a xs) (hz : SqL K H1 b zs) (small : n < sizeLine)
    (hs : ∀ (i : Nat) (x z y : V) (T : Addr) (Hc : Hp) (Q : VK), xs[i]? = some x → zs[i]? = some z → ys[i]? = some y → Same H1 Hc → Hc T = some (.tup [x, z]) → (∀ H4, Same Hc H4 → Q y H4) → g (.ref T) (wipe σ vs) Hc fun σ2 H2 => wipe σ2 vs = wipe σ vs ∧ te σ2 H2 Q)
    (hd : ∀ H', Same H1 H' → H' D = some (.lst ys) → Qd H') :
    Walked (Itz K a b) (upd H1 D (.lst [])) (TurnL g te vs σ D) Qd :=
  lc_walk (J := Itz K a b) n ys ly nD small (fun Hc sm => ⟨xs, zs, sm.seq hx, sm.seq hz, by omega⟩) (fun i Hc lt sm => ⟨xs, zs, xs[i]'(by omega), zs[i]'(by omega), sm.seq hx, sm.seq hz, List.getElem?_eq_getElem (by omega), List.getElem?_eq_getElem (by omega)⟩)
    (fun i x y Hc H' Q lt ey sm yl q => by
      obtain ⟨T, u, v, rfl, nT, rfl, h1, h2⟩ := yl
      exact hs i u v y T _ Q (h1 xs (sm.seq hx)) (h2 zs (sm.seq hz)) ey (sm.trans (fun b o e => by rw [upd_ne (ne_of_none e nT)]; exact e)) upd_same q)
    (fun i x Hc H' _ _ yl => by
      obtain ⟨T, u, v, rfl, nT, rfl, _, _⟩ := yl
      exact fun b o e => by rw [upd_ne (ne_of_none e nT)]; exact e) hd
/-- [.. for i in range(lo, ..)] -/
theorem lc_mapR {lo : Int} {n : Nat} (ys : List V) (ly : ys.length = n) (nD : H1 D = none) (small : n < sizeLine)
    (hs : ∀ (i : Nat) (y : V) (Hc : Hp) (Q : VK), i < n → ys[i]? = some y → Same H1 Hc → (∀ H4, Same Hc H4 → Q y H4) → g (.int (lo + i)) (wipe σ vs) Hc fun σ2 H2 => wipe σ2 vs = wipe σ vs ∧ te σ2 H2 Q)
    (hd : ∀ H', Same H1 H' → H' D = some (.lst ys) → Qd H') :
    Walked (Itr lo n) (upd H1 D (.lst [])) (TurnL g te vs σ D) Qd :=
  lc_walk (J := Itr lo n) n ys ly nD small (fun Hc sm => Nat.le_refl _) (fun i Hc lt sm => lt)
    (fun i x y Hc H' Q lt ey sm yl q => by
      obtain ⟨rfl, rfl⟩ := yl
      exact hs i y _ Q lt ey sm q) (fun i x Hc H' _ _ yl => by rw [yl.1]; exact Same.refl _) hd
/-- [.. for i in range(lo, .., c)] -/
theorem lc_mapC {lo c : Int} {n : Nat} (ys : List V) (ly : ys.length = n) (nD : H1 D = none) (small : n < sizeLine)
    (hs : ∀ (i : Nat) (y : V) (Hc : Hp) (Q : VK), i < n → ys[i]? = some y → Same H1 Hc → (∀ H4, Same Hc H4 → Q y H4) → g (.int (lo + (i : Nat) * c)) (wipe σ vs) Hc fun σ2 H2 => wipe σ2 vs = wipe σ vs ∧ te σ2 H2 Q)
    (hd : ∀ H', Same H1 H' → H' D = some (.lst ys) → Qd H') :
    Walked (Itc lo c n) (upd H1 D (.lst [])) (TurnL g te vs σ D) Qd :=
  lc_walk (J := Itc lo c n) n ys ly nD small (fun Hc sm => Nat.le_refl _) (fun i Hc lt sm => lt)
    (fun i x y Hc H' Q lt ey sm yl q => by
      obtain ⟨rfl, rfl⟩ := yl
      exact hs i y _ Q lt ey sm q) (fun i x Hc H' _ _ yl => by rw [yl.1]; exact Same.refl _) hd
/-! ### a dict comprehension whose entries are known, each key once -/
theorem putK_new {kvs : List (Key × V)} {k : Key} {z : V} (h : k ∉ kvs.map (·.1)) : putK kvs k z = kvs ++ [(k, z)] := by
  have new : (kvs.any fun y => decide (y.1 = k)) = false := by
    rw [List.any_eq_false]
    intro y hy e
    exact h (List.mem_map.mpr ⟨y, hy, of_decide_eq_true e⟩)
  unfold putK
  rw [new, if_neg (by decide)]
theorem dc_walk {tk tv : TE} (n : Nat) (es : List (Key × V)) (le : es.length = n) (nd : (es.map (·.1)).Nodup) (nD : H1 D = none) (small : n < sizeLine)
    (stop : ∀ Hc, Same H1 Hc → J.stop n Hc) (go : ∀ i Hc, i < n → Same H1 Hc → J.go i Hc)
    (hs : ∀ i x k y Hc H' (Q : VK), i < n → es[i]? = some (k, y) → Same H1 Hc → J.yld i Hc x H' → (∀ H4, Same H' H4 → Q y H4) → g x (wipe σ vs) H' fun σ2 H2 => wipe σ2 vs = wipe σ vs ∧ tk σ2 H2 fun u H3 => tv σ2 H3 fun v H4 => u = kV k ∧ v = y ∧ Same H' H4)
    (mono : ∀ σ2 H2 (A B : V → V → Hp → Prop), (∀ u v H', A u v H' → B u v H') → (tk σ2 H2 fun u H3 => tv σ2 H3 fun v H4 => A u v H4) → tk σ2 H2 fun u H3 => tv σ2 H3 fun v H4 => B u v H4)
    (gm : ∀ x σ2 H2 (A B : L2.St → Hp → Prop), (∀ σ3 H3, A σ3 H3 → B σ3 H3) → g x σ2 H2 A → g x σ2 H2 B)
    (grow : ∀ i x Hc H', i < n → Same H1 Hc → J.yld i Hc x H' → Same Hc H')
    (hd : ∀ H', Same H1 H' → H' D = some (.dK es) → Qd H') :
    Walked J (upd H1 D (.dK [])) (TurnD g tk tv vs σ D) Qd := by
  refine ⟨fun i m H => m = n - i ∧ i ≤ n ∧ Same H1 H ∧ H D = some (.dK (es.take i)), ⟨n, by omega, Nat.zero_le _, fun b o e => ?_, upd_same⟩, ?_⟩
  · rw [upd_ne (ne_of_none e nD)]
    exact e
  rintro i m H ⟨rfl, hi, sm, hD⟩
  by_cases lt : i < n
  · refine .inr ⟨go i H lt sm, fun H' => Same H1 H' ∧ H' D = some (.dK (es.take (i + 1))), fun H' h => ⟨n - (i + 1), by omega, rfl, lt, h.1, h.2⟩, fun x H' yl => ?_⟩
    obtain ⟨⟨k, y⟩, ey⟩ : ∃ y, es[i]? = some y := ⟨_, List.getElem?_eq_getElem (by omega)⟩
    have s2 := grow i x H H' lt sm yl
    have z := hs i x k y H H' (fun _ _ => True) lt ey sm yl fun _ _ => trivial
    refine gm _ _ _ _ _ (fun σ2 H2 h => ⟨h.1, ?_⟩) z
    unfold tYes
    dsimp only
    rw [if_pos rfl]
    refine mono _ _ _ _ (fun u v H4 h => ?_) h.2
    obtain ⟨rfl, rfl, s4⟩ := h
    refine ⟨es.take i, k, rfl, s4 _ _ (s2 _ _ hD), ?_, fun b o e => ?_, ?_⟩
    · rw [List.length_take]
      omega
    · rw [upd_ne (ne_of_none e nD)]
      exact s4 _ _ (s2 _ _ (sm _ _ e))
    · rw [upd_same, putK_new, List.take_add_one, ey]
      · rfl
      · intro hk
        rw [List.map_take] at hk
        obtain ⟨j, hj, ej⟩ := List.mem_iff_getElem.mp hk
        rw [List.length_take] at hj
        rw [List.getElem_take] at ej
        have e1 : (es.map (·.1))[j]? = some k := by rw [List.getElem?_eq_getElem (by omega), ej]
        have e2 : (es.map (·.1))[i]? = some k := by rw [List.getElem?_map, ey]; rfl
        have := (List.getElem?_inj (by omega) nd).mp (e1.trans e2.symm)
        omega
  · obtain rfl : i = n := by omega
    refine .inl ⟨stop H sm, hd H sm ?_⟩
    rw [hD, List.take_of_length_le (by omega)]
end
end Tg

namespace Tg
open PySem PySem.Spec PyProof.Rows L2
open SX (S)
/-! ### long texts as lists of signs -/
section
variable {X : Cx}
theorem fit60 {n : Nat} (h : n ≤ 60000) : n ≤ sizeLine := Nat.le_trans h (by decide)
theorem op_addB : OpR X (binaryOp .Add) (fun x y H Q => ∃ a b : List Nat, x = .str (S a) ∧ y = .str (S b) ∧ a.length + b.length ≤ 60000 ∧ Q (.str (S (a ++ b))) H) := by
  rintro pins s σ H x y v u Q I rx ry ⟨a, b, rfl, rfl, few, q⟩
  refine op_add_str pins s σ H _ _ v u Q I rx ry ⟨S a, S b, rfl, rfl, ?_, ?_⟩
  · rw [SX.S_len, SX.S_len]
    exact fit60 few
  · rw [SX.S_cat]
    exact q
theorem call_lenB : CallR X (.builtin "len") (fun xs H Q => ∃ a : List Nat, xs = [.str (S a)] ∧ a.length ≤ 60000 ∧ Q (.int (a.length : Nat)) H) := by
  rintro pins s σ H xs us Q I r ⟨a, rfl, few, q⟩
  refine call_len_str pins s σ H _ us Q I r ⟨S a, rfl, ?_, ?_⟩
  · rw [SX.S_len]
    exact fit60 few
  · rw [SX.S_len]
    exact q
theorem flat_len : ∀ ys : List (List Nat), (ys.map List.length).sum = ys.flatten.length
  | [] => rfl
  | y :: r => by
    rw [List.map_cons, List.sum_cons, flat_len r, List.flatten_cons, List.length_append]
theorem joinL_none : ∀ ys : List (List Nat), TL.joinL [] ys = ys.flatten
  | [] => rfl
  | [y] => by simp [TL.joinL]
  | y :: u :: r => by
    show y ++ ([] ++ TL.joinL [] (u :: r)) = y ++ (u :: r).flatten
    rw [List.nil_append, joinL_none (u :: r)]
theorem join_none (ys : List (List Nat)) : Txt.join (S []) (ys.map S) = S ys.flatten := by
  rw [show Txt.join (S []) (ys.map S) = _ from SX.join_S [] ys, joinL_none]
/-- "".join(a list of texts) -/
theorem mt_joinB : MtR X "str.join" (fun x xs H Q => ∃ (p : Addr) (ys : List (List Nat)), x = .str (S []) ∧ xs = [.ref p] ∧ SqL X.K H p (ys.map fun y => V.str (S y)) ∧ ys.flatten.length ≤ 60000 ∧ Q (.str (S ys.flatten)) H) := by
  rintro pins s σ H x xs v us Q I rx rs ⟨p, ys, rfl, rfl, hp, few, q⟩
  refine mt_join pins s σ H _ _ v us Q I rx rs ⟨S [], p, ys.map S, rfl, rfl, .inl ?_, ?_, ?_⟩
  · rw [List.map_map]
    exact hp
  · rw [List.map_map, show (fun x : Str => x.length) ∘ S = List.length from funext fun l => SX.S_len l, flat_len]
    show _ + _ * 0 ≤ 16777216
    omega
  · rw [join_none]
    exact q
end
end Tg

namespace Tg
open PySem PySem.Spec PyProof.Rows L2
/-! ### set(xs), xs a list of ints; sorted of it -/
section
variable {w : World} {P : Program} {s : Shared} {A : Around} {E : Value → Shared → Prop}
/-- a set without members, as it is laid -/
def emp (w : World) : Obj := { cls := .type "set", dict := none, data := .set #[] 0 (.fresh 0 0 (!w.params.followText "set-order")) }
/-- what has to come of it -/
def Came (w : World) (s : Shared) (ns : List Int) (h' : Heap) (c : Nat) : Prop := SetR w h' s.heap.objs.size (fun j => decide (j ∈ ns)) c ∧ c ≤ ns.length ∧ ∀ b o, s.heap.get? b = some o → h'.get? b = some o
theorem isl_plain {l : Addr} {items : Array Value} {hp : Heap} (h : hp.IsList l items) : ∃ o, hp.get? l = some o ∧ o.cls = .type "list" ∧ ∃ n, o.data = .seq items n := by
  exact h
set_option maxHeartbeats 3200000 in
theorem call_setL {l : Addr} {items : Array Value} (ns : List Int) {Q : Value → Shared → Prop} (calm : A.handled = none) (hl : s.heap.IsList l items) (are : IntsAre items.toList ns) (few : ns.length + 1 < scanBound)
    (out : ∀ (h' : Heap) (tk c : Nat), Came w s ns h' c → Q (.ref s.heap.objs.size) { s with heap := h', toks := tk }) : wpAny (model P w) A (call (.type "set") [.ref l]) Q E s := by
  have many : items.size = ns.length := by
    have z := IntsAre.length are
    rwa [Array.length_toList] at z
  obtain ⟨cc, rest, line⟩ := F.called_set.mro
  have f1 := F.called_set.made
  have f2 := F.called_set.sub
  refine wpAny_call (codeAny_of_tree (show wpAny _ _ (callAny (.type "set") _) _ _ _ from wpAny_pure ⟨Code.quiet_builtin _ (by decide +kernel), codeAny_builtin F.entry_type_call ?_⟩))
  rw [Around.under_plain (weight_type_call_type "set" [.ref l] []) rfl]; have f3 := F.called_set.notType
  have f4 := F.called_set.canCreate
  have f5 := F.typeCall_set_1 (.ref l); repeat (any_goals (first | assumption | wp_step))
  refine codeAny_mono (code_set_led1 (.ref l) (E := E) (Q₁ := fun obj s₁ => obj = .ref s.heap.objs.size ∧ s₁ = { s with heap := s.heap.push (emp w) }) ⟨rfl, rfl⟩) fun r s₁ hr => ?_
  match r, hr with
  | .error e, hr => exact hr
  | .ok .next, hr => exact hr.elim
  | .ok .brk, hr => exact hr.elim
  | .ok .cont, hr => exact hr.elim
  | .ok (.ret obj), ⟨eo, es⟩ =>
    subst eo
    subst es
    have at0 : (s.heap.push (emp w)).get? s.heap.objs.size = some (emp w) := Heap.get?_push_size _ rfl
    have ty0 : Shared.TypeIs { s with heap := s.heap.push (emp w) } (.ref s.heap.objs.size) "set" := ⟨_, at0, rfl⟩
    have f6 := F.called_set.init.lookup
    have f7 := F.called_set.init.bind (.ref s.heap.objs.size); repeat (any_goals (first | assumption | wp_step))
    refine codeAny_mono (codeAny_call_builtin (R := wants (fun r s₂ => r = .none ∧ ∃ h' tk c, s₂ = { s with heap := h', toks := tk } ∧ Came w s ns h' c) E) F.called_set.init.plain F.entry_set_init (check_set_init_1 ty0 ?_)) fun r₂ s₂ hr₂ => ?_
    · obtain ⟨⟨ocls, odict, odata, oslots⟩, hol, hcl, nl, hdl⟩ := isl_plain hl
      simp only at hcl hdl
      subst hcl
      subst hdl
      have below : l < s.heap.objs.size := Heap.lt_size hol
      have at1 : (s.heap.push (emp w)).get? l = some { cls := .type "list", dict := odict, data := .seq items nl, slots := oslots } := Heap.get?_push_of_some _ hol
      have g1 := F.sub_list_set
      have g2 := F.sub_list_frozenset
      have g3 : (Value.type "list" == Value.type "dict") = false := by decide
      have hl1 : (s.heap.push (emp w)).IsList l items := hl.push _
      unfold Builtin.«set.__init__» noKeywords Builtin.Frozenset.updateFrom; generalize hPI : pyIter = PI
      wp_walk
      subst hPI
      refine wpAny_pyIter_list hl1 (wpAny_bind (wpAny_runValue ?_))
      have hh3 : A.in1.in1.in1.handled = none := by simp [calm]
      have apart : l ≠ (s.heap.push (emp w)).objs.size := by
        rw [Heap.size_push]
        exact Nat.ne_of_lt (Nat.lt_succ_of_lt below)
      have off : s.heap.objs.size ∉ [(s.heap.push (emp w)).objs.size, l] := by
        rw [Heap.size_push]
        simp only [List.mem_cons, List.mem_singleton, List.not_mem_nil, or_false, not_or]
        exact ⟨Nat.ne_of_lt (Nat.lt_succ_self _), Nat.ne_of_gt below⟩
      have vals : ∀ (i : Nat) (v : Value), items[i]? = some v → ∃ k t, ns[i]? = some k ∧ v = .int k t := fun i v hv => by
        have hi : i < ns.length := many ▸ (Array.getElem?_eq_some_iff.mp hv).1
        obtain ⟨t, e⟩ := PyProof.Rows.IntsAre.int_at are i v (by rw [Array.getElem?_toList]; exact hv)
        rw [List.getD_eq_getElem?_getD, List.getElem?_eq_getElem hi] at e
        exact ⟨ns[i], t, List.getElem?_eq_getElem hi, e⟩
      refine set_update_ints ((Walks.list hh3 _ l apart items).toS) s.heap.objs.size off ns many few vals (items.size - 0) 0 _ (by omega) (Nat.zero_le _) ⟨⟨_, Heap.get?_push_size _ rfl, rfl, rfl⟩, hl1.push _⟩ ?_ ?_
      · exact ⟨0, Nat.le_refl 0, setR_new_at (Heap.get?_push_of_some _ at0)⟩
      · intro s' c' hm hc' hS'
        obtain ⟨h', g2', d', tk', os'⟩ := s'
        obtain rfl : g2' = s.gens := hm.gens
        obtain rfl : d' = s.drawn := hm.drawn
        obtain rfl : os' = s.os := hm.os
        show wpAny _ _ _ _ _ _
        refine wpAny_pure (show wpAny _ _ (ret Value.none) _ _ _ from wpAny_pure ⟨rfl, h', tk', c', rfl, hS', many ▸ hc', fun b o e => ?_⟩)
        have lt := Heap.lt_size e
        refine hm.heap b o ?_ (Heap.get?_push_of_some _ (Heap.get?_push_of_some _ e))
        simp only [List.mem_cons, List.mem_singleton, List.not_mem_nil, or_false, not_or]
        rw [Heap.size_push]
        exact ⟨Nat.ne_of_lt lt, Nat.ne_of_lt (Nat.lt_succ_of_lt lt)⟩
    · match r₂, hr₂ with
      | .error e, hr₂ => exact hr₂
      | .ok .next, hr₂ => exact hr₂.elim
      | .ok .brk, hr₂ => exact hr₂.elim
      | .ok .cont, hr₂ => exact hr₂.elim
      | .ok (.ret r), ⟨e1, h', tk, c', e2, come⟩ =>
        subst e1
        subst e2; repeat (any_goals (first | assumption | wp_step))
        exact out _ _ _ come
end
section
variable {X : Cx}
theorem few_of : ∀ {rs L : List Int}, rs.Nodup → (∀ r, r ∈ rs → r ∈ L) → rs.length ≤ L.length
  | [], L, _, _ => Nat.zero_le _
  | r :: rs, L, nd, h => by
    have n1 := (List.nodup_cons.mp nd).1
    have hr : r ∈ L := h r List.mem_cons_self
    have i := few_of (rs := rs) (L := L.erase r) (List.nodup_cons.mp nd).2 fun q hq => (List.mem_erase_of_ne (fun z : q = r => n1 (by rw [← z]; exact hq))).mpr (h q (List.mem_cons_of_mem _ hq))
    rw [List.length_erase_of_mem hr] at i
    have := List.length_pos_of_mem hr
    show rs.length + 1 ≤ L.length
    omega
/-- a set has no more members than any list that has them -/
theorem setR_few {w : World} {h : Heap} {a : Addr} {S : Int → Bool} {n : Nat} (R : SetR w h a S n) {L : List Int} (all : ∀ k, S k = true → k ∈ L) : n ≤ L.length := by
  obtain ⟨o, es, ep, t, _, _, _, _, nd, mem, _, _, size, _⟩ := R
  have z := few_of nd fun r hr => all r ((mem r).mpr hr)
  rw [List.length_map, Array.length_toList, size] at z
  exact z
/-- set(xs) -/
def rSetL (K : PySem.W.Frag) (w : World) : List V → Hp → VK → Prop := fun vs H Q => ∃ (l : Addr) (ns : List Int), vs = [V.ref l] ∧ SqL K H l (ns.map V.int) ∧ ns.length ≤ 1000 ∧ ∀ (a : Addr) (c : Nat), H a = none → (∀ L : List Int, (∀ k, k ∈ ns → k ∈ L) → c ≤ L.length) → Q (.ref a) (upd H a (SetO w a (fun j => decide (j ∈ ns)) c))
theorem cr_setL (hc : X.calm = true) : CallR X (.type "set") (rSetL X.K X.w) := by
  intro pins s σ H vs us Q I r want
  obtain ⟨l, ns, rfl, hl, few, q⟩ := want
  rw [Vals.ref1 r]
  obtain ⟨its, rv, isl, _⟩ := I.list hl
  refine call_setL ns (I.ok.hd hc) isl.isList ?_ (by unfold scanBound; omega) fun h' tk c come => ?_
  · exact intsAre_of rv
  · obtain ⟨R, le, kp⟩ := come
    exact ⟨.ref s.heap.objs.size, _, I.laid (t' := tk) kp (Nat.le_refl _) (setO_new R), rfl, q _ c (I.hok.fresh (Nat.le_refl _)) fun L hL => setR_few R fun k hk => hL k (of_decide_eq_true hk)⟩
end
end Tg

namespace Tg
open PySem PySem.Spec PyProof.Rows L2
/-! ### sorted of a set of numbers, however many (the library's own rule ends at 63) -/
/-- a set's members, handed out in some order: whole numbers, the set's keys -/
theorem keys_out {es : Array (Int × Value)} {vs : List Value} (good : ∀ e ∈ es.toList, GoodE e) (pm : vs.Perm (es.toList.map (·.2))) :
    IntsAre vs (vs.map Builtin.Re.reRawOf) ∧ (vs.map Builtin.Re.reRawOf).Perm (es.toList.map keyOf) := by
  refine ⟨ints_of vs fun v hv => ?_, ?_⟩
  · have there := pm.mem_iff.mp hv
    rw [List.mem_map] at there
    obtain ⟨e, he, rfl⟩ := there
    have ⟨k, tk, h1, _⟩ := good e he
    exact ⟨k, tk, h1⟩
  · exact List.map_map (f := (·.2)) (g := Builtin.Re.reRawOf) (l := es.toList) ▸ pm.map Builtin.Re.reRawOf
/-- the rising list of just the n numbers of S -/
def Rising (S : Int → Bool) (n : Nat) (ns : List Int) : Prop := ns.Pairwise (· < ·) ∧ (∀ k : Int, k ∈ ns ↔ S k = true) ∧ ns.length = n
/-- what stood before a list was made and sorted stands behind it -/
theorem sorted_keeps {h : Heap} {o u : Obj} {vs : List Value} {out : Array Value} {b : Addr} (q : h.get? b = some u) : (sortedHeap (h.push o) h.objs.size vs out).get? b = some u := by
  have lt := Heap.lt_size q
  exact (sortedHeap_old (Nat.ne_of_lt lt) (size_push' h o ▸ Nat.lt_succ_of_lt lt)).trans (Heap.get?_push_of_some o q)
section
variable {P : Program} {w : World} {A : Around} {s : Shared} {E : Value → Shared → Prop} {a : Addr}
theorem sorted_setA {S : Int → Bool} {n : Nat} {Q : Value → Shared → Prop} (R : SetR w s.heap a S n) (free : A.handled = none) (few : n ≤ sizeLine)
    (told : ∀ s' p (out : List Value) (c : Nat) (ns : List Int), (∀ b o, s.heap.get? b = some o → s'.heap.get? b = some o) → s'.gens = s.gens → s'.os = s.os → s.heap.objs.size ≤ p →
      s'.heap.get? p = some (seqObj "list" out.toArray c) → IntsAre out ns → Rising S n ns → Q (.ref p) s') : wpAny (model P w) A (call (.builtin "sorted") [.ref a]) Q E s := by
  have ⟨o, es, ep, tbl, at_a, exact_set, dat, good, once, mem, bound, fits, count, ris, led⟩ := R
  apply Calls.call_function_entry kind_sorted plain_sorted entry_sorted (args_sorted1 _)
  unfold Builtin.«sorted»
  apply wpAny_bind
  apply wpAny_pure
  apply wpAny_bind
  apply collect_set (A := A.in1) free ⟨o, at_a, exact_set.1, dat⟩ fits bound ris led
  intro s1 vs kept more gens1 os1 pm
  obtain ⟨are, perm⟩ := keys_out good pm
  have many : vs.length = n := by
    have := pm.length_eq
    rw [List.length_map] at this
    exact this.trans (Array.length_toList.trans count)
  have room : vs.length ≤ sizeLine := many ▸ few
  have at_l := Heap.get?_push_size s1.heap (o := seqObj "list" vs.toArray 0) rfl
  apply wpAny_bind
  refine wpAny_newList (hsz := room) (wpAny_bind (wpAny_holding (wpAny_call_entry slot_list_sort ⟨_, at_l, rfl⟩ entry_list_sort ?_ (args_list_sort _))))
  refine SrtO.list_sort_ord SrtO.swo_int at_l room (SrtO.ints_sortable are) fun out up stable => ⟨_, rfl, ?_⟩
  have ⟨a1, a2, a3⟩ := SrtO.ints_out are up stable
  have pn := a2.trans perm
  have ⟨c, hc⟩ := sortedHeap_at (out := out.toArray) at_l
  refine wpAny_pure ⟨_, rfl, told _ s1.heap.objs.size out c _ (fun b u e => ?_) gens1 os1 more hc a1 ⟨lt_of_le_nodup _ a3 (pn.nodup_iff.mpr once), fun k => pn.mem_iff.trans (mem k).symm, ?_⟩⟩
  · exact sorted_keeps (kept b u e)
  · rw [pn.length_eq, List.length_map]
    exact Array.length_toList.trans count
end
def rSortedSetA (w : World) : List V → Hp → VK → Prop := fun vs H Q => ∃ (a : Addr) (S : Int → Bool) (n : Nat), vs = [V.ref a] ∧ H a = some (SetO w a S n) ∧ n ≤ sizeLine ∧
  ∀ ns p, Rising S n ns → H p = none → Q (.ref p) (upd H p (.lst (ns.map V.int)))
theorem cr_sortedSetA {X : Cx} (calm : X.calm = true) : CallR X (.builtin "sorted") (rSortedSetA X.w) := by
  rintro pins s σ H vs us Q I rel ⟨a, S, n, rfl, ha, few, q⟩
  rw [Vals.ref1 rel]
  refine sorted_setA (setO_get I ha) (I.ok.hd calm) few fun s' p out c ns k g o hp hg hi up => ?_
  have len : (ns.map V.int).length ≤ sizeLine := by
    rw [List.length_map, up.2.2]
    exact few
  have new := I.hok.fresh hp
  have J := I.call' (s' := s') (ch := []) (H' := upd H p (.lst (ns.map V.int))) o (Un.laid k hp new) (I.hok.laid k hp ⟨len, out, c, vals_of_ints hi, hg⟩) (g.symm ▸ I.bare) (fun _ z => nomatch z)
  exact ⟨.ref p, _, J, rfl, q ns p up new⟩
end Tg

namespace Tg
/-! ### the least, the greatest, the numbers in order -/
def mnI : List Int → Int
  | [] => 0
  | [x] => x
  | x :: y :: r => min x (mnI (y :: r))
def mxI : List Int → Int
  | [] => 0
  | [x] => x
  | x :: y :: r => max x (mxI (y :: r))
theorem mnI_is : ∀ {xs : List Int}, xs ≠ [] → mnI xs ∈ xs ∧ ∀ x, x ∈ xs → mnI xs ≤ x
  | [], h => absurd rfl h
  | [x], _ => ⟨.head _, fun y hy => by rw [List.mem_singleton.mp hy]; exact Int.le_refl _⟩
  | x :: y :: r, _ => by
    obtain ⟨h1, h2⟩ := mnI_is (xs := y :: r) (fun z => nomatch z)
    show min x (mnI (y :: r)) ∈ _ ∧ _
    refine ⟨?_, fun z hz => ?_⟩
    · by_cases c : x ≤ mnI (y :: r)
      · rw [Int.min_eq_left c]
        exact .head _
      · rw [Int.min_eq_right (by omega)]
        exact .tail _ h1
    · show min x (mnI (y :: r)) ≤ z
      obtain rfl | hz := List.mem_cons.mp hz
      · omega
      · have := h2 z hz
        omega
theorem mxI_is : ∀ {xs : List Int}, xs ≠ [] → mxI xs ∈ xs ∧ ∀ x, x ∈ xs → x ≤ mxI xs
  | [], h => absurd rfl h
  | [x], _ => ⟨.head _, fun y hy => by rw [List.mem_singleton.mp hy]; exact Int.le_refl _⟩
  | x :: y :: r, _ => by
    obtain ⟨h1, h2⟩ := mxI_is (xs := y :: r) (fun z => nomatch z)
    show max x (mxI (y :: r)) ∈ _ ∧ _
    refine ⟨?_, fun z hz => ?_⟩
    · by_cases c : mxI (y :: r) ≤ x
      · rw [Int.max_eq_left c]
        exact .head _
      · rw [Int.max_eq_right (by omega)]
        exact .tail _ h1
    · show z ≤ max x (mxI (y :: r))
      obtain rfl | hz := List.mem_cons.mp hz
      · omega
      · have := h2 z hz
        omega
theorem mn_of {xs : List Int} {m : Int} (h1 : m ∈ xs) (h2 : ∀ x, x ∈ xs → m ≤ x) : m = mnI xs := by
  obtain ⟨h3, h4⟩ := mnI_is (List.ne_nil_of_mem h1)
  exact Int.le_antisymm (h2 _ h3) (h4 _ h1)
theorem mx_of {xs : List Int} {m : Int} (h1 : m ∈ xs) (h2 : ∀ x, x ∈ xs → x ≤ m) : m = mxI xs := by
  obtain ⟨h3, h4⟩ := mxI_is (List.ne_nil_of_mem h1)
  exact Int.le_antisymm (h4 _ h1) (h2 _ h3)
def insU (x : Int) : List Int → List Int
  | [] => [x]
  | y :: r => if x < y then x :: y :: r else if x = y then y :: r else y :: insU x r
def bookOf (xs : List Int) : List Int := xs.foldr insU []
theorem insU_mem (x z : Int) : ∀ l : List Int, z ∈ insU x l ↔ z = x ∨ z ∈ l
  | [] => by simp [insU]
  | y :: r => by
    unfold insU
    split
    · simp
    · split
      · rename_i e
        subst e
        simp
      · rw [List.mem_cons, insU_mem x z r, List.mem_cons]
        constructor
        · rintro (h | h | h)
          · exact .inr (.inl h)
          · exact .inl h
          · exact .inr (.inr h)
        · rintro (h | h | h)
          · exact .inr (.inl h)
          · exact .inl h
          · exact .inr (.inr h)
theorem insU_up (x : Int) : ∀ l : List Int, l.Pairwise (· < ·) → (insU x l).Pairwise (· < ·)
  | [], _ => List.pairwise_singleton _ _
  | y :: r, h => by
    have hp := List.pairwise_cons.mp h
    unfold insU
    split
    · rename_i lt
      refine List.pairwise_cons.mpr ⟨fun z hz => ?_, h⟩
      obtain rfl | hz := List.mem_cons.mp hz
      · exact lt
      · exact Int.lt_trans lt (hp.1 z hz)
    · split
      · exact h
      · refine List.pairwise_cons.mpr ⟨fun z hz => ?_, insU_up x r hp.2⟩
        rcases (insU_mem x z r).mp hz with rfl | hz
        · omega
        · exact hp.1 z hz
theorem book_is : ∀ xs : List Int, (bookOf xs).Pairwise (· < ·) ∧ ∀ z, z ∈ bookOf xs ↔ z ∈ xs
  | [] => ⟨List.Pairwise.nil, fun z => Iff.rfl⟩
  | x :: r => by
    obtain ⟨h1, h2⟩ := book_is r
    refine ⟨insU_up x _ h1, fun z => ?_⟩
    show z ∈ insU x (bookOf r) ↔ _
    rw [insU_mem, h2, List.mem_cons]
theorem up_unique : ∀ {a b : List Int}, a.Pairwise (· < ·) → b.Pairwise (· < ·) → (∀ k, k ∈ a ↔ k ∈ b) → a = b
  | [], [], _, _, _ => rfl
  | [], y :: b, _, _, h => nomatch (h y).mpr (.head _)
  | x :: a, [], _, _, h => nomatch (h x).mp (.head _)
  | x :: a, y :: b, h1, h2, h => by
    have p1 := List.pairwise_cons.mp h1
    have p2 := List.pairwise_cons.mp h2
    have e : x = y := by
      have k1 := (h x).mp (.head _)
      have k2 := (h y).mpr (.head _)
      rcases List.mem_cons.mp k1 with e | k1
      · exact e
      · rcases List.mem_cons.mp k2 with e | k2
        · exact e.symm
        · have a1 := p2.1 x k1
          have a2 := p1.1 y k2
          omega
    subst e
    congr 1
    refine up_unique p1.2 p2.2 fun k => ⟨fun hk => ?_, fun hk => ?_⟩
    · rcases List.mem_cons.mp ((h k).mp (.tail _ hk)) with e | z
      · have := p1.1 k hk
        omega
      · exact z
    · rcases List.mem_cons.mp ((h k).mpr (.tail _ hk)) with e | z
      · have := p2.1 k hk
        omega
      · exact z
theorem book_of {xs b : List Int} (h1 : b.Pairwise (· < ·)) (h2 : ∀ k, k ∈ b ↔ k ∈ xs) : b = bookOf xs :=
  up_unique h1 (book_is xs).1 fun k => (h2 k).trans ((book_is xs).2 k).symm
theorem up_nodup {b : List Int} (h : b.Pairwise (· < ·)) : b.Nodup := h.imp fun lt e => by omega
theorem book_len (xs : List Int) : (bookOf xs).length ≤ xs.length := by
  have one : ∀ x l, (insU x l).length ≤ l.length + 1 := fun x l => by
    induction l with
    | nil => exact Nat.le_refl _
    | cons y r ih =>
      unfold insU
      split
      · exact Nat.le_refl _
      · split
        · exact Nat.le_succ _
        · exact Nat.succ_le_succ ih
  induction xs with
  | nil => exact Nat.le_refl _
  | cons x r ih =>
    have := one x (bookOf r)
    show (insU x (bookOf r)).length ≤ r.length + 1
    omega
theorem book_ne {xs : List Int} (h : 0 < xs.length) : 0 < (bookOf xs).length := by
  cases xs with
  | nil => cases h
  | cons x r => exact List.length_pos_of_mem ((book_is (x :: r)).2 x |>.mpr (.head _))
/-! ### how many signs by twos -/
theorem blen_le {n w : Nat} (h : n < 2 ^ w) : blen n ≤ w := by
  unfold blen
  split
  · exact Nat.zero_le _
  · rename_i c
    exact (Nat.log2_lt c).mpr h
theorem blen_mono {n m : Nat} (h : n ≤ m) : blen n ≤ blen m := blen_le (Nat.lt_of_le_of_lt h (lt_blen m))
/-! ### the two ways that stand by places -/
def wdP (xs : List Int) : Nat := blen (mxI xs - mnI xs).toNat
def plC (xs : List Int) : List (List Nat) := xs.map fun x => bt (wdP xs) (x - mnI xs).toNat
def encP (xs : List Int) : List Nat := cd (mnI xs) ++ ownL (wdP xs) ++ (plC xs).flatten
def wdB (xs : List Int) : Nat := blen ((bookOf xs).length - 1)
def gpC (xs : List Int) : List (List Nat) := (difs (bookOf xs)).map fun d => ownL (d - 1).toNat
def bkC (xs : List Int) : List (List Nat) := xs.map fun x => bt (wdB xs) ((bookOf xs).idxOf x)
def encB (xs : List Int) : List Nat := ownL ((bookOf xs).length - 1) ++ cd ((bookOf xs).headD 0) ++ (gpC xs).flatten ++ (bkC xs).flatten
theorem flat_same {ls : List (List Nat)} {w : Nat} (h : ∀ l, l ∈ ls → l.length = w) : ls.flatten.length = ls.length * w := by
  induction ls with
  | nil => exact (Nat.zero_mul w).symm
  | cons l r ih =>
    rw [List.flatten_cons, List.length_append, h l (.head _), ih fun y hy => h y (.tail _ hy), List.length_cons, Nat.succ_mul, Nat.add_comm]
end Tg

namespace Tg
open PySem PySem.Spec PyProof.Rows L2
/-! ### whether a text is a key of a written dict; len(range(n)) -/
def KHas (K : PySem.W.Frag) (w : World) (a : Addr) (x : Str) (b : Bool) : Prop := ∃ es n, K.lookup a = some ⟨.type "dict", none, .dict es n, #[]⟩ ∧ PySem.W.KeysLit w.params es.toList ∧ (a == sysModules) = false ∧ ∃ o, PySem.W.nsIn K a x = some o ∧ o.isSome = b
def rKHas (K : PySem.W.Frag) (w : World) : R2 := fun x y H Q => ∃ (z : Str) (p : Addr) (b : Bool), x = .str z ∧ y = .ref p ∧ KHas K w p z b ∧ Q (.bl b) H
section
variable {X : Cx}
theorem op_khas : OpR X (compareOp .In) (rKHas X.K X.w) := by
  rintro pins s σ H _ _ v u Q I rx ry ⟨z, p, b, rfl, rfl, ⟨es, n, hl, hk, low, o, e, eb⟩, q⟩
  obtain rfl : u = Value.ref p := ry
  obtain ⟨t, rfl⟩ := rx
  refine wpAny_in_of (strKind_is X.prog X.w z t) low (PySem.W.mapOf_K (prog := X.prog) (w := X.w) I.kIn hl hk) ?_
  rw [PySem.W.find_K hl e, eb]
  exact ⟨.bl b, H, I.tok _, rfl, q⟩
def tLenR (ta : TA) : TE := fun σ H Q => ta σ H fun vs H1 => ∃ n : Nat, vs = [.int (n : Nat)] ∧ n ≤ 2 ^ 20 ∧ Q (.int (n : Nat)) H1
theorem pe_lenR {a : Expr} {ta : TA} {p p2 pos pos2 : Pos} (gl : Gl X "len") (nl : X.mg "len" = none) (gr : Gl X "range") (nr : X.mg "range" = none) (args : PA X [a] ta)
    (one : starEach [a] X.env = (false, eval a X.env) :: starEach [] X.env := by rfl) (nostar : (backTo pos2 (starEach [] X.env)).any (·.1) = false := by rfl)
    (whole : starEach [.Call (.Name "range" p2) [a] [] pos2] X.env = (false, eval (.Call (.Name "range" p2) [a] [] pos2) X.env) :: starEach [] X.env := by rfl) :
    PE X (.Call (.Name "len" p) [.Call (.Name "range" p2) [a] [] pos2] [] pos) (tLenR ta) := by
  constructor
  intro pins s σ H Q I read
  refine wpAny_Call_Name_kw (ld_blt I gl nl (u := .builtin "len") (by decide +kernel) (PyProof.Rows.callWith_builtin1 (args_cons (Call_ (ld_blt I gr nr boot_range (PyProof.Rows.callWith_type1 (thn (args.run pos2 pins s σ H _ I read) fun us s1 y => ?_) one nostar))) whole) whole))
  obtain ⟨zs, H1, J, rel, n, e, few, h⟩ := y
  subst e
  match us, rel with
  | [_], .cons ⟨t, ei⟩ .nil =>
    subst ei
    refine call_range_1 (args_nil ?_)
    obtain ⟨hx, ehx⟩ : ∃ hx, hx = s1.heap.push { cls := .type "range", data := .fields #[.int 0 s1.toks, .int (n : Int) t, .int 1 (s1.toks + 1)] } := ⟨_, rfl⟩
    have J2 : Inv X pins σ H1 { s1 with heap := hx, toks := s1.toks + 1 + 1 } := by
      rw [ehx]
      exact J.kept (t' := s1.toks + 1 + 1) fun _ _ z => Heap.get?_push_of_some _ z
    rw [← ehx]
    refine call_len_range (n := n) (by rw [ehx]; exact IsRange.new ..) ?_ (by omega) ⟨.int (n : Nat), H1, J2.tok _, ⟨_, rfl⟩, h⟩
    simp only [Builtin.Range.rangeSize, gt_iff_lt]
    rw [if_pos (by decide)]
    split <;> omega
end
end Tg

namespace Tg
open PySem PySem.Spec PyProof.Rows L2
/-! ### promises of defs that are called where no repr is under way (str and repr of lists ask for it) -/
section
variable {P : Program} {w : World} {K : PySem.W.Frag} {mg : Str → Option Value} {base : Heap} {CX : CXT} {k : Nat} {f : Addr} {fd : FuncData} {ps : List Str} {sp : Sp}
/-- FnOk's promise, asked only where no repr is under way -/
structure FnG (P : Program) (w : World) (K : PySem.W.Frag) (mg : Str → Option Value) (base : Heap) (CX : CXT) (k : Nat) (f : Addr) (fd : FuncData) (ps : List Str) (sp : Sp) : Prop where
  arity : ∀ {zs : List V} {H : Hp} {Q : VK} {E : XK}, sp zs H Q E → zs.length = ps.length
  runs : ∀ {A : Around} {outer : List Env} {s : Shared} {H : Hp} {given : Args} {us : List Value} {zs : List V} {Q : VK} {E : XK}, A.guards = some [] → Room k A →
    Env0 P w K mg base A outer s H → BindsTo s fd given (ps.zip us) → Vals zs us → sp zs H Q E → codeAny (model P w) A (.call (.ref f) given) (CR CX outer P w H s Q E) s
theorem FnG.of (F : FnOk P w K mg base CX k f fd ps sp) : FnG P w K mg base CX k f fd ps sp := ⟨fun h => F.len _ _ _ _ h, fun _ r e b v h => F.run _ _ _ _ _ _ _ _ _ r e b v h⟩
end
section
variable {P : Program} {w : World} {K : PySem.W.Frag} {mg : Str → Option Value} {base : Heap}
/-- where a body ends: what its call hands back -/
theorem body_end {CX : CXT} {N : List Str} {qual : Str} {scope : Scope} {f : Addr} {cdv : Value} {A : Around} {outer : List Env} {s s' : Shared} {H : Hp} {Q : VK} {E : XK} {fl : Flow}
    (h : SP (cxOf CX P w K mg base N qual scope f cdv A outer s H E) [] { nx := fun _ H' => Q .non H', rt := Q } fl s') :
    CR CX outer P w H s Q E (match fl with | .ret u => .ok (.ret u) | .next => .ok (.ret .none) | x => .ok x) s' := by
  cases fl with
  | ret u =>
    obtain ⟨v, _, Hx, J, rv, z⟩ := h
    exact ⟨v, Hx, J.os, J.bare, J.base, J.hok, rv, z⟩
  | next =>
    obtain ⟨_, Hx, J, z⟩ := h
    exact ⟨V.non, Hx, J.os, J.bare, J.base, J.hok, rfl, z⟩
  | brk => exact h.elim fun _ z => z.elim fun _ y => y.2.elim
  | cont => exact h.elim fun _ z => z.elim fun _ y => y.2.elim
/-- a def by its body, where no repr is under way -/
theorem okG {x qual : Str} {st : Stmt} {f : Addr} {fd : FuncData} {N ps : List Str} {k : Nat} {sp : Sp} (F : Fun K x qual st f fd) (S : FnScope N ps (defScope st))
    (many : ∀ zs H Q E, sp zs H Q E → zs.length = ps.length)
    (bodies : ∀ (cdv : Value) (A : Around) (outer : List Env) (s : Shared) (H : Hp) (zs : List V) (Q : VK) (E : XK), A.guards = some [] → Room k (A.deeper (envOfC qual (defScope st) s.heap.objs.size f cdv)) → sp zs H Q E →
      ∃ t, PSs (cxOf CX0 P w K mg base N qual (defScope st) f cdv A outer s H E).nox (defBody st) t ∧ t { nx := fun _ H' => Q .non H', rt := Q } (start N zs) H) : FnG P w K mg base CX0 (k + 1) f fd ps sp := by
  obtain ⟨_, _, _, _, _, _, cdv, _, _, rfl, at_f, code⟩ := F.ex
  refine ⟨fun h => many _ _ _ _ h, fun {A outer s H given us zs Q E} hg room e0 binds rel h => ?_⟩
  have stays : ∀ b o, base.get? b = some o → s.heap.get? b = some o := fun b o z => (e0.bs b o z).1
  have written := e0.mod.kin.keeps stays
  have endless := e0.mod.nolimit.keeps stays
  have slots : ∀ y ∈ ps.zip us, (defScope st).names.lookup y.1 = some .local ∨ ((defScope st).names.lookup y.1 = some .cell ∧ ((cellsFrom (s.heap.objs.size + 1) (defScope st).names []).lookup y.1).isSome = true) := fun y hy =>
    (S.par y.1 (List.of_mem_zip hy).1).imp id fun z => ⟨z, PySem.W.cellsFrom_some _ _ _ (.inl z)⟩
  refine codeAny_call_function room.depth (written _ _ at_f) rfl S.co S.gen rfl (PySem.W.codeRec_of written code) (binds _ _ _ _ (wpAny_newFunctionEnv_cells S.kind slots fun env he s1 fresh => ?_))
  subst he
  obtain ⟨t, ht, read⟩ := bodies cdv A outer s H zs Q E hg (room.deeper _) h
  have I := inv_start (CX := CX0) (P := P) (w := w) (E := E) S room.hd e0 (many _ _ _ _ h) rel fresh
  refine ⟨endless.keeps fresh.toInCall.keep, codeAny_func (wpAny_mono (ht.nox.run [] s1 (start N zs) H _ I read) (fun fl s' z => ?_) fun _ _ z => z)⟩
  have told := body_end z
  cases fl with
  | ret u => exact told
  | next => exact told
  | brk => exact False.elim told
  | cont => exact False.elim told
end
section
variable {X : Cx} {CX : CXT} {k : Nat} {f : Addr} {fd : FuncData} {ps : List Str} {sp : Sp} {E : XK} {x : Str} {p pos : Pos} {e : Expr} {es : List Expr} {t : TA}
/-- the reading of f(e, ..) for such a def -/
abbrev tCallG (sp : Sp) (E : XK) (t : TA) : TE := fun σ H Q => t σ H fun zs H1 => sp zs H1 Q E
theorem pe_callG (F : FnG X.prog X.w X.K X.mg X.base CX k f fd ps sp) (quiet : X.A.guards = some []) (room : Room k X.A) (gl : Gl X x) (at_x : X.mg x = some (.ref f)) (kept : PySem.W.keepIn X.K (.ref f) = true)
    (binds : Binds X.K fd ps []) (lets : Passes CX X E) (args : PA X (e :: es) t) (nodebug : (x == ("__debug__" : Str)) = false := by decide)
    (one : starEach (e :: es) X.env = (false, eval e X.env) :: starEach es X.env := by rfl) (nostar : (backTo pos (starEach es X.env)).any (·.1) = false := by rfl) : PE X (.Call (.Name x p) (e :: es) [] pos) (tCallG sp E t) := by
  constructor
  intro pins s σ H Q I read
  refine wpAny_Call_Name_kw (ld_glob I gl at_x (PySem.W.callWith_K (h₀ := X.base) I.ok.mod.kin kept (thn (args.run pos pins s σ H _ I read) fun us s1 y => ?_) one nostar) nodebug)
  obtain ⟨zs, H1, J, rel, h⟩ := y
  have len : (us ++ []).length = ps.length := by
    rw [List.append_nil, ← rel.length]
    exact F.arity h
  have bound := binds s1 us J.kIn len
  rw [List.append_nil] at bound
  refine ⟨J.kIn, wpAny_call (codeAny_mono (F.runs (given := ⟨us, []⟩) quiet room J.env0 bound rel h) fun a s' z => ?_)⟩
  match a, z with
  | .error er, z => exact lets pins σ H1 s1 er s' J z
  | .ok (.ret u), z => exact J.after z
/-! ### str(x) of data -/
def rShow (K : PySem.W.Frag) : List V → Hp → VK → Prop := fun xs H Q => ∃ (a : Addr) (d : PyData), xs = [.ref a] ∧ Dp K H (.ref a) d ∧ d.showable = true ∧ d.hasDict = false ∧ d.depth ≤ 60 ∧ d.shown.length ≤ sizeLine ∧ Q (.str d.shown) H
theorem call_strD (deep : X.A.units + 64 < cLine) (quiet : X.A.guards = some []) : CallR X (.type "str") (rShow X.K) := by
  rintro pins s σ H _ _ Q I (_ | ⟨ra, rb⟩) ⟨a, d, e, dp, h1, h2, h3, h4, h⟩
  · exact nomatch e
  · obtain ⟨rfl, rfl⟩ := List.cons.inj e
    cases rb
    obtain ⟨as, rd⟩ := Dp.reads I d _ _ dp ra
    cases (show _ = Value.ref a from ra)
    exact str_of_reads rd h1 (fun z => absurd (h2.symm.trans z) (by decide)) quiet (by omega) (fun _ _ z => z) (fun hx u tk kp => ⟨.str d.shown, H, I.kept kp, ⟨u, rfl⟩, h⟩) h4
end
/-! ### the law's own head, for such a def -/
/-- a law's promise: of a list of at most 63 ints it gives True -/
def spScript (K : PySem.W.Frag) : Sp := fun zs H Q _ => ∃ (a : Addr) (ns : List Int), zs = [.ref a] ∧ SqL K H a (ns.map V.int) ∧ ns.length ≤ 63 ∧ ∀ Hx, Q (.bl true) Hx
section
variable {P : Program} {w : World} {K : PySem.W.Frag} {mg mb : Str → Option Value} {k : Nat} {fa a : Addr} {fd : FuncData} {x : Str} {s1 : Shared} {vs : List Value} {ns : List Int}
theorem law_from (KX : K.In s1.heap) (globals : s1.heap.Ns mainGlobals mg) (builtins : s1.heap.Ns builtinsNs mb) (boot : ∀ y : Str, y ≠ "__name__" → mb y = bootBuiltins y) (lim : s1.heap.NoLimit) (nogens : s1.gens = #[])
    (script : s1.heap.get? a = some { cls := .type "list", data := .seq vs.toArray }) (room : Room k callerA) (F : ∀ B : Heap, K.In B → B.Ns mainGlobals mg → FnG P w K mg B CX0 k fa fd [x] (spScript K))
    (bind : ∀ (s : Shared) (u : Value), BindsTo s fd ⟨[u], []⟩ [(x, u)]) (H : Hp) (only : Only H) (here : SqL K H a (ns.map V.int)) (few : ns.length ≤ 63) (fine : HOk P w H s1.heap) (alone : ∀ b, H b ≠ none → b = a ∧ K.lookup a = none) :
    codeAny (model P w) callerA (.call (.ref fa) ⟨[.ref a], []⟩) (fun r s' => r = .ok (.ret (.bool true)) ∧ OldK s1.heap s'.heap ∧ s'.os = s1.os ∧ AllBare s'.gens) s1 := by
  have free : ∀ {b : Addr}, (b = a → K.lookup a = none → False) → H b = none := fun {b} z => by
    cases hb : H b with
    | none => rfl
    | some u => exact ((fun y => z y.1 y.2) (alone b (by rw [hb]; exact fun e => nomatch e))).elim
  have dicts : ∀ {b : Addr} {m : Str → Option Value}, s1.heap.Ns b m → (hidT s1.heap H).Ns b m := fun {b m} y => by
    obtain ⟨o, es, ep, e, dd, r⟩ := y
    refine ⟨o, es, ep, hidT_get e (free fun z _ => ?_), dd, r⟩
    rw [z, script] at e
    cases e
    exact nomatch dd
  have kin : K.In (hidT s1.heap H) := fun b o e => hidT_get (KX b o e) (free fun z y => by
    rw [z, y] at e
    exact nomatch e)
  obtain ⟨mc, c1, c2⟩ := lim
  have e0 : Env0 P w K mg (hidT s1.heap H) callerA [] s1 H := {
    frames := rfl
    mod := ⟨kin, dicts globals, ⟨mb, dicts builtins, boot⟩, ⟨mc, dicts c1, c2⟩⟩
    bs := fun _ _ z => of_hidT z
    bsz := Nat.le_of_eq (hidT_size _ _)
    funs := trivial
    frf := fun b z => nomatch (show b ∈ ([] : List Addr) from z)
    hok := fine
    bare := .of_eq nogens }
  have run := (F _ kin (dicts globals)).runs (given := ⟨[.ref a], []⟩) (us := [.ref a]) (zs := [.ref a]) (Q := fun v _ => v = .bl true) (E := fun _ _ _ => False) rfl room e0 (bind s1 (.ref a)) (.cons rfl .nil) ⟨a, ns, rfl, here, few, fun _ => rfl⟩
  refine codeAny_mono run fun r s' told => ?_
  match r, told with
  | .error er, told => exact told.elim
  | .ok (.ret u), told =>
    obtain ⟨v, Hx, os, bare, un, fine2, rel, is_true⟩ := told
    cases (show v = .bl true from is_true)
    cases (show u = Value.bool true from rel)
    refine ⟨rfl, .of_keep fun b o e => ?_, os, bare⟩
    rcases only b with z | ⟨og, _, z⟩
    · exact un.keep b o e z (fun y => nomatch (show b ∈ ([] : List Addr) from y)) (by simp)
    · have still := (fine2 b _ (un.frzs b og _ z)).1
      cases e.symm.trans (fine b _ z).1
      exact still
end
theorem walk_g {l : PySem.W.OpenLaw} {k : Nat} {q : Program} {loose : List Str} {XP : (Str → Option Value) → Heap → Prop} {YP : World → Heap → Prop} {d : DefRec} {K : Params → PySem.W.Frag} {x : Str} (most : l.most = some 63) (plain : d.params.defaults = [])
    (room : Room k callerA) (inK : ∀ w h, YP w h → (K w.params).In h)
    (law : ∀ w mg fa h, (K w.params).In h → h.Ns mainGlobals mg → mg d.name = some (.ref fa) → ∃ fd : FuncData, (∀ (s : Shared) (v : Value), BindsTo s fd ⟨[v], []⟩ [(x, v)]) ∧ ∀ B : Heap, (K w.params).In B → B.Ns mainGlobals mg → FnG l.prog w (K w.params) mg B CX0 k fa fd [x] (spScript (K w.params))) :
    PySem.W.WalkO q loose XP YP l.row.toRowW d [] (fun f zs => PySem.call f zs) := by
  refine Att.attach_call most plain fun w _ s1 mg mb fa _ _ _ _ a vs ns G Y _ _ _ at_law script these few nogens => ?_
  have KX := inK w _ Y
  obtain ⟨fd, bind, F⟩ := law w mg fa _ KX G.T.g at_law
  have rel := vals_ints these
  have line : ns.length ≤ sizeLine := Nat.le_trans few (by decide)
  have go := law_from (ns := ns) KX G.T.g G.T.b G.T.builtins G.T.nolimit nogens script room F bind
  cases look : (K w.params).lookup a with
  | some o =>
    cases script.symm.trans (KX a o look)
    refine go (fun _ => none) (fun _ => .inl rfl) (.inr ⟨_, vs.toArray, _, look, rfl, rfl, rfl, ?_, ?_⟩) few (fun b u z => ((nomatch z : (none : Option HO) = some u → False) z).elim) (fun b z => absurd rfl z)
    · rw [List.size_toArray, these.length]
      exact line
    · rw [List.toList_toArray]
      exact rel
  | none =>
    obtain ⟨o, eo⟩ : ∃ o : HO, o = .frz { cls := .type "list", data := .seq vs.toArray } (.lst (ns.map V.int)) := ⟨_, rfl⟩
    have at_a : ∀ b, (if b = a then some o else none) = none ∨ (b = a ∧ (if b = a then some o else none) = some o) := fun b => by
      by_cases z : b = a
      · exact .inr ⟨z, if_pos z⟩
      · exact .inl (if_neg z)
    refine go (fun b => if b = a then some o else none) (fun b => ?_) (.inl (.inr ⟨_, (if_pos rfl).trans (congrArg some eo)⟩)) few (fun b u z => ?_) (fun b z => ?_)
    · rcases at_a b with z | ⟨_, z⟩
      · exact .inl z
      · exact .inr ⟨_, _, z.trans (congrArg some eo)⟩
    · rcases at_a b with y | ⟨e, y⟩
      · exact nomatch y.symm.trans z
      · cases y.symm.trans z
        subst e
        rw [eo]
        exact ⟨script, by rw [List.length_map]; exact line, vs, _, rel, script⟩
    · rcases at_a b with y | ⟨e, _⟩
      · exact absurd y z
      · exact ⟨e, look⟩
end Tg

/-! repr of own objects by their own __repr__, and {x!r} of data, where no repr is under way -/
namespace Tg
open PySem PySem.Spec PyProof.Rows L2
section
variable {prog : Program} {w : World} {A : Around} {E : Value → Shared → Prop} {s : Shared} {K : PySem.W.Frag} {x C f : Addr} {ox : Obj} {dx : Option Obj}
theorem repr_in {Q : Value → Shared → Prop} (room : A.in1.units < cLine) (inK : K.In s.heap) (I : PySem.W.InstAt s.heap x ox C dx) (at_ : PySem.W.findIn K (.ref C) "__repr__" = some (some (.ref f))) (fn : PySem.W.isFn K (.ref f) = true)
    (h : wpAny (model prog w) A.in1 (call (.ref f) [.ref x]) (fun r s' => ∃ y t, r = .str y t ∧ Q r s') E s) : wpAny (model prog w) A (call (.builtin "repr") [.ref x]) Q E s := by
  refine Calls.call_function_entry (id := "repr") PySem.F.kind_repr PySem.F.plain_repr PySem.F.entry_repr (PySem.F.args_repr1 (.ref x)) ?_
  unfold Builtin.«repr»
  refine wpAny_bind (m := oneArg "repr" _) (wpAny_pure (wpAny_bind (wpAny_cRoomFor room (wpAny_bind (wpAny_bind (I.type.here ((PySem.W.looks_findIn inK at_).here ?_)))))))
  show wpAny _ A.in1 (if (some (Value.ref f)).isNone = true then _ else _) _ E s
  rw [if_neg (fun z => nomatch z)]
  refine wpAny_bind (m := callSpecialIfBound? (.ref x) (Str.ofString "__repr__") _) (PySem.W.ifBound_K inK I at_ fn (wpAny_mono h (fun r s' told => ?_) fun _ _ y => y))
  obtain ⟨y, t, rfl, q⟩ := told
  refine wpAny_bind (m := isInstance (.str y t) (.type "str")) (wpAny_isInstance (T := "str") (typeIs_str _ y t) isSubtype_str_str ?_)
  first
    | exact wpAny_pure ⟨_, rfl, q⟩
    | (rw [if_pos rfl]; exact wpAny_pure ⟨_, rfl, q⟩)
    | (simp only [if_true]; exact wpAny_pure ⟨_, rfl, q⟩)
end
section
variable {X : Cx} {n : Nat}
def rReprO (C : Addr) (sp : Sp) (E : XK) : List V → Hp → VK → Prop := fun vs H Q => ∃ a dx fs, vs = [.ref a] ∧ H a = some (.ins C dx fs) ∧ sp [.ref a] H (fun v H' => ∃ y : Str, v = .str y ∧ Q v H') E
theorem cr_reprO {CX : CXT} {C f : Addr} {fd : FuncData} {sp : Sp} {E : XK} (F : FnG X.prog X.w X.K X.mg X.base CX n f fd ["self"] sp) (at_ : PySem.W.findIn X.K (.ref C) "__repr__" = some (some (.ref f))) (fn : PySem.W.isFn X.K (.ref f) = true) (hb : Binds X.K fd ["self"] []) (hx : Passes CX X E) (hr : Room (n + 1) X.A) (quiet : X.A.guards = some []) :
    CallR X (.builtin "repr") (rReprO C sp E) := by
  rintro pins s σ H vs us Q I r ⟨a, dx, fs, rfl, ha, told⟩
  obtain rfl : us = [.ref a] := by
    cases r with
    | cons p t => cases t; cases p; rfl
  obtain ⟨atA, J, _⟩ := ins_get I.hok ha
  obtain ⟨od, J, _⟩ := J.look
  have sb : Sub X n X.A.in1 := Sub.in1 ⟨hr, rfl⟩
  refine repr_in (by have := hr.units; show X.A.units + 1 < cLine; omega) I.kIn J at_ fn ?_
  have e0 : Env0 X.prog X.w X.K X.mg X.base X.A.in1 X.stack s H := by
    have env := I.env0
    exact ⟨sb.fr.symm ▸ env.frames, env.mod, env.bs, env.bsz, env.funs, env.frf, env.hok, env.bare⟩
  refine wpAny_call (codeAny_mono (F.runs (A := X.A.in1) (outer := X.stack) (s := s) (given := ⟨[.ref a], []⟩) (us := [.ref a]) (zs := [.ref a]) quiet sb.room e0 (by
    have z := hb s [.ref a] I.kIn rfl
    simpa using z) (.cons rfl .nil) told) fun r s' done => ?_)
  cases r with
  | error e => exact hx pins σ H s e s' I done
  | ok fl =>
    cases fl with
    | ret w =>
      obtain ⟨z, H', I', rz, y, ez, q⟩ := I.after done
      subst ez
      obtain ⟨t, rfl⟩ := rz
      exact ⟨y, t, rfl, .str y, H', I', ⟨t, rfl⟩, q⟩
    | next => exact False.elim done
    | brk => exact False.elim done
    | cont => exact False.elim done
/-- f'..' of two parts or more, by a name -/
def tJn (ts : List TE) : TE := fun σ H Q => tJs ts Str.empty σ H fun out H1 => Q (.str out) H1
theorem pe_jn {v1 v2 : Expr} {rest : List Expr} {ts : List TE} {pos : Pos} (h : PJ X (v1 :: v2 :: rest) ts) : PE X (.JoinedStr (v1 :: v2 :: rest) pos) (tJn ts) := pe_joined h
/-! ### {x!r} of data -/
def tFmtRD (K : PySem.W.Frag) (te : TE) : TE := fun σ H Q => te σ H fun x H1 => ∃ d : PyData, Dp K H1 x d ∧ d.showable = true ∧ d.hasDict = false ∧ d.depth ≤ 60 ∧ d.shown.length ≤ sizeLine ∧ Q (.str d.shown) H1
theorem pe_fmtRD {e : Expr} {te : TE} {pos : Pos} (deep : X.A.units + 64 < cLine) (quiet : X.A.guards = some []) (he : PE X e te) : PE X (.FormattedValue e 114 none pos) (tFmtRD X.K te) := by
  refine ⟨fun pins s σ H Q I h => ?_⟩
  refine wpAny_FormattedValue_repr (thn (he.run pins s σ H _ I h) fun v s1 ⟨x, H1, I1, r1, d, dp, h1, h2, h3, h4, q⟩ => ?_)
  obtain ⟨as, rd⟩ := Dp.reads I1 d x v dp r1
  cases dp with
  | non =>
    cases r1
    exact pyReprObj_none (wpAny_formatField_str ⟨.str "None", H1, I1.tok _, ⟨_, rfl⟩, q⟩ ⟨.str "None", H1, I1.tok _, ⟨_, rfl⟩, q⟩ h4)
  | bl b =>
    cases r1
    exact pyReprObj_bool (wpAny_formatField_str ⟨.str _, H1, I1.tok _, ⟨_, rfl⟩, q⟩ ⟨.str _, H1, I1.tok _, ⟨_, rfl⟩, q⟩ h4)
  | int i =>
    obtain ⟨t, rfl⟩ := r1
    exact pyReprObj_int (of_decide_eq_true h1) (wpAny_formatField_str ⟨.str _, H1, I1.tok _, ⟨_, rfl⟩, q⟩ ⟨.str _, H1, I1.tok _, ⟨_, rfl⟩, q⟩ h4)
  | str y =>
    obtain ⟨t, rfl⟩ := r1
    exact pyReprObj_str (wpAny_formatField_str ⟨.str _, H1, I1.tok _, ⟨_, rfl⟩, q⟩ ⟨.str _, H1, I1.tok _, ⟨_, rfl⟩, q⟩ h4) h4
  | lst _ _ =>
    cases r1
    exact pyReprObj_of_reads rd h1 (fun z => absurd (h2.symm.trans z) (by decide)) quiet (by omega) (fun _ _ z => z) (fun hx u tk kp => wpAny_formatField_str ⟨.str _, H1, I1.kept kp, ⟨_, rfl⟩, q⟩ ⟨.str _, H1, (I1.kept (t' := tk) kp).tok _, ⟨_, rfl⟩, q⟩ h4) h4
  | tup _ _ =>
    cases r1
    exact pyReprObj_of_reads rd h1 (fun z => absurd (h2.symm.trans z) (by decide)) quiet (by omega) (fun _ _ z => z) (fun hx u tk kp => wpAny_formatField_str ⟨.str _, H1, I1.kept kp, ⟨_, rfl⟩, q⟩ ⟨.str _, H1, (I1.kept (t' := tk) kp).tok _, ⟨_, rfl⟩, q⟩ h4) h4
end
theorem pe_fmtRDK {X : Cx} {e : Expr} {te : TE} {pos : Pos} (K : PySem.W.Frag) (deep : X.A.units + 64 < cLine) (quiet : X.A.guards = some []) (he : PE X e te) (hK : X.K = K := by rfl) : PE X (.FormattedValue e 114 none pos) (tFmtRD K te) := by
  subst hK
  exact pe_fmtRD deep quiet he
section
variable {P : Program} {w : World} {K : PySem.W.Frag} {mg : Str → Option Value} {base : Heap}
/-- a def that is called where no repr is under way -/
def CalG (P : Program) (w : World) (K : PySem.W.Frag) (mg : Str → Option Value) (base : Heap) (k : Nat) (x : Str) (ps : List Str) (sp : Sp) : Prop := ∃ f fd, FnG P w K mg base CX0 k f fd ps sp ∧ mg x = some (.ref f) ∧ PySem.W.keepIn K (.ref f) = true ∧ Binds K fd ps []
theorem pe_calG {X : Cx} {k : Nat} {x : Str} {ps : List Str} {sp : Sp} {e : Expr} {es : List Expr} {t : TA} {p pos : Pos} (c : CalG X.prog X.w X.K X.mg X.base k x ps sp) (quiet : X.A.guards = some []) (hr : Room k X.A) (gl : Gl X x) (ha : PA X (e :: es) t) (nodebug : (x == ("__debug__" : Str)) = false := by decide)
    (one : starEach (e :: es) X.env = (false, eval e X.env) :: starEach es X.env := by rfl) (nostar : (backTo pos (starEach es X.env)).any (·.1) = false := by rfl) : PE X (.Call (.Name x p) (e :: es) [] pos) (tCallG sp E0 t) := by
  obtain ⟨f, fd, F, hm, hk, hb⟩ := c
  exact pe_callG F quiet hr gl hm hk hb pass0 ha nodebug one nostar
end
end Tg

/-! len(x) of an own object by its own __len__ -/
namespace Tg
open PySem PySem.Spec PyProof.Rows L2
section
variable {prog : Program} {w : World} {A : Around} {E : Value → Shared → Prop} {s : Shared} {K : PySem.W.Frag} {x C f : Addr} {ox : Obj} {dx : Option Obj}
theorem len_in {Q : Value → Shared → Prop} (inK : K.In s.heap) (I : PySem.W.InstAt s.heap x ox C dx) (at_ : PySem.W.findIn K (.ref C) "__len__" = some (some (.ref f))) (fn : PySem.W.isFn K (.ref f) = true)
    (h : wpAny (model prog w) A.in1 (call (.ref f) [.ref x]) (fun r s' => ∃ n u, r = .int n u ∧ 0 ≤ n ∧ n < 2 ^ 63 ∧ Q (.int n s'.toks) { s' with toks := s'.toks + 1 }) E s) : wpAny (model prog w) A (call (.builtin "len") [.ref x]) Q E s := by
  refine Calls.call_function_entry (id := "len") kind_len plain_len entry_len (args_len1 (.ref x)) ?_
  unfold Builtin.«len»
  refine wpAny_bind (m := oneArg "len" _) (wpAny_pure (wpAny_bind (m := callSpecial? (.ref x) (Str.ofString "__len__")) ?_))
  unfold callSpecial?
  refine wpAny_bind (wpAny_bind (I.type.here ((PySem.W.looks_findIn inK at_).here ?_)))
  refine wpAny_holding (wpAny_bind ((PySem.W.bind_fn inK _ (beq_iff_eq.mp fn)).here ?_))
  refine wpAny_bind (wpAny_mono h (fun r s' told => ?_) fun _ _ y => y)
  obtain ⟨n, u, rfl, n0, n1, q⟩ := told
  refine wpAny_pure ?_
  refine wpAny_bind (wpAny_holding (wpAny_pure (wpAny_bind (wpAny_letGo ?_))))
  have lo : ¬ n < 0 := by omega
  have hi : ¬ n ≥ 2 ^ 63 := by omega
  change wpAny (model prog w) A.in1 (ite (n < 0) _ (ite (n ≥ 2 ^ 63) _ _)) _ E _
  rw [if_neg lo, if_neg hi]
  exact wpAny_bind (wpAny_mkInt (wpAny_pure ⟨_, rfl, q⟩))
end
section
variable {X : Cx} {n : Nat}
def rLenO (C : Addr) (sp : Sp) (E : XK) : List V → Hp → VK → Prop := fun vs H Q => ∃ a dx fs, vs = [.ref a] ∧ H a = some (.ins C dx fs) ∧ sp [.ref a] H (fun v H' => ∃ m : Nat, v = .int (m : Int) ∧ m < 2 ^ 60 ∧ Q v H') E
theorem cr_lenO {CX : CXT} {C f : Addr} {fd : FuncData} {sp : Sp} {E : XK} (F : FnOk X.prog X.w X.K X.mg X.base CX n f fd ["self"] sp) (at_ : PySem.W.findIn X.K (.ref C) "__len__" = some (some (.ref f))) (fn : PySem.W.isFn X.K (.ref f) = true) (hb : Binds X.K fd ["self"] []) (hx : Passes CX X E) (hr : Room (n + 1) X.A) :
    CallR X (.builtin "len") (rLenO C sp E) := by
  rintro pins s σ H vs us Q I r ⟨a, dx, fs, rfl, ha, told⟩
  obtain rfl : us = [.ref a] := by
    cases r with
    | cons p t => cases t; cases p; rfl
  obtain ⟨atA, J, _⟩ := ins_get I.hok ha
  obtain ⟨od, J, _⟩ := J.look
  have sb : Sub X n X.A.in1 := Sub.in1 ⟨hr, rfl⟩
  refine len_in I.kIn J at_ fn ?_
  have e0 : Env0 X.prog X.w X.K X.mg X.base X.A.in1 X.stack s H := by
    have env := I.env0
    exact ⟨sb.fr.symm ▸ env.frames, env.mod, env.bs, env.bsz, env.funs, env.frf, env.hok, env.bare⟩
  refine wpAny_call (codeAny_mono (F.run X.A.in1 X.stack s H ⟨[.ref a], []⟩ [.ref a] [.ref a] _ E sb.room e0 (by
    have z := hb s [.ref a] I.kIn rfl
    simpa using z) (.cons rfl .nil) told) fun r s' done => ?_)
  cases r with
  | error e => exact hx pins σ H s e s' I done
  | ok fl =>
    cases fl with
    | ret w =>
      obtain ⟨z, H', I', rz, m, ez, m60, q⟩ := I.after done
      subst ez
      obtain ⟨t, rfl⟩ := rz
      exact ⟨(m : Int), t, rfl, by omega, by omega, .int (m : Int), H', I'.tok _, ⟨_, rfl⟩, q⟩
    | next => exact False.elim done
    | brk => exact False.elim done
    | cont => exact False.elim done
end
end Tg

namespace Tg
open PySem PySem.Spec PyProof.Rows L2
/-! ### int(text, 2) of a text of any length, where the limit on figures stands as it was -/
open PySem.NumText PySem.Calls in
theorem bin_readL (lim : Nat) {cs : List Nat} (h : ∀ c ∈ cs, IsBin c) (ne : cs ≠ []) : (int_private% "readNumeral") lim 2 cs = (int_private% "Numeral.value") ((binNum cs : Nat) : Int) := by
  have hx : ∀ c ∈ cs, Hx.IsHex c := fun c hc => (h c hc).hex
  have hr : ∀ c ∈ cs.reverse, Hx.IsHex c := fun c hc => hx c (List.mem_reverse.mp hc)
  obtain ⟨c, r, rfl⟩ := List.exists_cons_of_ne_nil ne
  have told := bin_value (c :: r) #[]
  have figs := bin_digits h
  rw [readNumeral_eq lim 2 (c :: r), Hx.dropB hx, Hx.signH hx]
  show judge lim false (based 2 (c :: r)).1 (based 2 (c :: r)).2.1 (digits? (based 2 (c :: r)).1 (((based 2 (c :: r)).2.2.reverse.dropWhile blank).reverse)) = _
  rw [bin_based h]
  show judge lim false 2 false (digits? 2 (((c :: r).reverse.dropWhile blank).reverse)) = _
  rw [Hx.dropB hr, List.reverse_reverse, figs]
  show (int_private% "Numeral.value") ((((c :: r).foldl (fun acc c => acc.push (c - 48)) (#[] : Array Nat)).foldl (fun acc d => acc * 2 + d) 0 : Nat) : Int) = _
  rw [told]
  rfl
/-- the limit on figures is the one at the beginning -/
abbrev LimK : Str := "sys.int_max_str_digits"
def LimAt (h : Heap) : Prop := ∀ M : Model, PySem.W.Looks M h (nsGet cStatics LimK) none
theorem wp_lim {M : Model} {A : Around} {E : Value → Shared → Prop} {s : Shared} {Q : Nat → Shared → Prop} (l : LimAt s.heap) (h : Q 4300 s) : wpAny M A Builtin.intMaxStrDigits Q E s := by
  rw [Builtin.intMaxStrDigits]
  exact wpAny_bind ((l M).here (wpAny_pure h))
theorem wp_long {M : Model} {A : Around} {E : Value → Shared → Prop} {s : Shared} {Q : Value → Shared → Prop} {v : Value} {text : List Nat} {n : Int} (l : LimAt s.heap)
    (told : ∀ lim, (int_private% "readNumeral") lim 2 (text.takeWhile (· != 0)) = (int_private% "Numeral.value") n) (whole : ((text.takeWhile (· != 0)).length == text.length) = true) (q : Q (.int n s.toks) { s with toks := s.toks + 1 }) :
    wpAny M A ((int_private% "intFromText") v text 2) Q E s := by
  by_cases short : (text.takeWhile (· != 0)).length ≤ 640
  · exact Hx.wp_textB short (told 0) whole q
  · obtain ⟨hp, g, d, tk, os⟩ := s
    have lim := fun (Q' : Nat → Shared → Prop) (z : Q' 4300 ⟨hp, g, d, tk, os⟩) => wp_lim (M := M) (A := A) (E := E) l z
    repeat (any_goals (first
      | assumption
      | (with_reducible refine wpAny_ite_false (decide_eq_false short) ?_)
      | (with_reducible refine wpAny_ite_true (decide_eq_true whole) ?_)
      | (refine wpAny_bind (m := Builtin.intMaxStrDigits) (lim _ ?_))
      | (with_reducible refine lim _ ?_)
      | wp_step))
    all_goals (try rw [told])
    all_goals (try dsimp only)
    repeat (any_goals (first
      | assumption
      | (with_reducible refine wpAny_ite_true (decide_eq_true whole) ?_)
      | wp_step))
set_option maxHeartbeats 4000000 in
theorem meets_bin {x : Str} {u t : Tok} (bin : ∀ c ∈ x.cps.toList, IsBin c) (ne : x.cps.toList ≠ []) :
    Meets (Builtin.«int.__new__» ⟨[.type "int", .str x u, .int 2 t], []⟩) (fun _ R s => LimAt s.heap ∧ R (.ok (.ret (.int ((binNum x.cps.toList : Nat) : Int) s.toks))) { s with toks := s.toks + 1 }) :=
  .of_wp fun prog w A R s told => by
    obtain ⟨heap, gens, drawn, toks, out⟩ := s
    obtain ⟨lim, q⟩ := told
    have f1 := PySem.F.conv_sub_int
    have f2 := PySem.F.madeHere_int
    have strT : typeOf (.str x u) = pure (.type "str") := rfl
    obtain ⟨same1, same2⟩ := Hx.seen_hex fun c hc => (bin c hc).hex
    have value : ∀ l : Nat, (int_private% "readNumeral") l 2 (numSeenOf x) = (int_private% "Numeral.value") ((binNum x.cps.toList : Nat) : Int) := fun l => by
      rw [same2]
      exact bin_readL l bin ne
    have whole : ((numSeenOf x).length == (numTextOf x).length) = true := by
      rw [same1, same2]
      exact beq_self_eq_true _
    have hk := Hx.Hid.mk (And.intro lim (And.intro value whole))
    clear lim value whole same1 same2 bin ne
    repeat (any_goals (first
      | assumption
      | ((with_reducible show wpAny _ _ ((int_private% "intFromText") _ _ _) _ _ _); refine wp_long hk.out.1 hk.out.2.1 hk.out.2.2 ?_)
      | wp_step))
    all_goals (try exact ⟨_, rfl, q⟩)
/-- what the pinned facts say of it -/
theorem lim_of {K : PySem.W.Frag} {h : Heap} (inK : K.In h) (sd : PySem.W.nsIn K cStatics LimK = some none) : LimAt h := fun M => PySem.W.looks_nsIn inK sd
def rIntBinL : List V → Hp → VK → Prop := fun xs H Q => ∃ l : List Nat, xs = [.str (SX.S l), .int 2] ∧ l ≠ [] ∧ (∀ c ∈ l, IsBin c) ∧ Q (.int ((binNum l : Nat) : Int)) H
theorem call_int_binL {X : Cx} (sd : PySem.W.nsIn X.K cStatics LimK = some none) : CallR X (.type "int") rIntBinL := by
  rintro pins s σ H _ us Q I r ⟨l, rfl, ne, bin, q⟩
  obtain ⟨u, v, rfl, r1, r2⟩ := vals2 r
  obtain ⟨t1, rfl⟩ := r1
  obtain ⟨t2, rfl⟩ := r2
  have g := meets_bin (x := SX.S l) (u := t1) (t := t2) bin ne
  exact callType_new PySem.F.called_int PySem.F.newNe_int (Hx.typeCall_int_2 _ _) (Hx.newCall_int_2 _ _) (fun obj => PySem.F.initArgs_range_2 obj _ _) PySem.F.entry_int_new g ⟨lim_of I.kIn sd, rfl, .int ((binNum l : Nat) : Int), H, I.tok _, ⟨_, rfl⟩, q⟩
end Tg

/-! for c in a text -/
namespace Tg
open PySem PySem.Spec PyProof.Rows L2
theorem for_str {x : Str} {g : TG} {tb : TS} {D : Ends} {σ : L2.St} {H : Hp} (Pv : Nat → L2.St → Hp → Prop) (h0 : Pv 0 σ H)
    (hs : ∀ (i c : Nat) σ H, x.cps[i]? = some c → Pv i σ H → g (.str ⟨#[c]⟩) σ H fun σ2 H2 => tb { D with nx := Pv (i + 1), ct := Pv (i + 1), bk := D.nx } σ2 H2) (hd : ∀ σ H, Pv x.cps.size σ H → D.nx σ H) :
    ∃ Wk : Nat → Nat → L2.St → Hp → Prop, (∃ m, Wk 0 m σ H) ∧ ∀ i m σ H, Wk i m σ H →
      ((Its x).stop i H ∧ D.nx σ H) ∨ ((Its x).go i H ∧ ∃ N : L2.St → Hp → Prop, (∀ σ' H', N σ' H' → ∃ m', m' < m ∧ Wk (i + 1) m' σ' H') ∧ ∀ y H', (Its x).yld i H y H' → g y σ H' fun σ2 H2 => tb { D with nx := N, ct := N, bk := D.nx } σ2 H2) := by
  refine ⟨fun i m σ H => m = x.cps.size - i ∧ i ≤ x.cps.size ∧ Pv i σ H, ⟨_, rfl, Nat.zero_le _, h0⟩, ?_⟩
  rintro i m σ H ⟨rfl, hi, p⟩
  by_cases lt : i < x.cps.size
  · refine .inr ⟨lt, Pv (i + 1), fun σ' H' p' => ⟨x.cps.size - (i + 1), by omega, rfl, lt, p'⟩, fun y H' told => ?_⟩
    obtain ⟨rfl, c, ec, rfl⟩ := told
    exact hs i c σ H' ec p
  · obtain rfl : i = x.cps.size := by omega
    exact Or.inl ⟨Nat.le_refl _, hd σ H p⟩
end Tg

namespace Tg
open PySem PySem.Spec PyProof.Rows L2
/-! ### the text -/
def topS (i : Nat) : Stmt := PySem.Challenge.pw_timegranary_k24_bits_that_tell_columns.main.body.getD i (.Pass ⟨0, 0, 0, 0⟩)
abbrev sDraws : Stmt := topS 29
abbrev sNext : Stmt := topS 30
theorem scDraws : FnScope ["_law_cell", "_law_cut", "_law_k"] ["_law_cell"] (defScope sDraws) := ⟨rfl, rfl, rfl, by decide +kernel, rfl, by decide +kernel, by decide +kernel⟩
theorem scNext : FnScope ["_law_draws_here", "_law_k", "_law_number_here"] ["_law_draws_here"] (defScope sNext) := ⟨rfl, rfl, rfl, by decide +kernel, rfl, by decide +kernel, by decide +kernel⟩
section
variable {P : Program} {w : World} {K : PySem.W.Frag} {mg : Str → Option Value} {base : Heap}
/-! ### _law_draws -/
/-- the draws at p, of which at most n were taken -/
def Dr (H : Hp) (p : Addr) (n : Nat) : Prop := ∃ (a k : Int) (b : Bool), H p = some (.lst [.int a, .int k, .bl b]) ∧ 0 ≤ k ∧ k ≤ n
theorem Dr.same {H H' : Hp} {p : Addr} {n : Nat} (s : Same H H') (d : Dr H p n) : Dr H' p n := by
  obtain ⟨a, k, b, h, r⟩ := d
  exact ⟨a, k, b, s _ _ h, r⟩
theorem Dr.ne {H : Hp} {p l : Addr} {n : Nat} (d : Dr H p n) (h : H l = none) : l ≠ p := fun z => by
  obtain ⟨_, _, _, z2, _⟩ := d
  rw [z, z2] at h
  cases h
def spDraws : Sp := fun vs H Q _ => ∃ c : Int, vs = [.int c] ∧ ∀ (p : Addr) (a : Int) (b : Bool), H p = none → Q (.ref p) (upd H p (.lst [.int a, .int 0, .bl b]))
theorem ok_draws {f : Addr} {fd : FuncData} {k : Nat} (F : Fun K "_law_draws" "_law_draws" sDraws f fd) (mr : mg "range" = none) : FnOk P w K mg base CX0 (k + 1) f fd ["_law_cell"] spDraws := by
  refine F.ok scDraws (fun vs H Q E h => ?_) (fun cdv A outer s H vs Q E hr h => ?_)
  · obtain ⟨c, rfl, _⟩ := h
    rfl
  · obtain ⟨c, rfl, q⟩ := h
    refine ⟨_, pss_cons (ps_set (i := 1) scDraws.nd rfl (.inl rfl) (pe_op op_pow pe_int pe_int))
      (pss_cons (ps_for PassesOwn.never rfl (pi_range1 (by rfl) mr (pa_cons pe_int pa_nil)) (pg_name (i := 2) scDraws.nd rfl (.inl rfl))
        (pss_one (ps_set (i := 1) scDraws.nd rfl (.inl rfl) (pe_op op_mulW (pv 1) (pv 1)))))
      (pss_one (ps_ret (pe_lst (pa_cons (pe_op op_mod (pv 0) (pv 1)) (pa_cons pe_int (pa_cons (pe_cmpR op_ge (pv 0) (pe_op op_pow pe_int pe_int) (nomark _)) pa_nil))))))), ?_⟩
    refine ⟨10, 60, rfl, rfl, ⟨by decide, by decide, by decide⟩, ?_⟩
    refine ⟨7, rfl, by decide, by decide, for_range (n := 7) (fun i σ H2 => ∃ (x : Int) (y : Option V), σ = [some (.int c), some (.int x), y] ∧ H2 = H ∧ 0 < x ∧ x.natAbs < 2 ^ (200 * 2 ^ i)) ?_ ?_ ?_⟩
    · exact ⟨_, none, rfl, rfl, by decide, by decide⟩
    · rintro i σ H2 hi ⟨x, y, rfl, rfl, hx, hb⟩
      refine ⟨_, rfl, _, rfl, x, x, rfl, rfl, ?_, x * x, _, rfl, rfl, Int.mul_pos hx hx, ?_⟩
      · have h7 : 2 ^ i ≤ 2 ^ 6 := Nat.pow_le_pow_right (by decide) (by omega)
        have h0 : 0 < 2 ^ i := Nat.pow_pos (by decide)
        exact wide_mul hb hb (by omega) (by omega) (by omega)
      · have e := wide_lt hb hb
        rw [show 200 * 2 ^ (i + 1) = 200 * 2 ^ i + 200 * 2 ^ i by rw [Nat.pow_succ]; omega]
        exact e
    · rintro σ H2 ⟨x, y, rfl, rfl, hx, _⟩
      refine ⟨_, rfl, _, rfl, c, x, rfl, rfl, hx, _, rfl, 10, 18, rfl, rfl, ⟨by decide, by decide, by decide⟩, c, _, rfl, rfl, ?_, fun p hp => ?_⟩
      · show 3 ≤ sizeLine
        decide
      · exact q p _ _ hp
/-! ### _law_next -/
def spNext : Sp := fun vs H Q _ => ∃ (p : Addr) (n : Nat), vs = [.ref p] ∧ Dr H p n ∧ n < 1000000 ∧
  ∀ (v : Int) (H' : Hp), Kp p H H' → Dr H' p (n + 1) → 0 ≤ v → v < 1000000000 → Q (.int v) H'
theorem ok_next {f : Addr} {fd : FuncData} {k : Nat} (F : Fun K "_law_next" "_law_next" sNext f fd) : FnOk P w K mg base CX0 (k + 1) f fd ["_law_draws_here"] spNext := by
  refine F.ok scNext (fun vs H Q E h => ?_) (fun cdv A outer s H vs Q E hr h => ?_)
  · obtain ⟨p, n, rfl, _⟩ := h
    rfl
  · obtain ⟨p, n, rfl, ⟨a, k, b, hp, k0, kn⟩, hn, q⟩ := h
    refine ⟨_, pss_cons (ps_asg (pe_op op_add (pe_ix ix_list (pv 0) pe_int (fun _ _ => rfl)) pe_int) (pg_sub (pv 0) pe_int set_list))
      (pss_cons (ps_set (i := 1) scNext.nd rfl (.inl rfl) (pe_ix ix_list (pv 0) pe_int (fun _ _ => rfl)))
      (pss_cons (ps_if (pt_val (pe_ix ix_list (pv 0) pe_int (fun _ _ => rfl)))
        (pss_cons (ps_set (i := 2) scNext.nd rfl (.inl rfl) (pe_op op_mod (pe_ix ix_list (pv 0) pe_int (fun _ _ => rfl)) (pe_op op_pow pe_int pe_int)))
        (pss_cons (ps_asg (pe_op op_fdiv (pe_ix ix_list (pv 0) pe_int (fun _ _ => rfl)) (pe_op op_pow pe_int pe_int)) (pg_sub (pv 0) pe_int set_list))
        (pss_one (ps_ret (pv 2))))) pss_nil)
      (pss_cons (ps_set (i := 2) scNext.nd rfl (.inl rfl) (pe_op op_mod (pe_op op_mul (pe_op op_add (pe_op op_add (pe_op op_mod (pe_ix ix_list (pv 0) pe_int (fun _ _ => rfl)) pe_int) (pe_op op_mul (pe_op op_mul (pv 1) (pv 1)) pe_int)) (pv 1)) pe_int) pe_int))
      (pss_cons (ps_set (i := 2) scNext.nd rfl (.inl rfl) (pe_op op_mod (pe_op op_mul (pv 2) (pv 2)) pe_int))
      (pss_one (ps_ret (pe_op op_fdiv (pe_op op_mod (pe_op op_mul (pv 2) (pe_op op_add (pv 2) pe_int)) pe_int) pe_int))))))), ?_⟩
    have h1 : (upd H p (.lst [.int a, .int (k + 1), .bl b])) p = some (.lst [.int a, .int (k + 1), .bl b]) := upd_same
    refine ⟨_, rfl, p, _, 1, .int k, rfl, rfl, SqL.of hp, rfl, k, 1, rfl, rfl, _, rfl, p, _, 1, 1, rfl, rfl, hp, rfl, ?_⟩
    refine ⟨_, rfl, p, _, 1, .int (k + 1), rfl, rfl, SqL.of h1, rfl, ?_⟩
    refine ⟨_, rfl, p, _, 2, .bl b, rfl, rfl, SqL.of h1, rfl, b, rfl, ?_⟩
    cases b with
    | true =>
      refine ⟨_, rfl, p, _, 0, .int a, rfl, rfl, SqL.of h1, rfl, 10, 6, rfl, rfl, ⟨by decide, by decide, by decide⟩, a, 1000000, rfl, rfl, (by show (0 : Int) < 1000000; decide), ?_⟩
      refine ⟨_, rfl, p, _, 0, .int a, rfl, rfl, SqL.of h1, rfl, 10, 6, rfl, rfl, ⟨by decide, by decide, by decide⟩, a, 1000000, rfl, rfl, ⟨by decide, by decide⟩, _, rfl, p, _, 0, 0, rfl, rfl, h1, rfl, ?_⟩
      refine ⟨_, rfl, ?_⟩
      rw [upd_upd]
      exact q _ _ Kp.put ⟨_, _, _, upd_same, by omega, by omega⟩ (Int.emod_nonneg _ (by decide)) (Int.lt_of_lt_of_le (Int.emod_lt_of_pos _ (by decide)) (by decide))
    | false =>
      refine ⟨_, rfl, p, _, 0, .int a, rfl, rfl, SqL.of h1, rfl, a, 1000003, rfl, rfl, (by show (0 : Int) < 1000003; decide), _, rfl, _, rfl, k + 1, k + 1, rfl, rfl, .inl ⟨by omega, by omega⟩, _, 7919, rfl, rfl, .inr ⟨by decide, by decide⟩,
        _, _, rfl, rfl, _, rfl, _, k + 1, rfl, rfl, _, 48271, rfl, rfl, .inr ⟨by decide, by decide⟩, _, 2147483629, rfl, rfl, (by show (0 : Int) < 2147483629; decide), ?_⟩
      obtain ⟨x, ex⟩ : ∃ x : Int, (a % 1000003 + (k + 1) * (k + 1) * 7919 + (k + 1)) * 48271 % 2147483629 = x := ⟨_, rfl⟩
      have x0 : 0 ≤ x := by
        rw [← ex]
        exact Int.emod_nonneg _ (by decide)
      have x1 : x < 2147483629 := by
        rw [← ex]
        exact Int.emod_lt_of_pos _ (by decide)
      refine ⟨_, rfl, _, rfl, x, x, congrArg V.int ex, congrArg V.int ex, .inl ⟨by omega, by omega⟩, _, 2147483587, rfl, rfl, (by show (0 : Int) < 2147483587; decide), ?_⟩
      obtain ⟨y, ey⟩ : ∃ y : Int, x * x % 2147483587 = y := ⟨_, rfl⟩
      have y0 : 0 ≤ y := by
        rw [← ey]
        exact Int.emod_nonneg _ (by decide)
      have y1 : y < 2147483587 := by
        rw [← ey]
        exact Int.emod_lt_of_pos _ (by decide)
      refine ⟨_, rfl, _, rfl, y, 2, congrArg V.int ey, rfl, y, _, congrArg V.int ey, rfl, .inl ⟨by omega, by omega⟩, _, 2147483579, rfl, rfl, (by show (0 : Int) < 2147483579; decide), _, 7, rfl, rfl, ⟨by decide, by decide⟩, ?_⟩
      have z0 : 0 ≤ y * (y + 2) % 2147483579 := Int.emod_nonneg _ (by decide)
      have z1 : y * (y + 2) % 2147483579 < 2147483579 := Int.emod_lt_of_pos _ (by decide)
      exact q _ _ Kp.put ⟨_, _, _, upd_same, by omega, by omega⟩ (by omega) (by omega)
end
theorem if_n {b : Bool} {A B : Prop} (e : b = false) (h : B) : if b = true then A else B := by
  rw [e]
  exact if_f h
theorem if_y {b : Bool} {A B : Prop} (e : b = true) (h : A) : if b = true then A else B := by
  rw [e]
  exact if_t h
end Tg

namespace Tg
open PySem PySem.Spec PyProof.Rows L2
abbrev sBa : Stmt := topS 12
abbrev sNu : Stmt := topS 31
abbrev sLe : Stmt := topS 34
abbrev sLP : Stmt := topS 35
abbrev sLO : Stmt := topS 36
abbrev sLT : Stmt := topS 37
theorem scBa : FnScope ["number"] ["number"] (defScope sBa) := ⟨rfl, rfl, rfl, by decide +kernel, rfl, by decide +kernel, by decide +kernel⟩
theorem scNu : FnScope ["_law_draws_here", "_law_pick", "_law_far", "_law_some"] ["_law_draws_here"] (defScope sNu) := ⟨rfl, rfl, rfl, by decide +kernel, rfl, by decide +kernel, by decide +kernel⟩
theorem scLe : FnScope ["_law_number_here", "_law_told"] ["_law_number_here"] (defScope sLe) := ⟨rfl, rfl, rfl, by decide +kernel, rfl, by decide +kernel, by decide +kernel⟩
theorem scLP : FnScope ["_law_number_here", "_law_width", "_law_told", "_law_k"] ["_law_number_here", "_law_width"] (defScope sLP) := ⟨rfl, rfl, rfl, by decide +kernel, rfl, by decide +kernel, by decide +kernel⟩
theorem scLO : FnScope ["_law_number_here", "_law_width"] ["_law_number_here"] (defScope sLO) := ⟨rfl, rfl, rfl, by decide +kernel, rfl, by decide +kernel, by decide +kernel⟩
theorem scLT : FnScope ["_law_number_here"] ["_law_number_here"] (defScope sLT) := ⟨rfl, rfl, rfl, by decide +kernel, rfl, by decide +kernel, by decide +kernel⟩
theorem vi_z (n : Int) : decide (V.int n = V.int 0) = decide (n = 0) := by
  rw [dec_int]
  rfl
theorem s_nil : (Str.ofString "") = SX.S [] := by decide +kernel
theorem s_0 : (Str.ofString "0") = SX.S [48] := by decide +kernel
theorem s_1 : (Str.ofString "1") = SX.S [49] := by decide +kernel
theorem z500 {n : Nat} (h : n ≤ 60000) : n ≤ sizeLine := Nat.le_trans h (by decide)
theorem blen_small {n : Nat} (h : n < 2 ^ 91) : blen n ≤ 91 := by
  unfold blen
  split
  · exact Nat.zero_le _
  · rename_i c
    exact (Nat.log2_lt c).mpr h
section
variable {P : Program} {w : World} {K : PySem.W.Frag} {mg : Str → Option Value} {base : Heap} {f : Addr} {fd : FuncData} {k : Nat}
def spBa : Sp := fun vs H Q _ => ∃ n : Int, vs = [.int n] ∧ n.natAbs < 2 ^ 90 ∧ Q (.int (bk n)) H
theorem ok_ba (F : Fun K "back" "back" sBa f fd) : FnOk P w K mg base CX0 (k + 1) f fd ["number"] spBa := by
  refine F.ok scBa (fun vs H Q E h => ?_) (fun cdv A outer s H vs Q E hr h => ?_)
  · obtain ⟨n, rfl, _⟩ := h
    rfl
  · obtain ⟨n, rfl, few, q⟩ := h
    refine ⟨_, pss_one (ps_ret (pe_ifExp (pt_cmpR op_eq (pe_op op_mod (pv 0) pe_int) pe_int (nomark _)) (pe_op op_fdiv (pv 0) pe_int) (pe_op op_sub (pe_un un_neg (pe_op op_fdiv (pv 0) pe_int)) pe_int))), ?_⟩
    unfold bk at q
    refine ⟨_, rfl, _, _, rfl, rfl, (by show (0 : Int) < 2; decide), rfl, _, rfl, ite2 (fun g => ?_) (fun g => ?_)⟩
    · rw [vi_z] at g
      rw [if_pos (of_decide_eq_true g)] at q
      exact ⟨_, rfl, _, _, rfl, rfl, ⟨by decide, by decide⟩, q⟩
    · rw [vi_z] at g
      rw [if_neg (fun z => g (decide_eq_true z))] at q
      exact ⟨_, rfl, _, _, rfl, rfl, ⟨by decide, by decide⟩, _, rfl, _, _, rfl, rfl, q⟩
theorem own_64 {n : Nat} (h : n < 2 ^ 90) : blen (n + 1) ≤ 91 := blen_small (by omega)
def spNu : Sp := fun vs H Q _ => ∃ (p : Addr) (n : Nat), vs = [.ref p] ∧ Dr H p n ∧ n < 900000 ∧ ∀ (v : Int) (H' : Hp), Kp p H H' → Dr H' p (n + 2) → v.natAbs < 2 ^ 61 → Q (.int v) H'
theorem ok_nu (F : Fun K "_law_number" "_law_number" sNu f fd) (L_next : Cal P w K mg base k "_law_next" ["_law_draws_here"] spNext) : FnOk P w K mg base CX0 (k + 1) f fd ["_law_draws_here"] spNu := by
  refine F.ok scNu (fun vs H Q E h => ?_) (fun cdv A outer s H vs Q E hr h => ?_)
  · obtain ⟨p, n, rfl, _⟩ := h
    rfl
  · obtain ⟨p, n, rfl, dr, n9, q⟩ := h
    refine ⟨_, pss_cons (ps_set (i := 1) scNu.nd rfl (.inl rfl) (pe_cal L_next (hr.mono (by omega)) (by rfl) (pa_cons (pv 0) pa_nil)))
      (pss_cons (ps_set (i := 2) scNu.nd rfl (.inl rfl) (pe_op op_add (pe_op op_mul (pe_op op_mod (pe_op op_mul (pe_op op_fdiv (pv 1) pe_int) (pe_op op_pow pe_int pe_int)) (pe_op op_pow pe_int pe_int)) (pe_op op_pow pe_int pe_int)) (pe_cal L_next (hr.mono (by omega)) (by rfl) (pa_cons (pv 0) pa_nil))))
      (pss_cons (ps_set (i := 3) scNu.nd rfl (.inl rfl) (pe_lst (pa_cons (pe_op op_mod (pe_op op_fdiv (pv 1) pe_int) pe_int) (pa_cons (pe_op op_sub pe_int (pe_op op_mod (pe_op op_fdiv (pv 1) pe_int) pe_int)) (pa_cons (pe_op op_mod (pe_op op_fdiv (pv 1) pe_int) pe_int) (pa_cons (pe_op op_sub pe_int (pe_op op_mod (pe_op op_fdiv (pv 1) pe_int) pe_int)) (pa_cons (pv 2) (pa_cons (pe_op op_sub pe_int (pv 2)) (pa_cons pe_int (pa_cons pe_int pa_nil))))))))))
      (pss_one (ps_ret (pe_ix ix_list (pv 3) (pe_op op_mod (pv 1) pe_int) (fun _ _ => rfl)))))), ?_⟩
    refine ⟨_, rfl, p, n, rfl, dr, by omega, fun a H1 k1 d1 a0 a1 => ?_⟩
    refine ⟨_, rfl, _, _, rfl, rfl, ⟨by decide, by decide⟩, _, _, rfl, rfl, ⟨by decide, by decide, by decide⟩, _, _, rfl, rfl, .inr ⟨by decide, by decide⟩, _, _, rfl, rfl, ⟨by decide, by decide, by decide⟩, _, _, rfl, rfl, (by show (0 : Int) < 10 ^ Int.toNat 9; decide), _, _, rfl, rfl, ⟨by decide, by decide, by decide⟩, _, _, rfl, rfl, .inr ⟨by decide, by decide⟩, ?_⟩
    refine ⟨_, rfl, p, _, rfl, d1, by omega, fun b H2 k2 d2 b0 b1 => ⟨_, _, rfl, rfl, ?_⟩⟩
    obtain ⟨fr, ef⟩ : ∃ fr : Int, a / 8 * 10 ^ Int.toNat 6 % 10 ^ Int.toNat 9 * 10 ^ Int.toNat 6 + b = fr := ⟨_, rfl⟩
    have fb : 0 ≤ fr ∧ fr < 2 ^ 60 := by
      rw [← ef]
      have h1 : 0 ≤ a / 8 * 10 ^ Int.toNat 6 % 10 ^ Int.toNat 9 := Int.emod_nonneg _ (by decide)
      have h2 : a / 8 * 10 ^ Int.toNat 6 % 10 ^ Int.toNat 9 < 10 ^ Int.toNat 9 := Int.emod_lt_of_pos _ (by decide)
      have e9 : (10 : Int) ^ Int.toNat 9 = 1000000000 := by decide
      have e6 : (10 : Int) ^ Int.toNat 6 = 1000000 := by decide
      rw [e9] at h1 h2 ⊢
      rw [e6] at h1 h2 ⊢
      omega
    dsimp only
    rw [ef]
    refine ⟨_, rfl, _, _, rfl, rfl, ⟨by decide, by decide⟩, _, _, rfl, rfl, (by show (0 : Int) < 4; decide), _, rfl, _, _, rfl, rfl, ⟨by decide, by decide⟩, _, _, rfl, rfl, (by show (0 : Int) < 4; decide), _, _, rfl, rfl, _, rfl, _, _, rfl, rfl, ⟨by decide, by decide⟩, _, _, rfl, rfl, (by show (0 : Int) < 1000; decide), _, rfl, _, _, rfl, rfl, ⟨by decide, by decide⟩, _, _, rfl, rfl, (by show (0 : Int) < 1000; decide), _, _, rfl, rfl, _, rfl, _, rfl, _, _, rfl, rfl, (by show 8 ≤ sizeLine; decide), fun u nu => ?_⟩
    obtain ⟨mv, mm, me⟩ := atI_mem (xs := [a / 8 % 4, 0 - a / 8 % 4, a / 8 % 1000, 0 - a / 8 % 1000, fr, 0 - fr, 0, 1]) (i := a % 8) (by omega) (by show a % 8 < ((8 : Nat) : Int); omega)
    have mb : mv.natAbs < 2 ^ 61 := by
      simp only [List.mem_cons, List.not_mem_nil, or_false] at mm
      omega
    have su := same_new (o := .lst [.int (a / 8 % 4), .int (0 - a / 8 % 4), .int (a / 8 % 1000), .int (0 - a / 8 % 1000), .int fr, .int (0 - fr), .int 0, .int 1]) nu
    exact ⟨_, rfl, _, rfl, _, _, rfl, rfl, (by show (0 : Int) < 8; decide), u, _, _, _, rfl, rfl, SqL.of upd_same, me, q mv _ (k1.trans (k2.trans (Kp.of su))) (d2.same su) mb⟩
def spLe : Sp := fun vs H Q _ => ∃ n : Nat, vs = [.int (n : Nat)] ∧ Q (.int (blen n : Nat)) H
theorem ok_le (F : Fun K "_law_length" "_law_length" sLe f fd) : FnOk P w K mg base CX0 (k + 1) f fd ["_law_number_here"] spLe := by
  refine F.ok scLe (fun vs H Q E h => ?_) (fun cdv A outer s H vs Q E hr h => ?_)
  · obtain ⟨n, rfl, _⟩ := h
    rfl
  · obtain ⟨n, rfl, q⟩ := h
    refine ⟨_, pss_cons (ps_set (i := 1) scLe.nd rfl (.inl rfl) pe_int)
      (pss_cons (ps_while PassesOwn.never (pt_cmpR op_gt (pv 0) pe_int (nomark _))
        (pss_cons (ps_set (i := 0) scLe.nd rfl (.inl rfl) (pe_op op_fdiv (pv 0) pe_int))
        (pss_one (ps_set (i := 1) scLe.nd rfl (.inl rfl) (pe_op op_add (pv 1) pe_int)))))
      (pss_one (ps_ret (pv 1)))), ?_⟩
    refine while_by (fun σ H2 => ∃ m t : Nat, σ = [some (.int (m : Nat)), some (.int (t : Nat))] ∧ H2 = H ∧ t + blen m = blen n) (fun σ _ => match σ with | some (.int m) :: _ => m.toNat | _ => 0) ⟨n, 0, rfl, rfl, Nat.zero_add _⟩ ?_ ?_
    · rintro σ H2 ⟨m, t, rfl, rfl, e⟩
      refine ⟨_, rfl, _, _, rfl, rfl, _, rfl, ite2 (fun g => ?_) (fun g => ?_)⟩
      · have m0 : 0 < m := by
          have := of_decide_eq_true g
          omega
        refine ⟨_, rfl, _, _, rfl, rfl, ⟨by decide, by decide⟩, _, rfl, _, _, rfl, rfl, ⟨m / 2, t + 1, rfl, rfl, ?_⟩, ?_⟩
        · rw [← e, blen_half m0]
          omega
        · show ((((m : Nat) : Int) / 2)).toNat < ((m : Nat) : Int).toNat
          omega
      · have m0 : m = 0 := by
          have : ¬ ((m : Nat) : Int) > 0 := fun z => g (decide_eq_true z)
          omega
        subst m0
        refine ⟨_, rfl, ?_⟩
        rw [show t = blen n by rw [← e]; rfl]
        exact q
    · rintro σ H2 Q1 Q2 hq ⟨v, e, a, b, e1, e2, c, e3, h⟩
      exact ⟨v, e, a, b, e1, e2, c, e3, hq _ _ h⟩
def spLP : Sp := fun vs H Q _ => ∃ n w : Nat, vs = [.int (n : Nat), .int (w : Nat)] ∧ w ≤ 500 ∧ Q (.str (SX.S (bt w n))) H
theorem ok_lp (F : Fun K "_law_plain" "_law_plain" sLP f fd) (m_range : mg "range" = none) : FnOk P w K mg base CX0 (k + 1) f fd ["_law_number_here", "_law_width"] spLP := by
  refine F.ok scLP (fun vs H Q E h => ?_) (fun cdv A outer s H vs Q E hr h => ?_)
  · obtain ⟨n, w, rfl, _⟩ := h
    rfl
  · obtain ⟨n, w, rfl, few, q⟩ := h
    refine ⟨_, pss_cons (ps_set (i := 2) scLP.nd rfl (.inl rfl) pe_str)
      (pss_cons (ps_for PassesOwn.never rfl (pi_range1 (by rfl) m_range (pa_cons (pv 1) pa_nil)) (pg_name (i := 3) scLP.nd rfl (.inl rfl))
        (pss_cons (ps_set (i := 2) scLP.nd rfl (.inl rfl) (pe_op op_add_str (pe_item_str pe_str (pe_op op_mod (pv 0) pe_int) (fun _ _ => rfl)) (pv 2)))
        (pss_one (ps_set (i := 0) scLP.nd rfl (.inl rfl) (pe_op op_fdiv (pv 0) pe_int)))))
      (pss_one (ps_ret (pv 2)))), ?_⟩
    refine ⟨_, rfl, _, rfl, by omega, by omega, for_range (n := w) (fun i σ H2 => ∃ z : Option V, σ = [some (.int (n / 2 ^ i : Nat)), some (.int (w : Nat)), some (.str (SX.S (bt i n))), z] ∧ H2 = H) ?_ ?_ ?_⟩
    · refine ⟨none, ?_, rfl⟩
      rw [Nat.pow_zero]
      rw [Nat.div_one]
      show _ = [some (V.int (n : Nat)), some (V.int (w : Nat)), some (V.str (SX.S [])), none]
      rw [← s_nil]
      rfl
    · rintro i σ H2 hi ⟨z, rfl, rfl⟩
      obtain ⟨m, em⟩ : ∃ m, n / 2 ^ i = m := ⟨_, rfl⟩
      have e01 : (Str.ofString "01") = SX.S [48, 49] := by decide +kernel
      have one : bt (i + 1) n = [48 + m % 2] ++ bt i n := by
        have e := bt_split 1 i n
        rw [em, Nat.add_comm 1 i] at e
        exact e
      have hc : (SX.S [48, 49]).cps[(((m : Nat) : Int) % 2).toNat]? = some (48 + m % 2) := by
        rcases Nat.mod_two_eq_zero_or_one m with c | c
        · rw [show (((m : Nat) : Int) % 2).toNat = 0 by omega, c]
          rfl
        · rw [show (((m : Nat) : Int) % 2).toNat = 1 by omega, c]
          rfl
      rw [em]
      refine ⟨_, rfl, _, _, rfl, rfl, (by show (0 : Int) < 2; decide), SX.S [48, 49], _, _, congrArg V.str e01, rfl, by omega, by omega, (by show ((m : Nat) : Int) % 2 < ((2 : Nat) : Int); omega), hc, _, rfl, _, _, rfl, rfl, ?_, ?_⟩
      · rw [SX.S_len, SX.S_len, bt_len]
        show 1 + i ≤ sizeLine
        exact z500 (by omega)
      · refine ⟨_, rfl, _, _, rfl, rfl, ⟨by decide, by decide⟩, some (.int (0 + (i : Nat))), ?_, rfl⟩
        have e2 : n / 2 ^ (i + 1) = m / 2 := by rw [Nat.pow_succ, ← Nat.div_div_eq_div_mul, em]
        rw [one, e2, ← SX.S_cat]
        rfl
    · rintro σ H2 ⟨z, rfl, rfl⟩
      exact ⟨_, rfl, q⟩
def spLO : Sp := fun vs H Q _ => ∃ n : Nat, vs = [.int (n : Nat)] ∧ n < 2 ^ 90 ∧ Q (.str (SX.S (ownL n))) H
theorem ok_lo (F : Fun K "_law_own" "_law_own" sLO f fd) (L_length : Cal P w K mg base k "_law_length" ["_law_number_here"] spLe) (L_plain : Cal P w K mg base k "_law_plain" ["_law_number_here", "_law_width"] spLP) : FnOk P w K mg base CX0 (k + 1) f fd ["_law_number_here"] spLO := by
  refine F.ok scLO (fun vs H Q E h => ?_) (fun cdv A outer s H vs Q E hr h => ?_)
  · obtain ⟨n, rfl, _⟩ := h
    rfl
  · obtain ⟨n, rfl, few, q⟩ := h
    refine ⟨_, pss_cons (ps_set (i := 1) scLO.nd rfl (.inl rfl) (pe_cal L_length (hr.mono (by omega)) (by rfl) (pa_cons (pe_op op_add (pv 0) pe_int) pa_nil)))
      (pss_one (ps_ret (pe_op op_add_str (pe_op (op_times (c := 48)) pe_str (pe_op op_sub (pv 1) pe_int)) (pe_cal L_plain (hr.mono (by omega)) (by rfl) (pa_cons (pe_op op_add (pv 0) pe_int) (pa_cons (pv 1) pa_nil)))))), ?_⟩
    have b64 := own_64 few
    have bp := blen_pos (show 0 < n + 1 by omega)
    refine ⟨_, rfl, _, _, rfl, rfl, n + 1, rfl, ?_⟩
    refine ⟨_, rfl, _, _, rfl, rfl, blen (n + 1) - 1, (by rw [← s_0]), congrArg V.int (by omega), by omega, _, rfl, _, _, rfl, rfl, _, rfl, n + 1, blen (n + 1), rfl, by omega, _, _, rfl, rfl, ?_, ?_⟩
    · rw [SX.S_len, SX.S_len, List.length_replicate, bt_len]
      exact z500 (by omega)
    · rw [SX.S_cat, own_is]
      exact q
def spLT : Sp := fun vs H Q _ => ∃ n : Int, vs = [.int n] ∧ n.natAbs < 2 ^ 89 ∧ ∀ H', Same H H' → Q (.int (tn n)) H'
theorem ok_lt (F : Fun K "_law_turned" "_law_turned" sLT f fd) (m_int : mg "int" = none) : FnOk P w K mg base CX0 (k + 1) f fd ["_law_number_here"] spLT := by
  refine F.ok scLT (fun vs H Q E h => ?_) (fun cdv A outer s H vs Q E hr h => ?_)
  · obtain ⟨n, rfl, _⟩ := h
    rfl
  · obtain ⟨n, rfl, few, q⟩ := h
    refine ⟨_, pss_one (ps_ret (pe_ix ix_list (pe_lst (pa_cons (pe_op op_mul pe_int (pv 0)) (pa_cons (pe_op op_sub (pe_op op_sub pe_int (pe_op op_mul pe_int (pv 0))) pe_int) pa_nil))) (pe_callTy call_int1 (by rfl) m_int (by decide +kernel) (pa_cons (pe_cmpR op_lt (pv 0) pe_int (nomark _)) pa_nil)) (fun _ _ => rfl))), ?_⟩
    refine ⟨_, rfl, _, _, rfl, rfl, .inl ⟨by decide, by decide⟩, _, rfl, _, _, rfl, rfl, .inl ⟨by decide, by decide⟩, _, _, rfl, rfl, _, _, rfl, rfl, (by show 2 ≤ sizeLine; decide), fun u nu => ?_⟩
    have su := same_new (o := .lst [.int (2 * n), .int (0 - 2 * n - 1)]) nu
    refine ⟨_, rfl, _, _, rfl, rfl, .inr ⟨_, rfl, ?_⟩⟩
    unfold tn at q
    by_cases c : n < 0
    · rw [decide_eq_true c]
      rw [if_neg (by omega), show -2 * n - 1 = 0 - 2 * n - 1 by omega] at q
      exact ⟨u, _, _, _, rfl, rfl, SqL.of upd_same, rfl, q _ su⟩
    · rw [decide_eq_false c]
      rw [if_pos (by omega)] at q
      exact ⟨u, _, _, _, rfl, rfl, SqL.of upd_same, rfl, q _ su⟩
end
end Tg

namespace Tg
open PySem PySem.Spec PyProof.Rows L2
theorem pss_dead {X : Cx} {b : List Stmt} : PSs X b (fun _ _ _ => False) := ⟨fun _ _ _ _ _ _ h => h.elim⟩
/-- a code stands whole behind a signs -/
theorem code_at (a rest : List Nat) (n v : Nat) : (a ++ (ownL n ++ rest))[a.length + v]? = (ownL n ++ rest)[v]? := by
  rw [List.getElem?_append_right (Nat.le_add_right _ _), Nat.add_sub_cancel_left]
theorem cut_S (l : List Nat) {i j : Nat} (ij : i ≤ j) (jl : j ≤ l.length) : cutS (SX.S l) (some (i : Int)) (some (j : Int)) = SX.S ((l.drop i).take (j - i)) := by
  unfold cutS
  rw [HT.sIx_nat, HT.sIx_nat, SX.S_len, Nat.min_eq_left jl, Nat.min_eq_left (Nat.le_trans ij jl)]
section
variable {P : Program} {w : World} {K : PySem.W.Frag} {mg : Str → Option Value} {base : Heap} {CB : Addr} {f : Addr} {fd : FuncData} {k : Nat}
end
end Tg

namespace Tg
open PySem PySem.Spec PyProof.Rows L2
open SX (S)
/-- numbers below 2 ^ b either way -/
def Lo (b : Nat) (xs : List Int) : Prop := ∀ x, x ∈ xs → x.natAbs < 2 ^ b
theorem Lo.mono {b c : Nat} {xs : List Int} (h : Lo b xs) (bc : b ≤ c) : Lo c xs := fun x hx => Nat.lt_of_lt_of_le (h x hx) (Nat.pow_le_pow_right (by decide) bc)
theorem lo_difs {b : Nat} : ∀ {xs : List Int}, Lo b xs → Lo (b + 1) (difs xs)
  | [], _ => fun x hx => nomatch hx
  | [_], _ => fun x hx => nomatch hx
  | a :: c :: r, h => fun x hx => by
    obtain rfl | hx := List.mem_cons.mp hx
    · have h1 := h a (.head _)
      have h2 := h c (.tail _ (.head _))
      rw [Nat.pow_succ]
      omega
    · exact lo_difs (fun y hy => h y (.tail _ hy)) x hx
theorem lo_stp {b : Nat} {xs : List Int} (h : Lo b xs) : Lo (b + 1) (stp xs) := fun x hx => by
  rcases List.mem_append.mp hx with t | d
  · exact (h.mono (Nat.le_succ b)) x (List.mem_of_mem_take t)
  · exact lo_difs h x d
theorem lo_trn {b : Nat} {xs : List Int} (h : Lo b xs) : Lo (b + 2) (trn xs) := fun x hx => by
  rcases List.mem_append.mp hx with t | d
  · exact (h.mono (Nat.le_add_right b 2)) x (List.mem_of_mem_take t)
  · exact lo_stp (lo_difs h) x d
theorem cd_len {x : Int} (h : x.natAbs < 2 ^ 80) : (cd x).length ≤ 165 := by
  unfold cd
  rw [own_len]
  have z := tN_lt h
  have := (Nat.log2_lt (n := tN x + 1) (k := 82) (by omega)).mpr (by omega)
  omega
theorem cds_len {xs : List Int} (h : Lo 80 xs) : (cds xs).length ≤ 165 * xs.length := by
  unfold cds
  induction xs with
  | nil => exact Nat.le_refl _
  | cons x r ih =>
    have h1 := cd_len (h x (.head _))
    have h2 := ih fun y hy => h y (.tail _ hy)
    rw [List.map_cons, List.flatten_cons, List.length_append, List.length_cons]
    omega
theorem tN_90 {x : Int} (h : x.natAbs < 2 ^ 80) : tN x < 2 ^ 90 := Nat.lt_trans (tN_lt h) (by decide)
theorem abs_89 {x : Int} (h : x.natAbs < 2 ^ 80) : x.natAbs < 2 ^ 89 := Nat.lt_trans h (by decide)
/-- a list of numbers as a def takes it -/
def NL (H : Hp) (l : Addr) (xs : List Int) : Prop := H l = some (.lst (xs.map V.int))
section
variable {P : Program} {w : World} {K : PySem.W.Frag} {mg : Str → Option Value} {base : Heap} {f : Addr} {fd : FuncData} {k : Nat}
/-- a def that tells a text of numbers -/
def spTxt (b n : Nat) (F : List Int → List Nat) : Sp := fun vs H Q _ => ∃ (l : Addr) (xs : List Int), vs = [.ref l] ∧ NL H l xs ∧ Lo b xs ∧ xs.length ≤ n ∧ ∀ H', Same H H' → Q (.str (S (F xs))) H'
/-- a def that tells a new list of numbers -/
def spNew (b n : Nat) (F : List Int → List Int) : Sp := fun vs H Q _ => ∃ (l : Addr) (xs : List Int), vs = [.ref l] ∧ NL H l xs ∧ Lo b xs ∧ xs.length ≤ n ∧ ∀ m H', Same H H' → H m = none → NL H' m (F xs) → Q (.ref m) H'
theorem cut_1 (xs : List Int) : cutV (xs.map V.int) none (some 1) = (xs.take 1).map V.int := by
  unfold cutV
  rw [HT.sIx_none, show (1 : Int) = ((1 : Nat) : Int) from rfl, HT.sIx_nat, List.drop_zero, Nat.sub_zero, List.length_map, List.map_take]
  by_cases h : 1 ≤ xs.length
  · rw [Nat.min_eq_left h]
  · rw [Nat.min_eq_right (by omega), List.take_of_length_le (by rw [List.length_map]; exact Nat.le_refl _), List.take_of_length_le (by rw [List.length_map]; omega)]
theorem cut_2 (xs : List Int) : cutV (xs.map V.int) (some 1) none = (xs.drop 1).map V.int := by
  unfold cutV
  rw [HT.sIx_none, show (1 : Int) = ((1 : Nat) : Int) from rfl, HT.sIx_nat, List.length_map, List.map_drop]
  by_cases h : 1 ≤ xs.length
  · rw [Nat.min_eq_left h]
    exact List.take_of_length_le (by rw [List.length_drop, List.length_map]; exact Nat.le_refl _)
  · rw [Nat.min_eq_right (by omega), List.drop_of_length_le (by rw [List.length_map]; exact Nat.le_refl _), List.drop_of_length_le (by rw [List.length_map]; omega), List.take_nil]
/-! ### runs -/
/-- tuples of two numbers -/
def RunT (H : Hp) (ts : List Addr) (rs : List Run) : Prop := ts.length = rs.length ∧ ∀ (i : Nat) (t : Addr) (r : Run), ts[i]? = some t → rs[i]? = some r → H t = some (.tup [.int r.1, .int (r.2 : Nat)])
theorem RunT.kt {H H' : Hp} {ts : List Addr} {rs : List Run} (h : RunT H ts rs) (k : KT H H') : RunT H' ts rs := ⟨h.1, fun i t r e1 e2 => k _ _ trivial (h.2 i t r e1 e2)⟩
theorem RunT.snoc {H : Hp} {ts : List Addr} {rs : List Run} {t : Addr} {r : Run} (h : RunT H ts rs) (ht : H t = some (.tup [.int r.1, .int (r.2 : Nat)])) : RunT H (ts ++ [t]) (rs ++ [r]) := by
  refine ⟨by rw [List.length_append, List.length_append, h.1]; rfl, fun i u q e1 e2 => ?_⟩
  rcases Nat.lt_or_ge i ts.length with g | g
  · rw [List.getElem?_append_left g] at e1
    rw [List.getElem?_append_left (by rw [← h.1]; exact g)] at e2
    exact h.2 i u q e1 e2
  · have e : i = ts.length := by
      have := (List.getElem?_eq_some_iff.mp e1).1
      rw [List.length_append] at this
      have z : [t].length = 1 := rfl
      omega
    subst e
    rw [List.getElem?_append_right (Nat.le_refl _), Nat.sub_self] at e1
    rw [h.1, List.getElem?_append_right (Nat.le_refl _), Nat.sub_self] at e2
    cases e1
    cases e2
    exact ht
theorem RunT.init {H : Hp} {ts : List Addr} {rs : List Run} (h : RunT H ts rs) : RunT H ts.dropLast rs.dropLast := by
  refine ⟨by rw [List.length_dropLast, List.length_dropLast, h.1], fun i t r e1 e2 => ?_⟩
  rw [List.getElem?_dropLast] at e1 e2
  split at e1
  · split at e2
    · exact h.2 i t r e1 e2
    · cases e2
  · cases e1
theorem rnA_len (rs : List Run) (x : Int) : (rnA rs x).length ≤ rs.length + 1 := by
  unfold rnA
  split
  · split
    · rw [List.length_append, List.length_dropLast]
      show _ - 1 + 1 ≤ _
      omega
    · rw [List.length_append]
      exact Nat.le_refl _
  · exact Nat.le_add_left _ _
theorem rn_take {xs : List Int} {i : Nat} {x : Int} (h : xs[i]? = some x) : rn (xs.take (i + 1)) = rnA (rn (xs.take i)) x := by
  rw [List.take_add_one, h]
  exact rn_snoc _ _
theorem rn_len (xs : List Int) : (rn xs).length ≤ xs.length := by
  have go : ∀ (ys : List Int) (rs : List Run), (ys.foldl rnA rs).length ≤ rs.length + ys.length := by
    intro ys
    induction ys with
    | nil => exact fun rs => Nat.le_refl _
    | cons y ys ih =>
      intro rs
      have h1 := ih (rnA rs y)
      have h2 := rnA_len rs y
      rw [List.length_cons, List.foldl_cons]
      omega
  have z := go xs []
  rw [List.length_nil, Nat.zero_add] at z
  exact z
theorem rnA_nil (x : Int) : rnA [] x = [(x, 1)] := rfl
theorem rnA_same (rs : List Run) (x : Int) (n : Nat) : rnA (rs ++ [(x, n)]) x = rs ++ [(x, n + 1)] := by
  unfold rnA
  rw [List.getLast?_concat]
  dsimp only
  rw [if_pos rfl, List.dropLast_concat]
theorem rnA_other (rs : List Run) (x y : Int) (n : Nat) (h : y ≠ x) : rnA (rs ++ [(y, n)]) x = rs ++ [(y, n)] ++ [(x, 1)] := by
  unfold rnA
  rw [List.getLast?_concat]
  dsimp only
  rw [if_neg h]
/-- the list m of tuples changed -/
theorem runs_put {H H' : Hp} {m t : Addr} {xs ys : List V} {a : Int} {n : Nat} (hm : H m = some (.lst xs)) (nt : H t = none) (e : H' = upd (upd H t (.tup [.int a, .int (n : Nat)])) m (.lst ys)) : H' m = some (.lst ys) ∧ H' t = some (.tup [.int a, .int (n : Nat)]) ∧ KT H H' ∧ ∀ b o, b ≠ m → H b = some o → H' b = some o := by
  subst e
  have tm : t ≠ m := fun z => by
    rw [z, hm] at nt
    cases nt
  have s1 := same_new (o := .tup [.int a, .int (n : Nat)]) nt
  refine ⟨upd_same, by rw [upd_ne tm, upd_same], (KT.of s1).trans (KT.put (s1 _ _ hm) nfix_lst), fun b o nb hb => ?_⟩
  rw [upd_ne nb]
  exact s1 _ _ hb
end
end Tg

namespace Tg
open PySem PySem.Spec PyProof.Rows L2
open SX (S)
theorem own_short {n w : Nat} (h : n + 1 < 2 ^ w) : (ownL n).length ≤ 2 * w := by
  rw [own_len]
  have := (Nat.log2_lt (n := n + 1) (k := w) (by omega)).mpr h
  omega
theorem rcd_len {r : Run} (h1 : r.1.natAbs < 2 ^ 80) (h2 : r.2 ≤ 200) : (rcd r).length ≤ 200 := by
  unfold rcd
  rw [List.length_append]
  have a := cd_len h1
  have b := own_short (n := r.2 - 1) (w := 8) (by omega)
  omega
theorem flat_le {n : Nat} : ∀ {ls : List (List Nat)}, (∀ l, l ∈ ls → l.length ≤ n) → ls.flatten.length ≤ n * ls.length
  | [], _ => Nat.le_refl _
  | l :: r, h => by
    have h1 := h l (.head _)
    have h2 := flat_le fun y hy => h y (.tail _ hy)
    rw [List.flatten_cons, List.length_append, List.length_cons, Nat.mul_succ]
    omega
/-- what runs are made of -/
theorem run_in {xs : List Int} {r : Run} (h : r ∈ rn xs) : r.1 ∈ xs ∧ 1 ≤ r.2 ∧ r.2 ≤ xs.length := by
  obtain ⟨u, pos⟩ := rn_all xs
  have p := pos r h
  obtain ⟨a, b, e⟩ := List.append_of_mem h
  rw [e, show a ++ r :: b = a ++ [r] ++ b by simp, unr_app, unr_app, unr_one] at u
  refine ⟨?_, p, ?_⟩
  · rw [← u]
    exact List.mem_append_left _ (List.mem_append_right _ (List.mem_replicate.mpr ⟨by omega, rfl⟩))
  · rw [← u, List.length_append, List.length_append, List.length_replicate]
    omega
section
variable {P : Program} {w : World} {K : PySem.W.Frag} {mg : Str → Option Value} {base : Heap} {f : Addr} {fd : FuncData} {k : Nat}
theorem bits_nat {n : Int} (h : 0 ≤ n) : Builtin.Int.intBits n = blen n.toNat := by
  unfold Builtin.Int.intBits blen
  by_cases c : n = 0
  · subst c
    rfl
  · rw [if_neg (by rw [beq_iff_eq]; exact c), if_neg (by omega), show n.natAbs = n.toNat by omega]
theorem wdP_le {xs : List Int} (lo : Lo 70 xs) (ne : xs ≠ []) : wdP xs ≤ 71 := by
  unfold wdP
  have h1 := lo _ (mnI_is ne).1
  have h2 := lo _ (mxI_is ne).1
  refine blen_le ?_
  rw [show (2 : Nat) ^ 71 = 2 ^ 70 * 2 from rfl]
  omega
end
end Tg

namespace Tg
open PySem PySem.Spec PyProof.Rows L2
open SX (S)
theorem up_gap {b : List Int} (h : b.Pairwise (· < ·)) : ∀ d, d ∈ difs b → 1 ≤ d := by
  induction b with
  | nil => exact fun d hd => nomatch hd
  | cons x r ih =>
    cases r with
    | nil => exact fun d hd => nomatch hd
    | cons y s =>
      intro d hd
      have p := List.pairwise_cons.mp h
      obtain rfl | hd := List.mem_cons.mp hd
      · have := p.1 y (.head _)
        omega
      · exact ih p.2 d hd
theorem headD_of {b : List Int} {x : Int} (h : b[0]? = some x) : b.headD 0 = x := by
  cases b with
  | nil => cases h
  | cons y r =>
    cases h
    rfl
/-- the places by numbers -/
def plcE (b : List Int) : List (Key × V) := (List.range b.length).map fun i => (.inl (b.getD i 0), .int (i : Nat))
theorem plcE_at {b : List Int} {i : Nat} {x : Int} (h : b[i]? = some x) : (plcE b)[i]? = some (.inl x, .int (i : Nat)) := by
  have lt := (List.getElem?_eq_some_iff.mp h).1
  unfold plcE
  rw [List.getElem?_map, List.getElem?_range lt]
  show some ((Sum.inl (b.getD i 0) : Key), V.int (i : Nat)) = _
  rw [List.getD_eq_getElem?_getD, h]
  rfl
theorem plcE_keys (b : List Int) : (plcE b).map (·.1) = b.map (Sum.inl : Int → Key) := by
  apply List.ext_getElem?
  intro i
  simp only [List.getElem?_map]
  cases h : b[i]? with
  | none =>
    have le := List.getElem?_eq_none_iff.mp h
    rw [List.getElem?_eq_none (by unfold plcE; rw [List.length_map, List.length_range]; exact le)]
    rfl
  | some x =>
    rw [plcE_at h]
    rfl
theorem plcE_nodup {b : List Int} (h : b.Nodup) : ((plcE b).map (·.1)).Nodup := by
  rw [plcE_keys]
  exact List.pairwise_map.mpr (h.imp fun ne z => ne (Sum.inl.inj z))
theorem val_of {kvs : List (Key × V)} {k : Key} {v : V} (nd : (kvs.map (·.1)).Nodup) (h : (k, v) ∈ kvs) : valV kvs k = some v := by
  induction kvs with
  | nil => cases h
  | cons q r ih =>
    unfold valV at *
    rw [List.find?_cons]
    obtain e | h := List.mem_cons.mp h
    · subst e
      rw [decide_eq_true rfl]
      rfl
    · have n := List.nodup_cons.mp nd
      have ne : q.1 ≠ k := fun e => n.1 (by show q.1 ∈ _; rw [e]; exact List.mem_map.mpr ⟨_, h, rfl⟩)
      rw [decide_eq_false ne]
      exact ih n.2 h
theorem plcE_val {b : List Int} {x : Int} (nd : b.Nodup) (h : x ∈ b) : valV (plcE b) (.inl x) = some (.int (b.idxOf x : Nat)) := by
  have lt : b.idxOf x < b.length := List.idxOf_lt_length_of_mem h
  have e : b[b.idxOf x]? = some x := by rw [List.getElem?_eq_getElem lt, List.getElem_idxOf]
  exact val_of (plcE_nodup nd) (List.mem_of_getElem? (plcE_at e))
section
variable {P : Program} {w : World} {K : PySem.W.Frag} {mg : Str → Option Value} {base : Heap} {f : Addr} {fd : FuncData} {k : Nat}
/-! ### by any way -/
inductive Wy where
  | plain
  | by (W : Way)
  | book
def Wy.nm : Wy → Str
  | .plain => "plain"
  | .by .steps => "steps"
  | .by .turns => "turns"
  | .by .runs => "runs"
  | .book => "book"
def encY : Wy → List Int → List Nat
  | .plain => encP
  | .by W => enc W
  | .book => encB
/-- the bits by a way, of none none -/
def bitsY (y : Wy) (xs : List Int) : List Nat := if xs = [] then [] else encY y xs
end
end Tg

namespace Tg
open PySem PySem.Spec PyProof.Rows L2
open SX (S)
section
variable {P : Program} {w : World} {K : PySem.W.Frag} {mg : Str → Option Value} {base : Heap} {f : Addr} {fd : FuncData} {k : Nat}
theorem plC_in {xs : List Int} {c : List Nat} (h : c ∈ plC xs) : c.length = wdP xs ∧ ∀ d, d ∈ c → IsBin d := by
  obtain ⟨x, _, rfl⟩ := List.mem_map.mp h
  exact ⟨bt_len _ _, bt_bin _ _⟩
theorem bkC_in {xs : List Int} {c : List Nat} (h : c ∈ bkC xs) : c.length = wdB xs ∧ ∀ d, d ∈ c → IsBin d := by
  obtain ⟨x, _, rfl⟩ := List.mem_map.mp h
  exact ⟨bt_len _ _, bt_bin _ _⟩
/-- what stands ahead of the codes -/
def atP (xs : List Int) : Nat := (cd (mnI xs)).length + (ownL (wdP xs)).length
def atB (xs : List Int) : Nat := (ownL ((bookOf xs).length - 1) ++ cd ((bookOf xs).headD 0) ++ (gpC xs).flatten).length
theorem encP_len {xs : List Int} (pos : 0 < xs.length) (few : xs.length ≤ 100) (lo : Lo 70 xs) : (encP xs).length = atP xs + wdP xs * xs.length ∧ atP xs ≤ 400 ∧ wdP xs ≤ 71 := by
  have ne : xs ≠ [] := fun z => by subst z; exact absurd pos (by decide)
  have w71 := wdP_le lo ne
  have c1 := cd_len (Nat.lt_of_lt_of_le (lo _ (mnI_is ne).1) (show 2 ^ 70 ≤ 2 ^ 80 by decide))
  have c2 := own_short (n := wdP xs) (w := 10) (by omega)
  refine ⟨?_, ?_, w71⟩
  · unfold encP atP
    rw [List.length_append, List.length_append, flat_same fun l h => (plC_in h).1]
    unfold plC
    rw [List.length_map, Nat.mul_comm]
  · unfold atP
    omega
end
end Tg

namespace Tg
open PySem PySem.Spec PyProof.Rows L2
open SX (S)
def hdB (xs : List Int) : List Nat := ownL ((bookOf xs).length - 1) ++ cd ((bookOf xs).headD 0)
theorem encB_len {xs : List Int} (pos : 0 < xs.length) (few : xs.length ≤ 100) (lo : Lo 70 xs) : (encB xs).length = atB xs + wdB xs * xs.length ∧ atB xs ≤ 21000 ∧ wdB xs ≤ 8 ∧ (bookOf xs).length ≤ 100 ∧ 0 < (bookOf xs).length ∧ Lo 70 (bookOf xs) ∧ (bookOf xs).Pairwise (· < ·) := by
  obtain ⟨up, mem⟩ := book_is xs
  obtain ⟨b, eb⟩ : ∃ b, bookOf xs = b := ⟨_, rfl⟩
  have bl : b.length ≤ 100 := by
    rw [← eb]
    exact Nat.le_trans (book_len xs) few
  have bp : 0 < b.length := by
    rw [← eb]
    exact book_ne pos
  have blo : Lo 70 b := fun x hx => lo x ((mem x).mp (by rw [eb]; exact hx))
  have w8 : wdB xs ≤ 8 := by
    unfold wdB
    rw [eb]
    exact blen_le (by omega)
  obtain ⟨b0, eb0⟩ : ∃ b0, b[0]? = some b0 := ⟨_, List.getElem?_eq_getElem bp⟩
  have b0lo : b0.natAbs < 2 ^ 80 := Nat.lt_of_lt_of_le (blo b0 (List.mem_of_getElem? eb0)) (by decide)
  have c1 := cd_len b0lo
  have c2 := own_short (n := b.length - 1) (w := 8) (by omega)
  have g1 : (gpC xs).flatten.length ≤ 200 * 100 := by
    refine Nat.le_trans (flat_le (n := 200) fun y hy => ?_) (Nat.mul_le_mul (Nat.le_refl _) ?_)
    · obtain ⟨d, hd, rfl⟩ := List.mem_map.mp hy
      rw [eb] at hd
      have d2 := lo_difs blo _ hd
      have := own_short (n := (d - 1).toNat) (w := 73) (by
        have e73 : (2 : Nat) ^ 73 = 2 ^ 71 * 4 := rfl
        have d2' : d.natAbs < 2 ^ 71 := d2
        omega)
      omega
    · unfold gpC
      rw [List.length_map, eb, difs_len]
      omega
  refine ⟨?_, ?_, w8, by rw [eb]; exact bl, by rw [eb]; exact bp, by rw [eb]; exact blo, up⟩
  · unfold encB atB
    rw [List.length_append, flat_same (w := wdB xs) fun l h => (bkC_in h).1]
    unfold bkC
    rw [List.length_map, Nat.mul_comm]
  · unfold atB
    rw [List.length_append, List.length_append, eb, headD_of eb0]
    omega
theorem book_code {xs : List Int} {i : Nat} (h : i < xs.length) : ((xs.map fun x => V.int ((bookOf xs).idxOf x : Nat)))[i]? = some (V.int ((bookOf xs).idxOf xs[i] : Nat)) := by
  rw [List.getElem?_map, List.getElem?_eq_getElem h]
  rfl
theorem book_codes {xs : List Int} : ((bkC xs).map fun c => V.int (binNum c : Nat)) = xs.map fun x => V.int ((bookOf xs).idxOf x : Nat) := by
  unfold bkC
  rw [List.map_map]
  refine List.map_congr_left fun x hx => ?_
  have lt : (bookOf xs).idxOf x < (bookOf xs).length := List.idxOf_lt_length_of_mem (((book_is xs).2 x).mpr hx)
  show V.int (binNum (bt (wdB xs) _) : Nat) = _
  rw [num_bt, Nat.mod_eq_of_lt]
  exact Nat.lt_of_le_of_lt (show _ ≤ (bookOf xs).length - 1 by omega) (lt_blen _)
section
variable {P : Program} {w : World} {K : PySem.W.Frag} {mg : Str → Option Value} {base : Heap} {f : Addr} {fd : FuncData} {k : Nat}
end
end Tg

namespace Tg
open PySem PySem.Spec PyProof.Rows L2
open SX (S)
abbrev sMa : Stmt := topS 32
abbrev sGa : Stmt := topS 38
abbrev sPc : Stmt := topS 40
abbrev sLR : Stmt := topS 39
abbrev NGa : List Str := ["_law_numbers_here", "_law_soon", "_law_late"]
abbrev NPc : List Str := ["_law_numbers_here", "_law_some", "_law_width", "_law_number_here"]
theorem scMa : FnScope ["_law_draws_here", "_law_pick"] ["_law_draws_here"] (defScope sMa) := ⟨rfl, rfl, rfl, by decide +kernel, rfl, by decide +kernel, by decide +kernel⟩
theorem scGa : FnScope NGa ["_law_numbers_here"] (defScope sGa) := ⟨rfl, rfl, rfl, by decide +kernel, rfl, by decide +kernel, by decide +kernel⟩
theorem scPc : FnScope NPc ["_law_numbers_here", "_law_some", "_law_width"] (defScope sPc) := ⟨rfl, rfl, rfl, by decide +kernel, rfl, by decide +kernel, by decide +kernel⟩
theorem scLR : FnScope ["_law_numbers_here", "_law_runs_here", "_law_number_here"] ["_law_numbers_here"] (defScope sLR) := ⟨rfl, rfl, rfl, by decide +kernel, rfl, by decide +kernel, by decide +kernel⟩
/-- runs as lists -/
def RunL (H : Hp) (ts : List Addr) (rs : List Run) : Prop := ts.length = rs.length ∧ ∀ (i : Nat) (t : Addr) (r : Run), ts[i]? = some t → rs[i]? = some r → H t = some (.lst [.int r.1, .int (r.2 : Nat)])
def dR (rs : List Run) : List PyData := rs.map fun r => .list [.int r.1, .int (r.2 : Nat)]
theorem runL_dp {K : PySem.W.Frag} {H : Hp} : ∀ {ts : List Addr} {rs : List Run}, RunL H ts rs → DpAll K H (ts.map V.ref) (dR rs)
  | [], [], _ => .nil
  | [], _ :: _, h => nomatch h.1
  | _ :: _, [], h => nomatch h.1
  | t :: ts, r :: rs, h => .cons (.lst (SqL.of (h.2 0 t r rfl rfl)) (.cons (.int _) (.cons (.int _) .nil))) (runL_dp ⟨Nat.succ.inj h.1, fun i u q e1 e2 => h.2 (i + 1) u q e1 e2⟩)
theorem lay_R : ∀ rs : List Run, PyData.canLayAll0 (dR rs) = true
  | [] => rfl
  | r :: rs => by
    show (true && PyData.canLayAll0 (dR rs)) = true
    rw [lay_R rs]
    rfl
theorem depth_R : ∀ rs : List Run, PyData.depthAll (dR rs) ≤ 1
  | [] => Nat.zero_le _
  | r :: rs => by
    show max 1 (PyData.depthAll (dR rs)) ≤ 1
    have := depth_R rs
    omega
theorem shaped_R (rs : List Run) : SeqAt.shaped (.list (dR rs)) = true := by
  unfold SeqAt.shaped
  have h1 : PyData.canLay0 (.list (dR rs)) = true := lay_R rs
  have h2 : PyData.depth (.list (dR rs)) ≤ 2 := by
    show PyData.depthAll (dR rs) + 1 ≤ 2
    have := depth_R rs
    omega
  rw [h1]
  simp only [Bool.true_and, decide_eq_true_eq]
  omega
section
variable {P : Program} {w : World} {K : PySem.W.Frag} {mg : Str → Option Value} {base : Heap} {f : Addr} {fd : FuncData} {k : Nat}
def spMa : Sp := fun vs H Q _ => ∃ (p : Addr) (N : Nat), vs = [.ref p] ∧ Dr H p N ∧ N < 900000 ∧ ∀ (n : Nat) (H' : Hp), Kp p H H' → Dr H' p (N + 1) → n ≤ 66 → Q (.int (n : Nat)) H'
theorem ok_ma (F : Fun K "_law_many" "_law_many" sMa f fd) (L_next : Cal P w K mg base k "_law_next" ["_law_draws_here"] spNext) : FnOk P w K mg base CX0 (k + 1) f fd ["_law_draws_here"] spMa := by
  refine F.ok scMa (fun vs H Q E h => ?_) (fun cdv A outer s H vs Q E hr h => ?_)
  · obtain ⟨p, n, rfl, _⟩ := h
    rfl
  · obtain ⟨p, n, rfl, dr, n9, q⟩ := h
    refine ⟨_, pss_cons (ps_set (i := 1) scMa.nd rfl (.inl rfl) (pe_cal L_next (hr.mono (by omega)) (by rfl) (pa_cons (pv 0) pa_nil)))
      (pss_one (ps_ret (pe_ix ix_list (pe_lst (pa_cons (pe_op op_mod (pe_op op_fdiv (pv 1) pe_int) pe_int) (pa_cons (pe_op op_mod (pe_op op_fdiv (pv 1) pe_int) pe_int) (pa_cons (pe_op op_add pe_int (pe_op op_mod (pe_op op_fdiv (pv 1) pe_int) pe_int)) (pa_cons (pe_op op_add pe_int (pe_op op_mod (pe_op op_fdiv (pv 1) pe_int) pe_int)) pa_nil))))) (pe_op op_mod (pv 1) pe_int) (fun _ _ => rfl)))), ?_⟩
    refine ⟨_, rfl, p, n, rfl, dr, by omega, fun a H1 k1 d1 a0 a1 => ?_⟩
    refine ⟨_, rfl, _, _, rfl, rfl, ⟨by decide, by decide⟩, _, _, rfl, rfl, (by show (0 : Int) < 4; decide), _, rfl, _, _, rfl, rfl, ⟨by decide, by decide⟩, _, _, rfl, rfl, (by show (0 : Int) < 40; decide), _, rfl, _, _, rfl, rfl, ⟨by decide, by decide⟩, _, _, rfl, rfl, (by show (0 : Int) < 4; decide), _, _, rfl, rfl, _, rfl, _, _, rfl, rfl, ⟨by decide, by decide⟩, _, _, rfl, rfl, (by show (0 : Int) < 5; decide), _, _, rfl, rfl, (by show 4 ≤ sizeLine; decide), fun u nu => ?_⟩
    obtain ⟨mv, mm, me⟩ := atI_mem (xs := [a / 8 % 4, a / 8 % 40, 31 + a / 8 % 4, 62 + a / 8 % 5]) (i := a % 4) (by omega) (by show a % 4 < ((4 : Nat) : Int); omega)
    have mb : 0 ≤ mv ∧ mv ≤ 66 := by
      simp only [List.mem_cons, List.not_mem_nil, or_false] at mm
      omega
    have su := same_new (o := .lst [.int (a / 8 % 4), .int (a / 8 % 40), .int (31 + a / 8 % 4), .int (62 + a / 8 % 5)]) nu
    obtain ⟨j, rfl⟩ : ∃ j : Nat, mv = (j : Nat) := ⟨mv.toNat, by omega⟩
    exact ⟨_, rfl, _, _, rfl, rfl, (by show (0 : Int) < 4; decide), u, _, _, _, rfl, rfl, SqL.of upd_same, me, q j _ (k1.trans (Kp.of su)) (d1.same su) (by omega)⟩
theorem ok_ga (F : Fun K "_law_gaps" "_law_gaps" sGa f fd) (m_zip : mg "zip" = none) : FnOk P w K mg base CX0 (k + 1) f fd ["_law_numbers_here"] (spNew 80 200 difs) := by
  refine F.ok scGa (fun vs H Q E h => ?_) (fun cdv A outer s H vs Q E hr h => ?_)
  · obtain ⟨l, xs, rfl, _⟩ := h
    rfl
  · obtain ⟨l, xs, rfl, hl, lo, few, q⟩ := h
    refine ⟨_, pss_one (ps_ret (pe_lc (own := [("_law_soon", 1), ("_law_late", 2)]) (g := (gTup K 2 (gCons (gName 1) (gCons (gName 2) gNil)))) (tt := tYes) rfl scGa.nd (pi_zip (by rfl) m_zip (pa_cons (pv 0) (pa_cons (pe_slice sl_list (pv 0) (po_some pe_int) po_none) pa_nil))) (blkOk_by (own := [("_law_soon", 1), ("_law_late", 2)]) (N := NGa) (sc := defScope sGa) (by decide +kernel)) (fun _ _ _ _ _ => (pg_tup rfl (pgs_cons (pg_name (i := 1) scGa.nd rfl (.inl rfl)) (pgs_cons (pg_name (i := 2) scGa.nd rfl (.inl rfl)) pgs_nil)))) (fun _ _ _ _ _ => pts_nil) (fun _ _ _ _ _ => (pe_op op_sub (pv 2) (pv 1))))), ?_⟩
    refine ⟨_, rfl, _, rfl, 1, rfl, l, _, rfl, SqL.of hl, fun l2 n2 => ?_⟩
    rw [cut_2]
    have s2 := same_new (o := .lst ((xs.drop 1).map V.int)) n2
    obtain ⟨H2, e2⟩ : ∃ H2, upd H l2 (.lst ((xs.drop 1).map V.int)) = H2 := ⟨_, rfl⟩
    have h2 : H2 l2 = some (.lst ((xs.drop 1).map V.int)) := by rw [← e2]; exact upd_same
    rw [e2] at s2 ⊢
    refine ⟨l, l2, _, _, rfl, SqL.of (s2 _ _ hl), SqL.of h2, fun D nD => lc_mapZ (xs := xs.map V.int) (zs := (xs.drop 1).map V.int) ((difs xs).map V.int) (difs xs).length ?_ (by simp) nD (SqL.of (s2 _ _ hl)) (SqL.of h2) ?_ (fun i x z y T Hc Q' hx hz hy sm hT q' => ?_) fun H' sm hD => q D H' (s2.trans sm) (s2.free nD) hD⟩
    · rw [difs_len, List.length_map, List.length_map, List.length_drop]
      omega
    · rw [difs_len]
      exact small1000 (by omega)
    · rw [List.getElem?_map] at hx hz hy
      obtain ⟨a, ea, rfl⟩ := Option.map_eq_some_iff.mp hx
      obtain ⟨b, eb, rfl⟩ := Option.map_eq_some_iff.mp hz
      rw [List.getElem?_drop, Nat.add_comm] at eb
      rw [difs_at xs i a b ea eb] at hy
      cases hy
      exact ⟨T, _, rfl, SqT.of hT, rfl, _, _, rfl, _, _, rfl, rfl, rfl, _, rfl, _, rfl, b, a, rfl, rfl, q' Hc (Same.refl _)⟩
def plB (b : List Int) (w : Nat) (xs : List Int) : List (List Nat) := xs.map fun x => bt w (b.idxOf x)
def spPc : Sp := fun vs H Q _ => ∃ (l bl : Addr) (xs b : List Int) (w : Nat), vs = [.ref l, .ref bl, .int (w : Nat)] ∧ NL H l xs ∧ NL H bl b ∧ xs.length ≤ 100 ∧ b.length ≤ 100 ∧ w ≤ 500 ∧ (∀ x, x ∈ xs → x ∈ b) ∧ ∀ H', Same H H' → Q (.str (S (plB b w xs).flatten)) H'
theorem flat_ints (b : List Int) : (b.map V.int).all flatV = true := by
  rw [List.all_eq_true]
  intro v hv
  obtain ⟨z, _, rfl⟩ := List.mem_map.mp hv
  rfl
theorem ok_pc (F : Fun K "_law_placed" "_law_placed" sPc f fd) (L_plain : Cal P w K mg base k "_law_plain" ["_law_number_here", "_law_width"] spLP) : FnOk P w K mg base CX0 (k + 1) f fd ["_law_numbers_here", "_law_some", "_law_width"] spPc := by
  refine F.ok scPc (fun vs H Q E h => ?_) (fun cdv A outer s H vs Q E hr h => ?_)
  · obtain ⟨l, bl, xs, b, w, rfl, _⟩ := h
    rfl
  · obtain ⟨l, bl, xs, b, wd, rfl, hl, hb, few, fewb, w5, sub, q⟩ := h
    refine ⟨_, pss_cons (ps_if (pt_cmpR op_eq (pv 2) pe_int (nomark _))
        (pss_one (ps_ret pe_str))
        pss_nil)
      (pss_one (ps_ret (pe_bm PySem.F.plainAttrs_str PySem.F.slot_str_join PySem.F.type_str_join mt_joinB pe_str (pa_cons (pe_lc (own := [("_law_number_here", 3)]) (g := (gName 3)) (tt := tYes) rfl scPc.nd (pi_list (pv 0)) (blkOk_by (own := [("_law_number_here", 3)]) (N := NPc) (sc := defScope sPc) (by decide +kernel)) (fun _ _ _ _ _ => (pg_name (i := 3) scPc.nd rfl (.inl rfl))) (fun _ _ _ _ _ => pts_nil) (fun _ _ _ _ _ => (pe_cal L_plain (hr.mono (by omega)) (by rfl) (pa_cons (pe_overK (K := K) (fun K => tBM K _ (rIndex K) _ _) <| pe_bm PySem.F.plainAttrs_list PySem.F.slot_list_index PySem.F.type_list_index mt_index (pv 1) (pa_cons (pv 3) pa_nil)) (pa_cons (pv 2) pa_nil))))) pa_nil)))), ?_⟩
    have pl : (plB b wd xs).flatten.length = xs.length * wd := by
      rw [flat_same (w := wd) fun c hc => ?_]
      · unfold plB
        rw [List.length_map]
      · obtain ⟨x, _, rfl⟩ := List.mem_map.mp hc
        exact bt_len _ _
    have pm : xs.length * wd ≤ 100 * 500 := Nat.mul_le_mul few w5
    refine ⟨_, rfl, rfl, _, rfl, ite2 (fun g => ?_) (fun g => ?_)⟩
    · have w0 : wd = 0 := by
        rw [dec_int] at g
        have := of_decide_eq_true g
        omega
      subst w0
      have e0 : (plB b 0 xs).flatten = [] := List.length_eq_zero_iff.mp (by rw [pl, Nat.mul_zero])
      rw [e0] at q
      show Q (.str "") H
      rw [s_nil]
      exact q H (Same.refl _)
    · refine ⟨rfl, _, rfl, l, rfl, ⟨_, SqL.of hl⟩, fun D nD => lc_mapL (xs := xs.map V.int) ((plB b wd xs).map fun y => V.str (S y)) (by unfold plB; simp) nD (SqL.of hl) (by rw [List.length_map]; exact small1000 (by omega)) (fun i x y Hc Q' hx hy sm q' => ?_) fun H6 s6 hD6 => ?_⟩
      · unfold plB at hy
        rw [List.getElem?_map] at hx hy
        obtain ⟨z, ez, rfl⟩ := Option.map_eq_some_iff.mp hx
        rw [List.getElem?_map, ez] at hy
        cases hy
        have zb := sub z (List.mem_of_getElem? ez)
        have lt : b.idxOf z < b.length := List.idxOf_lt_length_of_mem zb
        refine ⟨rfl, _, rfl, .inl ⟨rfl, _, SqL.of (sm _ _ hb)⟩, _, rfl, bl, _, .int z, b.idxOf z, .int z, rfl, rfl, SqL.of (sm _ _ hb), rfl, flat_ints b, ?_, ?_, ?_, _, rfl, b.idxOf z, wd, rfl, w5, q' Hc (Same.refl _)⟩
        · rw [List.getElem?_map, List.getElem?_eq_getElem lt, List.getElem_idxOf lt]
          rfl
        · exact beq_self_eq_true z
        · intro m z' hm e
          rw [List.getElem?_map] at e
          obtain ⟨u, eu, rfl⟩ := Option.map_eq_some_iff.mp e
          refine beq_eq_false_iff_ne.mpr fun z2 => ?_
          subst z2
          have := List.not_of_lt_findIdx (show m < b.findIdx (· == u) from hm)
          obtain ⟨hm2, em⟩ := List.getElem?_eq_some_iff.mp eu
          rw [em] at this
          simp at this
      · exact ⟨D, plB b wd xs, (by rw [← s_nil]), rfl, SqL.of hD6, by omega, q H6 s6⟩
end
end Tg

namespace Tg
open PySem PySem.Spec PyProof.Rows L2
open SX (S)
abbrev sNs : Stmt := topS 33
theorem scNs : FnScope ["_law_draws_here", "_law_a_many", "_law_a_way", "_law_first", "_law_leap", "_law_told", "_law_k", "_law_pick", "_law_great"] ["_law_draws_here", "_law_a_many"] (defScope sNs) := ⟨rfl, rfl, rfl, by decide +kernel, rfl, by decide +kernel, by decide +kernel⟩
theorem dr_mono {H : Hp} {p : Addr} {n m : Nat} (d : Dr H p n) (h : n ≤ m) : Dr H p m := by
  obtain ⟨a, k, b, e, h1, h2⟩ := d
  exact ⟨a, k, b, e, h1, by omega⟩
theorem dr_put {H : Hp} {p l : Addr} {n : Nat} {o : HO} (d : Dr H p n) (h : l ≠ p) : Dr (upd H l o) p n := by
  obtain ⟨a, k, b, e, h1, h2⟩ := d
  exact ⟨a, k, b, by rw [upd_ne h.symm]; exact e, h1, h2⟩
/-- what stands behind i draws of numbers -/
def NsI (p l : Addr) (H0 : Hp) (N n : Nat) (way first leap : Int) (i : Nat) (σ : L2.St) (Hc : Hp) : Prop := ∃ (xs : List Int) (z6 z7 z8 : Option V), σ = [some (.ref p), some (.int (n : Nat)), some (.int way), some (.int first), some (.int leap), some (.ref l), z6, z7, z8] ∧
  Kp p H0 Hc ∧ Dr Hc p (N + 3 * i) ∧ NL Hc l xs ∧ xs.length = i ∧ Lo 69 xs ∧ (way = 5 → ∀ x, xs[0]? = some x → x.natAbs < 2 ^ 62)
theorem nsi_next {p l : Addr} {H0 Hc : Hp} {N n i : Nat} {way first leap v : Int} {xs : List Int} {z6 z7 z8 : Option V} (h1 : Kp p H0 Hc) (h0 : H0 l = none) (h2 : Dr Hc p (N + 3 * (i + 1))) (lp : l ≠ p) (h4 : xs.length = i) (h5 : Lo 69 xs) (h6 : way = 5 → ∀ x, xs[0]? = some x → x.natAbs < 2 ^ 62) (vb : v.natAbs < 2 ^ 69) (v5 : way = 5 → xs = [] → v.natAbs < 2 ^ 62) :
    NsI p l H0 N n way first leap (i + 1) [some (.ref p), some (.int (n : Nat)), some (.int way), some (.int first), some (.int leap), some (.ref l), z6, z7, z8] (upd Hc l (.lst (xs.map V.int ++ [.int v]))) := by
  refine ⟨xs ++ [v], z6, z7, z8, rfl, fun b o hb e => ?_, dr_put h2 lp, ?_, by rw [List.length_append, h4]; rfl, fun x hx => ?_, fun w x hx => ?_⟩
  · rw [upd_ne (ne_of_none e h0)]
    exact h1 b o hb e
  · unfold NL
    rw [upd_same, List.map_append]
    rfl
  · rcases List.mem_append.mp hx with z | z
    · exact h5 x z
    · cases List.mem_singleton.mp z
      exact vb
  · cases xs with
    | nil =>
      cases hx
      exact v5 w rfl
    | cons a r => exact h6 w x hx
section
variable {P : Program} {w : World} {K : PySem.W.Frag} {mg : Str → Option Value} {base : Heap} {f : Addr} {fd : FuncData} {k : Nat}
def spNs : Sp := fun vs H Q _ => ∃ (p : Addr) (N n : Nat), vs = [.ref p, .int (n : Nat)] ∧ Dr H p N ∧ N < 800000 ∧ n ≤ 100 ∧ ∀ (l : Addr) (xs : List Int) (H' : Hp), Kp p H H' → Dr H' p (N + 310) → H l = none → NL H' l xs → xs.length = n → Lo 69 xs → Q (.ref l) H'
theorem ok_ns (F : Fun K "_law_numbers" "_law_numbers" sNs f fd) (L_next : Cal P w K mg base k "_law_next" ["_law_draws_here"] spNext) (L_number : Cal P w K mg base k "_law_number" ["_law_draws_here"] spNu) (m_range : mg "range" = none) : FnOk P w K mg base CX0 (k + 1) f fd ["_law_draws_here", "_law_a_many"] spNs := by
  refine F.ok scNs (fun vs H Q E h => ?_) (fun cdv A outer s H vs Q E hr h => ?_)
  · obtain ⟨p, N, n, rfl, _⟩ := h
    rfl
  · obtain ⟨p, N, n, rfl, dr, n8, few, q⟩ := h
    refine ⟨_, pss_cons (ps_set (i := 2) scNs.nd rfl (.inl rfl) (pe_op op_mod (pe_cal L_next (hr.mono (by omega)) (by rfl) (pa_cons (pv 0) pa_nil)) pe_int))
      (pss_cons (ps_par (i := 3) (j := 4) rfl scNs.nd rfl rfl (by decide) rfl rfl (pa_cons (pe_cal L_number (hr.mono (by omega)) (by rfl) (pa_cons (pv 0) pa_nil)) (pa_cons (pe_cal L_number (hr.mono (by omega)) (by rfl) (pa_cons (pv 0) pa_nil)) pa_nil)) rfl)
      (pss_cons (ps_set (i := 5) scNs.nd rfl (.inl rfl) (pe_lst pa_nil))
      (pss_cons (ps_for PassesOwn.never rfl (pi_range1 (by rfl) m_range (pa_cons (pv 1) pa_nil)) (pg_name (i := 6) scNs.nd rfl (.inl rfl))
        (pss_cons (ps_set (i := 7) scNs.nd rfl (.inl rfl) (pe_cal L_next (hr.mono (by omega)) (by rfl) (pa_cons (pv 0) pa_nil)))
        (pss_cons (ps_if (pt_cmpR op_eq (pv 2) pe_int (nomark _))
          (pss_cons (ps_set (i := 8) scNs.nd rfl (.inl rfl) (pe_op op_sub (pe_op op_sub (pe_op op_pow pe_int pe_int) pe_int) (pe_op op_fdiv (pv 7) pe_int)))
          (pss_one (ps_expr (pe_bm PySem.F.plainAttrs_list PySem.F.slot_list_append PySem.F.type_list_append mt_append (pv 5) (pa_cons (pe_ix ix_list (pe_lst (pa_cons (pe_cal L_number (hr.mono (by omega)) (by rfl) (pa_cons (pv 0) pa_nil)) (pa_cons (pv 8) (pa_cons (pe_op op_sub pe_int (pv 8)) pa_nil)))) (pe_ix ix_list (pe_lst (pa_cons pe_int (pa_cons pe_int (pa_cons pe_int (pa_cons pe_int (pa_cons pe_int (pa_cons pe_int pa_nil))))))) (pe_op op_mod (pv 7) pe_int) (fun _ _ => rfl)) (fun _ _ => rfl)) pa_nil)))))
          pss_nil)
        (pss_cons (ps_if (pt_cmpR op_eq (pv 2) pe_int (nomark _))
          (pss_one (ps_expr (pe_bm PySem.F.plainAttrs_list PySem.F.slot_list_append PySem.F.type_list_append mt_append (pv 5) (pa_cons (pe_op op_add (pe_op op_add (pv 3) (pe_op op_mul (pv 6) (pv 4))) (pe_op op_fdiv (pe_op op_mod (pv 7) pe_int) pe_int)) pa_nil))))
          pss_nil)
        (pss_cons (ps_if (pt_cmpR op_eq (pv 2) pe_int (nomark _))
          (pss_one (ps_expr (pe_bm PySem.F.plainAttrs_list PySem.F.slot_list_append PySem.F.type_list_append mt_append (pv 5) (pa_cons (pe_op op_add (pv 3) (pe_op op_mul (pe_op op_fdiv (pe_op op_mod (pv 7) pe_int) pe_int) (pv 4))) pa_nil))))
          pss_nil)
        (pss_cons (ps_if (pt_cmpR op_eq (pv 2) pe_int (nomark _))
          (pss_one (ps_expr (pe_bm PySem.F.plainAttrs_list PySem.F.slot_list_append PySem.F.type_list_append mt_append (pv 5) (pa_cons (pe_ix ix_list (pe_lst (pa_cons (pv 3) (pa_cons (pv 4) (pa_cons (pe_op op_add (pv 3) pe_int) (pa_cons pe_int pa_nil))))) (pe_op op_mod (pv 7) pe_int) (fun _ _ => rfl)) pa_nil))))
          pss_nil)
        (pss_cons (ps_if (pt_cmpR op_eq (pv 2) pe_int (nomark _))
          (pss_one (ps_expr (pe_bm PySem.F.plainAttrs_list PySem.F.slot_list_append PySem.F.type_list_append mt_append (pv 5) (pa_cons (pe_op op_add (pe_op op_add (pv 3) (pe_op op_mul (pe_op op_mul (pv 6) (pv 6)) (pe_op op_add pe_int (pe_op op_mod (pv 4) pe_int)))) (pe_op op_mod (pv 7) pe_int)) pa_nil))))
          pss_nil)
        (pss_one (ps_if (pt_cmpR op_eq (pv 2) pe_int (nomark _))
          (pss_one (ps_expr (pe_bm PySem.F.plainAttrs_list PySem.F.slot_list_append PySem.F.type_list_append mt_append (pv 5) (pa_cons (pe_op op_add (pe_ix ix_list (pe_op op_cat (pv 5) (pe_lst (pa_cons (pv 3) pa_nil))) pe_int (fun _ _ => rfl)) (pe_op op_mul (pe_op op_add (pe_op op_fdiv (pe_op op_mod (pv 7) pe_int) pe_int) (pe_op op_fdiv (pv 6) pe_int)) pe_int)) pa_nil))))
          pss_nil)))))))))
      (pss_one (ps_ret (pv 5)))))), ?_⟩
    refine ⟨_, rfl, p, N, rfl, dr, by omega, fun a H1 k1 d1 a0 a1 => ⟨_, _, rfl, rfl, (by show (0 : Int) < 6; decide), ?_⟩⟩
    refine ⟨_, rfl, p, N + 1, rfl, d1, by omega, fun first H2 k2 d2 fb => ⟨_, rfl, p, N + 3, rfl, d2, by omega, fun leap H3 k3 d3 lb => ?_⟩⟩
    refine ⟨_, _, rfl, Nat.zero_le _, fun l nl => ?_⟩
    obtain ⟨way, ew⟩ : ∃ way : Int, a % 6 = way := ⟨_, rfl⟩
    dsimp only
    rw [ew]
    have w0 : 0 ≤ way ∧ way < 6 := by omega
    have lp := d3.ne nl
    have k13 := (k1.trans k2).trans k3
    obtain ⟨H4, e4⟩ : ∃ H4, upd H3 l (.lst []) = H4 := ⟨_, rfl⟩
    have hl4 : NL H4 l [] := by
      rw [← e4]
      exact upd_same
    have d4 : Dr H4 p (N + 5) := by
      rw [← e4]
      exact dr_put (dr_mono d3 (by omega)) lp
    have k4 : Kp p H H4 := by
      rw [← e4]
      exact k13.trans (Kp.of (same_new nl))
    have nl0 : H l = none := by
      cases hx : H l with
      | none => rfl
      | some o =>
        rw [k13 l o lp hx] at nl
        cases nl
    rw [e4]
    refine ⟨_, rfl, _, rfl, by omega, by omega, for_range (n := n) (NsI p l H (N + 5) n way first leap) ⟨[], none, none, none, rfl, k4, d4, hl4, rfl, fun x hx => (by cases hx), fun _ x hx => (by cases hx)⟩ ?_ ?_⟩
    · rintro i σ Hc hi ⟨xs, z6, z7, z8, rfl, kc, dc, hl, xl, lo, o5⟩
      refine ⟨_, rfl, p, _, rfl, dc, by omega, fun pk Hd kd dd p0 p1 => ?_⟩
      have hld : NL Hd l xs := kd _ _ lp hl
      have kcd := kc.trans kd
      have lx : (xs.map V.int).length < sizeLine := by
        rw [List.length_map]
        exact small1000 (by omega)
      have dd3 : Dr Hd p (N + 5 + 3 * (i + 1)) := dr_mono dd (by omega)
      obtain rfl | rfl | rfl | rfl | rfl | rfl : way = 0 ∨ way = 1 ∨ way = 2 ∨ way = 3 ∨ way = 4 ∨ way = 5 := by omega
      · refine ⟨_, rfl, rfl, true, rfl, if_t ?_⟩
        refine ⟨_, _, rfl, rfl, ⟨by decide, by decide, by decide⟩, _, _, rfl, rfl, _, rfl, _, _, rfl, rfl, ⟨by decide, by decide⟩, _, _, rfl, rfl, ?_⟩
        refine ⟨_, rfl, .inl ⟨rfl, _, SqL.of hld⟩, _, rfl, p, _, rfl, dd, by omega, fun nu He ke de nb => ?_⟩
        have hle : NL He l xs := ke _ _ lp hld
        have e20 : (10 : Int) ^ Int.toNat 20 = 100000000000000000000 := by decide
        obtain ⟨gr, eg⟩ : ∃ gr : Int, (10 : Int) ^ Int.toNat 20 - 1 - pk / 3 = gr := ⟨_, rfl⟩
        dsimp only
        rw [eg]
        rw [e20] at eg
        refine ⟨_, rfl, _, rfl, _, _, rfl, rfl, (by show 3 ≤ sizeLine; decide), fun u nu1 => ?_⟩
        refine ⟨(by show 6 ≤ sizeLine; decide), fun u2 nu2 => ?_⟩
        have su := (same_new (o := .lst [.int nu, .int gr, .int (0 - gr)]) nu1)
        have su2 := (same_new (o := .lst [.int 0, .int 0, .int 0, .int 0, .int 1, .int 2]) nu2)
        obtain ⟨ix, im, ie⟩ := atI_mem (xs := [0, 0, 0, 0, 1, 2]) (i := pk % 6) (by omega) (by show pk % 6 < ((6 : Nat) : Int); omega)
        have ib : 0 ≤ ix ∧ ix < 3 := by
          simp only [List.mem_cons, List.not_mem_nil, or_false] at im
          omega
        obtain ⟨mv, mm, me⟩ := atI_mem (xs := [nu, gr, 0 - gr]) (i := ix) (by omega) (by show ix < ((3 : Nat) : Int); omega)
        have mb : mv.natAbs < 2 ^ 69 := by
          simp only [List.mem_cons, List.not_mem_nil, or_false] at mm
          omega
        have s2 := su.trans su2
        refine ⟨_, rfl, _, _, rfl, rfl, (by show (0 : Int) < 6; decide), u2, _, _, _, rfl, rfl, SqL.of upd_same, ie, u, _, _, _, rfl, rfl, SqL.of (su2 _ _ upd_same), me, l, _, _, rfl, rfl, s2 _ _ hle, lx, ?_⟩
        exact ⟨_, rfl, rfl, false, rfl, if_f ⟨_, rfl, rfl, false, rfl, if_f ⟨_, rfl, rfl, false, rfl, if_f ⟨_, rfl, rfl, false, rfl, if_f ⟨_, rfl, rfl, false, rfl, if_f (nsi_next ((kcd.trans ke).trans (Kp.of s2)) nl0 (dr_mono (de.same s2) (by omega)) lp xl lo o5 mb (fun w => absurd w (by decide)))⟩⟩⟩⟩⟩
      · refine ⟨_, rfl, rfl, false, rfl, if_f ⟨_, rfl, rfl, true, rfl, if_t ?_⟩⟩
        refine ⟨_, rfl, .inl ⟨rfl, _, SqL.of hld⟩, _, rfl, _, rfl, _, rfl, _, _, rfl, rfl, .inl ⟨by omega, by omega⟩, _, _, rfl, rfl, _, rfl, _, _, rfl, rfl, (by show (0 : Int) < 3; decide), _, _, rfl, rfl, ⟨by decide, by decide⟩, _, _, rfl, rfl, l, _, _, rfl, rfl, hld, lx, ?_⟩
        have kl : (((0 : Int) + (i : Nat)) * leap).natAbs < 2 ^ 61 * 100 := by
          rw [Int.natAbs_mul, Nat.mul_comm]
          exact Nat.lt_of_lt_of_le (Nat.mul_lt_mul_of_lt_of_le lb (show ((0 : Int) + (i : Nat)).natAbs ≤ 100 by omega) (by decide)) (Nat.le_refl _)
        exact ⟨_, rfl, rfl, false, rfl, if_f ⟨_, rfl, rfl, false, rfl, if_f ⟨_, rfl, rfl, false, rfl, if_f ⟨_, rfl, rfl, false, rfl, if_f (nsi_next kcd nl0 dd3 lp xl lo o5 (by omega) (fun w => absurd w (by decide)))⟩⟩⟩⟩
      · refine ⟨_, rfl, rfl, false, rfl, if_f ⟨_, rfl, rfl, false, rfl, if_f ⟨_, rfl, rfl, true, rfl, if_t ?_⟩⟩⟩
        refine ⟨_, rfl, .inl ⟨rfl, _, SqL.of hld⟩, _, rfl, _, rfl, _, _, rfl, rfl, (by show (0 : Int) < 7; decide), _, _, rfl, rfl, ⟨by decide, by decide⟩, _, rfl, _, _, rfl, rfl, .inl ⟨by omega, by omega⟩, _, _, rfl, rfl, l, _, _, rfl, rfl, hld, lx, ?_⟩
        have kl : (pk % 7 / 6 * leap).natAbs < 2 ^ 61 * 100 := by
          rw [Int.natAbs_mul, Nat.mul_comm]
          exact Nat.lt_of_lt_of_le (Nat.mul_lt_mul_of_lt_of_le lb (show (pk % 7 / 6).natAbs ≤ 100 by omega) (by decide)) (Nat.le_refl _)
        exact ⟨_, rfl, rfl, false, rfl, if_f ⟨_, rfl, rfl, false, rfl, if_f ⟨_, rfl, rfl, false, rfl, if_f (nsi_next kcd nl0 dd3 lp xl lo o5 (by omega) (fun w => absurd w (by decide)))⟩⟩⟩
      · refine ⟨_, rfl, rfl, false, rfl, if_f ⟨_, rfl, rfl, false, rfl, if_f ⟨_, rfl, rfl, false, rfl, if_f ⟨_, rfl, rfl, true, rfl, if_t ?_⟩⟩⟩⟩
        refine ⟨_, rfl, .inl ⟨rfl, _, SqL.of hld⟩, _, rfl, _, rfl, _, rfl, _, _, rfl, rfl, (by show 4 ≤ sizeLine; decide), fun u nu1 => ?_⟩
        obtain ⟨mv, mm, me⟩ := atI_mem (xs := [first, leap, first + 1, 0]) (i := pk % 4) (by omega) (by show pk % 4 < ((4 : Nat) : Int); omega)
        have mb : mv.natAbs < 2 ^ 69 := by
          simp only [List.mem_cons, List.not_mem_nil, or_false] at mm
          omega
        have su := (same_new (o := .lst [.int first, .int leap, .int (first + 1), .int 0]) nu1)
        refine ⟨_, rfl, _, _, rfl, rfl, (by show (0 : Int) < 4; decide), u, _, _, _, rfl, rfl, SqL.of upd_same, me, l, _, _, rfl, rfl, su _ _ hld, lx, ?_⟩
        exact ⟨_, rfl, rfl, false, rfl, if_f ⟨_, rfl, rfl, false, rfl, if_f (nsi_next (kcd.trans (Kp.of su)) nl0 (dd3.same su) lp xl lo o5 mb (fun w => absurd w (by decide)))⟩⟩
      · refine ⟨_, rfl, rfl, false, rfl, if_f ⟨_, rfl, rfl, false, rfl, if_f ⟨_, rfl, rfl, false, rfl, if_f ⟨_, rfl, rfl, false, rfl, if_f ⟨_, rfl, rfl, true, rfl, if_t ?_⟩⟩⟩⟩⟩
        have kk : (((0 : Int) + (i : Nat)) * ((0 : Int) + (i : Nat))).natAbs ≤ 100 * 100 := by
          rw [Int.natAbs_mul]
          exact Nat.mul_le_mul (by omega) (by omega)
        have kl : (((0 : Int) + (i : Nat)) * ((0 : Int) + (i : Nat)) * (1 + leap % 9)).natAbs ≤ 100 * 100 * 9 := by
          rw [Int.natAbs_mul]
          exact Nat.mul_le_mul kk (by omega)
        refine ⟨_, rfl, .inl ⟨rfl, _, SqL.of hld⟩, _, rfl, _, rfl, _, rfl, _, _, rfl, rfl, .inl ⟨by omega, by omega⟩, _, rfl, _, _, rfl, rfl, (by show (0 : Int) < 9; decide), _, _, rfl, rfl, _, _, rfl, rfl, .inr ⟨by omega, by omega⟩, _, _, rfl, rfl, _, rfl, _, _, rfl, rfl, (by show (0 : Int) < 2; decide), _, _, rfl, rfl, l, _, _, rfl, rfl, hld, lx, ?_⟩
        exact ⟨_, rfl, rfl, false, rfl, if_f (nsi_next kcd nl0 dd3 lp xl lo o5 (by omega) (fun w => absurd w (by decide)))⟩
      · refine ⟨_, rfl, rfl, false, rfl, if_f ⟨_, rfl, rfl, false, rfl, if_f ⟨_, rfl, rfl, false, rfl, if_f ⟨_, rfl, rfl, false, rfl, if_f ⟨_, rfl, rfl, false, rfl, if_f ⟨_, rfl, rfl, true, rfl, if_t ?_⟩⟩⟩⟩⟩⟩
        refine ⟨_, rfl, .inl ⟨rfl, _, SqL.of hld⟩, _, rfl, _, rfl, (by show 1 ≤ sizeLine; decide), fun u nu1 => ?_⟩
        have su := (same_new (o := .lst [.int first]) nu1)
        refine ⟨l, u, _, _, rfl, rfl, su _ _ hld, upd_same, (by rw [List.length_map]; exact Nat.le_of_lt (small1000 (show xs.length + 1 ≤ 1000 by omega))), fun u2 nu2 => ?_⟩
        have su2 := (same_new (o := .lst (xs.map V.int ++ [.int first])) nu2)
        obtain ⟨x0, ex0, bx0⟩ : ∃ x0 : Int, (xs.map V.int ++ [.int first])[0]? = some (.int x0) ∧ x0.natAbs < 2 ^ 62 := by
          cases xs with
          | nil => exact ⟨first, rfl, by omega⟩
          | cons a r => exact ⟨a, rfl, o5 rfl a rfl⟩
        have x0e : xs = [] → x0.natAbs < 2 ^ 61 := fun z => by
          subst z
          cases ex0
          exact fb
        have i8 : ((0 : Int) + (i : Nat)) / 8 ≤ 13 ∧ 0 ≤ ((0 : Int) + (i : Nat)) / 8 := by omega
        have s2 := su.trans su2
        refine ⟨u2, _, 0, .int x0, rfl, rfl, SqL.of upd_same, atI_nat (j := 0) ex0, _, rfl, _, _, rfl, rfl, (by show (0 : Int) < 9; decide), _, _, rfl, rfl, ⟨by decide, by decide⟩, _, rfl, _, _, rfl, rfl, ⟨by decide, by decide⟩, _, _, rfl, rfl, _, _, rfl, rfl, .inr ⟨by omega, by omega⟩, _, _, rfl, rfl, l, _, _, rfl, rfl, s2 _ _ hld, lx, ?_⟩
        exact (nsi_next (kcd.trans (Kp.of s2)) nl0 (dd3.same s2) lp xl lo o5 (by omega) (fun _ z => (by have := x0e z; omega)))
    · rintro σ Hc ⟨xs, z6, z7, z8, rfl, kc, dc, hl, xl, lo, _⟩
      exact ⟨_, rfl, q l xs Hc kc (dr_mono dc (by omega)) nl0 hl xl lo⟩
end
end Tg

namespace Tg
open PySem PySem.Spec PyProof.Rows L2
open SX (S)
theorem runL_snoc {H H' : Hp} {ts : List Addr} {rs : List Run} {t : Addr} {r : Run} (h : RunL H ts rs) (kp : ∀ u, u ∈ ts → H' u = H u) (ht : H' t = some (.lst [.int r.1, .int (r.2 : Nat)])) : RunL H' (ts ++ [t]) (rs ++ [r]) := by
  refine ⟨by rw [List.length_append, List.length_append, h.1]; rfl, fun i u q e1 e2 => ?_⟩
  rcases Nat.lt_or_ge i ts.length with g | g
  · rw [List.getElem?_append_left g] at e1
    rw [List.getElem?_append_left (by rw [← h.1]; exact g)] at e2
    rw [kp u (List.mem_of_getElem? e1)]
    exact h.2 i u q e1 e2
  · have ei : i = ts.length := by
      have := (List.getElem?_eq_some_iff.mp e1).1
      rw [List.length_append] at this
      have z1 : [t].length = 1 := rfl
      omega
    subst ei
    rw [List.getElem?_append_right (Nat.le_refl _), Nat.sub_self] at e1
    rw [List.getElem?_append_right (by rw [h.1]; exact Nat.le_refl _), h.1, Nat.sub_self] at e2
    cases e1
    cases e2
    exact ht
theorem runL_init {H : Hp} {ts : List Addr} {rs : List Run} {t : Addr} {r : Run} (h : RunL H (ts ++ [t]) (rs ++ [r])) : RunL H ts rs ∧ H t = some (.lst [.int r.1, .int (r.2 : Nat)]) := by
  have le : ts.length = rs.length := by
    have := h.1
    rw [List.length_append, List.length_append] at this
    exact Nat.succ.inj this
  refine ⟨⟨le, fun i u q e1 e2 => h.2 i u q ?_ ?_⟩, h.2 ts.length t r ?_ ?_⟩
  · rw [List.getElem?_append_left (List.getElem?_eq_some_iff.mp e1).1]
    exact e1
  · rw [List.getElem?_append_left (List.getElem?_eq_some_iff.mp e2).1]
    exact e2
  · rw [List.getElem?_append_right (Nat.le_refl _), Nat.sub_self]
    rfl
  · rw [le, List.getElem?_append_right (Nat.le_refl _), Nat.sub_self]
    rfl
theorem eqv_cons {d : PyData} {ds : List PyData} : PyData.eqv (.list (d :: ds)) (.list []) = false := rfl
section
variable {P : Program} {w : World} {K : PySem.W.Frag} {mg : Str → Option Value} {base : Heap} {f : Addr} {fd : FuncData} {k : Nat}
def spLR : Sp := fun vs H Q _ => ∃ (l : Addr) (xs : List Int), vs = [.ref l] ∧ NL H l xs ∧ xs.length ≤ 100 ∧ ∀ (m : Addr) (ts : List Addr) (H' : Hp), Same H H' → H' m = some (.lst (ts.map V.ref)) → RunL H' ts (rn xs) → Q (.ref m) H'
theorem ok_lr (F : Fun K "_law_runs" "_law_runs" sLR f fd) : FnOk P w K mg base CX0 (k + 1) f fd ["_law_numbers_here"] spLR := by
  refine F.ok scLR (fun vs H Q E h => ?_) (fun cdv A outer s H vs Q E hr h => ?_)
  · obtain ⟨l, xs, rfl, _⟩ := h
    rfl
  · obtain ⟨l, xs, rfl, hl, few, q⟩ := h
    have hu := hr.units
    refine ⟨_, pss_cons (ps_set (i := 1) scLR.nd rfl (.inl rfl) (pe_lst pa_nil))
      (pss_cons (ps_for PassesOwn.never rfl (pi_list (pv 0)) (pg_name (i := 2) scLR.nd rfl (.inl rfl))
        (pss_one (ps_if (PW.pt (pw_and (pt_cmpR (op_neD hu) (pv 1) (pe_lst pa_nil) (nomark _)) (pw_and1 (pt_cmpR op_eq (pe_ix ix_list (pe_ix ix_list (pv 1) (pe_un un_neg pe_int) (fun _ _ => rfl)) pe_int (fun _ _ => rfl)) (pv 2) (nomark _)))))
          (pss_one (ps_asg (pe_op op_add (pe_ix ix_list (pe_ix ix_list (pv 1) (pe_un un_neg pe_int) (fun _ _ => rfl)) pe_int (fun _ _ => rfl)) pe_int) (pg_sub (pe_ix ix_list (pv 1) (pe_un un_neg pe_int) (fun _ _ => rfl)) pe_int set_list)))
          (pss_one (ps_expr (pe_bm PySem.F.plainAttrs_list PySem.F.slot_list_append PySem.F.type_list_append mt_append (pv 1) (pa_cons (pe_lst (pa_cons (pv 2) (pa_cons pe_int pa_nil))) pa_nil)))))))
      (pss_one (ps_ret (pv 1)))), ?_⟩
    refine ⟨Nat.zero_le _, fun m nm => ?_⟩
    have s1 := same_new (o := .lst []) nm
    refine ⟨_, rfl, l, rfl, ⟨_, SqL.of (s1 _ _ hl)⟩, for_list (xs := xs.map V.int) (fun i σ Hc => ∃ (z : Option V) (ts : List Addr), σ = [some (.ref l), some (.ref m), z] ∧ Same H Hc ∧ Hc m = some (.lst (ts.map V.ref)) ∧ RunL Hc ts (rn (xs.take i)) ∧ ts.Nodup ∧ ∀ t, t ∈ ts → H t = none ∧ t ≠ m) ?_ ?_ ?_ ?_⟩
    · exact ⟨none, [], rfl, s1, upd_same, ⟨rfl, fun i t r e => by simp at e⟩, .nil, fun t h => by cases h⟩
    · rintro i σ Hc _ ⟨z, ts, rfl, sm, _⟩
      exact SqL.of (sm _ _ hl)
    · rintro i y σ Hc hy ⟨z, ts, rfl, sm, hm, rt, nd, nt0⟩
      rw [List.getElem?_map] at hy
      obtain ⟨x, ex, rfl⟩ := Option.map_eq_some_iff.mp hy
      have lt := (List.getElem?_eq_some_iff.mp ex).1
      have ln : ts.length ≤ 100 := by
        have h1 := rn_len (xs.take i)
        rw [← rt.1, List.length_take] at h1
        omega
      have en := rn_take ex
      -- a new run behind
      have nw : ∀ (He : Hp) (t : Addr), Same Hc He → He t = none → He m = some (.lst (ts.map V.ref)) → RunL He ts (rn (xs.take i)) → rn (xs.take (i + 1)) = rn (xs.take i) ++ [(x, 1)] →
          Same H (upd (upd He t (.lst [.int x, .int 1])) m (.lst (ts.map V.ref ++ [.ref t]))) ∧ (upd (upd He t (.lst [.int x, .int 1])) m (.lst (ts.map V.ref ++ [.ref t]))) m = some (.lst ((ts ++ [t]).map V.ref)) ∧ RunL (upd (upd He t (.lst [.int x, .int 1])) m (.lst (ts.map V.ref ++ [.ref t]))) (ts ++ [t]) (rn (xs.take (i + 1))) ∧ (ts ++ [t]).Nodup ∧ ∀ u, u ∈ ts ++ [t] → H u = none ∧ u ≠ m := by
        intro He t se nt he hrt e
        have tm : t ≠ m := fun z => by
          subst z
          rw [he] at nt
          cases nt
        have tn0 : H t = none := (sm.trans se).free nt
        have tnew : ∀ u, u ∈ ts → u ≠ t := fun u hu z => by
          subst z
          obtain ⟨j, hj, ej⟩ := List.mem_iff_getElem.mp hu
          obtain ⟨r, er⟩ : ∃ r, (rn (xs.take i))[j]? = some r := ⟨_, List.getElem?_eq_getElem (by rw [← hrt.1]; exact hj)⟩
          have := hrt.2 j u r (by rw [List.getElem?_eq_getElem hj, ej]) er
          rw [nt] at this
          cases this
        refine ⟨fun b o hb => ?_, ?_, ?_, ?_, fun u hu => ?_⟩
        · rw [upd_ne (ne_of_none hb nm), upd_ne (ne_of_none hb tn0)]
          exact se _ _ (sm _ _ hb)
        · rw [upd_same, List.map_append]
          rfl
        · rw [e]
          refine runL_snoc hrt (fun u hu => ?_) ?_
          · rw [upd_ne (nt0 u hu).2, upd_ne (tnew u hu)]
          · rw [upd_ne tm, upd_same]
            rfl
        · exact List.nodup_append.mpr ⟨nd, by simp, fun u hu v hv => by rw [List.mem_singleton.mp hv]; exact tnew u hu⟩
        · rcases List.mem_append.mp hu with g | g
          · exact nt0 u g
          · rw [List.mem_singleton.mp g]
            exact ⟨tn0, tm⟩
      refine ⟨_, rfl, Nat.zero_le _, fun e0 ne0 => ?_⟩
      have se := same_new (o := .lst []) ne0
      have hme := se _ _ hm
      have hrt : RunL (upd Hc e0 (.lst [])) ts (rn (xs.take i)) := ⟨rt.1, fun j t r h1 h2 => se _ _ (rt.2 j t r h1 h2)⟩
      have dp1 := Dp.lst (K := K) (SqL.of hme) (runL_dp hrt)
      have dp0 : Dp K (upd Hc e0 (.lst [])) (.ref e0) (.list []) := .lst (SqL.of upd_same) .nil
      rcases List.eq_nil_or_concat ts with rfl | ⟨ti, tl, rfl⟩
      · have er : rn (xs.take i) = [] := List.length_eq_zero_iff.mp rt.1.symm
        have en2 : rn (xs.take (i + 1)) = rn (xs.take i) ++ [(x, 1)] := by
          rw [en, er, rnA_nil]
          rfl
        rw [er] at dp1
        refine ⟨_, _, dp1, dp0, shaped_R [], rfl, false, rfl, if_f (if_f ?_)⟩
        refine ⟨_, rfl, .inl ⟨rfl, _, SqL.of hme⟩, _, rfl, by show 2 ≤ sizeLine; decide, fun t nt => ?_⟩
        obtain ⟨p1, p2, p3, p4, p5⟩ := nw _ t se nt hme hrt en2
        exact ⟨m, _, _, rfl, rfl, same_new nt _ _ hme, small1000 (by show 0 ≤ 1000; decide), _, _, rfl, p1, p2, p3, p4, p5⟩
      · rw [List.concat_eq_append] at hm rt ln nd nt0 hme hrt nw
        obtain ⟨ri, rl, er⟩ : ∃ ri rl, rn (xs.take i) = ri ++ [rl] := by
          rcases List.eq_nil_or_concat (rn (xs.take i)) with z | ⟨ri, rl, z⟩
          · have l := rt.1
            rw [z, List.length_append] at l
            cases l
          · exact ⟨ri, rl, by rw [z, List.concat_eq_append]⟩
        obtain ⟨y, n⟩ := rl
        have sh := shaped_R (rn (xs.take i))
        have ev : (!PyData.eqv (.list (dR (rn (xs.take i)))) (.list [])) = true := by
          rw [er]
          cases ri <;> rfl
        refine ⟨_, _, dp1, dp0, sh, rfl, true, congrArg V.bl ev, if_t ?_⟩
        rw [er] at en hrt
        obtain ⟨rti, htl⟩ := runL_init hrt
        rw [List.map_append] at hme
        refine ⟨_, rfl, 1, rfl, m, _, -1, .ref tl, rfl, rfl, SqL.of hme, atI_last _ _, tl, _, 0, .int y, rfl, rfl, SqL.of htl, rfl, ?_⟩
        refine ⟨_, rfl, rfl, _, rfl, ite2 (fun g => ?_) (fun g => ?_)⟩
        · obtain rfl : y = x := by
            rw [dec_int] at g
            exact of_decide_eq_true g
          rw [rnA_same] at en
          refine ⟨_, rfl, 1, rfl, m, _, -1, .ref tl, rfl, rfl, SqL.of hme, atI_last _ _, tl, _, 1, .int (n : Nat), rfl, rfl, SqL.of htl, rfl, (n : Int), 1, rfl, rfl, ?_⟩
          refine ⟨_, rfl, 1, rfl, m, _, -1, .ref tl, rfl, rfl, SqL.of hme, atI_last _ _, tl, _, 1, 1, rfl, rfl, htl, rfl, ?_⟩
          have tlm := (nt0 tl (by simp)).2
          refine ⟨_, ti ++ [tl], rfl, fun b o hb => ?_, ?_, ?_, nd, nt0⟩
          · rw [upd_ne (ne_of_none hb (nt0 tl (by simp)).1)]
            exact se _ _ (sm _ _ hb)
          · rw [upd_ne tlm.symm, hme, List.map_append]
          · rw [en]
            refine runL_snoc rti (fun u hu => ?_) ?_
            · refine upd_ne fun z => ?_
              have := (List.nodup_append.mp nd).2.2 u hu tl (by simp)
              exact this z
            · rw [upd_same]
              rfl
        · have yx : y ≠ x := fun z => g (by
            rw [dec_int]
            exact decide_eq_true z)
          rw [rnA_other _ _ _ _ yx] at en
          refine ⟨_, rfl, .inl ⟨rfl, _, SqL.of hme⟩, _, rfl, by show 2 ≤ sizeLine; decide, fun t nt => ?_⟩
          rw [er] at nw
          rw [← List.map_append] at hme
          obtain ⟨p1, p2, p3, p4, p5⟩ := nw _ t se nt hme hrt en
          exact ⟨m, _, _, rfl, rfl, same_new nt _ _ hme, small1000 (by rw [List.length_map]; omega), _, _, rfl, p1, p2, p3, p4, p5⟩
    · rintro σ Hc ⟨z, ts, rfl, sm, hm, rt, _⟩
      rw [List.take_of_length_le (by rw [List.length_map]; exact Nat.le_refl _)] at rt
      exact ⟨_, rfl, q m ts Hc sm hm rt⟩
end
end Tg

namespace Tg
open PySem PySem.Spec PyProof.Rows L2
open SX (S)
abbrev sWn : Stmt := topS 41
abbrev NWn : List Str := ["_law_numbers_here", "_law_a_way", "_law_gaps_here", "_law_least", "_law_width", "_law_told", "_law_number_here", "_law_run", "_law_some", "_law_gap"]
theorem scWn : FnScope NWn ["_law_numbers_here", "_law_a_way"] (defScope sWn) := ⟨rfl, rfl, rfl, by decide +kernel, rfl, by decide +kernel, by decide +kernel⟩
section
variable {P : Program} {w : World} {K : PySem.W.Frag} {mg : Str → Option Value} {base : Heap} {f : Addr} {fd : FuncData} {k : Nat}
def spWn : Sp := fun vs H Q _ => ∃ (l : Addr) (xs : List Int) (y : Wy), vs = [.ref l, .str y.nm] ∧ NL H l xs ∧ Lo 70 xs ∧ xs.length ≤ 100 ∧ ∀ H', Same H H' → Q (.str (S (bitsY y xs))) H'
theorem ok_wn (F : Fun K "_law_written" "_law_written" sWn f fd) (L_gaps : Cal P w K mg base k "_law_gaps" ["_law_numbers_here"] (spNew 80 200 difs)) (L_length : Cal P w K mg base k "_law_length" ["_law_number_here"] spLe) (L_own : Cal P w K mg base k "_law_own" ["_law_number_here"] spLO) (L_turned : Cal P w K mg base k "_law_turned" ["_law_number_here"] spLT)
    (L_plain : Cal P w K mg base k "_law_plain" ["_law_number_here", "_law_width"] spLP) (L_runs : Cal P w K mg base k "_law_runs" ["_law_numbers_here"] spLR) (L_placed : Cal P w K mg base k "_law_placed" ["_law_numbers_here", "_law_some", "_law_width"] spPc)
    (m_min : mg "min" = none) (m_max : mg "max" = none) (m_sorted : mg "sorted" = none) (m_set : mg "set" = none) (m_len : mg "len" = none) : FnOk P w K mg base CX0 (k + 1) f fd ["_law_numbers_here", "_law_a_way"] spWn := by
  refine F.ok scWn (fun vs H Q E h => ?_) (fun cdv A outer s H vs Q E hr h => ?_)
  · obtain ⟨l, xs, y, rfl, _⟩ := h
    rfl
  · obtain ⟨l, xs, y, rfl, hl, lo, few, q⟩ := h
    have hu := hr.units
    refine ⟨_, pss_cons (ps_if (pt_cmpR (op_eqD hu) (pv 0) (pe_lst pa_nil) (nomark _))
        (pss_one (ps_ret pe_str))
        pss_nil)
      (pss_cons (ps_set (i := 2) scWn.nd rfl (.inl rfl) (pe_cal L_gaps (hr.mono (by omega)) (by rfl) (pa_cons (pv 0) pa_nil)))
      (pss_cons (ps_if (pt_cmpR op_eq (pv 1) pe_str (nomark _))
        (pss_cons (ps_set (i := 3) scWn.nd rfl (.inr rfl) (pe_callB (cr_min rfl) (by rfl) m_min (by decide +kernel) (pa_cons (pv 0) pa_nil)))
        (pss_cons (ps_set (i := 4) scWn.nd rfl (.inr rfl) (pe_cal L_length (hr.mono (by omega)) (by rfl) (pa_cons (pe_op op_sub (pe_callB (cr_max rfl) (by rfl) m_max (by decide +kernel) (pa_cons (pv 0) pa_nil)) (pv 3)) pa_nil)))
        (pss_cons (ps_set (i := 5) scWn.nd rfl (.inl rfl) (pe_op op_addB (pe_cal L_own (hr.mono (by omega)) (by rfl) (pa_cons (pe_cal L_turned (hr.mono (by omega)) (by rfl) (pa_cons (pv 3) pa_nil)) pa_nil)) (pe_cal L_own (hr.mono (by omega)) (by rfl) (pa_cons (pv 4) pa_nil))))
        (pss_one (ps_ret (pe_op op_addB (pv 5) (pe_bm PySem.F.plainAttrs_str PySem.F.slot_str_join PySem.F.type_str_join mt_joinB pe_str (pa_cons (pe_lc (own := [("_law_number_here", 6)]) (g := (gName 6)) (tt := tYes) rfl scWn.nd (pi_list (pv 0)) (blkOk_by (own := [("_law_number_here", 6)]) (N := NWn) (sc := defScope sWn) (by decide +kernel)) (fun _ _ _ _ _ => (pg_name (i := 6) scWn.nd rfl (.inl rfl))) (fun _ _ _ _ _ => pts_nil) (fun _ _ _ _ _ => (pe_cal L_plain (hr.mono (by omega)) (by rfl) (pa_cons (pe_op op_sub (pv 6) (pv 3)) (pa_cons (pv 4) pa_nil))))) pa_nil))))))))
        pss_nil)
      (pss_cons (ps_if (pt_cmpR op_eq (pv 1) pe_str (nomark _))
        (pss_one (ps_ret (pe_bm PySem.F.plainAttrs_str PySem.F.slot_str_join PySem.F.type_str_join mt_joinB pe_str (pa_cons (pe_lc (own := [("_law_number_here", 6)]) (g := (gName 6)) (tt := tYes) rfl scWn.nd (pi_list (pe_op op_cat (pe_slice sl_list (pv 0) po_none (po_some pe_int)) (pv 2))) (blkOk_by (own := [("_law_number_here", 6)]) (N := NWn) (sc := defScope sWn) (by decide +kernel)) (fun _ _ _ _ _ => (pg_name (i := 6) scWn.nd rfl (.inl rfl))) (fun _ _ _ _ _ => pts_nil) (fun _ _ _ _ _ => (pe_cal L_own (hr.mono (by omega)) (by rfl) (pa_cons (pe_cal L_turned (hr.mono (by omega)) (by rfl) (pa_cons (pv 6) pa_nil)) pa_nil)))) pa_nil))))
        pss_nil)
      (pss_cons (ps_if (pt_cmpR op_eq (pv 1) pe_str (nomark _))
        (pss_one (ps_ret (pe_bm PySem.F.plainAttrs_str PySem.F.slot_str_join PySem.F.type_str_join mt_joinB pe_str (pa_cons (pe_lc (own := [("_law_number_here", 6)]) (g := (gName 6)) (tt := tYes) rfl scWn.nd (pi_list (pe_op op_cat (pe_op op_cat (pe_slice sl_list (pv 0) po_none (po_some pe_int)) (pe_slice sl_list (pv 2) po_none (po_some pe_int))) (pe_cal L_gaps (hr.mono (by omega)) (by rfl) (pa_cons (pv 2) pa_nil)))) (blkOk_by (own := [("_law_number_here", 6)]) (N := NWn) (sc := defScope sWn) (by decide +kernel)) (fun _ _ _ _ _ => (pg_name (i := 6) scWn.nd rfl (.inl rfl))) (fun _ _ _ _ _ => pts_nil) (fun _ _ _ _ _ => (pe_cal L_own (hr.mono (by omega)) (by rfl) (pa_cons (pe_cal L_turned (hr.mono (by omega)) (by rfl) (pa_cons (pv 6) pa_nil)) pa_nil)))) pa_nil))))
        pss_nil)
      (pss_cons (ps_if (pt_cmpR op_eq (pv 1) pe_str (nomark _))
        (pss_one (ps_ret (pe_bm PySem.F.plainAttrs_str PySem.F.slot_str_join PySem.F.type_str_join mt_joinB pe_str (pa_cons (pe_lc (own := [("_law_run", 7)]) (g := (gName 7)) (tt := tYes) rfl scWn.nd (pi_list (pe_cal L_runs (hr.mono (by omega)) (by rfl) (pa_cons (pv 0) pa_nil))) (blkOk_by (own := [("_law_run", 7)]) (N := NWn) (sc := defScope sWn) (by decide +kernel)) (fun _ _ _ _ _ => (pg_name (i := 7) scWn.nd rfl (.inl rfl))) (fun _ _ _ _ _ => pts_nil) (fun _ _ _ _ _ => (pe_op op_addB (pe_cal L_own (hr.mono (by omega)) (by rfl) (pa_cons (pe_cal L_turned (hr.mono (by omega)) (by rfl) (pa_cons (pe_ix (r := rIxL K) ix_list (pv 7) pe_int (fun _ _ => rfl)) pa_nil)) pa_nil)) (pe_cal L_own (hr.mono (by omega)) (by rfl) (pa_cons (pe_op op_sub (pe_ix (r := rIxL K) ix_list (pv 7) pe_int (fun _ _ => rfl)) pe_int) pa_nil))))) pa_nil))))
        pss_nil)
      (pss_cons (ps_set (i := 8) scWn.nd rfl (.inl rfl) (pe_callB (cr_sortedSetA rfl) (by rfl) m_sorted (by decide +kernel) (pa_cons (pe_callTy (cr_setL rfl) (by rfl) m_set (by decide +kernel) (pa_cons (pv 0) pa_nil)) pa_nil)))
      (pss_cons (ps_set (i := 5) scWn.nd rfl (.inl rfl) (pe_op op_addB (pe_cal L_own (hr.mono (by omega)) (by rfl) (pa_cons (pe_op op_sub (pe_callB call_len_seq (by rfl) m_len (by decide +kernel) (pa_cons (pv 8) pa_nil)) pe_int) pa_nil)) (pe_cal L_own (hr.mono (by omega)) (by rfl) (pa_cons (pe_cal L_turned (hr.mono (by omega)) (by rfl) (pa_cons (pe_ix ix_list (pv 8) pe_int (fun _ _ => rfl)) pa_nil)) pa_nil))))
      (pss_cons (ps_set (i := 5) scWn.nd rfl (.inl rfl) (pe_op op_addB (pv 5) (pe_bm PySem.F.plainAttrs_str PySem.F.slot_str_join PySem.F.type_str_join mt_joinB pe_str (pa_cons (pe_lc (own := [("_law_gap", 9)]) (g := (gName 9)) (tt := tYes) rfl scWn.nd (pi_list (pe_cal L_gaps (hr.mono (by omega)) (by rfl) (pa_cons (pv 8) pa_nil))) (blkOk_by (own := [("_law_gap", 9)]) (N := NWn) (sc := defScope sWn) (by decide +kernel)) (fun _ _ _ _ _ => (pg_name (i := 9) scWn.nd rfl (.inl rfl))) (fun _ _ _ _ _ => pts_nil) (fun _ _ _ _ _ => (pe_cal L_own (hr.mono (by omega)) (by rfl) (pa_cons (pe_op op_sub (pv 9) pe_int) pa_nil)))) pa_nil))))
      (pss_one (ps_ret (pe_op op_addB (pv 5) (pe_cal L_placed (hr.mono (by omega)) (by rfl) (pa_cons (pv 0) (pa_cons (pv 8) (pa_cons (pe_cal L_length (hr.mono (by omega)) (by rfl) (pa_cons (pe_op op_sub (pe_callB call_len_seq (by rfl) m_len (by decide +kernel) (pa_cons (pv 8) pa_nil)) pe_int) pa_nil)) pa_nil))))))))))))))), ?_⟩
    refine ⟨_, rfl, Nat.zero_le _, fun e0 ne0 => ?_⟩
    have s0 := same_new (o := .lst []) ne0
    obtain ⟨Ha, ea⟩ : ∃ Ha, upd H e0 (.lst []) = Ha := ⟨_, rfl⟩
    have dp0 : Dp K Ha (.ref e0) (.list []) := by
      rw [← ea]
      exact .lst (SqL.of upd_same) .nil
    rw [ea] at s0 ⊢
    have hla := s0 _ _ hl
    by_cases c : xs = []
    · subst c
      refine ⟨_, _, dp_lst (ns := []) (SqL.of hla), dp0, rfl, rfl, true, rfl, if_t ?_⟩
      show Q (.str "") Ha
      rw [s_nil]
      exact q Ha s0
    have pos := List.length_pos_iff.mpr c
    refine ⟨_, _, dp_lst (ns := xs) (SqL.of hla), dp0, shaped_ints xs, rfl, false, ?_, if_f ?_⟩
    · cases xs with
      | nil => exact absurd rfl c
      | cons a r => rfl
    have eb : bitsY y xs = encY y xs := if_neg c
    rw [eb] at q
    have d80 := (lo_difs lo).mono (show 71 ≤ 80 by decide)
    refine ⟨_, rfl, l, xs, rfl, hla, lo.mono (by decide), by omega, fun g Hb s1 ng hg => ?_⟩
    have sb := s0.trans s1
    have hlb := s1 _ _ hla
    have dl := difs_len xs
    cases y with
    | plain =>
      refine ⟨_, rfl, rfl, true, rfl, if_t ?_⟩
      have w71 := wdP_le lo c
      obtain ⟨n1, n2⟩ := mnI_is c
      obtain ⟨x1, x2⟩ := mxI_is c
      refine ⟨_, rfl, l, xs, rfl, SqL.of hlb, pos, fun m hm hmin => ?_⟩
      obtain rfl := mn_of hm hmin
      refine ⟨_, rfl, l, xs, rfl, SqL.of hlb, pos, fun m hm hmax => ?_⟩
      obtain rfl := mx_of hm hmax
      have mm := n2 _ x1
      refine ⟨_, rfl, _, _, rfl, rfl, (mxI xs - mnI xs).toNat, ?_, ?_⟩
      · show [V.int (mxI xs - mnI xs)] = _
        rw [Int.toNat_of_nonneg (by omega)]
      have b : (mnI xs).natAbs < 2 ^ 80 := Nat.lt_of_lt_of_le (lo _ n1) (by decide)
      have c1 := cd_len b
      have c2 := own_short (n := wdP xs) (w := 7) (by omega)
      refine ⟨_, rfl, mnI xs, rfl, abs_89 b, fun Hc s2 => ⟨tN (mnI xs), (by rw [← tn_nat]; rfl), tN_90 b, ?_⟩⟩
      refine ⟨_, rfl, wdP xs, rfl, Nat.lt_of_le_of_lt w71 (by decide), _, _, rfl, rfl, (by unfold cd at c1; omega), ?_⟩
      have hlc := s2 _ _ hlb
      refine ⟨_, rfl, rfl, _, rfl, l, rfl, ⟨_, SqL.of hlc⟩, fun D nD => lc_mapL (xs := xs.map V.int) (xs.map fun x => V.str (S (bt (wdP xs) (x - mnI xs).toNat))) (by simp) nD (SqL.of hlc) (by rw [List.length_map]; exact small1000 (by omega)) (fun i x y Hc Q' hx hy sm q' => ?_) fun H' sm hD => ?_⟩
      · rw [List.getElem?_map] at hx hy
        obtain ⟨z, ez, rfl⟩ := Option.map_eq_some_iff.mp hx
        rw [ez] at hy
        cases hy
        have z1 := n2 z (List.mem_of_getElem? ez)
        refine ⟨rfl, _, rfl, _, rfl, _, _, rfl, rfl, _, rfl, (z - mnI xs).toNat, wdP xs, ?_, by omega, q' Hc (Same.refl _)⟩
        show [V.int (z - mnI xs), V.int (blen (mxI xs - mnI xs).toNat : Nat)] = _
        rw [Int.toNat_of_nonneg (by omega)]
        rfl
      · refine ⟨D, plC xs, (by rw [← s_nil]), rfl, (by unfold plC; rw [List.map_map]; exact SqL.of hD), ?_, _, _, rfl, rfl, ?_, q H' (sb.trans (s2.trans sm))⟩
        all_goals
          have fl : (plC xs).flatten.length = (plC xs).length * wdP xs := flat_same fun y hy => (plC_in hy).1
          have e : (plC xs).length = xs.length := List.length_map ..
          have m1 : xs.length * wdP xs ≤ 100 * 71 := Nat.mul_le_mul few w71
          rw [e] at fl
        · omega
        · rw [List.length_append]
          unfold cd at c1
          omega
    | book =>
      refine ⟨_, rfl, rfl, false, rfl, if_f ⟨_, rfl, rfl, false, rfl, if_f ⟨_, rfl, rfl, false, rfl, if_f ⟨_, rfl, rfl, false, rfl, if_f ?_⟩⟩⟩⟩
      obtain ⟨l1, l2, l3, bl, bp, blo, up⟩ := encB_len pos few lo
      have sz : wdB xs * xs.length ≤ 8 * 100 := Nat.mul_le_mul l3 few
      refine ⟨_, rfl, l, xs, rfl, SqL.of hlb, by omega, fun a cn na cnt => ?_⟩
      have c100 : cn ≤ xs.length := cnt xs fun _ h => h
      have s2 : Same Hb (upd Hb a (SetO w a (fun k => decide (k ∈ xs)) cn)) := same_new na
      refine ⟨a, _, cn, rfl, upd_same, Nat.le_of_lt (small1000 (by omega)), fun ns p ⟨up', mem, len⟩ np => ?_⟩
      obtain rfl : ns = bookOf xs := book_of up' fun k => (mem k).trans decide_eq_true_iff
      obtain ⟨b, eb2⟩ : ∃ b, bookOf xs = b := ⟨_, rfl⟩
      have s3 := same_new (o := .lst ((bookOf xs).map V.int)) np
      obtain ⟨H2, e2⟩ : ∃ H2, upd (upd Hb a (SetO w a (fun k => decide (k ∈ xs)) cn)) p (.lst ((bookOf xs).map V.int)) = H2 := ⟨_, rfl⟩
      have h2 : NL H2 p b := by
        rw [← e2, eb2]
        exact upd_same
      have sA : Same H H2 := by
        rw [← e2]
        exact sb.trans (s2.trans s3)
      show gName 8 _ _ (upd (upd Hb a (SetO w a (fun k => decide (k ∈ xs)) cn)) p (.lst ((bookOf xs).map V.int))) _
      rw [e2]
      have sub : ∀ x, x ∈ xs → x ∈ b := fun x hx => by
        rw [← eb2]
        exact (mem x).mpr (decide_eq_true hx)
      have bdef := eb2
      rw [eb2] at bl bp blo up
      obtain ⟨b0, eb0⟩ : ∃ b0, b[0]? = some b0 := ⟨_, List.getElem?_eq_getElem bp⟩
      have b0lo : b0.natAbs < 2 ^ 80 := Nat.lt_of_lt_of_le (blo b0 (List.mem_of_getElem? eb0)) (by decide)
      have c1 := cd_len b0lo
      have c2 := own_short (n := b.length - 1) (w := 8) (by omega)
      have e1 : encY .book xs = ownL (b.length - 1) ++ ownL (tN b0) ++ (gpC xs).flatten ++ (bkC xs).flatten := by
        show encB xs = _
        unfold encB cd
        rw [eb2, headD_of eb0]
      rw [e1] at q
      have lt : (ownL (b.length - 1) ++ ownL (tN b0) ++ (gpC xs).flatten ++ (bkC xs).flatten).length ≤ 22000 := by
        rw [← e1]
        show (encB xs).length ≤ _
        omega
      rw [List.length_append, List.length_append, List.length_append] at lt
      have vl : ∀ X : List Int, X = b → [V.int ((((X.map V.int).length : Nat) : Int) - 1)] = [V.int ((b.length - 1 : Nat) : Int)] := fun X e => by
        subst e
        rw [List.length_map]
        congr 2
        omega
      refine ⟨_, rfl, p, _, rfl, .inl (SqL.of h2), _, _, rfl, rfl, b.length - 1, vl _ rfl, Nat.lt_of_le_of_lt (show b.length - 1 ≤ 100 by omega) (by decide), ?_⟩
      refine ⟨_, rfl, p, _, 0, .int b0, rfl, rfl, SqL.of h2, atI_nat (j := 0) (by rw [List.getElem?_map, eb0]; rfl), b0, rfl, abs_89 b0lo, fun H3 s4 => ⟨tN b0, (by rw [← tn_nat]; rfl), tN_90 b0lo, _, _, rfl, rfl, by omega, ?_⟩⟩
      have h3 := s4 _ _ h2
      refine ⟨_, rfl, rfl, _, rfl, p, b, rfl, h3, blo.mono (by decide), by omega, fun g2 H5 s5 ng2 hg2 => ⟨g2, rfl, ⟨_, SqL.of hg2⟩, fun D nD => lc_mapL (xs := (difs b).map V.int) ((gpC xs).map fun y => V.str (S y)) (by unfold gpC; rw [eb2]; simp) nD (SqL.of hg2) (by rw [List.length_map, difs_len]; exact small1000 (by omega)) (fun i x y Hc Q' hx hy sm q' => ?_) fun H6 s6 hD => ?_⟩⟩
      · unfold gpC at hy
        rw [eb2] at hy
        rw [List.getElem?_map] at hx hy
        obtain ⟨d, ed, rfl⟩ := Option.map_eq_some_iff.mp hx
        rw [List.getElem?_map, ed] at hy
        cases hy
        have d1 := up_gap up _ (List.mem_of_getElem? ed)
        have d2 := lo_difs blo _ (List.mem_of_getElem? ed)
        refine ⟨rfl, _, rfl, _, _, rfl, rfl, (d - 1).toNat, ?_, Nat.lt_of_le_of_lt (show (d - 1).toNat ≤ d.natAbs by omega) (Nat.lt_trans d2 (by decide)), q' Hc (Same.refl _)⟩
        show [V.int (d - 1)] = _
        rw [Int.toNat_of_nonneg (by omega)]
      · refine ⟨D, gpC xs, (by rw [← s_nil]), rfl, SqL.of hD, by omega, _, _, rfl, rfl, by rw [List.length_append]; omega, ?_⟩
        have s56 := s5.trans s6
        have h6 := s56 _ _ h3
        have sB := sA.trans (s4.trans s56)
        refine ⟨_, rfl, _, rfl, _, rfl, _, rfl, p, _, rfl, .inl (SqL.of h6), _, _, rfl, rfl, b.length - 1, vl _ rfl, ?_⟩
        refine ⟨l, p, xs, b, wdB xs, ?_, sB _ _ hl, h6, few, bl, by omega, sub, fun H9 s9 => ⟨_, _, rfl, rfl, ?_, ?_⟩⟩
        · unfold wdB
          rw [eb2]
          rfl
        · have epl : plB b (wdB xs) xs = bkC xs := by
            unfold plB bkC
            rw [eb2]
          rw [epl, List.length_append, List.length_append]
          omega
        · have epl : plB b (wdB xs) xs = bkC xs := by
            unfold plB bkC
            rw [eb2]
          rw [epl]
          exact q H9 (sB.trans s9)
    | «by» W =>
      cases W with
      | steps =>
        refine ⟨_, rfl, rfl, false, rfl, if_f ⟨_, rfl, rfl, true, rfl, if_t ?_⟩⟩
        refine ⟨rfl, _, rfl, 1, rfl, l, _, rfl, SqL.of hlb, fun l1 n1 => ?_⟩
        rw [cut_1]
        have s2 := same_new (o := .lst ((xs.take 1).map V.int)) n1
        obtain ⟨H2, e2⟩ : ∃ H2, upd Hb l1 (.lst ((xs.take 1).map V.int)) = H2 := ⟨_, rfl⟩
        have h1 : H2 l1 = some (.lst ((xs.take 1).map V.int)) := by rw [← e2]; exact upd_same
        rw [e2] at s2 ⊢
        refine ⟨_, rfl, l1, g, _, _, rfl, rfl, h1, s2 _ _ hg, ?_, fun l3 n3 => ?_⟩
        · rw [List.length_map, List.length_map, List.length_take, difs_len]
          exact Nat.le_of_lt (small1000 (by omega))
        have s3 := same_new (o := .lst ((xs.take 1).map V.int ++ (difs xs).map V.int)) n3
        obtain ⟨H3, e3⟩ : ∃ H3, upd H2 l3 (.lst ((xs.take 1).map V.int ++ (difs xs).map V.int)) = H3 := ⟨_, rfl⟩
        have h3 : NL H3 l3 (stp xs) := by
          rw [← e3]
          show _ = some (HO.lst ((xs.take 1 ++ difs xs).map V.int))
          rw [upd_same, List.map_append]
        rw [e3] at s3 ⊢
        have lc := (lo_stp lo).mono (show 71 ≤ 80 by decide)
        have sl := stp_len xs
        refine ⟨l3, rfl, ⟨_, SqL.of h3⟩, fun D nD => lc_mapL (xs := (stp xs).map V.int) ((stp xs).map fun x => V.str (S (cd x))) (by simp) nD (SqL.of h3) (by rw [List.length_map]; exact small1000 (by omega)) (fun i x y Hc Q' hx hy sm q' => ?_) fun H' sm hD => ?_⟩
        · rw [List.getElem?_map] at hx hy
          obtain ⟨z, ez, rfl⟩ := Option.map_eq_some_iff.mp hx
          rw [ez] at hy
          cases hy
          have b := lc z (List.mem_of_getElem? ez)
          exact ⟨rfl, _, rfl, z, rfl, abs_89 b, fun H4 s4 => ⟨tN z, (by rw [← tn_nat]; rfl), tN_90 b, q' H4 s4⟩⟩
        · exact ⟨D, (stp xs).map cd, (by rw [← s_nil]), rfl, (by rw [List.map_map]; exact SqL.of hD), Nat.le_trans (cds_len lc) (by omega), q H' (sb.trans (s2.trans (s3.trans sm)))⟩
      | turns =>
        refine ⟨_, rfl, rfl, false, rfl, if_f ⟨_, rfl, rfl, false, rfl, if_f ⟨_, rfl, rfl, true, rfl, if_t ?_⟩⟩⟩
        refine ⟨rfl, _, rfl, 1, rfl, l, _, rfl, SqL.of hlb, fun l1 n1 => ?_⟩
        rw [cut_1]
        have s2 := same_new (o := .lst ((xs.take 1).map V.int)) n1
        obtain ⟨H2, e2⟩ : ∃ H2, upd Hb l1 (.lst ((xs.take 1).map V.int)) = H2 := ⟨_, rfl⟩
        have h1 : H2 l1 = some (.lst ((xs.take 1).map V.int)) := by rw [← e2]; exact upd_same
        rw [e2] at s2 ⊢
        refine ⟨_, rfl, 1, rfl, g, _, rfl, SqL.of (s2 _ _ hg), fun l2 n2 => ?_⟩
        rw [cut_1]
        have s3 := same_new (o := .lst (((difs xs).take 1).map V.int)) n2
        obtain ⟨H3, e3⟩ : ∃ H3, upd H2 l2 (.lst (((difs xs).take 1).map V.int)) = H3 := ⟨_, rfl⟩
        have h2 : H3 l2 = some (.lst (((difs xs).take 1).map V.int)) := by rw [← e3]; exact upd_same
        rw [e3] at s3 ⊢
        refine ⟨l1, l2, _, _, rfl, rfl, s3 _ _ h1, h2, ?_, fun l3 n3 => ?_⟩
        · rw [List.length_map, List.length_map, List.length_take, List.length_take, difs_len]
          exact Nat.le_of_lt (small1000 (by omega))
        have s4 := same_new (o := .lst ((xs.take 1).map V.int ++ ((difs xs).take 1).map V.int)) n3
        obtain ⟨H4, e4⟩ : ∃ H4, upd H3 l3 (.lst ((xs.take 1).map V.int ++ ((difs xs).take 1).map V.int)) = H4 := ⟨_, rfl⟩
        have h3 : H4 l3 = some (.lst ((xs.take 1).map V.int ++ ((difs xs).take 1).map V.int)) := by rw [← e4]; exact upd_same
        rw [e4] at s4 ⊢
        refine ⟨_, rfl, g, difs xs, rfl, s4 _ _ (s3 _ _ (s2 _ _ hg)), d80, by omega, fun g2 H5 s5 ng2 hg2 => ?_⟩
        have dl2 := difs_len (difs xs)
        refine ⟨l3, g2, _, _, rfl, rfl, s5 _ _ h3, hg2, ?_, fun l4 n4 => ?_⟩
        · rw [List.length_append, List.length_map, List.length_map, List.length_map, List.length_take, List.length_take, difs_len]
          exact Nat.le_of_lt (small1000 (by omega))
        have s6 := same_new (o := .lst ((xs.take 1).map V.int ++ ((difs xs).take 1).map V.int ++ (difs (difs xs)).map V.int)) n4
        obtain ⟨H6, e6⟩ : ∃ H6, upd H5 l4 (.lst ((xs.take 1).map V.int ++ ((difs xs).take 1).map V.int ++ (difs (difs xs)).map V.int)) = H6 := ⟨_, rfl⟩
        have h6 : NL H6 l4 (trn xs) := by
          rw [← e6]
          show _ = some (HO.lst ((xs.take 1 ++ ((difs xs).take 1 ++ difs (difs xs))).map V.int))
          rw [upd_same, List.map_append, List.map_append, List.append_assoc]
        rw [e6] at s6 ⊢
        have lc := (lo_trn lo).mono (show 72 ≤ 80 by decide)
        have sl := trn_len xs
        refine ⟨l4, rfl, ⟨_, SqL.of h6⟩, fun D nD => lc_mapL (xs := (trn xs).map V.int) ((trn xs).map fun x => V.str (S (cd x))) (by simp) nD (SqL.of h6) (by rw [List.length_map]; exact small1000 (by omega)) (fun i x y Hc Q' hx hy sm q' => ?_) fun H' sm hD => ?_⟩
        · rw [List.getElem?_map] at hx hy
          obtain ⟨z, ez, rfl⟩ := Option.map_eq_some_iff.mp hx
          rw [ez] at hy
          cases hy
          have b := lc z (List.mem_of_getElem? ez)
          exact ⟨rfl, _, rfl, z, rfl, abs_89 b, fun H4 s4 => ⟨tN z, (by rw [← tn_nat]; rfl), tN_90 b, q' H4 s4⟩⟩
        · exact ⟨D, (trn xs).map cd, (by rw [← s_nil]), rfl, (by rw [List.map_map]; exact SqL.of hD), Nat.le_trans (cds_len lc) (by omega), q H' (sb.trans (s2.trans (s3.trans (s4.trans (s5.trans (s6.trans sm))))))⟩
      | runs =>
        refine ⟨_, rfl, rfl, false, rfl, if_f ⟨_, rfl, rfl, false, rfl, if_f ⟨_, rfl, rfl, false, rfl, if_f ⟨_, rfl, rfl, true, rfl, if_t ?_⟩⟩⟩⟩
        have rl := rn_len xs
        refine ⟨rfl, _, rfl, l, xs, rfl, hlb, few, fun m ts H1 s2 hm rt => ⟨m, rfl, ⟨_, SqL.of hm⟩, fun D nD => lc_mapL (xs := ts.map V.ref) ((rn xs).map fun r => V.str (S (rcd r))) (by rw [List.length_map, List.length_map, rt.1]) nD (SqL.of hm) ?_ (fun i x y Hc Q' hx hy sm q' => ?_) fun H' sm hD => ?_⟩⟩
        · rw [List.length_map, rt.1]
          exact small1000 (by omega)
        · rw [List.getElem?_map] at hx hy
          obtain ⟨t, et, rfl⟩ := Option.map_eq_some_iff.mp hx
          obtain ⟨r, er, rfl⟩ := Option.map_eq_some_iff.mp hy
          obtain ⟨r1, r2, r3⟩ := run_in (List.mem_of_getElem? er)
          have b : r.1.natAbs < 2 ^ 80 := Nat.lt_of_lt_of_le (lo r.1 r1) (by decide)
          have ht := sm _ _ (rt.2 i t r et er)
          have z := rcd_len b (show r.2 ≤ 200 by omega)
          unfold rcd cd at z
          rw [List.length_append] at z
          refine ⟨rfl, _, rfl, t, _, 0, .int r.1, rfl, rfl, SqL.of ht, rfl, r.1, rfl, abs_89 b, fun H4 s4 => ⟨tN r.1, (by rw [← tn_nat]; rfl), tN_90 b, ?_⟩⟩
          refine ⟨_, rfl, t, _, 1, .int (r.2 : Nat), rfl, rfl, SqL.of (s4 _ _ ht), rfl, _, _, rfl, rfl, r.2 - 1, ?_, Nat.lt_of_le_of_lt (show r.2 - 1 ≤ 200 by omega) (by decide), _, _, rfl, rfl, by omega, q' H4 s4⟩
          show [V.int ((r.2 : Nat) - 1)] = _
          congr 2
          omega
        · refine ⟨D, (rn xs).map rcd, (by rw [← s_nil]), rfl, (by rw [List.map_map]; exact SqL.of hD), ?_, q H' (sb.trans (s2.trans sm))⟩
          refine Nat.le_trans (flat_le (n := 200) fun y hy => ?_) ?_
          · obtain ⟨r, hr, rfl⟩ := List.mem_map.mp hy
            obtain ⟨r1, r2, r3⟩ := run_in hr
            exact rcd_len (Nat.lt_of_lt_of_le (lo r.1 r1) (by decide)) (by omega)
          · rw [List.length_map]
            omega
end
end Tg

namespace Tg
open PySem PySem.Spec PyProof.Rows L2
open SX (S)
/-! ### any bits read: what each step tells, or the place at which it is refused -/
abbrev Bits (l : List Nat) : Prop := ∀ c, c ∈ l → IsBin c
def zr (t : List Nat) : Nat := (t.takeWhile (· == 48)).length
def rdO (l : List Nat) (a : Nat) : Option (Nat × Nat) :=
  if a + 2 * zr (l.drop a) + 1 ≤ l.length then some (binNum ((l.drop (a + zr (l.drop a))).take (zr (l.drop a) + 1)) - 1, a + 2 * zr (l.drop a) + 1) else none
theorem zr_le (t : List Nat) : zr t ≤ t.length := (List.takeWhile_prefix _).length_le
theorem zr_lo : ∀ {t : List Nat} {v : Nat}, v < zr t → t[v]? = some 48
  | [], _, h => by cases h
  | c :: t, v, h => by
    unfold zr at h
    rw [List.takeWhile_cons] at h
    by_cases e : (c == 48) = true
    · rw [if_pos e, List.length_cons] at h
      cases v with
      | zero => exact congrArg some (beq_iff_eq.mp e)
      | succ v => exact zr_lo (t := t) (v := v) (by unfold zr; omega)
    · rw [if_neg e] at h
      cases h
theorem zr_hi : ∀ {t : List Nat}, Bits t → zr t < t.length → t[zr t]? = some 49
  | [], _, h => by cases h
  | c :: t, b, h => by
    by_cases e : (c == 48) = true
    · have ez : zr (c :: t) = zr t + 1 := by
        unfold zr
        rw [List.takeWhile_cons, if_pos e, List.length_cons]
      rw [ez] at h ⊢
      exact zr_hi (fun x hx => b x (List.mem_cons_of_mem _ hx)) (Nat.lt_of_succ_lt_succ h)
    · have ez : zr (c :: t) = 0 := by
        unfold zr
        rw [List.takeWhile_cons, if_neg e]
        rfl
      rw [ez]
      rcases b c List.mem_cons_self with z | z
      · exact absurd (beq_iff_eq.mpr z) e
      · exact congrArg some z
theorem num_grow : ∀ (l : List Nat) (x : Nat), x ≤ l.foldl (fun a c => a * 2 + (c - 48)) x
  | [], x => Nat.le_refl _
  | c :: l, x => Nat.le_trans (show x ≤ x * 2 + (c - 48) by omega) (num_grow l _)
theorem num_pos (r : List Nat) : 1 ≤ binNum (49 :: r) := num_grow r 1
section
variable {l : List Nat} {a : Nat}
theorem rdO_some {r : Nat × Nat} (bin : Bits l) (h : rdO l a = some r) : r.2 = a + 2 * zr (l.drop a) + 1 ∧ r.2 ≤ l.length ∧ zr (l.drop a) < (l.drop a).length ∧ binNum ((l.drop (a + zr (l.drop a))).take (zr (l.drop a) + 1)) = r.1 + 1 := by
  unfold rdO at h
  by_cases c : a + 2 * zr (l.drop a) + 1 ≤ l.length
  · rw [if_pos c] at h
    cases h
    have lt : zr (l.drop a) < (l.drop a).length := by
      rw [List.length_drop]
      omega
    refine ⟨rfl, c, lt, ?_⟩
    have h49 := zr_hi (fun x hx => bin x (List.mem_of_mem_drop hx)) lt
    obtain ⟨z, ez⟩ : ∃ z, zr (l.drop a) = z := ⟨_, rfl⟩
    rw [ez] at h49 c ⊢
    rw [List.getElem?_drop] at h49
    obtain ⟨lt2, e2⟩ := List.getElem?_eq_some_iff.mp h49
    have p := num_pos ((l.drop (a + z + 1)).take z)
    rw [List.drop_eq_getElem_cons lt2, e2, List.take_succ_cons]
    show _ = _ - 1 + 1
    omega
  · rw [if_neg c] at h
    cases h
theorem num_lt : ∀ (l : List Nat) (x : Nat), Bits l → l.foldl (fun a c => a * 2 + (c - 48)) x < (x + 1) * 2 ^ l.length
  | [], x, _ => by
    show x < (x + 1) * 1
    omega
  | c :: l, x, b => by
    have h := num_lt l (x * 2 + (c - 48)) fun y hy => b y (List.mem_cons_of_mem _ hy)
    have hc := b c List.mem_cons_self
    unfold IsBin at hc
    refine Nat.lt_of_lt_of_le h ?_
    rw [List.length_cons, Nat.pow_succ, Nat.mul_comm (2 ^ l.length) 2, ← Nat.mul_assoc]
    exact Nat.mul_le_mul (by omega) (Nat.le_refl _)
theorem rdO_log {r : Nat × Nat} (bin : Bits l) (h : rdO l a = some r) : r.1.log2 ≤ l.length := by
  obtain ⟨e, le, lt, en⟩ := rdO_some bin h
  have z := num_lt ((l.drop (a + zr (l.drop a))).take (zr (l.drop a) + 1)) 0 fun y hy => bin y (List.mem_of_mem_drop (List.mem_of_mem_take hy))
  have z : binNum ((l.drop (a + zr (l.drop a))).take (zr (l.drop a) + 1)) < (0 + 1) * 2 ^ ((l.drop (a + zr (l.drop a))).take (zr (l.drop a) + 1)).length := z
  rw [en, List.length_take, List.length_drop, Nat.one_mul] at z
  by_cases c : r.1 = 0
  · rw [c, show Nat.log2 0 = 0 by decide +kernel]
    exact Nat.zero_le _
  · refine Nat.le_of_lt ((Nat.log2_lt c).mpr (Nat.lt_of_lt_of_le (Nat.lt_of_succ_lt z) (Nat.pow_le_pow_right (by decide) ?_)))
    omega
theorem rdO_lt {r : Nat × Nat} (bin : Bits l) (h : rdO l a = some r) : a < r.2 ∧ r.2 ≤ l.length := by
  obtain ⟨e, le, _⟩ := rdO_some bin h
  omega
theorem rdO_none (h : rdO l a = none) : l.length < a + 2 * zr (l.drop a) + 1 := by
  unfold rdO at h
  by_cases c : a + 2 * zr (l.drop a) + 1 ≤ l.length
  · rw [if_pos c] at h
    cases h
  · omega
theorem find_z (bin : Bits l) (le : a ≤ l.length) : Txt.find3 (S l) ⟨#[49]⟩ ((a : Nat) : Int) = if zr (l.drop a) < (l.drop a).length then ((a + zr (l.drop a) : Nat) : Int) else -1 := by
  by_cases c : zr (l.drop a) < (l.drop a).length
  · rw [if_pos c]
    have h := zr_hi (fun x hx => bin x (List.mem_of_mem_drop hx)) c
    rw [List.getElem?_drop] at h
    refine find_at h (Nat.le_add_right _ _) fun v h1 h2 h3 => ?_
    have z := zr_lo (t := l.drop a) (v := v - a) (by omega)
    rw [List.getElem?_drop, show a + (v - a) = v by omega, h3] at z
    cases z
  · rw [if_neg c]
    refine find_no fun v h1 h3 => ?_
    have lv := (List.getElem?_eq_some_iff.mp h3).1
    have z := zr_lo (t := l.drop a) (v := v - a) (by
      rw [List.length_drop] at c
      omega)
    rw [List.getElem?_drop, show a + (v - a) = v by omega, h3] at z
    cases z
end
/-- one step of a reader: the mark behind it, or the place that is refused -/
def stM : Way → List Nat → Int → Mrk → Nat ⊕ Mrk
  | .steps, l, _, m => match rdO l m.1 with
    | none => .inl m.1
    | some r => .inr (r.2, m.2.1 + bk (r.1 : Nat), none)
  | .turns, l, _, m => match rdO l m.1 with
    | none => .inl m.1
    | some r => match m.2.2 with
      | none => .inr (r.2, bk (r.1 : Nat), some 0)
      | some s => .inr (r.2, m.2.1 + s + bk (r.1 : Nat), some (s + bk (r.1 : Nat)))
  | .runs, l, room, m => if 0 < m.2.2.getD 0 then .inr (m.1, m.2.1, some (m.2.2.getD 0 - 1)) else match rdO l m.1 with
    | none => .inl m.1
    | some r => match rdO l r.2 with
      | none => .inl r.2
      | some q => if room ≤ ((q.1 : Nat) : Int) then .inl r.2 else .inr (q.2, bk (r.1 : Nat), some ((q.1 : Nat) : Int))
def mkN (W : Way) (l : List Nat) (many : Nat) : Nat → Nat ⊕ Mrk
  | 0 => .inr (0, 0, none)
  | i + 1 => match mkN W l many i with
    | .inl p => .inl p
    | .inr m => stM W l (((many : Nat) : Int) - (i : Nat)) m
def nmN (W : Way) (l : List Nat) (many : Nat) : Nat → List Int
  | 0 => []
  | i + 1 => nmN W l many i ++ (match mkN W l many (i + 1) with
    | .inl _ => []
    | .inr m => [m.2.1])
def resW (W : Way) (l : List Nat) (many : Nat) : Nat ⊕ List Int := match mkN W l many many with
  | .inl p => .inl p
  | .inr m => if m.1 < l.length then .inl m.1 else .inr (nmN W l many many)
def num (l : List Nat) (a w : Nat) : Nat := binNum ((l.drop a).take w)
def over (cap : Option Nat) (n : Nat) : Bool := match cap with
  | none => false
  | some c => decide (c < n)
def plM (cap : Option Nat) (l : List Nat) (w : Nat) : Nat → Nat → Nat ⊕ List Nat
  | 0, a => if a < l.length then .inl a else .inr []
  | n + 1, a => if l.length < a + w then .inl a else if over cap (num l a w) = true then .inl a else match plM cap l w n (a + w) with
    | .inl p => .inl p
    | .inr cs => .inr (num l a w :: cs)
def gps (l : List Nat) : Nat → Nat → Int → Nat ⊕ (Nat × List Int)
  | 0, a, _ => .inr (a, [])
  | n + 1, a, x => match rdO l a with
    | none => .inl a
    | some r => match gps l n r.2 (x + ((r.1 : Nat) : Int) + 1) with
      | .inl p => .inl p
      | .inr (b, ys) => .inr (b, (x + ((r.1 : Nat) : Int) + 1) :: ys)
/-- what stands ahead of the codes: the place of the first code, the width, the book (or the least) -/
def hdP (l : List Nat) : Nat ⊕ (Nat × Nat × Int) := match rdO l 0 with
  | none => .inl 0
  | some r => match rdO l r.2 with
    | none => .inl r.2
    | some q => .inr (q.2, q.1, bk (r.1 : Nat))
def hdK (l : List Nat) : Nat ⊕ (Nat × Nat × List Int) := match rdO l 0 with
  | none => .inl 0
  | some r => match rdO l r.2 with
    | none => .inl r.2
    | some q => match gps l r.1 q.2 (bk (q.1 : Nat)) with
      | .inl p => .inl p
      | .inr (b, ys) => .inr (b, r.1, bk (q.1 : Nat) :: ys)
def resP (l : List Nat) (many : Nat) : Nat ⊕ List Int := match hdP l with
  | .inl p => .inl p
  | .inr (a, w, x) => match plM none l w many a with
    | .inl p => .inl p
    | .inr cs => .inr (cs.map fun c => x + ((c : Nat) : Int))
def resK (l : List Nat) (many : Nat) : Nat ⊕ List Int := match hdK l with
  | .inl p => .inl p
  | .inr (a, last, bs) => match plM (some last) l (blen last) many a with
    | .inl p => .inl p
    | .inr cs => .inr (cs.map fun c => bs.getD c 0)
def resY (y : Wy) (l : List Nat) (many : Nat) : Nat ⊕ List Int := if many = 0 then (if l = [] then .inr [] else .inl 0) else match y with
  | .plain => resP l many
  | .book => resK l many
  | .by W => resW W l many
theorem mkN_stop {W : Way} {l : List Nat} {many i p : Nat} (h : mkN W l many i = .inl p) : ∀ j, i ≤ j → mkN W l many j = .inl p := fun j hj => by
  induction hj with
  | refl => exact h
  | step _ ih =>
    unfold mkN
    rw [ih]
theorem stM_at {W : Way} {l : List Nat} {room : Int} {m m' : Mrk} (bin : Bits l) (le : m.1 ≤ l.length) (h : stM W l room m = .inr m') : m'.1 ≤ l.length := by
  cases W with
  | steps =>
    dsimp only [stM] at h
    cases e : rdO l m.1 with
    | none =>
      rw [e] at h
      cases h
    | some r =>
      rw [e] at h
      cases h
      exact (rdO_lt bin e).2
  | turns =>
    dsimp only [stM] at h
    cases e : rdO l m.1 with
    | none =>
      rw [e] at h
      cases h
    | some r =>
      rw [e] at h
      cases e2 : m.2.2 with
      | none =>
        rw [e2] at h
        cases h
        exact (rdO_lt bin e).2
      | some s =>
        rw [e2] at h
        cases h
        exact (rdO_lt bin e).2
  | runs =>
    dsimp only [stM] at h
    by_cases c : 0 < m.2.2.getD 0
    · rw [if_pos c] at h
      cases h
      exact le
    · rw [if_neg c] at h
      cases e : rdO l m.1 with
      | none =>
        rw [e] at h
        cases h
      | some r =>
        rw [e] at h
        dsimp only at h
        cases e2 : rdO l r.2 with
        | none =>
          rw [e2] at h
          cases h
        | some q =>
          rw [e2] at h
          dsimp only at h
          by_cases c2 : room ≤ ((q.1 : Nat) : Int)
          · rw [if_pos c2] at h
            cases h
          · rw [if_neg c2] at h
            cases h
            exact (rdO_lt bin e2).2
theorem mkN_at {W : Way} {l : List Nat} {many : Nat} (bin : Bits l) : ∀ {i : Nat} {m : Mrk}, mkN W l many i = .inr m → m.1 ≤ l.length
  | 0, m, h => by
    cases h
    exact Nat.zero_le _
  | i + 1, m, h => by
    unfold mkN at h
    cases e : mkN W l many i with
    | inl p =>
      rw [e] at h
      cases h
    | inr m0 =>
      rw [e] at h
      exact stM_at bin (mkN_at bin e) h
/-! ### back, read_own -/
abbrev sRO : Stmt := topS 13
theorem scRO : FnScope ["bits", "at", "first", "behind"] ["bits", "at"] (defScope sRO) := ⟨rfl, rfl, rfl, by decide +kernel, rfl, by decide +kernel, by decide +kernel⟩
section
variable {P : Program} {w : World} {K : PySem.W.Frag} {mg : Str → Option Value} {base : Heap} {f : Addr} {fd : FuncData} {k : Nat} {CB : Addr}
def CDivB (i j : Int) : Prop := 0 < j ∧ j.natAbs.log2 < 9000
theorem op_fdivB {X : Cx} : OpR X (binaryOp .FloorDiv) (rI CDivB fun i j => .int (i / j)) := opI fun i j _ _ _ _ _ hc q => by
  have jp : (0 : Int) < j := hc.left
  have e := Int.fdiv_eq_ediv_of_nonneg i (Int.le_of_lt jp)
  exact floordiv_int (by omega) (by rw [e]; exact q) (.inl (PyProof.noPylong_of_log2 hc.2))
def spBk : Sp := fun vs H Q _ => ∃ n : Int, vs = [.int n] ∧ Q (.int (bk n)) H
theorem ok_bk (F : Fun K "back" "back" sBa f fd) : FnOk P w K mg base CX0 (k + 1) f fd ["number"] spBk := by
  refine F.ok scBa (fun vs H Q E h => ?_) (fun cdv A outer s H vs Q E hr h => ?_)
  · obtain ⟨n, rfl, _⟩ := h
    rfl
  · obtain ⟨n, rfl, q⟩ := h
    refine ⟨_, pss_one (ps_ret (pe_ifExp (pt_cmpR op_eq (pe_op op_mod (pv 0) pe_int) pe_int (nomark _)) (pe_op op_fdiv (pv 0) pe_int) (pe_op op_sub (pe_un un_neg (pe_op op_fdiv (pv 0) pe_int)) pe_int))), ?_⟩
    unfold bk at q
    refine ⟨_, rfl, _, _, rfl, rfl, (by show (0 : Int) < 2; decide), rfl, _, rfl, ite2 (fun g => ?_) (fun g => ?_)⟩
    · rw [vi_z] at g
      rw [if_pos (of_decide_eq_true g)] at q
      exact ⟨_, rfl, _, _, rfl, rfl, ⟨by decide, by decide⟩, q⟩
    · rw [vi_z] at g
      rw [if_neg (fun z => g (decide_eq_true z))] at q
      exact ⟨_, rfl, _, _, rfl, rfl, ⟨by decide, by decide⟩, _, rfl, _, _, rfl, rfl, q⟩
/-- such an error at p -/
def ErA (CB : Addr) (E : XK) (H : Hp) (p : Nat) : Prop := ∀ (d : Addr) (H' : Hp), Same H H' → H d = none → H' d = some (.xd [("at", .int (p : Nat))]) → E (.ref CB) (some d) H'
theorem ErA.same {CB : Addr} {E : XK} {H H1 : Hp} {p : Nat} (h : ErA CB E H p) (s : Same H H1) : ErA CB E H1 p := fun d H' s' nd hd => h d H' (s.trans s') (s.free nd) hd
def spRO (CB : Addr) : Sp := fun vs H Q E => ∃ (l : List Nat) (a : Nat), vs = [.str (S l), .int (a : Nat)] ∧ Bits l ∧ l.length ≤ 60000 ∧ a ≤ l.length ∧
  (∀ r, rdO l a = some r → ∀ t H', Same H H' → H' t = some (.tup [.int (r.1 : Nat), .int (r.2 : Nat)]) → Q (.ref t) H') ∧ (rdO l a = none → ErA CB E H a)
theorem ok_ro (F : Fun K "read_own" "read_own" sRO f fd) (m_len : mg "len" = none) (m_int : mg "int" = none) (sd : PySem.W.nsIn K cStatics LimK = some none) (C_err : CalE P w K mg base k "NoBits" CB "at") : FnOk P w K mg base (L2.CX P w) (k + 2) f fd ["bits", "at"] (spRO CB) := by
  refine F.okX scRO (fun vs H Q E h => ?_) (fun cdv A outer s H vs Q E hr h => ?_)
  · obtain ⟨l, a, rfl, _⟩ := h
    rfl
  · obtain ⟨l, a, rfl, bin, big, le, q, no⟩ := h
    refine ⟨_, pss_cons (ps_set (i := 2) scRO.nd rfl (.inl rfl) (pe_bm PySem.F.plainAttrs_str PySem.F.slot_str_find PySem.F.type_str_find mt_find3 (pv 0) (pa_cons pe_str (pa_cons (pv 1) pa_nil))))
      (pss_cons (ps_set (i := 3) scRO.nd rfl (.inl rfl) (pe_op op_add (pe_op op_sub (pe_op op_mul pe_int (pv 2)) (pv 1)) pe_int))
      (pss_cons (ps_if (PW.pt (pw_or (pt_cmpR op_lt (pv 2) pe_int (nomark _)) (pw_or1 (pt_cmpR op_gt (pv 3) (pe_callB call_lenB (by rfl) m_len (by decide +kernel) (pa_cons (pv 0) pa_nil)) (nomark _)))))
        (pss_one (ps_raise rfl (takes_of rfl rfl rfl rfl) (pm_err C_err hr (by rfl) (pv 1)))) pss_nil)
      (pss_one (ps_ret (pe_tup (pa_cons (pe_op op_sub (pe_callTy (call_int_binL sd) (by rfl) m_int (by decide +kernel) (pa_cons (pe_slice sl_str (pv 0) (po_some (pv 2)) (po_some (pv 3))) (pa_cons pe_int pa_nil))) pe_int) (pa_cons (pv 3) pa_nil))))))), ?_⟩
    refine ⟨_, rfl, rfl, _, rfl, S l, S [49], _, rfl, (by rw [← s_1]), ?_⟩
    rw [find_z bin le]
    by_cases c : zr (l.drop a) < (l.drop a).length
    · rw [if_pos c]
      obtain ⟨z, ez⟩ : ∃ z, zr (l.drop a) = z := ⟨_, rfl⟩
      rw [ez] at c ⊢
      have eb : (2 * ((a + z : Nat) : Int) - ((a : Nat) : Int) + 1) = ((a + 2 * z + 1 : Nat) : Int) := by omega
      have zl : a + z < l.length := by
        rw [List.length_drop] at c
        omega
      refine ⟨_, rfl, _, _, rfl, rfl, .inl ⟨by decide, by decide⟩, _, rfl, _, _, rfl, rfl, _, _, rfl, rfl, ?_⟩
      dsimp only
      rw [eb]
      refine ⟨_, rfl, _, _, rfl, rfl, _, rfl, if_n (decide_eq_false (by omega)) ?_⟩
      refine ⟨_, rfl, _, rfl, l, rfl, big, _, _, rfl, rfl, _, rfl, ite2 (fun g => ?_) (fun g => ?_)⟩
      · have over : l.length < a + 2 * z + 1 := by
          have := of_decide_eq_true g
          omega
        have en : rdO l a = none := by
          unfold rdO
          rw [ez, if_neg (by omega)]
        exact err_read ⟨_, rfl, fun d H' s' nd hd => no en d H' s' nd hd⟩ fun {Q Q'} hq ⟨v, e, q⟩ => ⟨v, e, hq _ _ q⟩
      · have fits : a + 2 * z + 1 ≤ l.length := by
          have : ¬ (((a + 2 * z + 1 : Nat) : Int) > ((l.length : Nat) : Int)) := fun y => g (decide_eq_true y)
          omega
        obtain ⟨r, er⟩ : ∃ r, rdO l a = some r := by
          unfold rdO
          rw [ez, if_pos fits]
          exact ⟨_, rfl⟩
        obtain ⟨r2, _, _, r1⟩ := rdO_some bin er
        rw [ez] at r1 r2
        refine ⟨_, rfl, _, rfl, _, rfl, _, rfl, _, rfl, _, rfl, (by rw [SX.S_len]; exact z500 big), ?_⟩
        rw [cut_S l (by omega) (by omega), show a + 2 * z + 1 - (a + z) = z + 1 by omega]
        refine ⟨_, rfl, (fun y => ?_), fun x hx => bin x (List.mem_of_mem_drop (List.mem_of_mem_take hx)), ?_⟩
        · have := congrArg List.length y
          rw [List.length_take, List.length_drop, List.length_nil] at this
          omega
        rw [r1]
        refine ⟨_, _, rfl, rfl, _, rfl, (by show 2 ≤ sizeLine; decide), fun t nt => q r er t _ (same_new nt) ?_⟩
        rw [upd_same, r2]
        show some (HO.tup [V.int (((r.1 + 1 : Nat) : Int) - 1), _]) = _
        rw [show (((r.1 + 1 : Nat) : Int) - 1) = ((r.1 : Nat) : Int) by omega]
    · rw [if_neg c]
      have en : rdO l a = none := by
        unfold rdO
        rw [List.length_drop] at c
        rw [if_neg (by omega)]
      refine ⟨_, rfl, _, _, rfl, rfl, .inl ⟨by decide, by decide⟩, _, rfl, _, _, rfl, rfl, _, _, rfl, rfl, ?_⟩
      exact ⟨_, rfl, _, _, rfl, rfl, _, rfl, if_y (by decide) (if_t (err_read ⟨_, rfl, fun d H' s' nd hd => no en d H' s' nd hd⟩ fun {Q Q'} hq ⟨v, e, q⟩ => ⟨v, e, hq _ _ q⟩))⟩
end
end Tg

namespace Tg
open PySem PySem.Spec PyProof.Rows L2
open SX (S)
/-! ### the readers of steps, turns and runs -/
abbrev sRS : Stmt := topS 14
abbrev sRT : Stmt := topS 15
abbrev sRR : Stmt := topS 16
theorem scRS : FnScope ["bits", "mark", "room", "at", "ahead", "beside", "code", "behind"] ["bits", "mark", "room"] (defScope sRS) := ⟨rfl, rfl, rfl, by decide +kernel, rfl, by decide +kernel, by decide +kernel⟩
theorem scRT : FnScope ["bits", "mark", "room", "at", "ahead", "step", "code", "behind"] ["bits", "mark", "room"] (defScope sRT) := ⟨rfl, rfl, rfl, by decide +kernel, rfl, by decide +kernel, by decide +kernel⟩
theorem scRR : FnScope ["bits", "mark", "room", "at", "ahead", "more", "code", "middle", "behind"] ["bits", "mark", "room"] (defScope sRR) := ⟨rfl, rfl, rfl, by decide +kernel, rfl, by decide +kernel, by decide +kernel⟩
def vo : Option Int → V
  | none => .non
  | some x => .int x
def mkV (m : Mrk) : List V := [.int (m.1 : Nat), .int m.2.1, vo m.2.2]
def spRd (K : PySem.W.Frag) (CB : Addr) (W : Way) : Sp := fun vs H Q E => ∃ (l : List Nat) (t : Addr) (room : Int) (m : Mrk), vs = [.str (S l), .ref t, .int room] ∧ SqT K H t (mkV m) ∧ Bits l ∧ l.length ≤ 60000 ∧ m.1 ≤ l.length ∧
  (∀ m', stM W l room m = .inr m' → ∀ (t' : Addr) (H' : Hp), Same H H' → H' t' = some (.tup (mkV m')) → Q (.ref t') H') ∧ (∀ p, stM W l room m = .inl p → ErA CB E H p)
section
variable {P : Program} {w : World} {K : PySem.W.Frag} {mg : Str → Option Value} {base : Heap} {f : Addr} {fd : FuncData} {k : Nat} {CB : Addr}
theorem rdO_or (l : List Nat) (a : Nat) : rdO l a = none ∨ ∃ r, rdO l a = some r := by
  cases rdO l a with
  | none => exact .inl rfl
  | some r => exact .inr ⟨r, rfl⟩
theorem ok_rs (F : Fun K "read_step" "read_step" sRS f fd) (C_read_own : CalR P w K mg base k "read_own" ["bits", "at"] (spRO CB)) (C_back : Cal P w K mg base k "back" ["number"] spBk) : FnOk P w K mg base (L2.CX P w) (k + 1) f fd ["bits", "mark", "room"] (spRd K CB .steps) := by
  refine F.okX scRS (fun vs H Q E h => ?_) (fun cdv A outer s H vs Q E hr h => ?_)
  · obtain ⟨l, t, room, m, rfl, _⟩ := h
    rfl
  · obtain ⟨l, t, room, m, rfl, ht, bin, big, le, q, no⟩ := h
    refine ⟨_, pss_cons (ps_asg (pv 1) (pg_tup rfl (pgs_cons (pg_name (i := 3) scRS.nd rfl (.inl rfl)) (pgs_cons (pg_name (i := 4) scRS.nd rfl (.inl rfl)) (pgs_cons (pg_name (i := 5) scRS.nd rfl (.inl rfl)) pgs_nil)))))
      (pss_cons (ps_asg (pe_calR (E := E) C_read_own (hr.mono (by omega)) (by rfl) (passes_call (takes_of rfl rfl rfl rfl) (fun _ _ _ _ z => z)) (pa_cons (pv 0) (pa_cons (pv 3) pa_nil))) (pg_tup rfl (pgs_cons (pg_name (i := 6) scRS.nd rfl (.inl rfl)) (pgs_cons (pg_name (i := 7) scRS.nd rfl (.inl rfl)) pgs_nil))))
      (pss_one (ps_ret (pe_tup (pa_cons (pv 7) (pa_cons (pe_op op_add (pv 4) (pe_cal C_back (hr.mono (by omega)) (by rfl) (pa_cons (pv 6) pa_nil))) (pa_cons pe_non pa_nil))))))), ?_⟩
    refine ⟨_, rfl, t, _, rfl, ht, rfl, _, _, rfl, _, _, rfl, _, _, rfl, rfl, ?_⟩
    refine ⟨_, rfl, _, rfl, l, m.1, rfl, bin, big, le, fun r er u H1 s1 hu => ?_, fun en => no m.1 (by dsimp only [stM]; rw [en])⟩
    have eq : stM .steps l room m = .inr (r.2, m.2.1 + bk (r.1 : Nat), none) := by
      dsimp only [stM]
      rw [er]
    refine ⟨u, _, rfl, SqT.of hu, rfl, _, _, rfl, _, _, rfl, rfl, ?_⟩
    refine ⟨_, rfl, _, rfl, _, rfl, _, rfl, _, _, rfl, rfl, by show 3 ≤ sizeLine; decide, fun t' nt => ?_⟩
    exact q _ eq t' _ (s1.trans (same_new nt)) upd_same
theorem ok_rt (F : Fun K "read_turn" "read_turn" sRT f fd) (C_read_own : CalR P w K mg base k "read_own" ["bits", "at"] (spRO CB)) (C_back : Cal P w K mg base k "back" ["number"] spBk) : FnOk P w K mg base (L2.CX P w) (k + 1) f fd ["bits", "mark", "room"] (spRd K CB .turns) := by
  refine F.okX scRT (fun vs H Q E h => ?_) (fun cdv A outer s H vs Q E hr h => ?_)
  · obtain ⟨l, t, room, m, rfl, _⟩ := h
    rfl
  · obtain ⟨l, t, room, ⟨m1, m2, m3⟩, rfl, ht, bin, big, le, q, no⟩ := h
    refine ⟨_, pss_cons (ps_asg (pv 1) (pg_tup rfl (pgs_cons (pg_name (i := 3) scRT.nd rfl (.inl rfl)) (pgs_cons (pg_name (i := 4) scRT.nd rfl (.inl rfl)) (pgs_cons (pg_name (i := 5) scRT.nd rfl (.inl rfl)) pgs_nil)))))
      (pss_cons (ps_asg (pe_calR (E := E) C_read_own (hr.mono (by omega)) (by rfl) (passes_call (takes_of rfl rfl rfl rfl) (fun _ _ _ _ z => z)) (pa_cons (pv 0) (pa_cons (pv 3) pa_nil))) (pg_tup rfl (pgs_cons (pg_name (i := 6) scRT.nd rfl (.inl rfl)) (pgs_cons (pg_name (i := 7) scRT.nd rfl (.inl rfl)) pgs_nil))))
      (pss_cons (ps_if (pt_cmpR op_isN (pv 5) pe_non (nomark _))
        (pss_one (ps_ret (pe_tup (pa_cons (pv 7) (pa_cons (pe_cal C_back (hr.mono (by omega)) (by rfl) (pa_cons (pv 6) pa_nil)) (pa_cons pe_int pa_nil))))))
        pss_nil)
      (pss_one (ps_ret (pe_tup (pa_cons (pv 7) (pa_cons (pe_op op_add (pe_op op_add (pv 4) (pv 5)) (pe_cal C_back (hr.mono (by omega)) (by rfl) (pa_cons (pv 6) pa_nil))) (pa_cons (pe_op op_add (pv 5) (pe_cal C_back (hr.mono (by omega)) (by rfl) (pa_cons (pv 6) pa_nil))) pa_nil)))))))), ?_⟩
    refine ⟨_, rfl, t, _, rfl, ht, rfl, _, _, rfl, _, _, rfl, _, _, rfl, rfl, ?_⟩
    refine ⟨_, rfl, _, rfl, l, m1, rfl, bin, big, le, fun r er u H1 s1 hu => ?_, fun en => no m1 (by dsimp only [stM]; rw [en])⟩
    refine ⟨u, _, rfl, SqT.of hu, rfl, _, _, rfl, _, _, rfl, rfl, ?_⟩
    cases m3 with
    | none =>
      have eq : stM .turns l room (m1, m2, none) = .inr (r.2, bk (r.1 : Nat), some 0) := by
        dsimp only [stM]
        rw [er]
      refine ⟨_, rfl, rfl, true, rfl, if_t ?_⟩
      refine ⟨_, rfl, _, rfl, _, rfl, by show 3 ≤ sizeLine; decide, fun t' nt => ?_⟩
      exact q _ eq t' _ (s1.trans (same_new nt)) upd_same
    | some x =>
      have eq : stM .turns l room (m1, m2, some x) = .inr (r.2, m2 + x + bk (r.1 : Nat), some (x + bk (r.1 : Nat))) := by
        dsimp only [stM]
        rw [er]
      refine ⟨_, rfl, rfl, false, rfl, if_f ?_⟩
      refine ⟨_, rfl, _, rfl, _, rfl, _, _, rfl, rfl, _, rfl, _, rfl, _, _, rfl, rfl, _, rfl, _, rfl, _, rfl, _, _, rfl, rfl, by show 3 ≤ sizeLine; decide, fun t' nt => ?_⟩
      exact q _ eq t' _ (s1.trans (same_new nt)) upd_same
theorem ok_rr (F : Fun K "read_run" "read_run" sRR f fd) (C_read_own : CalR P w K mg base k "read_own" ["bits", "at"] (spRO CB)) (C_back : Cal P w K mg base k "back" ["number"] spBk) (C_err : CalE P w K mg base k "NoBits" CB "at") : FnOk P w K mg base (L2.CX P w) (k + 2) f fd ["bits", "mark", "room"] (spRd K CB .runs) := by
  refine F.okX scRR (fun vs H Q E h => ?_) (fun cdv A outer s H vs Q E hr h => ?_)
  · obtain ⟨l, t, room, m, rfl, _⟩ := h
    rfl
  · obtain ⟨l, t, room, ⟨m1, m2, m3⟩, rfl, ht, bin, big, le, q, no⟩ := h
    refine ⟨_, pss_cons (ps_asg (pv 1) (pg_tup rfl (pgs_cons (pg_name (i := 3) scRR.nd rfl (.inl rfl)) (pgs_cons (pg_name (i := 4) scRR.nd rfl (.inl rfl)) (pgs_cons (pg_name (i := 5) scRR.nd rfl (.inl rfl)) pgs_nil)))))
      (pss_cons (ps_if (PW.pt (pw_and (pt_cmpR op_notN (pv 5) pe_non (nomark _)) (pw_and1 (pt_cmpR op_gt (pv 5) pe_int (nomark _)))))
        (pss_one (ps_ret (pe_tup (pa_cons (pv 3) (pa_cons (pv 4) (pa_cons (pe_op op_sub (pv 5) pe_int) pa_nil))))))
        pss_nil)
      (pss_cons (ps_asg (pe_calR (E := E) C_read_own (hr.mono (by omega)) (by rfl) (passes_call (takes_of rfl rfl rfl rfl) (fun _ _ _ _ z => z)) (pa_cons (pv 0) (pa_cons (pv 3) pa_nil))) (pg_tup rfl (pgs_cons (pg_name (i := 6) scRR.nd rfl (.inl rfl)) (pgs_cons (pg_name (i := 7) scRR.nd rfl (.inl rfl)) pgs_nil))))
      (pss_cons (ps_asg (pe_calR (E := E) C_read_own (hr.mono (by omega)) (by rfl) (passes_call (takes_of rfl rfl rfl rfl) (fun _ _ _ _ z => z)) (pa_cons (pv 0) (pa_cons (pv 7) pa_nil))) (pg_tup rfl (pgs_cons (pg_name (i := 5) scRR.nd rfl (.inl rfl)) (pgs_cons (pg_name (i := 8) scRR.nd rfl (.inl rfl)) pgs_nil))))
      (pss_cons (ps_if (pt_cmpR op_ge (pv 5) (pv 2) (nomark _))
        (pss_one (ps_raise rfl (takes_of rfl rfl rfl rfl) (pm_err C_err (hr.mono (by omega)) (by rfl) (pv 7))))
        pss_nil)
      (pss_one (ps_ret (pe_tup (pa_cons (pv 8) (pa_cons (pe_cal C_back (hr.mono (by omega)) (by rfl) (pa_cons (pv 6) pa_nil)) (pa_cons (pv 5) pa_nil)))))))))), ?_⟩
    refine ⟨_, rfl, t, _, rfl, ht, rfl, _, _, rfl, _, _, rfl, _, _, rfl, rfl, ?_⟩
    -- a code is read
    have more : ¬ 0 < m3.getD 0 → ∀ {TT : Prop}, (rdO l m1 = none → ErA CB E H m1) ∧ (∀ r, rdO l m1 = some r → (rdO l r.2 = none → ErA CB E H r.2) ∧ ∀ q', rdO l r.2 = some q' → (room ≤ ((q'.1 : Nat) : Int) → ErA CB E H r.2) ∧ (¬ room ≤ ((q'.1 : Nat) : Int) → ∀ (t' : Addr) (H' : Hp), Same H H' → H' t' = some (.tup (mkV (q'.2, bk (r.1 : Nat), some ((q'.1 : Nat) : Int)))) → Q (.ref t') H')) := by
      intro c _
      refine ⟨fun e => no m1 ?_, fun r er => ⟨fun e => no r.2 ?_, fun q' eq' => ⟨fun c2 => no r.2 ?_, fun c2 => q _ ?_⟩⟩⟩
      · dsimp only [stM]
        rw [if_neg c, e]
      · dsimp only [stM]
        rw [if_neg c, er]
        dsimp only
        rw [e]
      · dsimp only [stM]
        rw [if_neg c, er]
        dsimp only
        rw [eq']
        dsimp only
        rw [if_pos c2]
      · dsimp only [stM]
        rw [if_neg c, er]
        dsimp only
        rw [eq']
        dsimp only
        rw [if_neg c2]
    by_cases c : 0 < m3.getD 0
    · cases m3 with
      | none => exact absurd c (by decide)
      | some x =>
        have eq : stM .runs l room (m1, m2, some x) = .inr (m1, m2, some (x - 1)) := by
          dsimp only [stM]
          rw [if_pos c]
          rfl
        refine ⟨_, rfl, rfl, true, rfl, if_t ⟨_, rfl, _, _, rfl, rfl, true, congrArg V.bl (decide_eq_true c), if_t ?_⟩⟩
        exact ⟨_, rfl, _, rfl, _, rfl, _, _, rfl, rfl, by show 3 ≤ sizeLine; decide, fun t' nt => q _ eq t' _ (same_new nt) upd_same⟩
    · obtain ⟨n1, go⟩ := more c (TT := True)
      have skip : ∀ {A B : Hp → Prop}, B H → (∃ v, (([some (.str (S l)), some (.ref t), some (.int room), some (.int (m1 : Nat)), some (.int m2), some (vo m3), none, none, none] : L2.St)[5]? = some (some v)) ∧ ((V.non : V) = .non ∧ ∃ c, V.bl (!decide (v = .non)) = .bl c ∧ if c = true then (∃ v, (([some (.str (S l)), some (.ref t), some (.int room), some (.int (m1 : Nat)), some (.int m2), some (vo m3), none, none, none] : L2.St)[5]? = some (some v)) ∧ ∃ a b, v = .int a ∧ (V.int 0) = .int b ∧ ∃ c, V.bl (decide (a > b)) = .bl c ∧ if c = true then A H else B H) else if false = true then A H else B H)) := by
        intro A B hB
        cases m3 with
        | none => exact ⟨_, rfl, rfl, false, rfl, if_f (if_f hB)⟩
        | some x => exact ⟨_, rfl, rfl, true, rfl, if_t ⟨_, rfl, _, _, rfl, rfl, false, congrArg V.bl (decide_eq_false c), if_f hB⟩⟩
      refine skip ?_
      refine ⟨_, rfl, _, rfl, l, m1, rfl, bin, big, le, fun r er u H1 s1 hu => ?_, n1⟩
      obtain ⟨n2, go2⟩ := go r er
      refine ⟨u, _, rfl, SqT.of hu, rfl, _, _, rfl, _, _, rfl, rfl, ?_⟩
      refine ⟨_, rfl, _, rfl, l, r.2, rfl, bin, big, (rdO_lt bin er).2, fun q' eq' u2 H2 s2 hu2 => ?_, fun e => (n2 e).same s1⟩
      obtain ⟨n3, go3⟩ := go2 q' eq'
      refine ⟨u2, _, rfl, SqT.of hu2, rfl, _, _, rfl, _, _, rfl, rfl, ?_⟩
      refine ⟨_, rfl, _, rfl, _, _, rfl, rfl, _, rfl, ite2 (fun g => ?_) (fun g => ?_)⟩
      · exact err_read ⟨_, rfl, fun d H' s' nd hd => n3 (of_decide_eq_true g) d H' ((s1.trans s2).trans s') ((s1.trans s2).free nd) hd⟩ fun {Q Q'} hq ⟨v, e, q⟩ => ⟨v, e, hq _ _ q⟩
      · refine ⟨_, rfl, _, rfl, _, rfl, _, rfl, by show 3 ≤ sizeLine; decide, fun t' nt => ?_⟩
        exact go3 (fun z => g (decide_eq_true z)) t' _ ((s1.trans s2).trans (same_new nt)) upd_same
end
end Tg

namespace Tg
open PySem PySem.Spec PyProof.Rows L2
open SX (S)
abbrev sMB : Stmt := topS 18
abbrev sCC : Stmt := topS 19
theorem scMB : FnScope ["way", "bits", "many", "reader", "marks", "mark", "place"] ["way", "bits", "many"] (defScope sMB) := ⟨rfl, rfl, rfl, by decide +kernel, rfl, by decide +kernel, by decide +kernel⟩
theorem scCC : FnScope ["bits", "at", "width", "many", "end"] ["bits", "at", "width", "many"] (defScope sCC) := ⟨rfl, rfl, rfl, by decide +kernel, rfl, by decide +kernel, by decide +kernel⟩
/-! ### a def in a local name, that may raise -/
def HeldR (P : Program) (w : World) (K : PySem.W.Frag) (mg : Str → Option Value) (base : Heap) (k : Nat) (f : Addr) (sp : Sp) : Prop := ∃ (fd : FuncData) (ps : List Str), FnOk P w K mg base (L2.CX P w) k f fd ps sp ∧ PySem.W.keepIn K (.ref f) = true ∧ Binds K fd ps []
def tCallAX (i : Nat) (T : Addr → Option Sp) (E : XK) (t : TA) : TE := fun σ H Q => ∃ f sp, σ[i]? = some (some (.ref f)) ∧ T f = some sp ∧ t σ H fun vs H1 => sp vs H1 Q E
theorem pe_callAX {X : Cx} {k i : Nat} {x : Str} {E : XK} {e : Expr} {es : List Expr} {p pos : Pos} {t : TA} {T : Addr → Option Sp} (all : ∀ f sp, T f = some sp → HeldR X.prog X.w X.K X.mg X.base k f sp) (lets : Passes (L2.CX X.prog X.w) X E) (hr : Room k X.A) (hN : X.N[i]? = some x) (hv : Vis X.env.scope x) (ha : PA X (e :: es) t)
    (nodebug : (x == ("__debug__" : Str)) = false := by decide) (nocls : (x == ("__classdict__" : Str)) = false := by decide)
    (one : starEach (e :: es) X.env = (false, eval e X.env) :: starEach es X.env := by rfl) (nostar : (backTo pos (starEach es X.env)).any (·.1) = false := by rfl) : PE X (.Call (.Name x p) (e :: es) [] pos) (tCallAX i T E t) := by
  constructor
  rintro pins s σ H Q I ⟨f, sp, at_i, told, read⟩
  obtain ⟨fd, ps, F, kept, binds⟩ := all f sp told
  refine (pe_callL (i := i) (f := f) (sp := sp) (dvs := []) (E := E) F hr hN hv kept binds .nil lets ha nodebug nocls one nostar).run pins s σ H Q I ⟨at_i, ?_⟩
  show t σ H (fun vs H1 => sp (vs ++ []) H1 Q E)
  simp only [List.append_nil]
  exact read
/-- what the written dict of readers holds -/
structure Rds (P : Program) (w : World) (K : PySem.W.Frag) (mg : Str → Option Value) (base : Heap) (k : Nat) (CB R : Addr) where
  fn : Way → Addr
  ex : ∀ W, HeldR P w K mg base k (fn W) (spRd K CB W)
  dct : ∀ W, KDct K w R (Wy.by W).nm (.ref (fn W))
/-- the place at which reading all is refused -/
def badW (W : Way) (l : List Nat) (n : Nat) : Option Nat := match mkN W l n n with
  | .inl p => some p
  | .inr m => if m.1 < l.length then some m.1 else none
def spMB (K : PySem.W.Frag) (CB : Addr) : Sp := fun vs H Q E => ∃ (W : Way) (l : List Nat) (n : Nat), vs = [.str (Wy.by W).nm, .str (S l), .int (n : Nat)] ∧ 0 < n ∧ n ≤ 300 ∧ Bits l ∧ l.length ≤ 60000 ∧
  (badW W l n = none → ∀ (a t0 : Addr) (ts : List Addr) (H' : Hp), Same H H' → H a = none → H' a = some (.lst ((t0 :: ts).map V.ref)) → SqT K H' t0 (mkV (0, 0, none)) → Q (.ref a) H') ∧ (∀ p, badW W l n = some p → ErA CB E H p)
section
variable {P : Program} {w : World} {K : PySem.W.Frag} {mg : Str → Option Value} {base : Heap} {f : Addr} {fd : FuncData} {k : Nat} {CB : Addr}
theorem ok_mb {RD BG : Addr} {t32 : Tok} (F : Fun K "marks_by" "marks_by" sMB f fd) (Z : Rds P w K mg base k CB RD) (C_err : CalE P w K mg base k "NoBits" CB "at") (g_READERS : mg "READERS" = some (.ref RD)) (g_BEGIN : mg "BEGIN" = some (.ref BG)) (hBG : ∀ H, SqT K H BG (mkV (0, 0, none))) (g_SPAN : mg "SPAN" = some (.int 32 t32)) (m_range : mg "range" = none) (m_len : mg "len" = none) :
    FnOk P w K mg base (L2.CX P w) (k + 2) f fd ["way", "bits", "many"] (spMB K CB) := by
  refine F.okX scMB (fun vs H Q E h => ?_) (fun cdv A outer s H vs Q E hr h => ?_)
  · obtain ⟨W, l, n, rfl, _⟩ := h
    rfl
  · obtain ⟨W, l, n, rfl, pos, few, bin, big, q, no⟩ := h
    have HR : ∀ g sp, (fun g => if g = Z.fn W then some (spRd K CB W) else none) g = some sp → HeldR P w K mg base k g sp := fun g sp e => by
      dsimp only at e
      split at e
      · rename_i eg
        subst eg
        cases e
        exact Z.ex W
      · cases e
    refine ⟨_, pss_cons (ps_set (i := 3) scMB.nd rfl (.inl rfl) (pe_ix ix_kdict (pe_glob (v := .ref RD) rfl g_READERS rfl) (pv 0) (fun _ _ => rfl)))
      (pss_cons (ps_set (i := 4) scMB.nd rfl (.inl rfl) (pe_lst pa_nil))
      (pss_cons (ps_set (i := 5) scMB.nd rfl (.inl rfl) (pe_glob (v := .ref BG) rfl g_BEGIN rfl))
      (pss_cons (ps_for (passes_of rfl) rfl (pi_range1 (by rfl) m_range (pa_cons (pv 2) pa_nil)) (pg_name (i := 6) scMB.nd rfl (.inl rfl))
        (pss_cons (ps_if (pt_cmpR op_eq (pe_op op_mod (pv 6) (pe_glob (v := .int 32) rfl g_SPAN ⟨_, rfl⟩)) pe_int (nomark _))
          (pss_one (ps_expr (pe_bm PySem.F.plainAttrs_list PySem.F.slot_list_append PySem.F.type_list_append mt_append (pv 4) (pa_cons (pv 5) pa_nil))))
          pss_nil)
        (pss_one (ps_set (i := 5) scMB.nd rfl (.inl rfl) (pe_callAX (i := 3) (E := E) HR (passes_call (takes_of rfl rfl rfl rfl) (fun _ _ _ _ z => z)) (hr.mono (by omega)) rfl (.inl rfl) (pa_cons (pv 1) (pa_cons (pv 5) (pa_cons (pe_op op_sub (pv 2) (pv 6)) pa_nil))))))))
      (pss_cons (ps_if (pt_cmpR op_lt (pe_ix ix_tup (pv 5) pe_int (fun _ _ => rfl)) (pe_callB call_lenB (by rfl) m_len (by decide +kernel) (pa_cons (pv 1) pa_nil)) (nomark _))
        (pss_one (ps_raise rfl (takes_of rfl rfl rfl rfl) (pm_err C_err (hr.mono (by omega)) (by rfl) (pe_ix ix_tup (pv 5) pe_int (fun _ _ => rfl)))))
        pss_nil)
      (pss_one (ps_ret (pv 4))))))), ?_⟩
    refine ⟨_, rfl, RD, (Wy.by W).nm, .ref (Z.fn W), rfl, rfl, Z.dct W, Nat.zero_le _, fun a na => ?_⟩
    have s1 := same_new (o := .lst []) na
    refine ⟨_, rfl, _, rfl, by omega, by omega, for_range (n := n) (fun i σ Hc => ∃ (z : Option V) (t : Addr) (m : Mrk) (ts : List Addr), σ = [some (.str (Wy.by W).nm), some (.str (S l)), some (.int (n : Nat)), some (.ref (Z.fn W)), some (.ref a), some (.ref t), z] ∧ Same H Hc ∧ Hc a = some (.lst (ts.map V.ref)) ∧ SqT K Hc t (mkV m) ∧ mkN W l n i = .inr m ∧ ts.length ≤ i ∧ (0 < i → ∃ t0 r, ts = t0 :: r ∧ SqT K Hc t0 (mkV (0, 0, none)))) ?_ ?_ ?_⟩
    · exact ⟨none, BG, (0, 0, none), [], rfl, s1, upd_same, hBG _, rfl, Nat.zero_le _, fun h => by omega⟩
    · rintro i σ Hc hi ⟨z, t, m, ts, rfl, sm, hl, ht, hm, lt, beg⟩
      have le := mkN_at bin hm
      -- the turn's second row
      have go : ∀ (ts' : List Addr) (Hd : Hp), Same H Hd → Hd a = some (.lst (ts'.map V.ref)) → SqT K Hd t (mkV m) → (∃ t0 r, ts' = t0 :: r ∧ SqT K Hd t0 (mkV (0, 0, none))) → ts'.length ≤ i + 1 → ∀ Q' : V → Hp → Prop, (∀ (t' : Addr) (H' : Hp) (m' : Mrk), Same H H' → H' a = some (.lst (ts'.map V.ref)) → SqT K H' t' (mkV m') → mkN W l n (i + 1) = .inr m' → ts'.length ≤ i + 1 → (∃ t0 r, ts' = t0 :: r ∧ SqT K H' t0 (mkV (0, 0, none))) → Q' (.ref t') H') →
          spRd K CB W [.str (S l), .ref t, .int ((n : Nat) - (0 + (i : Nat)) : Int)] Hd Q' E := by
        intro ts' Hd s2 hl2 ht2 beg2 lt2 Q' h
        have e : mkN W l n (i + 1) = stM W l (((n : Nat) : Int) - (i : Nat)) m := by
          dsimp only [mkN]
          rw [hm]
        refine ⟨l, t, _, m, by rw [Int.zero_add], ht2, bin, big, le, fun m' em t' H' s3 ht' => ?_, fun p ep => ?_⟩
        · obtain ⟨t0, r, e1, e2⟩ := beg2
          exact h t' H' m' (s2.trans s3) (s3 _ _ hl2) (SqT.of ht') (e.trans em) lt2 ⟨t0, r, e1, sqT_same s3 e2⟩
        · have stop := mkN_stop (e.trans ep) n (by omega)
          refine (no p ?_).same s2
          unfold badW
          rw [stop]
      refine ⟨_, rfl, _, _, rfl, rfl, (by show (0 : Int) < 32; decide), rfl, _, rfl, ite2 (fun g => ?_) (fun g => ?_)⟩
      · refine ⟨_, rfl, .inl ⟨rfl, _, SqL.of hl⟩, _, rfl, a, _, _, rfl, rfl, hl, by rw [List.length_map]; exact small1000 (by omega), ?_⟩
        have kt : KT Hc (upd Hc a (.lst (ts.map V.ref ++ [.ref t]))) := KT.put hl nfix_lst
        have e1 : ts.map V.ref ++ [V.ref t] = (ts ++ [t]).map V.ref := by
          rw [List.map_append]
          rfl
        have beg2 : ∃ t0 r, ts ++ [t] = t0 :: r ∧ SqT K (upd Hc a (.lst (ts.map V.ref ++ [.ref t]))) t0 (mkV (0, 0, none)) := by
          by_cases i0 : 0 < i
          · obtain ⟨t0, r, rfl, h0⟩ := beg i0
            exact ⟨t0, r ++ [t], rfl, sqT_kt kt h0⟩
          · obtain rfl : i = 0 := by omega
            obtain rfl : ts = [] := List.length_eq_zero_iff.mp (by omega)
            cases hm
            exact ⟨t, [], rfl, sqT_kt kt ht⟩
        refine ⟨Z.fn W, _, rfl, if_pos rfl, _, rfl, _, rfl, _, rfl, _, rfl, _, _, rfl, rfl, ?_⟩
        dsimp only [tNil]
        refine go (ts ++ [t]) _ (same_put na sm) (by rw [upd_same, e1]) (sqT_kt kt ht) beg2 (by rw [List.length_append]; exact Nat.succ_le_succ lt) _ fun t' H' m' h1 h2 h3 h4 h5 h6 => ?_
        exact ⟨_, t', m', ts ++ [t], rfl, h1, h2, h3, h4, h5, fun _ => h6⟩
      · have ip : 0 < i := by
          obtain z | z := Nat.eq_zero_or_pos i
          · refine absurd ?_ g
            rw [z]
            rfl
          · exact z
        refine ⟨Z.fn W, _, rfl, if_pos rfl, _, rfl, _, rfl, _, rfl, _, rfl, _, _, rfl, rfl, ?_⟩
        dsimp only [tNil]
        refine go ts _ sm hl ht (beg ip) (by omega) _ fun t' H' m' h1 h2 h3 h4 h5 h6 => ?_
        exact ⟨_, t', m', ts, rfl, h1, h2, h3, h4, h5, fun _ => h6⟩
    · rintro σ Hc ⟨z, t, m, ts, rfl, sm, hl, ht, hm, lt, beg⟩
      refine ⟨_, rfl, t, _, 0, .int (m.1 : Nat), rfl, rfl, ht, rfl, _, rfl, l, rfl, big, _, _, rfl, rfl, _, rfl, ite2 (fun g => ?_) (fun g => ?_)⟩
      · have c : m.1 < l.length := by
          have := of_decide_eq_true g
          omega
        have eb : badW W l n = some m.1 := by
          unfold badW
          rw [hm]
          exact if_pos c
        exact err_read ⟨_, rfl, t, _, 0, .int (m.1 : Nat), rfl, rfl, ht, rfl, fun d H' s' nd hd => no m.1 eb d H' (sm.trans s') (sm.free nd) hd⟩ fun {Q Q'} hq ⟨v, e, a1, b1, c1, d1, e1, e2, e3, e4, q⟩ => ⟨v, e, a1, b1, c1, d1, e1, e2, e3, e4, hq _ _ q⟩
      · have c : ¬ m.1 < l.length := fun z => g (decide_eq_true (by omega))
        have eb : badW W l n = none := by
          unfold badW
          rw [hm]
          exact if_neg c
        obtain ⟨t0, r, rfl, h0⟩ := beg pos
        exact ⟨_, rfl, q eb a t0 r Hc sm na hl h0⟩
/-- where codes of one width are refused by their number alone -/
def ckC (l : List Nat) (a w n : Nat) : Option Nat := if l.length < a + w * n then some (a + (l.length - a) / w * w) else if a + w * n < l.length then some (a + w * n) else none
def spCC (CB : Addr) : Sp := fun vs H Q E => ∃ (l : List Nat) (a w n : Nat), vs = [.str (S l), .int (a : Nat), .int (w : Nat), .int (n : Nat)] ∧ l.length ≤ 60000 ∧ a ≤ l.length ∧ n ≤ 300 ∧ w.log2 < 9000 ∧ (ckC l a w n = none → Q .non H) ∧ (∀ p, ckC l a w n = some p → ErA CB E H p)
theorem ok_cc (F : Fun K "check_codes" "check_codes" sCC f fd) (C_err : CalE P w K mg base k "NoBits" CB "at") (m_len : mg "len" = none) : FnOk P w K mg base (L2.CX P w) (k + 2) f fd ["bits", "at", "width", "many"] (spCC CB) := by
  refine F.okX scCC (fun vs H Q E h => ?_) (fun cdv A outer s H vs Q E hr h => ?_)
  · obtain ⟨l, a, w, n, rfl, _⟩ := h
    rfl
  · obtain ⟨l, a, w, n, rfl, big, le, few, small, q, no⟩ := h
    refine ⟨_, pss_cons (ps_set (i := 4) scCC.nd rfl (.inl rfl) (pe_op op_add (pv 1) (pe_op op_mul (pv 2) (pv 3))))
      (pss_cons (ps_if (pt_cmpR op_gt (pv 4) (pe_callB call_lenB (by rfl) m_len (by decide +kernel) (pa_cons (pv 0) pa_nil)) (nomark _))
        (pss_one (ps_raise rfl (takes_of rfl rfl rfl rfl) (pm_err C_err (hr.mono (by omega)) (by rfl) (pe_op op_add (pv 1) (pe_op op_mul (pe_op op_fdivB (pe_op op_sub (pe_callB call_lenB (by rfl) m_len (by decide +kernel) (pa_cons (pv 0) pa_nil)) (pv 1)) (pv 2)) (pv 2))))))
        pss_nil)
      (pss_one (ps_if (pt_cmpR op_lt (pv 4) (pe_callB call_lenB (by rfl) m_len (by decide +kernel) (pa_cons (pv 0) pa_nil)) (nomark _))
        (pss_one (ps_raise rfl (takes_of rfl rfl rfl rfl) (pm_err C_err (hr.mono (by omega)) (by rfl) (pv 4))))
        pss_nil))), ?_⟩
    have ev : ((a : Nat) : Int) + ((w : Nat) : Int) * ((n : Nat) : Int) = ((a + w * n : Nat) : Int) := by
      rw [Int.natCast_add, Int.natCast_mul]
    refine ⟨_, rfl, _, rfl, _, rfl, _, _, rfl, rfl, .inr ⟨by omega, by omega⟩, _, _, rfl, rfl, ?_⟩
    dsimp only
    rw [ev]
    refine ⟨_, rfl, _, rfl, l, rfl, big, _, _, rfl, rfl, _, rfl, ite2 (fun g => ?_) (fun g => ?_)⟩
    · have c : l.length < a + w * n := by
        have := of_decide_eq_true g
        omega
      have wp : 0 < w := by
        rcases Nat.eq_zero_or_pos w with z | z
        · rw [z, Nat.zero_mul] at c
          omega
        · exact z
      have eb : ckC l a w n = some (a + (l.length - a) / w * w) := if_pos c
      have e1 : ((l.length : Nat) : Int) - ((a : Nat) : Int) = ((l.length - a : Nat) : Int) := by omega
      have e2 : ((a : Nat) : Int) + (((l.length : Nat) : Int) - ((a : Nat) : Int)) / ((w : Nat) : Int) * ((w : Nat) : Int) = ((a + (l.length - a) / w * w : Nat) : Int) := by
        rw [e1, ← Int.natCast_ediv, ← Int.natCast_mul, ← Int.natCast_add]
      have ql : (l.length - a) / w ≤ 60000 := Nat.le_trans (Nat.div_le_self _ _) (by omega)
      refine err_read ⟨_, rfl, _, rfl, l, rfl, big, _, rfl, _, _, rfl, rfl, _, rfl, _, _, rfl, rfl, ⟨by omega, by rw [Int.natAbs_natCast]; exact small⟩, _, rfl, _, _, rfl, rfl, .inl ?_, _, _, rfl, rfl, fun d H' s' nd hd => ?_⟩ ?_
      · rw [e1]
        have e3 : ((l.length - a : Nat) : Int) / ((w : Nat) : Int) = (((l.length - a) / w : Nat) : Int) := (Int.natCast_ediv _ _).symm
        obtain ⟨x, ex⟩ : ∃ x, (l.length - a) / w = x := ⟨_, rfl⟩
        rw [e3, ex]
        rw [ex] at ql
        constructor <;> omega
      · have hd : H' d = some (.xd [("at", .int (((a : Nat) : Int) + (((l.length : Nat) : Int) - ((a : Nat) : Int)) / ((w : Nat) : Int) * ((w : Nat) : Int)))]) := hd
        rw [e2] at hd
        exact no _ eb d H' s' nd hd
      · rintro Q Q' hq ⟨v1, h1, v2, h2, l1, h3, h4, v3, h5, x1, x2, h6, h7, v4, h8, y1, y2, h9, h10, h11, v5, h12, z1, z2, h13, h14, h15, u1, u2, h16, h17, q⟩
        exact ⟨v1, h1, v2, h2, l1, h3, h4, v3, h5, x1, x2, h6, h7, v4, h8, y1, y2, h9, h10, h11, v5, h12, z1, z2, h13, h14, h15, u1, u2, h16, h17, hq _ _ q⟩
    · have c : ¬ l.length < a + w * n := fun z => g (decide_eq_true (by omega))
      refine ⟨_, rfl, _, rfl, l, rfl, big, _, _, rfl, rfl, _, rfl, ite2 (fun g2 => ?_) (fun g2 => ?_)⟩
      · have c2 : a + w * n < l.length := by
          have := of_decide_eq_true g2
          omega
        have eb : ckC l a w n = some (a + w * n) := by
          unfold ckC
          rw [if_neg c, if_pos c2]
        exact err_read ⟨_, rfl, fun d H' s' nd hd => no _ eb d H' s' nd hd⟩ fun {Q Q'} hq ⟨v, e, q⟩ => ⟨v, e, hq _ _ q⟩
      · have c2 : ¬ a + w * n < l.length := fun z => g2 (decide_eq_true (by omega))
        refine q ?_
        unfold ckC
        rw [if_neg c, if_neg c2]
end
end Tg

namespace Tg
open PySem PySem.Spec PyProof.Rows L2
open SX (S)
abbrev sRC : Stmt := topS 20
abbrev sPH : Stmt := topS 21
abbrev NRC : List Str := ["bits", "at", "width", "many", "end", "place"]
theorem scRC : FnScope NRC ["bits", "at", "width", "many"] (defScope sRC) := ⟨rfl, rfl, rfl, by decide +kernel, rfl, by decide +kernel, by decide +kernel⟩
theorem scPH : FnScope ["bits", "many", "least", "at", "width"] ["bits", "many"] (defScope sPH) := ⟨rfl, rfl, rfl, by decide +kernel, rfl, by decide +kernel, by decide +kernel⟩
theorem rgc_is {a e v : Int} {n : Nat} (hv : 0 < v) (v2 : v < 2 ^ 20) (ha : 0 ≤ a ∧ a < 2 ^ 40) (he : -(2 ^ 40) < e ∧ e < 2 ^ 40) (n2 : n < 2 ^ 20) (h1 : n = 0 ∨ a + ((n : Nat) - 1 : Int) * v < e) (h2 : e ≤ a + (n : Nat) * v) : RgC a e v n := by
  have hs : Builtin.Range.rangeSize a e v = (n : Nat) := by
    delta Builtin.Range.rangeSize
    rw [if_pos hv]
    cases n with
    | zero =>
      rw [if_neg (by
        have e0 : ((0 : Nat) : Int) * v = 0 := Int.zero_mul v
        omega)]
      rfl
    | succ m =>
      have em : ((m + 1 : Nat) : Int) * v = (m : Int) * v + v := by
        rw [Int.natCast_add, Int.add_mul]
        show (m : Int) * v + 1 * v = _
        rw [Int.one_mul]
      have m0 : 0 ≤ (m : Int) * v := Int.mul_nonneg (by omega) (by omega)
      have h1' : a + (m : Int) * v < e := by
        rcases h1 with z | z
        · omega
        · rw [show (((m + 1 : Nat) : Nat) : Int) - 1 = (m : Int) by omega] at z
          exact z
      rw [em] at h2
      rw [if_pos (by omega)]
      have d : (e - a - 1) / v = m := by
        refine Int.le_antisymm (Int.lt_add_one_iff.mp (Int.ediv_lt_of_lt_mul hv ?_)) (Int.le_ediv_of_mul_le hv ?_)
        · rw [Int.add_mul, Int.one_mul]
          omega
        · omega
      rw [d]
      omega
  refine ⟨by omega, by omega, ?_, hs⟩
  unfold Builtin.Range.small
  rw [hs]
  simp only [Builtin.Range.rangeFitsLong, Bool.and_eq_true, Bool.or_eq_true, decide_eq_true_eq, beq_iff_eq, if_pos (show v > 0 from hv)]
  refine ⟨⟨⟨⟨⟨?_, ?_⟩, ?_, ?_⟩, ?_, ?_⟩, ?_, ?_⟩, .inr ⟨?_, ?_⟩⟩ <;> omega
/-- how many codes of the width are there, at most n -/
def fitN (l : List Nat) (a w n : Nat) : Nat := if w = 0 then n else min n ((l.length - a) / w)
def cdN (l : List Nat) (a w f : Nat) : List Nat := (List.range f).map fun i => num l (a + i * w) w
theorem zero_codes (n : Nat) : (List.replicate n [V.int 0]).flatten = List.replicate n (V.int 0) := by
  induction n with
  | zero => rfl
  | succ n ih =>
    rw [List.replicate_succ, List.flatten_cons, ih]
    rfl
theorem cdN_zero (l : List Nat) (a n : Nat) : (cdN l a 0 n).map (fun c => V.int ((c : Nat) : Int)) = List.replicate n (V.int 0) := by
  refine List.ext_getElem? fun i => ?_
  unfold cdN
  rw [List.map_map, List.getElem?_map, List.getElem?_replicate]
  by_cases h : i < n
  · rw [if_pos h, List.getElem?_range h]
    rfl
  · rw [if_neg h, List.getElem?_eq_none (by rw [List.length_range]; omega)]
    rfl
section
variable {P : Program} {w : World} {K : PySem.W.Frag} {mg : Str → Option Value} {base : Heap} {f : Addr} {fd : FuncData} {k : Nat} {CB : Addr}
def spRC : Sp := fun vs H Q _ => ∃ (l : List Nat) (a w n : Nat), vs = [.str (S l), .int (a : Nat), .int (w : Nat), .int (n : Nat)] ∧ Bits l ∧ l.length ≤ 60000 ∧ a ≤ l.length ∧ n ≤ 300 ∧ w ≤ 70000 ∧
  ∀ (m : Addr) (H' : Hp), Same H H' → H m = none → H' m = some (.lst ((cdN l a w (fitN l a w n)).map fun c => V.int ((c : Nat) : Int))) → Q (.ref m) H'
theorem ok_rc (F : Fun K "read_codes" "read_codes" sRC f fd) (sd : PySem.W.nsIn K cStatics LimK = some none) (m_len : mg "len" = none) (m_min : mg "min" = none) (m_range : mg "range" = none) (m_int : mg "int" = none) : FnOk P w K mg base CX0 (k + 1) f fd ["bits", "at", "width", "many"] spRC := by
  refine F.ok scRC (fun vs H Q E h => ?_) (fun cdv A outer s H vs Q E hr h => ?_)
  · obtain ⟨l, a, w, n, rfl, _⟩ := h
    rfl
  · obtain ⟨l, a, v, n, rfl, bin, big, le, few, v6, q⟩ := h
    refine ⟨_, pss_cons (ps_if (pt_cmpR op_eq (pv 2) pe_int (nomark _))
        (pss_one (ps_ret (pe_op op_rep (pe_lst (pa_cons pe_int pa_nil)) (pv 3))))
        pss_nil)
      (pss_cons (ps_set (i := 4) scRC.nd rfl (.inl rfl) (pe_callB (call_min2 rfl) (by rfl) m_min (by decide +kernel) (pa_cons (pe_op op_add (pv 1) (pe_op op_mul (pv 2) (pv 3))) (pa_cons (pe_op op_add (pe_op op_sub (pe_callB call_lenB (by rfl) m_len (by decide +kernel) (pa_cons (pv 0) pa_nil)) (pv 2)) pe_int) pa_nil))))
      (pss_one (ps_ret (pe_lc (own := [("place", 5)]) (g := (gName 5)) (tt := tYes) rfl scRC.nd (pi_range3 (by rfl) m_range (pa_cons (pv 1) (pa_cons (pv 4) (pa_cons (pv 2) pa_nil)))) (blkOk_by (own := [("place", 5)]) (N := NRC) (sc := defScope sRC) (by decide +kernel)) (fun _ _ _ _ _ => (pg_name (i := 5) scRC.nd rfl (.inl rfl))) (fun _ _ _ _ _ => pts_nil) (fun _ _ _ _ _ => (pe_callTy (call_int_binL sd) (by rfl) m_int (by decide +kernel) (pa_cons (pe_slice sl_str (pv 0) (po_some (pv 5)) (po_some (pe_op op_add (pv 5) (pv 2)))) (pa_cons pe_int pa_nil)))))))), ?_⟩
    refine ⟨_, rfl, rfl, _, rfl, ite2 (fun g => ?_) (fun g => ?_)⟩
    · have v0 : v = 0 := by
        rw [dec_int] at g
        have := of_decide_eq_true g
        omega
      subst v0
      refine ⟨by show 1 ≤ sizeLine; decide, fun l1 n1 => ?_⟩
      have s1 := same_new (o := .lst [V.int 0]) n1
      refine ⟨_, rfl, l1, _, _, rfl, rfl, upd_same, by omega, by omega, ?_, fun m nm => ?_⟩
      · show 1 * _ ≤ sizeLine
        exact Nat.le_of_lt (small1000 (by omega))
      · refine q m _ (s1.trans (same_new nm)) (s1.free nm) ?_
        have ef : fitN l a 0 n = n := if_pos rfl
        rw [upd_same, Int.toNat_natCast, ef, cdN_zero]
        exact congrArg (fun x => some (HO.lst x)) (zero_codes n)
    · have vp : 0 < v := by
        have : ¬ v = 0 := fun z => g (by
          rw [dec_int]
          exact decide_eq_true (by omega))
        omega
      obtain ⟨fn, efn⟩ : ∃ fn, fitN l a v n = fn := ⟨_, rfl⟩
      rw [efn] at q
      unfold fitN at efn
      rw [if_neg (by omega)] at efn
      obtain ⟨x, ex⟩ : ∃ x, (l.length - a) / v = x := ⟨_, rfl⟩
      have x1 : x * v ≤ l.length - a := by
        rw [← ex]
        exact Nat.div_mul_le_self _ _
      have x2 : l.length - a < x * v + v := by
        rw [← ex]
        have := Nat.lt_div_mul_add (a := l.length - a) vp
        omega
      rw [ex] at efn
      have nv : n * v ≤ 300 * 70000 := Nat.mul_le_mul few v6
      have cast : ((n * v : Nat) : Int) = (v : Int) * (n : Int) := by rw [Int.natCast_mul, Int.mul_comm]
      have fv : fn * v ≤ n * v := Nat.mul_le_mul_right _ (by omega)
      have fx : fn * v ≤ x * v := Nat.mul_le_mul_right _ (by omega)
      refine ⟨_, rfl, _, rfl, _, rfl, _, _, rfl, rfl, .inl ⟨by omega, by omega⟩, _, _, rfl, rfl, ?_⟩
      refine ⟨_, rfl, l, rfl, big, _, rfl, _, _, rfl, rfl, _, _, rfl, rfl, _, _, rfl, ?_⟩
      dsimp only
      obtain ⟨e, ee⟩ : ∃ e : Int, (if ((l.length : Nat) : Int) - (v : Nat) + 1 < (a : Nat) + (v : Nat) * (n : Nat) then ((l.length : Nat) : Int) - (v : Nat) + 1 else (a : Nat) + (v : Nat) * (n : Nat)) = e := ⟨_, rfl⟩
      rw [ee]
      have eb : e ≤ (a : Nat) + (fn : Nat) * (v : Nat) ∧ (fn = 0 ∨ ((a : Nat) : Int) + ((fn : Nat) - 1 : Int) * (v : Nat) < e) ∧ -(2 ^ 40) < e ∧ e < 2 ^ 40 := by
        have c2 : ((fn : Nat) : Int) * (v : Nat) = ((fn * v : Nat) : Int) := by rw [Int.natCast_mul]
        rw [Int.sub_mul, c2, Int.one_mul]
        rw [← cast] at ee
        rcases Nat.lt_or_ge x n with h | h
        · obtain rfl : fn = x := by omega
          have h2 : fn * v + v ≤ n * v := by
            have := Nat.mul_le_mul_right v (show fn + 1 ≤ n from h)
            rw [Nat.succ_mul] at this
            exact this
          split at ee <;> omega
        · obtain rfl : fn = n := by omega
          split at ee <;> omega
      refine ⟨_, rfl, _, rfl, _, rfl, _, _, _, fn, rfl, rgc_is (by omega) (by omega) ⟨by omega, by omega⟩ eb.2.2 (by omega) eb.2.1 eb.1, fun D nD => lc_mapC (n := fn) ((cdN l a v fn).map fun c => V.int ((c : Nat) : Int)) (by unfold cdN; rw [List.length_map, List.length_map, List.length_range]) nD (small1000 (by omega)) (fun i y Hc Q' hi hy sm q' => ?_) fun H' sm hD => q D H' sm nD hD⟩
      unfold cdN at hy
      rw [List.map_map, List.getElem?_map, List.getElem?_range hi] at hy
      cases hy
      have iv : i * v + v ≤ fn * v := by
        have := Nat.mul_le_mul_right v (show i + 1 ≤ fn from hi)
        rw [Nat.succ_mul] at this
        exact this
      have ep : ((a : Nat) : Int) + ((i : Nat) : Int) * ((v : Nat) : Int) = ((a + i * v : Nat) : Int) := by
        rw [Int.natCast_add, Int.natCast_mul]
      have ep2 : ((a + i * v : Nat) : Int) + ((v : Nat) : Int) = ((a + i * v + v : Nat) : Int) := by omega
      refine ⟨rfl, _, rfl, _, rfl, ?_⟩
      refine ⟨_, rfl, _, rfl, _, rfl, _, _, rfl, rfl, _, rfl, S l, rfl, by rw [SX.S_len]; exact fit60 big, ?_⟩
      rw [ep, ep2, cut_S l (by omega) (by omega), Nat.add_sub_cancel_left]
      refine ⟨_, rfl, (fun z => ?_), (fun c hc => bin c (List.mem_of_mem_drop (List.mem_of_mem_take hc))), q' Hc (Same.refl _)⟩
      have := congrArg List.length z
      rw [List.length_take, List.length_drop, List.length_nil] at this
      omega
/-! ### the head of plain bits -/
def spPH (CB : Addr) : Sp := fun vs H Q E => ∃ (l : List Nat) (n : Nat), vs = [.str (S l), .int (n : Nat)] ∧ Bits l ∧ l.length ≤ 8900 ∧ n ≤ 300 ∧
  (∀ r, hdP l = .inr r → ckC l r.1 r.2.1 n = none → ∀ (t : Addr) (H' : Hp), Same H H' → H' t = some (.tup [.int (r.1 : Nat), .int (r.2.1 : Nat), .int r.2.2]) → Q (.ref t) H') ∧
  (∀ p, (hdP l = .inl p ∨ ∃ r, hdP l = .inr r ∧ ckC l r.1 r.2.1 n = some p) → ErA CB E H p)
theorem ok_ph (F : Fun K "plain_head" "plain_head" sPH f fd) (C_read_own : CalR P w K mg base k "read_own" ["bits", "at"] (spRO CB)) (C_back : Cal P w K mg base k "back" ["number"] spBk) (C_check_codes : CalR P w K mg base k "check_codes" ["bits", "at", "width", "many"] (spCC CB)) : FnOk P w K mg base (L2.CX P w) (k + 1) f fd ["bits", "many"] (spPH CB) := by
  refine F.okX scPH (fun vs H Q E h => ?_) (fun cdv A outer s H vs Q E hr h => ?_)
  · obtain ⟨l, n, rfl, _⟩ := h
    rfl
  · obtain ⟨l, n, rfl, bin, big, few, q, no⟩ := h
    refine ⟨_, pss_cons (ps_asg (pe_calR (E := E) C_read_own (hr.mono (by omega)) (by rfl) (passes_call (takes_of rfl rfl rfl rfl) (fun _ _ _ _ z => z)) (pa_cons (pv 0) (pa_cons pe_int pa_nil))) (pg_tup rfl (pgs_cons (pg_name (i := 2) scPH.nd rfl (.inl rfl)) (pgs_cons (pg_name (i := 3) scPH.nd rfl (.inl rfl)) pgs_nil))))
      (pss_cons (ps_asg (pe_calR (E := E) C_read_own (hr.mono (by omega)) (by rfl) (passes_call (takes_of rfl rfl rfl rfl) (fun _ _ _ _ z => z)) (pa_cons (pv 0) (pa_cons (pv 3) pa_nil))) (pg_tup rfl (pgs_cons (pg_name (i := 4) scPH.nd rfl (.inl rfl)) (pgs_cons (pg_name (i := 3) scPH.nd rfl (.inl rfl)) pgs_nil))))
      (pss_cons (ps_expr (pe_calR (E := E) C_check_codes (hr.mono (by omega)) (by rfl) (passes_call (takes_of rfl rfl rfl rfl) (fun _ _ _ _ z => z)) (pa_cons (pv 0) (pa_cons (pv 3) (pa_cons (pv 4) (pa_cons (pv 1) pa_nil))))))
      (pss_one (ps_ret (pe_tup (pa_cons (pv 3) (pa_cons (pv 4) (pa_cons (pe_cal C_back (hr.mono (by omega)) (by rfl) (pa_cons (pv 2) pa_nil)) pa_nil)))))))), ?_⟩
    refine ⟨_, rfl, l, 0, rfl, bin, by omega, Nat.zero_le _, fun r er u H1 s1 hu => ?_, fun e => no 0 (.inl ?_)⟩
    · refine ⟨u, _, rfl, SqT.of hu, rfl, _, _, rfl, _, _, rfl, rfl, ?_⟩
      have r2 := (rdO_lt bin er).2
      refine ⟨_, rfl, _, rfl, l, r.2, rfl, bin, by omega, r2, fun q' eq' u2 H2 s2 hu2 => ?_, fun e => (no r.2 (.inl ?_)).same s1⟩
      · refine ⟨u2, _, rfl, SqT.of hu2, rfl, _, _, rfl, _, _, rfl, rfl, ?_⟩
        have q2 := (rdO_lt bin eq').2
        have eh : hdP l = .inr (q'.2, q'.1, bk (r.1 : Nat)) := by
          unfold hdP
          rw [er]
          dsimp only
          rw [eq']
        refine ⟨_, rfl, _, rfl, _, rfl, _, rfl, l, q'.2, q'.1, n, rfl, by omega, q2, few, Nat.lt_of_le_of_lt (rdO_log bin eq') (by omega), fun ec => ?_, fun p ec => (no p (.inr ⟨_, eh, ec⟩)).same (s1.trans s2)⟩
        refine ⟨_, rfl, _, rfl, _, rfl, _, rfl, by show 3 ≤ sizeLine; decide, fun t nt => ?_⟩
        exact q _ eh ec t _ ((s1.trans s2).trans (same_new nt)) upd_same
      · unfold hdP
        rw [er]
        dsimp only
        rw [e]
    · unfold hdP
      rw [e]
end
end Tg

namespace Tg
open PySem PySem.Spec PyProof.Rows L2
open SX (S)
/-! ### the head of bits with a book -/
abbrev sBH : Stmt := topS 22
theorem scBH : FnScope ["bits", "many", "last", "at", "least", "book", "gap", "width", "place", "code"] ["bits", "many"] (defScope sBH) := ⟨rfl, rfl, rfl, by decide +kernel, rfl, by decide +kernel, by decide +kernel⟩
def ahead (ys : List Int) : Nat ⊕ (Nat × List Int) → Nat ⊕ (Nat × List Int)
  | .inl p => .inl p
  | .inr (b, zs) => .inr (b, ys ++ zs)
theorem ahead_nil (r : Nat ⊕ (Nat × List Int)) : ahead [] r = r := by
  cases r with
  | inl p => rfl
  | inr z => rfl
theorem ahead_more (ys : List Int) (x : Int) (r : Nat ⊕ (Nat × List Int)) : ahead ys (ahead [x] r) = ahead (ys ++ [x]) r := by
  cases r with
  | inl p => rfl
  | inr z => exact congrArg (fun s => Sum.inr (z.1, s)) (List.append_assoc ys [x] z.2).symm
theorem gps_next {l : List Nat} {n a : Nat} {x : Int} {r : Nat × Nat} (h : rdO l a = some r) : gps l (n + 1) a x = ahead [x + ((r.1 : Nat) : Int) + 1] (gps l n r.2 (x + ((r.1 : Nat) : Int) + 1)) := by
  conv => lhs; unfold gps
  rw [h]
  dsimp only
  cases gps l n r.2 (x + ((r.1 : Nat) : Int) + 1) with
  | inl p => rfl
  | inr z => rfl
theorem gps_none {l : List Nat} {n a : Nat} {x : Int} (h : rdO l a = none) : gps l (n + 1) a x = .inl a := by
  unfold gps
  rw [h]
def muA : L2.St → Hp → Nat := fun σ _ => match σ[3]? with
  | some (some (V.int a)) => (60000 - a).toNat
  | _ => 0
/-- where the codes of a book are refused -/
def badK (l : List Nat) (a last n : Nat) : Option Nat := match (cdN l a (blen last) (fitN l a (blen last) n)).findIdx? (fun c => decide (last < c)) with
  | some i => some (a + i * blen last)
  | none => ckC l a (blen last) n
section
variable {P : Program} {w : World} {K : PySem.W.Frag} {mg : Str → Option Value} {base : Heap} {f : Addr} {fd : FuncData} {k : Nat} {CB : Addr}
def spBH (CB : Addr) : Sp := fun vs H Q E => ∃ (l : List Nat) (n : Nat), vs = [.str (S l), .int (n : Nat)] ∧ Bits l ∧ l.length ≤ 8900 ∧ n ≤ 300 ∧
  (∀ r, hdK l = .inr r → badK l r.1 r.2.1 n = none → ∀ (t b : Addr) (H' : Hp), Same H H' → H b = none → H' t = some (.tup [.int (r.1 : Nat), .int (blen r.2.1 : Nat), .ref b]) → NL H' b r.2.2 → Q (.ref t) H') ∧
  (∀ p, (hdK l = .inl p ∨ ∃ r, hdK l = .inr r ∧ badK l r.1 r.2.1 n = some p) → ErA CB E H p)
theorem ok_bh (F : Fun K "book_head" "book_head" sBH f fd) (C_read_own : CalR P w K mg base k "read_own" ["bits", "at"] (spRO CB)) (C_back : Cal P w K mg base k "back" ["number"] spBk) (C_check_codes : CalR P w K mg base k "check_codes" ["bits", "at", "width", "many"] (spCC CB)) (C_read_codes : Cal P w K mg base k "read_codes" ["bits", "at", "width", "many"] spRC) (C_err : CalE P w K mg base k "NoBits" CB "at") (m_len : mg "len" = none) (m_enumerate : mg "enumerate" = none) : FnOk P w K mg base (L2.CX P w) (k + 2) f fd ["bits", "many"] (spBH CB) := by
  refine F.okX scBH (fun vs H Q E h => ?_) (fun cdv A outer s H vs Q E hr h => ?_)
  · obtain ⟨l, n, rfl, _⟩ := h
    rfl
  · obtain ⟨l, n, rfl, bin, big, few, q, no⟩ := h
    refine ⟨_, pss_cons (ps_asg (pe_calR (E := E) C_read_own (hr.mono (by omega)) (by rfl) (passes_call (takes_of rfl rfl rfl rfl) (fun _ _ _ _ z => z)) (pa_cons (pv 0) (pa_cons pe_int pa_nil))) (pg_tup rfl (pgs_cons (pg_name (i := 2) scBH.nd rfl (.inl rfl)) (pgs_cons (pg_name (i := 3) scBH.nd rfl (.inl rfl)) pgs_nil))))
      (pss_cons (ps_asg (pe_calR (E := E) C_read_own (hr.mono (by omega)) (by rfl) (passes_call (takes_of rfl rfl rfl rfl) (fun _ _ _ _ z => z)) (pa_cons (pv 0) (pa_cons (pv 3) pa_nil))) (pg_tup rfl (pgs_cons (pg_name (i := 4) scBH.nd rfl (.inl rfl)) (pgs_cons (pg_name (i := 3) scBH.nd rfl (.inl rfl)) pgs_nil))))
      (pss_cons (ps_set (i := 5) scBH.nd rfl (.inl rfl) (pe_lst (pa_cons (pe_cal C_back (hr.mono (by omega)) (by rfl) (pa_cons (pv 4) pa_nil)) pa_nil)))
      (pss_cons (ps_while (passes_of rfl) (pt_cmpR op_le (pe_callB call_len_seq (by rfl) m_len (by decide +kernel) (pa_cons (pv 5) pa_nil)) (pv 2) (nomark _))
        (pss_cons (ps_asg (pe_calR (E := E) C_read_own (hr.mono (by omega)) (by rfl) (passes_call (takes_of rfl rfl rfl rfl) (fun _ _ _ _ z => z)) (pa_cons (pv 0) (pa_cons (pv 3) pa_nil))) (pg_tup rfl (pgs_cons (pg_name (i := 6) scBH.nd rfl (.inl rfl)) (pgs_cons (pg_name (i := 3) scBH.nd rfl (.inl rfl)) pgs_nil))))
        (pss_one (ps_expr (pe_bm PySem.F.plainAttrs_list PySem.F.slot_list_append PySem.F.type_list_append mt_append (pv 5) (pa_cons (pe_op op_add (pe_op op_add (pe_ix ix_list (pv 5) (pe_un un_neg pe_int) (fun _ _ => rfl)) (pv 6)) pe_int) pa_nil))))))
      (pss_cons (ps_set (i := 7) scBH.nd rfl (.inl rfl) (pe_bits (pv 2)))
      (pss_cons (ps_for (passes_of rfl) rfl (pi_enum (by rfl) m_enumerate (pa_cons (pe_cal C_read_codes (hr.mono (by omega)) (by rfl) (pa_cons (pv 0) (pa_cons (pv 3) (pa_cons (pv 7) (pa_cons (pv 1) pa_nil))))) pa_nil)) (pg_tup rfl (pgs_cons (pg_name (i := 8) scBH.nd rfl (.inl rfl)) (pgs_cons (pg_name (i := 9) scBH.nd rfl (.inl rfl)) pgs_nil)))
        (pss_one (ps_if (pt_cmpR op_gt (pv 9) (pv 2) (nomark _))
          (pss_one (ps_raise rfl (takes_of rfl rfl rfl rfl) (pm_err C_err (hr.mono (by omega)) (by rfl) (pe_op op_add (pv 3) (pe_op op_mul (pv 8) (pv 7))))))
          pss_nil)))
      (pss_cons (ps_expr (pe_calR (E := E) C_check_codes (hr.mono (by omega)) (by rfl) (passes_call (takes_of rfl rfl rfl rfl) (fun _ _ _ _ z => z)) (pa_cons (pv 0) (pa_cons (pv 3) (pa_cons (pv 7) (pa_cons (pv 1) pa_nil))))))
      (pss_one (ps_ret (pe_tup (pa_cons (pv 3) (pa_cons (pv 7) (pa_cons (pv 5) pa_nil)))))))))))), ?_⟩
    refine ⟨_, rfl, l, 0, rfl, bin, by omega, Nat.zero_le _, fun r er u H1 s1 hu => ?_, fun e => no 0 (.inl (by unfold hdK; rw [e]))⟩
    refine ⟨u, _, rfl, SqT.of hu, rfl, _, _, rfl, _, _, rfl, rfl, ?_⟩
    have r2 := (rdO_lt bin er).2
    refine ⟨_, rfl, _, rfl, l, r.2, rfl, bin, by omega, r2, fun q' eq' u2 H2 s2 hu2 => ?_, fun e => (no r.2 (.inl (by unfold hdK; rw [er]; dsimp only; rw [e]))).same s1⟩
    refine ⟨u2, _, rfl, SqT.of hu2, rfl, _, _, rfl, _, _, rfl, rfl, ?_⟩
    have q2 := (rdO_lt bin eq').2
    refine ⟨_, rfl, _, rfl, by show 1 ≤ sizeLine; decide, fun b nb => ?_⟩
    have s12 := s1.trans s2
    have s3 := same_new (o := .lst [V.int (bk (q'.1 : Nat))]) nb
    obtain ⟨x0, ex0⟩ : ∃ x0, bk (q'.1 : Nat) = x0 := ⟨_, rfl⟩
    have eh1 : ∀ p, gps l r.1 q'.2 x0 = .inl p → hdK l = .inl p := fun p ez => by
      unfold hdK
      rw [er]
      dsimp only
      rw [eq']
      dsimp only
      rw [ex0, ez]
    have eh2 : ∀ b ys, gps l r.1 q'.2 x0 = .inr (b, ys) → hdK l = .inr (b, r.1, x0 :: ys) := fun b ys ez => by
      unfold hdK
      rw [er]
      dsimp only
      rw [eq']
      dsimp only
      rw [ex0, ez]
    rw [ex0] at s3 ⊢
    refine while_by (fun σ Hc => ∃ (i a : Nat) (ys : List Int) (x : Int) (z : Option V), σ = [some (.str (S l)), some (.int (n : Nat)), some (.int (r.1 : Nat)), some (.int (a : Nat)), some (.int (q'.1 : Nat)), some (.ref b), z, none, none, none] ∧ i ≤ r.1 ∧ ys.length = i ∧ i ≤ a ∧ a ≤ l.length ∧ Same H Hc ∧ Hc b = some (.lst ((x0 :: ys).map V.int)) ∧ (∃ pre, x0 :: ys = pre ++ [x]) ∧ gps l r.1 q'.2 x0 = ahead ys (gps l (r.1 - i) a x)) muA ?_ ?_ ?_
    · refine ⟨0, q'.2, [], x0, none, rfl, Nat.zero_le _, rfl, Nat.zero_le _, q2, s12.trans s3, upd_same, ⟨[], rfl⟩, ?_⟩
      rw [ahead_nil, Nat.sub_zero]
    · rintro σ Hc ⟨i, a, ys, x, z, rfl, ir, ly, ia, al, sm, hl, ⟨pre, ep⟩, eg⟩
      have lt : ((x0 :: ys).map V.int).length = i + 1 := by
        rw [List.length_map, List.length_cons, ly]
      refine ⟨_, rfl, b, _, rfl, .inl (SqL.of hl), _, rfl, _, _, rfl, rfl, _, rfl, ite2 (fun g => ?_) (fun g => ?_)⟩
      · have g1 : i < r.1 := by
          have := of_decide_eq_true g
          rw [lt] at this
          omega
        obtain ⟨k, ek⟩ : ∃ k, r.1 - i = k + 1 := ⟨r.1 - i - 1, by omega⟩
        rw [ek] at eg
        refine ⟨_, rfl, _, rfl, l, a, rfl, bin, by omega, al, fun r3 er3 u3 H4 s4 hu3 => ?_, fun e => (no a (.inl (eh1 a (by rw [eg, gps_none e]; rfl)))).same sm⟩
        refine ⟨u3, _, rfl, SqT.of hu3, rfl, _, _, rfl, _, _, rfl, rfl, ?_⟩
        have hl4 := s4 _ _ hl
        obtain ⟨a3, l3⟩ := rdO_lt bin er3
        refine ⟨_, rfl, .inl ⟨rfl, _, SqL.of hl4⟩, _, rfl, 1, rfl, b, _, -1, .int x, rfl, rfl, SqL.of hl4, (by rw [ep, List.map_append]; exact atI_last _ _), _, rfl, _, _, rfl, rfl, _, _, rfl, rfl, b, _, _, rfl, rfl, hl4, Nat.lt_of_le_of_lt (show _ ≤ 9000 by omega) (by decide), ?_⟩
        refine ⟨⟨i + 1, r3.2, ys ++ [x + ((r3.1 : Nat) : Int) + 1], x + ((r3.1 : Nat) : Int) + 1, some (.int (r3.1 : Nat)), rfl, by omega, by rw [List.length_append, ly]; rfl, by omega, l3, same_put (s12.free nb) (sm.trans s4), ?_, ⟨x0 :: ys, rfl⟩, ?_⟩, ?_⟩
        · rw [upd_same, ← List.cons_append, List.map_append]
          rfl
        · rw [eg, gps_next er3, ahead_more, show r.1 - (i + 1) = k by omega]
        · show (60000 - ((r3.2 : Nat) : Int)).toNat < (60000 - ((a : Nat) : Int)).toNat
          omega
      · have g1 : i = r.1 := by
          have : ¬ ((((x0 :: ys).map V.int).length : Nat) : Int) ≤ ((r.1 : Nat) : Int) := fun z => g (decide_eq_true z)
          rw [lt] at this
          omega
        subst g1
        have eh : hdK l = .inr (a, r.1, x0 :: ys) := eh2 a ys (by
          rw [eg, Nat.sub_self]
          show Sum.inr (a, ys ++ []) = _
          rw [List.append_nil])
        obtain ⟨v, ev⟩ : ∃ v, blen r.1 = v := ⟨_, rfl⟩
        have v9 : v ≤ 8901 := by
          rw [← ev]
          unfold blen
          have := rdO_log bin er
          split <;> omega
        have ew : Builtin.Int.intBits ((r.1 : Nat) : Int) = (v : Nat) := by
          rw [bits_nat (by omega), ← ev]
          rfl
        refine ⟨_, rfl, _, rfl, ?_⟩
        rw [ew]
        refine ⟨_, rfl, _, rfl, _, rfl, _, rfl, l, a, v, n, rfl, bin, by omega, al, few, by omega, fun m H5 s5 nm hm => ?_⟩
        obtain ⟨cs, ecs⟩ : ∃ cs, cdN l a v (fitN l a v n) = cs := ⟨_, rfl⟩
        rw [ecs] at hm
        have lcs : cs.length ≤ n := by
          rw [← ecs]
          unfold cdN
          (rw [List.length_map]; rw [List.length_range])
          unfold fitN
          split <;> omega
        have sm5 := sm.trans s5
        have ebad : badK l a r.1 n = match cs.findIdx? (fun c => decide (r.1 < c)) with
            | some i => some (a + i * v)
            | none => ckC l a v n := by
          unfold badK
          rw [ev, ecs]
        refine ⟨m, _, rfl, SqL.of hm, for_enumL (xs := cs.map fun c => V.int ((c : Nat) : Int)) (fun i σ Hd => ∃ z1 z2 z3, σ = [some (.str (S l)), some (.int (n : Nat)), some (.int (r.1 : Nat)), some (.int (a : Nat)), some (.int (q'.1 : Nat)), some (.ref b), z1, some (.int (v : Nat)), z2, z3] ∧ Same H5 Hd ∧ ∀ j c, j < i → cs[j]? = some c → c ≤ r.1) ?_ ?_ ?_ ?_⟩
        · exact ⟨_, _, _, rfl, Same.refl _, fun j c h => by omega⟩
        · rintro i σ Hd _ ⟨_, _, _, rfl, sd, _⟩
          exact SqL.of (sd _ _ hm)
        · rintro i x T σ Hd ex ⟨_, _, _, rfl, sd, ok⟩ nT
          rw [List.getElem?_map] at ex
          obtain ⟨c, ec, rfl⟩ := Option.map_eq_some_iff.mp ex
          have sT := same_new (o := .tup [.int (i : Nat), .int ((c : Nat) : Int)]) nT
          refine ⟨T, _, rfl, SqT.of upd_same, rfl, _, _, rfl, _, _, rfl, rfl, _, rfl, _, rfl, _, _, rfl, rfl, _, rfl, ite2 (fun g => ?_) (fun g => ?_)⟩
          · have over : r.1 < c := by
              have := of_decide_eq_true g
              omega
            obtain ⟨li, ei⟩ := List.getElem?_eq_some_iff.mp ec
            have fi : cs.findIdx? (fun c => decide (r.1 < c)) = some i := by
              rw [List.findIdx?_eq_some_iff_getElem]
              refine ⟨li, decide_eq_true (by rw [ei]; exact over), fun j hj => ?_⟩
              have := ok j _ hj (List.getElem?_eq_getElem (by omega))
              rw [decide_eq_false (by (omega))]
              decide
            have eb : badK l a r.1 n = some (a + i * v) := by
              rw [ebad, fi]
            have ea : ((a : Nat) : Int) + ((i : Nat) : Int) * ((v : Nat) : Int) = ((a + i * v : Nat) : Int) := by
              rw [Int.natCast_add, Int.natCast_mul]
            refine err_read ⟨_, rfl, _, rfl, _, rfl, _, _, rfl, rfl, .inl ⟨by omega, by omega⟩, _, _, rfl, rfl, fun d H' s' nd hd => ?_⟩ ?_
            · have hd : H' d = some (.xd [("at", .int (((a : Nat) : Int) + ((i : Nat) : Int) * ((v : Nat) : Int)))]) := hd
              rw [ea] at hd
              have sA := (sm5.trans sd).trans sT
              exact no _ (.inr ⟨_, eh, eb⟩) d H' (sA.trans s') (sA.free nd) hd
            · rintro Q Q' hq ⟨v1, h1, v2, h2, v3, h3, x1, x2, h4, h5, h6, y1, y2, h7, h8, q⟩
              exact ⟨v1, h1, v2, h2, v3, h3, x1, x2, h4, h5, h6, y1, y2, h7, h8, hq _ _ q⟩
          · have fine : c ≤ r.1 := by
              have : ¬ (((c : Nat) : Int) > ((r.1 : Nat) : Int)) := fun z => g (decide_eq_true z)
              omega
            refine ⟨_, _, _, rfl, sd.trans sT, fun j c' hj e => ?_⟩
            obtain h | h := Nat.lt_or_ge j i
            · exact ok j c' h e
            · obtain rfl : j = i := by omega
              rw [ec] at e
              cases e
              exact fine
        · rintro σ Hd ⟨_, _, _, rfl, sd, ok⟩
          rw [List.length_map] at ok
          have fi : cs.findIdx? (fun c => decide (r.1 < c)) = none := by
            rw [List.findIdx?_eq_none_iff]
            intro c hc
            obtain ⟨j, lj, ej⟩ := List.mem_iff_getElem.mp hc
            have := ok j c lj (by rw [List.getElem?_eq_getElem lj, ej])
            exact decide_eq_false (by (omega))
          rw [fi] at ebad
          have ebad : badK l a r.1 n = ckC l a v n := ebad
          have sA := sm5.trans sd
          refine ⟨_, rfl, _, rfl, _, rfl, _, rfl, l, a, v, n, rfl, by omega, al, few, ?_, fun ec => ?_, fun p ec => (no p (.inr ⟨_, eh, ebad.trans ec⟩)).same sA⟩
          · by_cases c : v = 0
            · rw [c, show Nat.log2 0 = 0 by decide +kernel]
              decide
            · exact Nat.lt_of_lt_of_le ((Nat.log2_lt c).mpr (Nat.lt_of_le_of_lt v9 (show 8901 < 2 ^ 14 by decide))) (by decide)
          · refine ⟨_, rfl, _, rfl, _, rfl, by show 3 ≤ sizeLine; decide, fun t nt => ?_⟩
            have sf := same_new (o := .tup [.int (a : Nat), .int (v : Nat), .ref b]) nt
            have := q _ eh (ebad.trans ec) t b _ (sA.trans sf) (s12.free nb) (by rw [ev]; exact upd_same) (sf _ _ (sd _ _ (s5 _ _ hl)))
            exact this
    · rintro σ Hc Q1 Q2 h ⟨_, r, p, ys, e, sq, z⟩
      obtain ⟨_, r2, _, _, e3, e4, bb, e5, z⟩ := z
      exact ⟨_, r, p, ys, e, sq, _, r2, _, _, e3, e4, bb, e5, h _ _ z⟩
end
end Tg

namespace Tg
open PySem PySem.Spec PyProof.Rows L2
open SX (S)
/-! ### guide_of, Column(..), read_column -/
abbrev sGO : Stmt := topS 23
abbrev sRCo : Stmt := topS 27
abbrev sCI : Stmt := inCls (topS 24) 0
abbrev sCL : Stmt := inCls (topS 24) 2
theorem scGO : FnScope ["way", "bits", "many"] ["way", "bits", "many"] (defScope sGO) := ⟨rfl, rfl, rfl, by decide +kernel, rfl, by decide +kernel, by decide +kernel⟩
theorem scRCo : FnScope ["way", "bits", "many"] ["way", "bits", "many"] (defScope sRCo) := ⟨rfl, rfl, rfl, by decide +kernel, rfl, by decide +kernel, by decide +kernel⟩
theorem scCI : FnScope ["self", "way", "bits", "many"] ["self", "way", "bits", "many"] (defScope sCI) := ⟨rfl, rfl, rfl, by decide +kernel, rfl, by decide +kernel, by decide +kernel⟩
theorem scCL : FnScope ["self"] ["self"] (defScope sCL) := ⟨rfl, rfl, rfl, by decide +kernel, rfl, by decide +kernel, by decide +kernel⟩
/-- the place at which bits are refused as such a column's -/
def badG (y : Wy) (l : List Nat) (n : Nat) : Option Nat := if n = 0 then (if l = [] then none else some 0) else match y with
  | .plain => match hdP l with
    | .inl p => some p
    | .inr r => ckC l r.1 r.2.1 n
  | .book => match hdK l with
    | .inl p => some p
    | .inr r => badK l r.1 r.2.1 n
  | .by W => badW W l n
/-- what a column keeps to read its bits -/
def GdR (K : PySem.W.Frag) (H : Hp) (l : List Nat) (n : Nat) (q : Addr) : Wy → Prop
  | .plain => ∃ r, hdP l = .inr r ∧ SqT K H q [.int (r.1 : Nat), .int (r.2.1 : Nat), .int r.2.2]
  | .book => ∃ r b, hdK l = .inr r ∧ SqT K H q [.int (r.1 : Nat), .int (blen r.2.1 : Nat), .ref b] ∧ NL H b r.2.2
  | .by _ => ∃ (t0 : Addr) (ts : List Addr), H q = some (.lst ((t0 :: ts).map V.ref)) ∧ SqT K H t0 (mkV (0, 0, none))
theorem GdR.same {K : PySem.W.Frag} {H H' : Hp} {l : List Nat} {n : Nat} {q : Addr} {y : Wy} (h : GdR K H l n q y) (s : Same H H') : GdR K H' l n q y := by
  cases y with
  | plain =>
    obtain ⟨r, e, h⟩ := h
    exact ⟨r, e, sqT_same s h⟩
  | book =>
    obtain ⟨r, b, e, h, hb⟩ := h
    exact ⟨r, b, e, sqT_same s h, s _ _ hb⟩
  | «by» W =>
    obtain ⟨t0, ts, h, h0⟩ := h
    exact ⟨t0, ts, s _ _ h, sqT_same s h0⟩
def Gd (K : PySem.W.Frag) (H : Hp) (y : Wy) (l : List Nat) (n : Nat) (g : V) : Prop := ∃ q, g = .ref q ∧ (n ≠ 0 → GdR K H l n q y)
/-- the class Column by the top -/
structure TCol (K : PySem.W.Frag) (C : Addr) : Prop where
  cl : Cls K C
  no : ∀ n, n ∈ ["guide", "way", "bits", "many", "passed"] → PySem.W.findIn K (.ref C) n = some none
def colF (g : V) (y : Wy) (l : List Nat) (n : Nat) : List (Str × V) := [("guide", g), ("way", .str y.nm), ("bits", .str (S l)), ("many", .int (n : Nat)), ("passed", .int 0)]
/-- a column -/
def ColO (K : PySem.W.Frag) (C : Addr) (H : Hp) (a : Addr) (y : Wy) (l : List Nat) (n : Nat) : Prop := ∃ dx g, H a = some (.ins C dx (colF g y l n)) ∧ Gd K H y l n g ∧ badG y l n = none
theorem Gd.same {K : PySem.W.Frag} {H H' : Hp} {y : Wy} {l : List Nat} {n : Nat} {g : V} (h : Gd K H y l n g) (s : Same H H') : Gd K H' y l n g := by
  obtain ⟨q, e, h⟩ := h
  exact ⟨q, e, fun z => (h z).same s⟩
theorem ColO.same {K : PySem.W.Frag} {C : Addr} {H H' : Hp} {a : Addr} {y : Wy} {l : List Nat} {n : Nat} (h : ColO K C H a y l n) (s : Same H H') : ColO K C H' a y l n := by
  obtain ⟨dx, g, h1, h2, h3⟩ := h
  exact ⟨dx, g, s _ _ h1, h2.same s, h3⟩
theorem Gd.put {K : PySem.W.Frag} {C dx dx' p : Addr} {fs fs' : List (Str × V)} {H : Hp} {l : List Nat} {n : Nat} {g : V} {y : Wy} (h : Gd K H y l n g) (hp : H p = some (.ins C dx fs)) : Gd K (upd H p (.ins C dx' fs')) y l n g := by
  obtain ⟨q, e, h2⟩ := h
  have kt : KT H (upd H p (.ins C dx' fs')) := KT.put hp nfix_ins
  have ne : ∀ {b xs}, H b = some (.lst xs) → b ≠ p := fun {b xs} hb z => by
    rw [z, hp] at hb
    cases hb
  refine ⟨q, e, fun z => ?_⟩
  have z := h2 z
  cases y with
  | plain =>
    obtain ⟨r, e, h⟩ := z
    exact ⟨r, e, sqT_kt kt h⟩
  | book =>
    obtain ⟨r, b, e, h, hb⟩ := z
    refine ⟨r, b, e, sqT_kt kt h, ?_⟩
    unfold NL at hb ⊢
    rw [upd_ne (ne hb)]
    exact hb
  | «by» W =>
    obtain ⟨t0, ts, h, h0⟩ := z
    exact ⟨t0, ts, by rw [upd_ne (ne h)]; exact h, sqT_kt kt h0⟩
section
variable {X : Cx} {k : Nat} {ps : List Str} {sp : Sp} {x : Str} {C : Addr} {e : Expr} {es : List Expr} {p pos : Pos} {t : TA} {E : XK}
theorem pe_calCR (c : CalRC X.prog X.w X.K X.mg X.base k x C ps sp) (hr : Room (k + 1) X.A) (gl : Gl X x) (lets : Passes (L2.CX X.prog X.w) X E) (ha : PA X (e :: es) t) (nodebug : (x == ("__debug__" : Str)) = false := by decide)
    (one : starEach (e :: es) X.env = (false, eval e X.env) :: starEach es X.env := by rfl) (nostar : (backTo pos (starEach es X.env)).any (·.1) = false := by rfl) : PE X (.Call (.Name x p) (e :: es) [] pos) (tMake C sp [] E t) := by
  obtain ⟨f, fd, F, hm, M, hb⟩ := c
  exact pe_make M F hr gl hm hb .nil lets ha nodebug one nostar
end
section
variable {P : Program} {w : World} {K : PySem.W.Frag} {mg : Str → Option Value} {base : Heap} {f : Addr} {fd : FuncData} {k : Nat} {CB C : Addr}
def spGO (K : PySem.W.Frag) (CB : Addr) : Sp := fun vs H Q E => ∃ (l : List Nat) (y : Wy) (n : Nat), vs = [.str y.nm, .str (S l), .int (n : Nat)] ∧ Bits l ∧ l.length ≤ 8900 ∧ n ≤ 300 ∧
  (badG y l n = none → ∀ (g : V) (H' : Hp), Same H H' → Gd K H' y l n g → Q g H') ∧ (∀ p, badG y l n = some p → ErA CB E H p)
theorem ok_go (F : Fun K "guide_of" "guide_of" sGO f fd) (C_plain_head : CalR P w K mg base k "plain_head" ["bits", "many"] (spPH CB)) (C_book_head : CalR P w K mg base k "book_head" ["bits", "many"] (spBH CB)) (C_marks_by : CalR P w K mg base k "marks_by" ["way", "bits", "many"] (spMB K CB)) (C_err : CalE P w K mg base k "NoBits" CB "at") : FnOk P w K mg base (L2.CX P w) (k + 2) f fd ["way", "bits", "many"] (spGO K CB) := by
  refine F.okX scGO (fun vs H Q E h => ?_) (fun cdv A outer s H vs Q E hr h => ?_)
  · obtain ⟨l, y, n, rfl, _⟩ := h
    rfl
  · obtain ⟨l, y, n, rfl, bin, big, few, q, no⟩ := h
    refine ⟨_, pss_cons (ps_if (pt_cmpR op_lt (pv 2) pe_int (nomark _))
        (pss_cons (ps_if (PW.pt (pw_or (pt_truth (pv 1) (fun _ => rfl)) (pw_or1 (pt_cmpR op_lt (pv 2) pe_int (nomark _)))))
          (pss_one (ps_raise rfl (takes_of rfl rfl rfl rfl) (pm_err C_err (hr.mono (by omega)) (by rfl) pe_int)))
          pss_nil)
        (pss_one (ps_ret (pe_lst pa_nil))))
        pss_nil)
      (pss_cons (ps_if (pt_cmpR op_eq (pv 0) pe_str (nomark _))
        (pss_one (ps_ret (pe_calR (E := E) C_plain_head (hr.mono (by omega)) (by rfl) (passes_call (takes_of rfl rfl rfl rfl) (fun _ _ _ _ z => z)) (pa_cons (pv 1) (pa_cons (pv 2) pa_nil)))))
        pss_nil)
      (pss_cons (ps_if (pt_cmpR op_eq (pv 0) pe_str (nomark _))
        (pss_one (ps_ret (pe_calR (E := E) C_book_head (hr.mono (by omega)) (by rfl) (passes_call (takes_of rfl rfl rfl rfl) (fun _ _ _ _ z => z)) (pa_cons (pv 1) (pa_cons (pv 2) pa_nil)))))
        pss_nil)
      (pss_one (ps_ret (pe_calR (E := E) C_marks_by (hr.mono (by omega)) (by rfl) (passes_call (takes_of rfl rfl rfl rfl) (fun _ _ _ _ z => z)) (pa_cons (pv 0) (pa_cons (pv 1) (pa_cons (pv 2) pa_nil)))))))), ?_⟩
    by_cases c : n = 0
    · subst c
      refine ⟨_, rfl, _, _, rfl, rfl, true, rfl, if_t ?_⟩
      by_cases d : l = []
      · subst d
        refine ⟨_, rfl, false, ⟨Nat.zero_le _, rfl⟩, if_f ⟨_, rfl, _, _, rfl, rfl, false, rfl, if_f ?_⟩⟩
        exact ⟨Nat.zero_le _, fun m nm => q rfl _ _ (same_new nm) ⟨m, rfl, fun z => absurd rfl z⟩⟩
      · have eb : badG y l 0 = some 0 := by
          unfold badG
          rw [if_pos rfl, if_neg d]
        have lp := List.length_pos_iff.mpr d
        refine ⟨_, rfl, true, ⟨by rw [SX.S_len]; exact z500 (by omega), ?_⟩, if_t (err_read (fun d H' s' nd hd => no 0 eb d H' s' nd hd) fun {Q Q'} hq q => hq _ _ q)⟩
        exact (bne_iff_ne.mpr (by rw [SX.S_len]; omega)).symm
    · have pos : 0 < n := Nat.pos_of_ne_zero c
      refine ⟨_, rfl, _, _, rfl, rfl, false, congrArg V.bl (decide_eq_false (by omega)), if_f ?_⟩
      unfold badG at q no
      rw [if_neg c] at q no
      cases y with
      | plain =>
        refine ⟨_, rfl, rfl, true, rfl, if_t ?_⟩
        refine ⟨_, rfl, _, rfl, l, n, rfl, bin, big, few, fun r er ec t H' s' ht => ?_, fun p hp => no p ?_⟩
        · exact q (by dsimp only; rw [er]; exact ec) _ H' s' ⟨t, rfl, fun _ => ⟨r, er, SqT.of ht⟩⟩
        · dsimp only
          rcases hp with e | ⟨r, e, e2⟩
          · rw [e]
          · rw [e]
            exact e2
      | book =>
        refine ⟨_, rfl, rfl, false, rfl, if_f ⟨_, rfl, rfl, true, rfl, if_t ?_⟩⟩
        refine ⟨_, rfl, _, rfl, l, n, rfl, bin, big, few, fun r er ec t b H' s' nb ht hb => ?_, fun p hp => no p ?_⟩
        · exact q (by dsimp only; rw [er]; exact ec) _ H' s' ⟨t, rfl, fun _ => ⟨r, b, er, SqT.of ht, hb⟩⟩
        · dsimp only
          rcases hp with e | ⟨r, e, e2⟩
          · rw [e]
          · rw [e]
            exact e2
      | «by» W =>
        refine ⟨_, rfl, rfl, false, by cases W <;> rfl, if_f ⟨_, rfl, rfl, false, by cases W <;> rfl, if_f ?_⟩⟩
        exact ⟨_, rfl, _, rfl, _, rfl, W, l, n, rfl, pos, few, bin, by omega, fun eb a t0 ts H' s' na hl h0 => q eb _ H' s' ⟨a, rfl, fun _ => ⟨t0, ts, hl, h0⟩⟩, fun p ep => no p ep⟩
def spCI (K : PySem.W.Frag) (CB C : Addr) : Sp := fun vs H Q E => ∃ (p dx : Addr) (l : List Nat) (y : Wy) (n : Nat), vs = [.ref p, .str y.nm, .str (S l), .int (n : Nat)] ∧ H p = some (.ins C dx []) ∧ Bits l ∧ l.length ≤ 8900 ∧ n ≤ 300 ∧
  (badG y l n = none → ∀ (g : V) (H' : Hp), H' p = some (.ins C dx (colF g y l n)) → Gd K H' y l n g → (∀ b o, b ≠ p → H b = some o → H' b = some o) → Q .non H') ∧ (∀ p, badG y l n = some p → ErA CB E H p)
theorem ok_ci (F : Fun K "__init__" "Column.__init__" sCI f fd) (T : TCol K C) (C_guide_of : CalR P w K mg base k "guide_of" ["way", "bits", "many"] (spGO K CB)) : FnOk P w K mg base (L2.CX P w) (k + 1) f fd ["self", "way", "bits", "many"] (spCI K CB C) := by
  refine F.okX scCI (fun vs H Q E h => ?_) (fun cdv A outer s H vs Q E hr h => ?_)
  · obtain ⟨p, dx, l, y, n, rfl, _⟩ := h
    rfl
  · obtain ⟨p, dx, l, y, n, rfl, hp, bin, big, few, q, no⟩ := h
    refine ⟨_, pss_cons (ps_fld (pv 0) (pe_calR (E := E) C_guide_of (hr.mono (by omega)) (by rfl) (passes_call (takes_of rfl rfl rfl rfl) (fun _ _ _ _ z => z)) (pa_cons (pv 1) (pa_cons (pv 2) (pa_cons (pv 3) pa_nil)))) rfl)
      (pss_cons (ps_fld (pv 0) (pv 1) rfl)
      (pss_cons (ps_fld (pv 0) (pv 2) rfl)
      (pss_cons (ps_fld (pv 0) (pv 3) rfl)
      (pss_one (ps_fld (pv 0) pe_int rfl))))), ?_⟩
    refine ⟨_, rfl, _, rfl, _, rfl, l, y, n, rfl, bin, big, few, fun eb g H1 s1 hg => ?_, fun p ep => no p ep⟩
    refine ⟨_, rfl, p, C, dx, _, rfl, s1 _ _ hp, T.cl, T.no _ (by decide), (by show 0 < 1000; decide), ?_⟩
    refine ⟨_, rfl, _, rfl, p, C, dx, _, rfl, upd_same, T.cl, T.no _ (by decide), (by show 1 < 1000; decide), ?_⟩
    rw [upd_upd]
    refine ⟨_, rfl, _, rfl, p, C, dx, _, rfl, upd_same, T.cl, T.no _ (by decide), (by show 2 < 1000; decide), ?_⟩
    rw [upd_upd]
    refine ⟨_, rfl, _, rfl, p, C, dx, _, rfl, upd_same, T.cl, T.no _ (by decide), (by show 3 < 1000; decide), ?_⟩
    rw [upd_upd]
    refine ⟨_, rfl, p, C, dx, _, rfl, upd_same, T.cl, T.no _ (by decide), (by show 4 < 1000; decide), ?_⟩
    rw [upd_upd]
    exact q eb g _ upd_same (hg.put (s1 _ _ hp)) fun b o hb e => by
      rw [upd_ne hb]
      exact s1 _ _ e
def spCL (K : PySem.W.Frag) (C : Addr) : Sp := fun vs H Q _ => ∃ (a : Addr) (y : Wy) (l : List Nat) (n : Nat), vs = [.ref a] ∧ ColO K C H a y l n ∧ n ≤ 300 ∧ Q (.int (n : Nat)) H
theorem ok_cl (F : Fun K "__len__" "Column.__len__" sCL f fd) (T : TCol K C) (m_len : mg "len" = none) (m_range : mg "range" = none) : FnOk P w K mg base CX0 (k + 1) f fd ["self"] (spCL K C) := by
  refine F.ok scCL (fun vs H Q E h => ?_) (fun cdv A outer s H vs Q E hr h => ?_)
  · obtain ⟨a, y, l, n, rfl, _⟩ := h
    rfl
  · obtain ⟨a, y, l, n, rfl, ⟨dx, g, ha, _⟩, few, q⟩ := h
    refine ⟨_, pss_one (ps_ret (pe_lenR (by rfl) m_len (by rfl) m_range (pa_cons (pe_fld (pv 0) rfl) pa_nil))), ?_⟩
    exact ⟨_, rfl, a, C, dx, _, _, rfl, ha, T.cl, T.no _ (by decide), rfl, n, rfl, by omega, q⟩
/-- read_column: a column, or its refusal -/
def spRCo (K : PySem.W.Frag) (CB C : Addr) : Sp := fun vs H Q E => ∃ (l : List Nat) (y : Wy) (n : Nat), vs = [.str y.nm, .str (S l), .int (n : Nat)] ∧ Bits l ∧ l.length ≤ 8900 ∧ n ≤ 300 ∧
  (badG y l n = none → ∀ (a : Addr) (H' : Hp), Same H H' → ColO K C H' a y l n → Q (.ref a) H') ∧ (∀ p, badG y l n = some p → ErA CB E H p)
theorem ok_rco (F : Fun K "read_column" "read_column" sRCo f fd) (K_Column : CalRC P w K mg base k "Column" C ["self", "way", "bits", "many"] (spCI K CB C)) : FnOk P w K mg base (L2.CX P w) (k + 2) f fd ["way", "bits", "many"] (spRCo K CB C) := by
  refine F.okX scRCo (fun vs H Q E h => ?_) (fun cdv A outer s H vs Q E hr h => ?_)
  · obtain ⟨l, y, n, rfl, _⟩ := h
    rfl
  · obtain ⟨l, y, n, rfl, bin, big, few, q, no⟩ := h
    refine ⟨_, pss_one (ps_ret (pe_calCR (E := E) K_Column (hr.mono (by omega)) (by rfl) (passes_call (takes_of rfl rfl rfl rfl) (fun _ _ _ _ z => z)) (pa_cons (pv 0) (pa_cons (pv 1) (pa_cons (pv 2) pa_nil))))), ?_⟩
    refine ⟨_, rfl, _, rfl, _, rfl, fun p dx np nd ne => ?_⟩
    have np2 : (upd H dx (.own p)) p = none := by
      rw [upd_ne ne.symm]
      exact np
    have s1 : Same H (upd (upd H dx (.own p)) p (.ins C dx [])) := (same_new nd).trans (same_new np2)
    refine ⟨p, dx, l, y, n, rfl, upd_same, bin, big, few, fun eb g H' hp hg keep => ⟨rfl, q eb p H' (fun b o e => keep b o (ne_of_none e np) (s1 _ _ e)) ⟨dx, g, hp, hg, eb⟩⟩, fun p ep => (no p ep).same s1⟩
end
end Tg

namespace Tg
open PySem PySem.Spec PyProof.Rows L2
open SX (S)
/-! ### all numbers of a column -/
abbrev sNI : Stmt := topS 25
abbrev sWI : Stmt := topS 26
abbrev sCU : Stmt := inCls (topS 24) 3
abbrev NNI : List Str := ["column", "start", "end", "at", "width", "told", "codes", "code"]
theorem scWI : FnScope ["column", "start", "end", "reader", "mark", "numbers", "passed", "place", "ahead"] ["column", "start", "end"] (defScope sWI) := ⟨rfl, rfl, rfl, by decide +kernel, rfl, by decide +kernel, by decide +kernel⟩
theorem scNI : FnScope NNI ["column", "start", "end"] (defScope sNI) := ⟨rfl, rfl, rfl, by decide +kernel, rfl, by decide +kernel, by decide +kernel⟩
theorem scCU : FnScope ["self", "numbers", "passed"] ["self"] (defScope sCU) := ⟨rfl, rfl, rfl, by decide +kernel, rfl, by decide +kernel, by decide +kernel⟩
def resV (y : Wy) (l : List Nat) (n : Nat) : List Int := if n = 0 then [] else match y with
  | .plain => match hdP l with
    | .inl _ => []
    | .inr r => (cdN l r.1 r.2.1 n).map fun c => r.2.2 + ((c : Nat) : Int)
  | .book => match hdK l with
    | .inl _ => []
    | .inr r => (cdN l r.1 (blen r.2.1) n).map fun c => r.2.2.getD c 0
  | .by W => nmN W l n n
theorem fit_all {l : List Nat} {a w n : Nat} (le : a ≤ l.length) (h : ckC l a w n = none) : fitN l a w n = n ∧ a + w * n = l.length := by
  unfold ckC at h
  by_cases c : l.length < a + w * n
  · rw [if_pos c] at h
    cases h
  · rw [if_neg c] at h
    by_cases d : a + w * n < l.length
    · rw [if_pos d] at h
      cases h
    · have e : a + w * n = l.length := by omega
      refine ⟨?_, e⟩
      unfold fitN
      by_cases z : w = 0
      · exact if_pos z
      · rw [if_neg z, show l.length - a = w * n by omega, Nat.mul_div_cancel_left _ (Nat.pos_of_ne_zero z)]
        exact Nat.min_self n
theorem gps_is {l : List Nat} (bin : Bits l) : ∀ {n a : Nat} {x : Int} {b : Nat} {ys : List Int}, a ≤ l.length → gps l n a x = .inr (b, ys) → b ≤ l.length ∧ ys.length = n
  | 0, a, x, b, ys, le, h => by
    cases h
    exact ⟨le, rfl⟩
  | n + 1, a, x, b, ys, le, h => by
    rcases rdO_or l a with e | ⟨r, e⟩
    · rw [gps_none e] at h
      cases h
    · rw [gps_next e] at h
      cases g : gps l n r.2 (x + ((r.1 : Nat) : Int) + 1) with
      | inl p =>
        rw [g] at h
        cases h
      | inr z =>
        rw [g] at h
        cases h
        obtain ⟨h1, h2⟩ := gps_is bin (rdO_lt bin e).2 (show gps l n r.2 (x + ((r.1 : Nat) : Int) + 1) = .inr (z.1, z.2) from g)
        exact ⟨h1, by rw [List.length_append, h2]; exact Nat.add_comm 1 n⟩
theorem hdP_is {l : List Nat} {r : Nat × Nat × Int} (bin : Bits l) (h : hdP l = .inr r) : r.1 ≤ l.length ∧ r.2.1.log2 ≤ l.length := by
  unfold hdP at h
  rcases rdO_or l 0 with e | ⟨u, e⟩
  · rw [e] at h
    cases h
  · rw [e] at h
    dsimp only at h
    rcases rdO_or l u.2 with e2 | ⟨v, e2⟩
    · rw [e2] at h
      cases h
    · rw [e2] at h
      cases h
      exact ⟨(rdO_lt bin e2).2, rdO_log bin e2⟩
theorem hdK_is {l : List Nat} {r : Nat × Nat × List Int} (bin : Bits l) (h : hdK l = .inr r) : r.1 ≤ l.length ∧ r.2.1.log2 ≤ l.length ∧ r.2.2.length = r.2.1 + 1 := by
  unfold hdK at h
  rcases rdO_or l 0 with e | ⟨u, e⟩
  · rw [e] at h
    cases h
  · rw [e] at h
    dsimp only at h
    rcases rdO_or l u.2 with e2 | ⟨v, e2⟩
    · rw [e2] at h
      cases h
    · rw [e2] at h
      dsimp only at h
      cases g : gps l u.1 v.2 (bk (v.1 : Nat)) with
      | inl p =>
        rw [g] at h
        cases h
      | inr z =>
        rw [g] at h
        cases h
        obtain ⟨h1, h2⟩ := gps_is bin (rdO_lt bin e2).2 (show gps l u.1 v.2 (bk (v.1 : Nat)) = .inr (z.1, z.2) from g)
        exact ⟨h1, rdO_log bin e, congrArg (· + 1) h2⟩
theorem blen_le2 {n m : Nat} (h : n.log2 ≤ m) : blen n ≤ m + 1 := by
  unfold blen
  split <;> omega
theorem book_fine {l : List Nat} {a last n : Nat} (h : badK l a last n = none) : ckC l a (blen last) n = none ∧ ∀ c, c ∈ cdN l a (blen last) (fitN l a (blen last) n) → c ≤ last := by
  unfold badK at h
  cases e : (cdN l a (blen last) (fitN l a (blen last) n)).findIdx? (fun c => decide (last < c)) with
  | some i =>
    rw [e] at h
    cases h
  | none =>
    rw [e] at h
    refine ⟨h, fun c hc => ?_⟩
    have z := List.findIdx?_eq_none_iff.mp e c hc
    have := of_decide_eq_false z
    omega
section
variable {P : Program} {w : World} {K : PySem.W.Frag} {mg : Str → Option Value} {base : Heap} {f : Addr} {fd : FuncData} {k : Nat} {CB C : Addr}
theorem passX {X : Cx} : Passes (L2.CX P w) X E0 := by
  rintro _ _ _ _ _ _ _ ⟨_, _, _, _, _, _, _, _, _, _, _, _, z⟩
  exact z.elim
def spWI (K : PySem.W.Frag) (C : Addr) : Sp := fun vs H Q _ => ∃ (a : Addr) (W : Way) (l : List Nat) (n : Nat), vs = [.ref a, .int (0 : Nat), .int (n : Nat)] ∧ ColO K C H a (.by W) l n ∧ 0 < n ∧ n ≤ 300 ∧ Bits l ∧ l.length ≤ 8900 ∧
  ∀ (t b : Addr) (H' : Hp), Same H H' → H b = none → H' t = some (.tup [.ref b, .int 0]) → NL H' b (nmN W l n n) → Q (.ref t) H'
theorem nm_len {W : Way} {l : List Nat} {many : Nat} : ∀ i, (nmN W l many i).length ≤ i
  | 0 => Nat.le_refl _
  | i + 1 => by
    have ih := nm_len (W := W) (l := l) (many := many) i
    unfold nmN
    rw [List.length_append]
    cases mkN W l many (i + 1) with
    | inl p => exact Nat.le_trans ih (Nat.le_succ _)
    | inr m => exact Nat.succ_le_succ ih
theorem ok_wi {RD : Addr} {t32 : Tok} (F : Fun K "walked_in" "walked_in" sWI f fd) (T : TCol K C) (Z : Rds P w K mg base k CB RD) (g_READERS : mg "READERS" = some (.ref RD)) (g_SPAN : mg "SPAN" = some (.int 32 t32)) (m_range : mg "range" = none) : FnOk P w K mg base CX0 (k + 1) f fd ["column", "start", "end"] (spWI K C) := by
  refine F.ok scWI (fun vs H Q E h => ?_) (fun cdv A outer s H vs Q E hr h => ?_)
  · obtain ⟨a, W, l, n, rfl, _⟩ := h
    rfl
  · obtain ⟨a, W, l, n, rfl, ⟨dx, g, ha, ⟨q0, rfl, gd⟩, eb⟩, pos, few, bin, big, q⟩ := h
    have n0 : n ≠ 0 := by omega
    obtain ⟨t0, ts, hq, h0⟩ := gd n0
    have ebW : badW W l n = none := by
      unfold badG at eb
      rw [if_neg n0] at eb
      exact eb
    have fine : ∀ i, i ≤ n → ∃ m, mkN W l n i = .inr m := fun i hi => by
      cases e : mkN W l n i with
      | inr m => exact ⟨m, rfl⟩
      | inl p =>
        unfold badW at ebW
        rw [mkN_stop e n hi] at ebW
        cases ebW
    have HR : ∀ g sp, (fun g => if g = Z.fn W then some (spRd K CB W) else none) g = some sp → HeldR P w K mg base k g sp := fun g sp e => by
      dsimp only at e
      split at e
      · rename_i eg
        subst eg
        cases e
        exact Z.ex W
      · cases e
    refine ⟨_, pss_cons (ps_set (i := 3) scWI.nd rfl (.inl rfl) (pe_ix ix_kdict (pe_glob (v := .ref RD) rfl g_READERS rfl) (pe_fld (pv 0) rfl) (fun _ _ => rfl)))
      (pss_cons (ps_set (i := 4) scWI.nd rfl (.inl rfl) (pe_ix ix_list (pe_fld (pv 0) rfl) (pe_op op_fdiv (pv 1) (pe_glob (v := .int 32) rfl g_SPAN ⟨_, rfl⟩)) (fun _ _ => rfl)))
      (pss_cons (ps_set (i := 5) scWI.nd rfl (.inl rfl) (pe_lst pa_nil))
      (pss_cons (ps_set (i := 6) scWI.nd rfl (.inl rfl) pe_int)
      (pss_cons (ps_for PassesOwn.never rfl (pi_range2 (by rfl) m_range (pa_cons (pe_op op_sub (pv 1) (pe_op op_mod (pv 1) (pe_glob (v := .int 32) rfl g_SPAN ⟨_, rfl⟩))) (pa_cons (pv 2) pa_nil))) (pg_name (i := 7) scWI.nd rfl (.inl rfl))
        (pss_cons (ps_set (i := 8) scWI.nd rfl (.inl rfl) (pe_ix ix_tup (pv 4) pe_int (fun _ _ => rfl)))
        (pss_cons (ps_set (i := 4) scWI.nd rfl (.inl rfl) (pe_callAX (i := 3) (E := E0) HR passX (hr.mono (by omega)) rfl (.inl rfl) (pa_cons (pe_fld (pv 0) rfl) (pa_cons (pv 4) (pa_cons (pe_op op_sub (pe_fld (pv 0) rfl) (pv 7)) pa_nil)))))
        (pss_cons (ps_if (pt_cmpR op_ge (pv 7) (pv 1) (nomark _))
          (pss_one (ps_expr (pe_bm PySem.F.plainAttrs_list PySem.F.slot_list_append PySem.F.type_list_append mt_append (pv 5) (pa_cons (pe_ix ix_tup (pv 4) pe_int (fun _ _ => rfl)) pa_nil))))
          pss_nil)
        (pss_one (ps_if (PW.pt (pw_and (pt_cmpR op_lt (pv 7) (pv 1) (nomark _)) (pw_and1 (pt_cmpR op_gt (pe_ix ix_tup (pv 4) pe_int (fun _ _ => rfl)) (pv 8) (nomark _)))))
          (pss_one (ps_aug (i := 6) scWI.nd rfl (.inl rfl) pe_int ip_add))
          (pss_one (ps_if (PW.pt (pw_and (pt_cmpR op_eq (pv 7) (pv 1) (nomark _)) (pw_and (pt_cmpR op_eq (pe_ix ix_tup (pv 4) pe_int (fun _ _ => rfl)) (pv 8) (nomark _)) (pw_and1 (pt_cmpR op_gt (pv 6) pe_int (nomark _))))))
            (pss_one (ps_aug (i := 6) scWI.nd rfl (.inl rfl) pe_int ip_sub))
            pss_nil))))))))
      (pss_one (ps_ret (pe_tup (pa_cons (pv 5) (pa_cons (pv 6) pa_nil))))))))), ?_⟩
    unfold colF at ha
    refine ⟨_, rfl, a, C, dx, _, _, rfl, ha, T.cl, T.no _ (by decide), rfl, RD, (Wy.by W).nm, .ref (Z.fn W), rfl, rfl, Z.dct W, ?_⟩
    refine ⟨_, rfl, a, C, dx, _, _, rfl, ha, T.cl, T.no _ (by decide), rfl, _, rfl, _, _, rfl, rfl, ⟨by decide, by decide⟩, q0, _, 0, .ref t0, rfl, rfl, SqL.of hq, atI_nat (j := 0) rfl, Nat.zero_le _, fun b nb => ?_⟩
    have s1 := same_new (o := .lst []) nb
    refine ⟨_, rfl, _, rfl, _, _, rfl, rfl, (by show (0 : Int) < 32; decide), _, _, rfl, rfl, _, rfl, _, _, rfl, ?_, ?_⟩
    · exact ⟨by omega, by omega, by omega, by omega⟩
    rw [show (((n : Nat) : Int) - (((0 : Nat) : Int) - ((0 : Nat) : Int) % 32)).toNat = n by omega]
    refine for_range (n := n) (fun i σ Hc => ∃ (t : Addr) (m : Mrk) (z7 z8 : Option V), σ = [some (.ref a), some (.int (0 : Nat)), some (.int (n : Nat)), some (.ref (Z.fn W)), some (.ref t), some (.ref b), some (.int 0), z7, z8] ∧ Same H Hc ∧ NL Hc b (nmN W l n i) ∧ SqT K Hc t (mkV m) ∧ mkN W l n i = .inr m) ?_ ?_ ?_
    · exact ⟨t0, (0, 0, none), _, _, rfl, s1, upd_same, sqT_same s1 h0, rfl⟩
    · rintro i σ Hc hi ⟨t, m, z7, z8, rfl, sm, hl, ht, hm⟩
      have hac := sm _ _ ha
      have hlen := nm_len (W := W) (l := l) (many := n) i
      obtain ⟨m2, em2⟩ := fine (i + 1) (by omega)
      have es : stM W l (((n : Nat) : Int) - (i : Nat)) m = .inr m2 := by
        have z := em2
        dsimp only [mkN] at z
        rw [hm] at z
        exact z
      have ei : (((0 : Nat) : Int) - ((0 : Nat) : Int) % 32 + ((i : Nat) : Int)) = ((i : Nat) : Int) := by omega
      refine ⟨_, rfl, t, _, 0, .int (m.1 : Nat), rfl, rfl, ht, rfl, ?_⟩
      refine ⟨Z.fn W, _, rfl, if_pos rfl, _, rfl, a, C, dx, _, _, rfl, hac, T.cl, T.no _ (by decide), rfl, _, rfl, _, rfl, a, C, dx, _, _, rfl, hac, T.cl, T.no _ (by decide), rfl, _, rfl, _, _, rfl, rfl, ?_⟩
      dsimp only [tNil]
      rw [ei]
      refine ⟨l, t, _, m, rfl, ht, bin, by omega, mkN_at bin hm, fun m' em t' H' s' ht' => ?_, fun p ep => ?_⟩
      · have e : m' = m2 := by
          rw [es] at em
          cases em
          rfl
        subst e
        have hl' : NL H' b (nmN W l n i) := s' _ _ hl
        have nx : nmN W l n (i + 1) = nmN W l n i ++ [m'.2.1] := by
          conv => lhs; unfold nmN
          rw [em2]
        refine ⟨_, rfl, _, rfl, _, _, rfl, rfl, true, congrArg V.bl (decide_eq_true (by omega)), if_t ?_⟩
        refine ⟨_, rfl, .inl ⟨rfl, _, SqL.of hl'⟩, _, rfl, t', _, 1, .int m'.2.1, rfl, rfl, SqT.of ht', rfl, b, _, _, rfl, rfl, hl', by rw [List.length_map]; exact small1000 (by omega), ?_⟩
        obtain ⟨H2, e2⟩ : ∃ H2, upd H' b (.lst ((nmN W l n i).map V.int ++ [.int m'.2.1])) = H2 := ⟨_, rfl⟩
        have hl2 : NL H2 b (nmN W l n (i + 1)) := by
          unfold NL
          rw [← e2, upd_same, nx, List.map_append]
          rfl
        have sm2 : Same H H2 := by
          rw [← e2]
          exact same_put nb (sm.trans s')
        have ht2 : SqT K H2 t' (mkV m') := by
          rw [← e2]
          exact sqT_kt (KT.put hl' nfix_lst) (SqT.of ht')
        rw [e2]
        have fin : ∃ (t : Addr) (m : Mrk) (z7 z8 : Option V), [some (V.ref a), some (.int (0 : Nat)), some (.int (n : Nat)), some (.ref (Z.fn W)), some (.ref t'), some (.ref b), some (.int 0), some (.int (i : Nat)), some (.int (m.1 : Nat))] = [some (.ref a), some (.int (0 : Nat)), some (.int (n : Nat)), some (.ref (Z.fn W)), some (.ref t), some (.ref b), some (.int 0), z7, z8] ∧ Same H H2 ∧ NL H2 b (nmN W l n (i + 1)) ∧ SqT K H2 t (mkV m) ∧ mkN W l n (i + 1) = .inr m := ⟨t', m', _, _, rfl, sm2, hl2, ht2, em2⟩
        refine ⟨_, rfl, _, rfl, _, _, rfl, rfl, false, congrArg V.bl (decide_eq_false (by omega)), if_f (if_f ?_)⟩
        refine ⟨_, rfl, _, rfl, rfl, _, rfl, ite2 (fun _ => ?_) (fun _ => if_f ⟨t', m', _, _, rfl, sm2, hl2, ht2, em2⟩)⟩
        refine ⟨_, rfl, t', _, 0, .int (m'.1 : Nat), rfl, rfl, ht2, rfl, _, rfl, rfl, _, rfl, ite2 (fun _ => ?_) (fun _ => if_f ⟨t', m', _, _, rfl, sm2, hl2, ht2, em2⟩)⟩
        exact ⟨_, rfl, _, _, rfl, rfl, false, rfl, if_f ⟨t', m', _, _, rfl, sm2, hl2, ht2, em2⟩⟩
      · rw [es] at ep
        cases ep
    · rintro σ Hc ⟨t, m, z7, z8, rfl, sm, hl, ht, hm⟩
      refine ⟨_, rfl, _, rfl, by show 2 ≤ sizeLine; decide, fun u nu => ?_⟩
      have s2 := same_new (o := .tup [.ref b, .int 0]) nu
      exact q u b _ (sm.trans s2) nb upd_same (s2 _ _ hl)
end
end Tg

namespace Tg
open PySem PySem.Spec PyProof.Rows L2
open SX (S)
/-- whether a way is read from code to code -/
def Wy.walks : Wy → Bool
  | .by _ => true
  | _ => false
section
variable {P : Program} {w : World} {K : PySem.W.Frag} {mg : Str → Option Value} {base : Heap} {f : Addr} {fd : FuncData} {k : Nat} {CB C : Addr}
def spNI (K : PySem.W.Frag) (C : Addr) : Sp := fun vs H Q _ => ∃ (a : Addr) (y : Wy) (l : List Nat) (n : Nat), vs = [.ref a, .int (0 : Nat), .int (n : Nat)] ∧ ColO K C H a y l n ∧ n ≤ 300 ∧ Bits l ∧ l.length ≤ 8900 ∧
  ∀ (t b : Addr) (H' : Hp), Same H H' → H b = none → H' t = some (.tup [.ref b, .int 0]) → NL H' b (resV y l n) → Q (.ref t) H'
theorem ok_ni {RD : Addr} (F : Fun K "numbers_in" "numbers_in" sNI f fd) (T : TCol K C) (has : ∀ y : Wy, KHas K w RD y.nm y.walks) (g_READERS : mg "READERS" = some (.ref RD)) (C_walked_in : Cal P w K mg base k "walked_in" ["column", "start", "end"] (spWI K C)) (C_read_codes : Cal P w K mg base k "read_codes" ["bits", "at", "width", "many"] spRC) : FnOk P w K mg base CX0 (k + 1) f fd ["column", "start", "end"] (spNI K C) := by
  refine F.ok scNI (fun vs H Q E h => ?_) (fun cdv A outer s H vs Q E hr h => ?_)
  · obtain ⟨a, y, l, n, rfl, _⟩ := h
    rfl
  · obtain ⟨a, y, l, n, rfl, col, few, bin, big, q⟩ := h
    have ⟨dx, g, ha, ⟨q0, eg, gd⟩, eb⟩ := col
    subst eg
    refine ⟨_, pss_cons (ps_if (pt_cmpR op_eq (pv 1) (pv 2) (nomark _))
        (pss_one (ps_ret (pe_tup (pa_cons (pe_lst pa_nil) (pa_cons pe_int pa_nil)))))
        pss_nil)
      (pss_cons (ps_if (pt_cmpR op_khas (pe_fld (pv 0) rfl) (pe_glob (v := .ref RD) rfl g_READERS rfl) (by with_unfolding_all rfl))
        (pss_one (ps_ret (pe_cal C_walked_in (hr.mono (by omega)) (by rfl) (pa_cons (pv 0) (pa_cons (pv 1) (pa_cons (pv 2) pa_nil))))))
        pss_nil)
      (pss_cons (ps_asg (pe_fld (pv 0) rfl) (pg_tup rfl (pgs_cons (pg_name (i := 3) scNI.nd rfl (.inl rfl)) (pgs_cons (pg_name (i := 4) scNI.nd rfl (.inl rfl)) (pgs_cons (pg_name (i := 5) scNI.nd rfl (.inr rfl)) pgs_nil)))))
      (pss_cons (ps_set (i := 6) scNI.nd rfl (.inl rfl) (pe_cal C_read_codes (hr.mono (by omega)) (by rfl) (pa_cons (pe_fld (pv 0) rfl) (pa_cons (pe_op op_add (pv 3) (pe_op op_mul (pv 1) (pv 4))) (pa_cons (pv 4) (pa_cons (pe_op op_sub (pv 2) (pv 1)) pa_nil))))))
      (pss_cons (ps_if (pt_cmpR op_eq (pe_fld (pv 0) rfl) pe_str (nomark _))
        (pss_one (ps_ret (pe_tup (pa_cons (pe_lc (own := [("code", 7)]) (g := (gName 7)) (tt := tYes) rfl scNI.nd (pi_list (pv 6)) (blkOk_by (own := [("code", 7)]) (N := NNI) (sc := defScope sNI) (by decide +kernel)) (fun _ _ _ _ _ => (pg_name (i := 7) scNI.nd rfl (.inl rfl))) (fun _ _ _ _ _ => pts_nil) (fun _ _ _ _ _ => (pe_ix (r := rIxL K) ix_list (pv 5) (pv 7) (fun _ _ => rfl)))) (pa_cons pe_int pa_nil)))))
        pss_nil)
      (pss_one (ps_ret (pe_tup (pa_cons (pe_lc (own := [("code", 7)]) (g := (gName 7)) (tt := tYes) rfl scNI.nd (pi_list (pv 6)) (blkOk_by (own := [("code", 7)]) (N := NNI) (sc := defScope sNI) (by decide +kernel)) (fun _ _ _ _ _ => (pg_name (i := 7) scNI.nd rfl (.inl rfl))) (fun _ _ _ _ _ => pts_nil) (fun _ _ _ _ _ => (pe_op op_add (pv 5) (pv 7)))) (pa_cons pe_int pa_nil))))))))), ?_⟩
    by_cases c0 : n = 0
    · subst c0
      refine ⟨_, rfl, _, rfl, rfl, true, rfl, if_t ⟨Nat.zero_le _, fun b nb => ⟨by show 2 ≤ sizeLine; decide, fun t nt => ?_⟩⟩⟩
      have s1 := same_new (o := .lst []) nb
      have s2 := same_new (o := .tup [.ref b, .int 0]) nt
      exact q t b _ (s1.trans s2) nb upd_same (s2 _ _ upd_same)
    refine ⟨_, rfl, _, rfl, rfl, false, congrArg V.bl (by rw [dec_int]; exact decide_eq_false (by omega)), if_f ?_⟩
    have gy := gd c0
    unfold badG at eb
    rw [if_neg c0] at eb
    unfold colF at ha
    refine ⟨_, rfl, a, C, dx, _, _, rfl, ha, T.cl, T.no _ (by decide), rfl, y.nm, RD, y.walks, rfl, rfl, has y, ?_⟩
    cases y with
    | «by» W =>
      refine ⟨true, rfl, if_t ?_⟩
      refine ⟨_, rfl, _, rfl, _, rfl, a, W, l, n, rfl, col, by omega, few, bin, big, fun t b H' s' nb ht hb => q t b H' s' nb ht ?_⟩
      unfold resV
      rw [if_neg c0]
      exact hb
    | plain =>
      refine ⟨false, rfl, if_f ?_⟩
      obtain ⟨r, er, hq⟩ := gy
      dsimp only at eb
      rw [er] at eb
      have eb : ckC l r.1 r.2.1 n = none := eb
      obtain ⟨al, wl⟩ := hdP_is bin er
      obtain ⟨ef, ee⟩ := fit_all al eb
      have wn : r.2.1 ≤ l.length := by
        have : r.2.1 * 1 ≤ r.2.1 * n := Nat.mul_le_mul_left _ (by omega)
        omega
      refine ⟨_, rfl, a, C, dx, _, _, rfl, ha, T.cl, T.no _ (by decide), rfl, q0, _, rfl, hq, rfl, _, _, rfl, _, _, rfl, _, _, rfl, rfl, ?_⟩
      refine ⟨_, rfl, a, C, dx, _, _, rfl, ha, T.cl, T.no _ (by decide), rfl, _, rfl, _, rfl, _, rfl, _, _, rfl, rfl, .inl ⟨by omega, by omega⟩, _, _, rfl, rfl, _, rfl, _, rfl, _, rfl, _, _, rfl, rfl, ?_⟩
      dsimp only [tNil]
      have ea : ((r.1 : Nat) : Int) + ((0 : Nat) : Int) * ((r.2.1 : Nat) : Int) = ((r.1 : Nat) : Int) := by
        rw [show ((0 : Nat) : Int) = 0 from rfl, Int.zero_mul, Int.add_zero]
      have en : ((n : Nat) : Int) - ((0 : Nat) : Int) = ((n : Nat) : Int) := by omega
      rw [ea, en]
      refine ⟨l, r.1, r.2.1, n, rfl, bin, by omega, al, few, by omega, fun m H1 s1 nm hm => ?_⟩
      rw [ef] at hm
      refine ⟨_, rfl, a, C, dx, _, _, rfl, s1 _ _ ha, T.cl, T.no _ (by decide), rfl, rfl, false, rfl, if_f ?_⟩
      have lc : (cdN l r.1 r.2.1 n).length = n := by
        unfold cdN
        (rw [List.length_map]; rw [List.length_range])
      refine ⟨_, rfl, m, rfl, ⟨_, SqL.of hm⟩, fun D nD => lc_mapL (xs := (cdN l r.1 r.2.1 n).map fun c => V.int ((c : Nat) : Int)) (((cdN l r.1 r.2.1 n).map fun c => r.2.2 + ((c : Nat) : Int)).map V.int) (by simp only [List.length_map]) nD (SqL.of hm) (by rw [List.length_map, lc]; exact small1000 (by omega)) (fun i x z Hc Q' hx hz sm q' => ?_) fun H2 s2 hD => ?_⟩
      · rw [List.getElem?_map] at hx
        obtain ⟨c, ec, rfl⟩ := Option.map_eq_some_iff.mp hx
        rw [List.getElem?_map, List.getElem?_map, ec] at hz
        cases hz
        exact ⟨rfl, _, rfl, _, rfl, _, _, rfl, rfl, q' Hc (Same.refl _)⟩
      · refine ⟨by show 2 ≤ sizeLine; decide, fun t nt => ?_⟩
        have s3 := same_new (o := .tup [.ref D, .int 0]) nt
        refine q t D _ ((s1.trans s2).trans s3) (s1.free nD) upd_same ?_
        unfold resV NL
        rw [if_neg c0]
        dsimp only
        rw [er]
        exact s3 _ _ hD
    | book =>
      refine ⟨false, rfl, if_f ?_⟩
      obtain ⟨r, bk, er, hq, hbk⟩ := gy
      dsimp only at eb
      rw [er] at eb
      obtain ⟨eb, fineC⟩ := book_fine (show badK l r.1 r.2.1 n = none from eb)
      obtain ⟨al, wl, bl⟩ := hdK_is bin er
      obtain ⟨v, ev⟩ : ∃ v, blen r.2.1 = v := ⟨_, rfl⟩
      have v9 : v ≤ 8901 := by
        rw [← ev]
        exact Nat.le_trans (blen_le2 wl) (by omega)
      rw [ev] at eb fineC hq
      obtain ⟨ef, ee⟩ := fit_all al eb
      rw [ef] at fineC
      refine ⟨_, rfl, a, C, dx, _, _, rfl, ha, T.cl, T.no _ (by decide), rfl, q0, _, rfl, hq, rfl, _, _, rfl, _, _, rfl, _, _, rfl, rfl, ?_⟩
      refine ⟨_, rfl, a, C, dx, _, _, rfl, ha, T.cl, T.no _ (by decide), rfl, _, rfl, _, rfl, _, rfl, _, _, rfl, rfl, .inl ⟨by omega, by omega⟩, _, _, rfl, rfl, _, rfl, _, rfl, _, rfl, _, _, rfl, rfl, ?_⟩
      dsimp only [tNil]
      have ea : ((r.1 : Nat) : Int) + ((0 : Nat) : Int) * ((v : Nat) : Int) = ((r.1 : Nat) : Int) := by
        rw [show ((0 : Nat) : Int) = 0 from rfl, Int.zero_mul, Int.add_zero]
      have en : ((n : Nat) : Int) - ((0 : Nat) : Int) = ((n : Nat) : Int) := by omega
      rw [ea, en]
      refine ⟨l, r.1, v, n, rfl, bin, by omega, al, few, by omega, fun m H1 s1 nm hm => ?_⟩
      rw [ef] at hm
      refine ⟨_, rfl, a, C, dx, _, _, rfl, s1 _ _ ha, T.cl, T.no _ (by decide), rfl, rfl, true, rfl, if_t ?_⟩
      have lc : (cdN l r.1 v n).length = n := by
        unfold cdN
        (rw [List.length_map]; rw [List.length_range])
      have hb1 := s1 _ _ hbk
      refine ⟨_, rfl, m, rfl, ⟨_, SqL.of hm⟩, fun D nD => lc_mapL (xs := (cdN l r.1 v n).map fun c => V.int ((c : Nat) : Int)) (((cdN l r.1 v n).map fun c => r.2.2.getD c 0).map V.int) (by simp only [List.length_map]) nD (SqL.of hm) (by rw [List.length_map, lc]; exact small1000 (by omega)) (fun i x z Hc Q' hx hz sm q' => ?_) fun H2 s2 hD => ?_⟩
      · rw [List.getElem?_map] at hx
        obtain ⟨c, ec, rfl⟩ := Option.map_eq_some_iff.mp hx
        rw [List.getElem?_map, List.getElem?_map, ec] at hz
        cases hz
        have lt : c < r.2.2.length := by
          have := fineC c (List.mem_of_getElem? ec)
          omega
        refine ⟨rfl, _, rfl, _, rfl, bk, _, _, _, rfl, rfl, SqL.of (sm _ _ hb1), atI_nat (j := c) (by rw [List.getElem?_map, List.getElem?_eq_getElem lt]; rfl), ?_⟩
        have z := q' Hc (Same.refl _)
        dsimp only at z
        rw [List.getD_eq_getElem?_getD, List.getElem?_eq_getElem lt] at z
        exact z
      · refine ⟨by show 2 ≤ sizeLine; decide, fun t nt => ?_⟩
        have s3 := same_new (o := .tup [.ref D, .int 0]) nt
        refine q t D _ ((s1.trans s2).trans s3) (s1.free nD) upd_same ?_
        unfold resV NL
        rw [if_neg c0]
        dsimp only
        rw [er]
        dsimp only
        rw [ev]
        exact s3 _ _ hD
def spCU (K : PySem.W.Frag) (C : Addr) : Sp := fun vs H Q _ => ∃ (a : Addr) (y : Wy) (l : List Nat) (n : Nat), vs = [.ref a] ∧ ColO K C H a y l n ∧ n ≤ 300 ∧ Bits l ∧ l.length ≤ 8900 ∧ ∀ (b : Addr) (H' : Hp), Same H H' → H b = none → NL H' b (resV y l n) → Q (.ref b) H'
theorem ok_cu (F : Fun K "unpacked" "Column.unpacked" sCU f fd) (T : TCol K C) (C_numbers_in : Cal P w K mg base k "numbers_in" ["column", "start", "end"] (spNI K C)) : FnOk P w K mg base CX0 (k + 1) f fd ["self"] (spCU K C) := by
  refine F.ok scCU (fun vs H Q E h => ?_) (fun cdv A outer s H vs Q E hr h => ?_)
  · obtain ⟨a, y, l, n, rfl, _⟩ := h
    rfl
  · obtain ⟨a, y, l, n, rfl, col, few, bin, big, q⟩ := h
    have ⟨dx, g, ha, _⟩ := col
    refine ⟨_, pss_cons (ps_asg (pe_cal C_numbers_in (hr.mono (by omega)) (by rfl) (pa_cons (pv 0) (pa_cons pe_int (pa_cons (pe_fld (pv 0) rfl) pa_nil)))) (pg_tup rfl (pgs_cons (pg_name (i := 1) scCU.nd rfl (.inl rfl)) (pgs_cons (pg_name (i := 2) scCU.nd rfl (.inl rfl)) pgs_nil))))
      (pss_one (ps_ret (pv 1))), ?_⟩
    refine ⟨_, rfl, _, rfl, a, C, dx, _, _, rfl, ha, T.cl, T.no _ (by decide), rfl, a, y, l, n, rfl, col, few, bin, big, fun t b H' s' nb ht hb => ?_⟩
    exact ⟨t, _, rfl, SqT.of ht, rfl, _, _, rfl, _, _, rfl, rfl, _, rfl, q b H' s' nb hb⟩
end
end Tg

namespace Tg
open PySem PySem.Spec PyProof.Rows L2
open SX (S)
/-! ### the law's own reading: a code -/
abbrev sLB : Stmt := topS 42
abbrev sLR2 : Stmt := topS 43
theorem scLB : FnScope ["_law_number_here"] ["_law_number_here"] (defScope sLB) := ⟨rfl, rfl, rfl, by decide +kernel, rfl, by decide +kernel, by decide +kernel⟩
theorem scLR2 : FnScope ["_law_a_bits", "_law_at", "_law_noughts", "_law_end", "_law_number_here", "_law_sign"] ["_law_a_bits", "_law_at"] (defScope sLR2) := ⟨rfl, rfl, rfl, by decide +kernel, rfl, by decide +kernel, by decide +kernel⟩
def muZ (n : Nat) : L2.St → Hp → Nat := fun σ _ => match σ[2]? with
  | some (some (V.int a)) => ((n : Int) - a).toNat
  | _ => 0
theorem sign_is {l : List Nat} {i : Nat} : (V.str (S ((l.drop i).take 1)) = V.str (S [48])) ↔ l[i]? = some 48 := by
  constructor
  · intro h
    injection h with h
    have e : (l.drop i).take 1 = [48] := by
      have z := congrArg (fun s : Str => s.cps.toList) h
      simpa using z
    have z : ((l.drop i).take 1)[0]? = some 48 := by rw [e]; rfl
    rw [List.getElem?_take_of_lt (by decide), List.getElem?_drop] at z
    exact z
  · intro h
    obtain ⟨lt, e⟩ := List.getElem?_eq_some_iff.mp h
    rw [List.drop_eq_getElem_cons lt, e]
    rfl
theorem one_sign {c : Nat} (h : IsBin c) : decide (V.str ⟨#[c]⟩ = V.str "1") = decide (c = 49) := by
  rcases h with rfl | rfl <;> decide +kernel
theorem cut_SN (l : List Nat) {i j : Nat} (il : i ≤ l.length) : cutS (S l) (some (i : Int)) (some (j : Int)) = S ((l.drop i).take (j - i)) := by
  unfold cutS
  rw [HT.sIx_nat, HT.sIx_nat, SX.S_len, Nat.min_eq_left il]
  show S ((l.drop i).take (min j l.length - i)) = _
  rcases Nat.le_total j l.length with h | h
  · rw [Nat.min_eq_left h]
  · rw [Nat.min_eq_right h, List.take_of_length_le (by rw [List.length_drop]; exact Nat.le_refl _), List.take_of_length_le (by rw [List.length_drop]; omega)]
section
variable {P : Program} {w : World} {K : PySem.W.Frag} {mg : Str → Option Value} {base : Heap} {f : Addr} {fd : FuncData} {k : Nat} {CB C : Addr}
def spLB : Sp := fun vs H Q _ => ∃ n : Nat, vs = [.int (n : Nat)] ∧ ∀ H', Same H H' → Q (.int (bk (n : Nat))) H'
theorem ok_lb (F : Fun K "_law_back" "_law_back" sLB f fd) : FnOk P w K mg base CX0 (k + 1) f fd ["_law_number_here"] spLB := by
  refine F.ok scLB (fun vs H Q E h => ?_) (fun cdv A outer s H vs Q E hr h => ?_)
  · obtain ⟨n, rfl, _⟩ := h
    rfl
  · obtain ⟨n, rfl, q⟩ := h
    refine ⟨_, pss_one (ps_ret (pe_ix ix_list (pe_lst (pa_cons (pe_op op_fdiv (pv 0) pe_int) (pa_cons (pe_op op_sub (pe_op op_sub pe_int (pe_op op_fdiv (pv 0) pe_int)) pe_int) pa_nil))) (pe_op op_mod (pv 0) pe_int) (fun _ _ => rfl))), ?_⟩
    refine ⟨_, rfl, _, _, rfl, rfl, ⟨by decide, by decide⟩, _, rfl, _, _, rfl, rfl, ⟨by decide, by decide⟩, _, _, rfl, rfl, _, _, rfl, rfl, by show 2 ≤ sizeLine; decide, fun b nb => ?_⟩
    have s1 := same_new (o := .lst [.int (((n : Nat) : Int) / 2), .int (0 - ((n : Nat) : Int) / 2 - 1)]) nb
    have z := q _ s1
    unfold bk at z
    refine ⟨_, rfl, _, _, rfl, rfl, (by show (0 : Int) < 2; decide), b, _, ((n : Nat) : Int) % 2, _, rfl, rfl, SqL.of upd_same, ?_, z⟩
    by_cases c : ((n : Nat) : Int) % 2 = 0
    · rw [if_pos c, c]
      rfl
    · have c1 : ((n : Nat) : Int) % 2 = 1 := by omega
      rw [if_neg c, c1]
      show some (V.int (0 - ((n : Nat) : Int) / 2 - 1)) = some (V.int (-(((n : Nat) : Int) / 2) - 1))
      congr 2
      omega
def spLRO : Sp := fun vs H Q _ => ∃ (l : List Nat) (a : Nat), vs = [.str (S l), .int (a : Nat)] ∧ Bits l ∧ l.length ≤ 8900 ∧ a ≤ l.length ∧
  (∀ r, rdO l a = some r → ∀ t H', Same H H' → H' t = some (.tup [.int (r.1 : Nat), .int (r.2 : Nat)]) → Q (.ref t) H') ∧ (rdO l a = none → ∀ H', Same H H' → Q .non H')
theorem ok_lro (F : Fun K "_law_read_own" "_law_read_own" sLR2 f fd) (m_len : mg "len" = none) (m_int : mg "int" = none) : FnOk P w K mg base CX0 (k + 1) f fd ["_law_a_bits", "_law_at"] spLRO := by
  refine F.ok scLR2 (fun vs H Q E h => ?_) (fun cdv A outer s H vs Q E hr h => ?_)
  · obtain ⟨l, a, rfl, _⟩ := h
    rfl
  · obtain ⟨l, a, rfl, bin, big, le, q, no⟩ := h
    refine ⟨_, pss_cons (ps_set (i := 2) scLR2.nd rfl (.inl rfl) pe_int)
      (pss_cons (ps_while PassesOwn.never (pt_cmpR op_eq (pe_slice sl_str (pv 0) (po_some (pe_op op_add (pv 1) (pv 2))) (po_some (pe_op op_add (pe_op op_add (pv 1) (pv 2)) pe_int))) pe_str (nomark _))
        (pss_one (ps_set (i := 2) scLR2.nd rfl (.inl rfl) (pe_op op_add (pv 2) pe_int))))
      (pss_cons (ps_set (i := 3) scLR2.nd rfl (.inl rfl) (pe_op op_add (pe_op op_add (pv 1) (pe_op op_mul pe_int (pv 2))) pe_int))
      (pss_cons (ps_if (pt_cmpR op_gt (pv 3) (pe_callB call_lenB (by rfl) m_len (by decide +kernel) (pa_cons (pv 0) pa_nil)) (nomark _))
        (pss_one (ps_ret pe_non))
        pss_nil)
      (pss_cons (ps_set (i := 4) scLR2.nd rfl (.inl rfl) pe_int)
      (pss_cons (ps_for PassesOwn.never rfl (pi_str (pe_slice sl_str (pv 0) (po_some (pe_op op_add (pv 1) (pv 2))) (po_some (pv 3)))) (pg_name (i := 5) scLR2.nd rfl (.inl rfl))
        (pss_one (ps_set (i := 4) scLR2.nd rfl (.inl rfl) (pe_op op_add (pe_op op_mul pe_int (pv 4)) (pe_callTy call_int1 (by rfl) m_int (by decide +kernel) (pa_cons (pe_cmpR op_eq (pv 5) pe_str (nomark _)) pa_nil))))))
      (pss_one (ps_ret (pe_tup (pa_cons (pe_op op_sub (pv 4) pe_int) (pa_cons (pv 3) pa_nil)))))))))), ?_⟩
    refine while_by (fun σ Hc => ∃ z : Nat, σ = [some (.str (S l)), some (.int (a : Nat)), some (.int (z : Nat)), none, none, none] ∧ z ≤ zr (l.drop a) ∧ Hc = H) (muZ (zr (l.drop a) + 1)) ⟨0, rfl, Nat.zero_le _, rfl⟩ ?_ ?_
    · rintro σ Hc ⟨z, rfl, zl, rfl⟩
      have lz := zr_le (l.drop a)
      rw [List.length_drop] at lz
      have e1 : ((a : Nat) : Int) + ((z : Nat) : Int) = ((a + z : Nat) : Int) := by omega
      have e2 : ((a + z : Nat) : Int) + 1 = ((a + z + 1 : Nat) : Int) := by omega
      refine ⟨_, rfl, _, rfl, _, rfl, _, _, rfl, rfl, _, rfl, _, rfl, _, rfl, _, _, rfl, rfl, _, _, rfl, rfl, _, rfl, S l, rfl, by rw [SX.S_len]; exact z500 (by omega), ?_⟩
      rw [e1, e2]
      by_cases c : z < zr (l.drop a)
      · rw [cut_S l (by omega) (by omega), Nat.add_sub_cancel_left]
        have h48 := zr_lo c
        rw [List.getElem?_drop] at h48
        refine ⟨rfl, true, congrArg V.bl (decide_eq_true (by rw [s_0]; exact sign_is.mpr h48)), if_t ⟨_, rfl, _, _, rfl, rfl, ⟨⟨z + 1, rfl, c, rfl⟩, ?_⟩⟩⟩
        show (((zr (l.drop a) + 1 : Nat) : Int) - (((z : Nat) : Int) + 1)).toNat < (((zr (l.drop a) + 1 : Nat) : Int) - ((z : Nat) : Int)).toNat
        omega
      · obtain rfl : z = zr (l.drop a) := by omega
        have no48 : l[a + zr (l.drop a)]? ≠ some 48 := fun h48 => by
          by_cases lt : zr (l.drop a) < (l.drop a).length
          · have h49 := zr_hi (fun x hx => bin x (List.mem_of_mem_drop hx)) lt
            rw [List.getElem?_drop, h48] at h49
            cases h49
          · have := (List.getElem?_eq_some_iff.mp h48).1
            rw [List.length_drop] at lt
            omega
        obtain ⟨z, ez⟩ : ∃ z, zr (l.drop a) = z := ⟨_, rfl⟩
        rw [ez] at no48 lz ⊢
        have ecut : V.str (cutS (S l) (some ((a + z : Nat) : Int)) (some ((a + z + 1 : Nat) : Int))) = V.str (S ((l.drop (a + z)).take 1)) := by
          rw [cut_SN l (by omega), Nat.add_sub_cancel_left]
        refine ⟨rfl, false, congrArg V.bl (decide_eq_false (by rw [ecut, s_0]; exact fun y => no48 (sign_is.mp y))), if_f ?_⟩
        have e3 : ((a : Nat) : Int) + 2 * ((z : Nat) : Int) + 1 = ((a + 2 * z + 1 : Nat) : Int) := by omega
        refine ⟨_, rfl, _, rfl, _, _, rfl, rfl, .inl ⟨by decide, by decide⟩, _, _, rfl, rfl, _, _, rfl, rfl, ?_⟩
        dsimp only
        rw [e3]
        refine ⟨_, rfl, _, rfl, l, rfl, by omega, _, _, rfl, rfl, _, rfl, ite2 (fun g => ?_) (fun g => ?_)⟩
        · have over : l.length < a + 2 * z + 1 := by
            have := of_decide_eq_true g
            omega
          exact no (by unfold rdO; rw [ez, if_neg (by omega)]) _ (Same.refl _)
        · have fits : a + 2 * z + 1 ≤ l.length := by
            have : ¬ (((a + 2 * z + 1 : Nat) : Int) > ((l.length : Nat) : Int)) := fun y => g (decide_eq_true y)
            omega
          obtain ⟨r, er⟩ : ∃ r, rdO l a = some r := by
            unfold rdO
            rw [ez, if_pos fits]
            exact ⟨_, rfl⟩
          obtain ⟨r2, _, _, r1⟩ := rdO_some bin er
          rw [ez] at r1 r2
          refine ⟨_, rfl, _, rfl, _, rfl, _, _, rfl, rfl, _, rfl, _, rfl, _, rfl, S l, rfl, by rw [SX.S_len]; exact z500 (by omega), _, rfl, ?_⟩
          have e4 : ((a : Nat) : Int) + ((z : Nat) : Int) = ((a + z : Nat) : Int) := by omega
          rw [e4, cut_S l (by omega) (by omega), show a + 2 * z + 1 - (a + z) = z + 1 by omega]
          obtain ⟨d, ed⟩ : ∃ d, (l.drop (a + z)).take (z + 1) = d := ⟨_, rfl⟩
          have bd : Bits d := fun c hc => by
            rw [← ed] at hc
            exact bin c (List.mem_of_mem_drop (List.mem_of_mem_take hc))
          rw [ed] at r1 ⊢
          refine for_str (x := S d) (fun i σ Hd => ∃ y, σ = [some (.str (S l)), some (.int (a : Nat)), some (.int (z : Nat)), some (.int (a + 2 * z + 1 : Nat)), some (.int (binNum (d.take i) : Nat)), y] ∧ Hd = Hc) ⟨_, rfl, rfl⟩ ?_ ?_
          · rintro i c σ Hd ec ⟨y, rfl, rfl⟩
            have ec : d[i]? = some c := by
              rw [← Array.getElem?_toList] at ec
              exact ec
            have hc := bd c (List.mem_of_getElem? ec)
            have en : binNum (d.take (i + 1)) = binNum (d.take i) * 2 + (c - 48) := by
              rw [List.take_add_one, ec]
              exact num_snoc _ _
            have e5 : 2 * ((binNum (d.take i) : Nat) : Int) + (if decide (V.str ⟨#[c]⟩ = V.str "1") then (1 : Int) else 0) = ((binNum (d.take (i + 1)) : Nat) : Int) := by
              rw [en, one_sign hc]
              unfold IsBin at hc
              rcases hc with rfl | rfl
              · rw [if_neg (by decide)]
                omega
              · rw [if_pos (by decide)]
                omega
            refine ⟨_, rfl, _, _, rfl, rfl, .inl ⟨by decide, by decide⟩, _, rfl, rfl, .inr ⟨_, rfl, _, _, rfl, rfl, some (.str ⟨#[c]⟩), ?_, rfl⟩⟩
            rw [← e5]
            rfl
          · rintro σ Hd ⟨y, rfl, rfl⟩
            have et : d.take (S d).cps.size = d := List.take_of_length_le (Nat.le_refl _)
            rw [et, r1]
            refine ⟨_, rfl, _, _, rfl, rfl, _, rfl, by show 2 ≤ sizeLine; decide, fun t nt => q r er t _ (same_new nt) ?_⟩
            rw [upd_same, r2]
            show some (HO.tup [V.int (((r.1 + 1 : Nat) : Int) - 1), _]) = _
            rw [show (((r.1 + 1 : Nat) : Int) - 1) = ((r.1 : Nat) : Int) by omega]
    · rintro σ Hc Q1 Q2 hq ⟨v1, h1, v2, h2, v3, h3, i1, j1, h4, h5, u1, g1, v4, h6, v5, h7, i2, j2, h8, h9, i3, j3, h10, h11, u2, g2, z, h12, h13, h14, b, h15, q⟩
      exact ⟨v1, h1, v2, h2, v3, h3, i1, j1, h4, h5, u1, g1, v4, h6, v5, h7, i2, j2, h8, h9, i3, j3, h10, h11, u2, g2, z, h12, h13, h14, b, h15, hq _ _ q⟩
end
end Tg

namespace Tg
open PySem PySem.Spec PyProof.Rows L2
open SX (S)
/-! ### the law's own reading: plain bits and books -/
abbrev sBo : Stmt := topS 44
abbrev sRP : Stmt := topS 45
theorem scBo : FnScope ["_law_a_way", "_law_a_bits", "_law_first", "_law_second", "_law_some", "_law_at", "_law_one"] ["_law_a_way", "_law_a_bits"] (defScope sBo) := ⟨rfl, rfl, rfl, by decide +kernel, rfl, by decide +kernel, by decide +kernel⟩
theorem scRP : FnScope ["_law_a_way", "_law_a_bits", "_law_count", "_law_some", "_law_width", "_law_at", "_law_numbers_here", "_law_k", "_law_number_here", "_law_sign"] ["_law_a_way", "_law_a_bits", "_law_count"] (defScope sRP) := ⟨rfl, rfl, rfl, by decide +kernel, rfl, by decide +kernel, by decide +kernel⟩
/-- the head of either: the place of the codes, their width, the least alone or the book -/
def hdY : Bool → List Nat → Nat ⊕ (Nat × Nat × List Int)
  | false, l => match hdP l with
    | .inl p => .inl p
    | .inr r => .inr (r.1, r.2.1, [r.2.2])
  | true, l => match hdK l with
    | .inl p => .inl p
    | .inr r => .inr (r.1, blen r.2.1, r.2.2)
def yOf : Bool → Wy
  | false => .plain
  | true => .book
def capB (b : Bool) (bs : List Int) : Option Nat := if b = true then some (bs.length - 1) else none
def valB (b : Bool) (bs : List Int) (c : Nat) : Int := if b = true then bs.getD c 0 else bs.headD 0 + ((c : Nat) : Int)
def badC (cap : Option Nat) (l : List Nat) (a w n : Nat) : Option Nat := match (cdN l a w (fitN l a w n)).findIdx? (fun c => over cap c) with
  | some i => some (a + i * w)
  | none => ckC l a w n
theorem bad_inl {b : Bool} {l : List Nat} {n p : Nat} (n0 : n ≠ 0) (h : hdY b l = .inl p) : badG (yOf b) l n = some p := by
  unfold badG
  rw [if_neg n0]
  cases b with
  | false =>
    dsimp only [hdY] at h
    show (match hdP l with | .inl p => some p | .inr r => ckC l r.1 r.2.1 n) = some p
    cases e : hdP l with
    | inl q =>
      rw [e] at h
      cases h
      rfl
    | inr r =>
      rw [e] at h
      cases h
  | true =>
    dsimp only [hdY] at h
    show (match hdK l with | .inl p => some p | .inr r => badK l r.1 r.2.1 n) = some p
    cases e : hdK l with
    | inl q =>
      rw [e] at h
      cases h
      rfl
    | inr r =>
      rw [e] at h
      cases h
theorem bad_inr {b : Bool} {l : List Nat} {n : Nat} {r : Nat × Nat × List Int} (bin : Bits l) (n0 : n ≠ 0) (h : hdY b l = .inr r) : badG (yOf b) l n = badC (capB b r.2.2) l r.1 r.2.1 n ∧ resV (yOf b) l n = (cdN l r.1 r.2.1 n).map (valB b r.2.2) := by
  unfold badG resV
  rw [if_neg n0, if_neg n0]
  cases b with
  | false =>
    dsimp only [hdY] at h
    cases e : hdP l with
    | inl q =>
      rw [e] at h
      cases h
    | inr u =>
      rw [e] at h
      cases h
      refine ⟨?_, rfl⟩
      show ckC l u.1 u.2.1 n = badC none l u.1 u.2.1 n
      unfold badC
      have z : (cdN l u.1 u.2.1 (fitN l u.1 u.2.1 n)).findIdx? (fun c => over none c) = none := by
        rw [List.findIdx?_eq_none_iff]
        exact fun c _ => rfl
      rw [z]
  | true =>
    dsimp only [hdY] at h
    cases e : hdK l with
    | inl q =>
      rw [e] at h
      cases h
    | inr u =>
      rw [e] at h
      cases h
      obtain ⟨_, _, ln⟩ := hdK_is bin e
      refine ⟨?_, rfl⟩
      show badK l u.1 u.2.1 n = badC (some (u.2.2.length - 1)) l u.1 (blen u.2.1) n
      rw [ln, Nat.add_sub_cancel]
      rfl
section
variable {cap : Option Nat} {l : List Nat} {a w n k : Nat}
theorem fit_ge (kn : k ≤ n) (fit : a + k * w ≤ l.length) : k ≤ fitN l a w n := by
  unfold fitN
  by_cases z : w = 0
  · rw [if_pos z]
    exact kn
  · rw [if_neg z]
    refine Nat.le_min.mpr ⟨kn, (Nat.le_div_iff_mul_le (Nat.pos_of_ne_zero z)).mpr (by omega)⟩
theorem cdN_at {f i : Nat} (h : i < f) : (cdN l a w f)[i]? = some (num l (a + i * w) w) := by
  unfold cdN
  rw [List.getElem?_map, List.getElem?_range h]
  rfl
theorem cdN_len {f : Nat} : (cdN l a w f).length = f := by
  unfold cdN
  (rw [List.length_map]; rw [List.length_range])
theorem bad_room (kn : k < n) (fit : a + k * w ≤ l.length) (no : l.length < a + k * w + w) (fine : ∀ j, j < k → over cap (num l (a + j * w) w) = false) : badC cap l a w n = some (a + k * w) := by
  have wp : 0 < w := by omega
  have hq : (l.length - a) / w = k := by
    rw [Nat.div_eq_iff wp]
    omega
  have ef : fitN l a w n = k := by
    unfold fitN
    rw [if_neg (by omega), hq]
    omega
  have h2 : (k + 1) * w ≤ n * w := Nat.mul_le_mul_right w kn
  rw [Nat.succ_mul] at h2
  unfold badC
  have z : (cdN l a w (fitN l a w n)).findIdx? (fun c => over cap c) = none := by
    rw [List.findIdx?_eq_none_iff, ef]
    intro c hc
    obtain ⟨j, lj, ej⟩ := List.mem_iff_getElem.mp hc
    rw [cdN_len] at lj
    have e := List.getElem?_eq_getElem (l := cdN l a w k) (i := j) (by rw [cdN_len]; exact lj)
    rw [cdN_at lj, ej] at e
    cases e
    exact fine j lj
  rw [z]
  dsimp only
  unfold ckC
  rw [Nat.mul_comm w n, if_pos (by omega), hq]
theorem bad_over (kn : k < n) (fit : a + k * w + w ≤ l.length) (ov : over cap (num l (a + k * w) w) = true) (fine : ∀ j, j < k → over cap (num l (a + j * w) w) = false) : badC cap l a w n = some (a + k * w) := by
  have fg : k + 1 ≤ fitN l a w n := fit_ge kn (by rw [Nat.succ_mul]; omega)
  unfold badC
  have z : (cdN l a w (fitN l a w n)).findIdx? (fun c => over cap c) = some k := by
    rw [List.findIdx?_eq_some_iff_getElem]
    have lk : k < (cdN l a w (fitN l a w n)).length := by
      rw [cdN_len]
      omega
    refine ⟨lk, ?_, fun j hj => ?_⟩
    · have e := List.getElem?_eq_getElem lk
      rw [cdN_at (by omega)] at e
      rw [← Option.some.inj e]
      exact ov
    · have e := List.getElem?_eq_getElem (l := cdN l a w (fitN l a w n)) (i := j) (by omega)
      rw [cdN_at (by omega)] at e
      rw [← Option.some.inj e, fine j hj]
      decide
  rw [z]
theorem bad_end (fit : a + n * w ≤ l.length) (fine : ∀ j, j < n → over cap (num l (a + j * w) w) = false) : badC cap l a w n = if a + n * w < l.length then some (a + n * w) else none := by
  have fg : n ≤ fitN l a w n := fit_ge (Nat.le_refl _) fit
  have fl : fitN l a w n = n := by
    have : fitN l a w n ≤ n := by
      unfold fitN
      split <;> omega
    omega
  unfold badC
  have z : (cdN l a w (fitN l a w n)).findIdx? (fun c => over cap c) = none := by
    rw [List.findIdx?_eq_none_iff, fl]
    intro c hc
    obtain ⟨j, lj, ej⟩ := List.mem_iff_getElem.mp hc
    rw [cdN_len] at lj
    have e := List.getElem?_eq_getElem (l := cdN l a w n) (i := j) (by rw [cdN_len]; exact lj)
    rw [cdN_at lj, ej] at e
    cases e
    exact fine j lj
  rw [z]
  dsimp only
  unfold ckC
  rw [Nat.mul_comm w n, if_neg (by omega)]
end
def muT : L2.St → Hp → Nat := fun σ _ => match σ[5]? with
  | some (some (V.int a)) => (60000 - a).toNat
  | _ => 0
section
variable {P : Program} {w : World} {K : PySem.W.Frag} {mg : Str → Option Value} {base : Heap} {f : Addr} {fd : FuncData} {k : Nat} {CB C : Addr}
def spBo : Sp := fun vs H Q _ => ∃ (b : Bool) (l : List Nat), vs = [.str (yOf b).nm, .str (S l)] ∧ Bits l ∧ l.length ≤ 8900 ∧
  (∀ p, hdY b l = .inl p → ∀ t H', Same H H' → H' t = some (.tup [.non, .int 0, .int (p : Nat)]) → Q (.ref t) H') ∧
  (∀ r, hdY b l = .inr r → ∀ t m H', Same H H' → H' t = some (.tup [.ref m, .int (r.2.1 : Nat), .int (r.1 : Nat)]) → NL H' m r.2.2 → Q (.ref t) H')
theorem ok_bo (F : Fun K "_law_book" "_law_book" sBo f fd) (L_read_own : Cal P w K mg base k "_law_read_own" ["_law_a_bits", "_law_at"] spLRO) (L_back : Cal P w K mg base k "_law_back" ["_law_number_here"] spLB) (L_length : Cal P w K mg base k "_law_length" ["_law_number_here"] spLe) (m_len : mg "len" = none) : FnOk P w K mg base CX0 (k + 1) f fd ["_law_a_way", "_law_a_bits"] spBo := by
  refine F.ok scBo (fun vs H Q E h => ?_) (fun cdv A outer s H vs Q E hr h => ?_)
  · obtain ⟨b, l, rfl, _⟩ := h
    rfl
  · obtain ⟨b, l, rfl, bin, big, no, q⟩ := h
    refine ⟨_, pss_cons (ps_set (i := 2) scBo.nd rfl (.inl rfl) (pe_cal L_read_own (hr.mono (by omega)) (by rfl) (pa_cons (pv 1) (pa_cons pe_int pa_nil))))
      (pss_cons (ps_if (pt_cmpR op_isN (pv 2) pe_non (nomark _))
        (pss_one (ps_ret (pe_tup (pa_cons pe_non (pa_cons pe_int (pa_cons pe_int pa_nil))))))
        pss_nil)
      (pss_cons (ps_set (i := 3) scBo.nd rfl (.inl rfl) (pe_cal L_read_own (hr.mono (by omega)) (by rfl) (pa_cons (pv 1) (pa_cons (pe_ix ix_tup (pv 2) pe_int (fun _ _ => rfl)) pa_nil))))
      (pss_cons (ps_if (pt_cmpR op_isN (pv 3) pe_non (nomark _))
        (pss_one (ps_ret (pe_tup (pa_cons pe_non (pa_cons pe_int (pa_cons (pe_ix ix_tup (pv 2) pe_int (fun _ _ => rfl)) pa_nil))))))
        pss_nil)
      (pss_cons (ps_if (pt_cmpR op_eq (pv 0) pe_str (nomark _))
        (pss_one (ps_ret (pe_tup (pa_cons (pe_lst (pa_cons (pe_cal L_back (hr.mono (by omega)) (by rfl) (pa_cons (pe_ix ix_tup (pv 2) pe_int (fun _ _ => rfl)) pa_nil)) pa_nil)) (pa_cons (pe_ix ix_tup (pv 3) pe_int (fun _ _ => rfl)) (pa_cons (pe_ix ix_tup (pv 3) pe_int (fun _ _ => rfl)) pa_nil))))))
        pss_nil)
      (pss_cons (ps_set (i := 4) scBo.nd rfl (.inl rfl) (pe_lst (pa_cons (pe_cal L_back (hr.mono (by omega)) (by rfl) (pa_cons (pe_ix ix_tup (pv 3) pe_int (fun _ _ => rfl)) pa_nil)) pa_nil)))
      (pss_cons (ps_set (i := 5) scBo.nd rfl (.inl rfl) (pe_ix ix_tup (pv 3) pe_int (fun _ _ => rfl)))
      (pss_cons (ps_while PassesOwn.never (pt_cmpR op_lt (pe_callB call_len_seq (by rfl) m_len (by decide +kernel) (pa_cons (pv 4) pa_nil)) (pe_op op_add (pe_ix ix_tup (pv 2) pe_int (fun _ _ => rfl)) pe_int) (nomark _))
        (pss_cons (ps_set (i := 6) scBo.nd rfl (.inl rfl) (pe_cal L_read_own (hr.mono (by omega)) (by rfl) (pa_cons (pv 1) (pa_cons (pv 5) pa_nil))))
        (pss_cons (ps_if (pt_cmpR op_isN (pv 6) pe_non (nomark _))
          (pss_one (ps_ret (pe_tup (pa_cons pe_non (pa_cons pe_int (pa_cons (pv 5) pa_nil))))))
          pss_nil)
        (pss_cons (ps_expr (pe_bm PySem.F.plainAttrs_list PySem.F.slot_list_append PySem.F.type_list_append mt_append (pv 4) (pa_cons (pe_op op_add (pe_op op_add (pe_ix ix_list (pv 4) (pe_un un_neg pe_int) (fun _ _ => rfl)) (pe_ix ix_tup (pv 6) pe_int (fun _ _ => rfl))) pe_int) pa_nil)))
        (pss_one (ps_set (i := 5) scBo.nd rfl (.inl rfl) (pe_ix ix_tup (pv 6) pe_int (fun _ _ => rfl))))))))
      (pss_one (ps_ret (pe_tup (pa_cons (pv 4) (pa_cons (pe_cal L_length (hr.mono (by omega)) (by rfl) (pa_cons (pe_ix ix_tup (pv 2) pe_int (fun _ _ => rfl)) pa_nil)) (pa_cons (pv 5) pa_nil))))))))))))), ?_⟩
    have head0 : rdO l 0 = none → hdY b l = .inl 0 := fun e => by
      cases b with
      | false =>
        dsimp only [hdY, hdP]
        rw [e]
      | true =>
        dsimp only [hdY, hdK]
        rw [e]
    have head1 : ∀ r, rdO l 0 = some r → rdO l r.2 = none → hdY b l = .inl r.2 := fun r e1 e2 => by
      cases b with
      | false =>
        dsimp only [hdY, hdP]
        rw [e1]
        dsimp only
        rw [e2]
      | true =>
        dsimp only [hdY, hdK]
        rw [e1]
        dsimp only
        rw [e2]
    refine ⟨_, rfl, l, 0, rfl, bin, big, Nat.zero_le _, fun r er t H1 s1 ht => ?_, fun e H1 s1 => ?_⟩
    · refine ⟨_, rfl, rfl, false, rfl, if_f ?_⟩
      refine ⟨_, rfl, _, rfl, t, _, 1, .int (r.2 : Nat), rfl, rfl, SqT.of ht, rfl, l, r.2, rfl, bin, big, (rdO_lt bin er).2, fun u eu t2 H2 s2 ht2 => ?_, fun e H2 s2 => ?_⟩
      · have s12 := s1.trans s2
        have ht1 := s2 _ _ ht
        refine ⟨_, rfl, rfl, false, rfl, if_f ?_⟩
        cases b with
        | false =>
          have eh : hdY false l = .inr (u.2, u.1, [bk (r.1 : Nat)]) := by
            dsimp only [hdY, hdP]
            rw [er]
            dsimp only
            rw [eu]
          refine ⟨_, rfl, rfl, true, rfl, if_t ?_⟩
          refine ⟨_, rfl, t, _, 0, .int (r.1 : Nat), rfl, rfl, SqT.of ht1, rfl, r.1, rfl, fun H3 s3 => ⟨by show 1 ≤ sizeLine; decide, fun m nm => ?_⟩⟩
          have s4 := same_new (o := .lst [V.int (bk (r.1 : Nat))]) nm
          have s34 := s3.trans s4
          refine ⟨_, rfl, t2, _, 0, .int (u.1 : Nat), rfl, rfl, SqT.of (s34 _ _ ht2), rfl, _, rfl, t2, _, 1, .int (u.2 : Nat), rfl, rfl, SqT.of (s34 _ _ ht2), rfl, by show 3 ≤ sizeLine; decide, fun t3 nt => ?_⟩
          have s5 := same_new (o := .tup [.ref m, .int (u.1 : Nat), .int (u.2 : Nat)]) nt
          exact q _ eh t3 m _ ((s12.trans s34).trans s5) upd_same (s5 _ _ upd_same)
        | true =>
          refine ⟨_, rfl, rfl, false, rfl, if_f ?_⟩
          obtain ⟨x0, ex0⟩ : ∃ x0, bk (u.1 : Nat) = x0 := ⟨_, rfl⟩
          have eh1 : ∀ p, gps l r.1 u.2 x0 = .inl p → hdY true l = .inl p := fun p ez => by
            dsimp only [hdY, hdK]
            rw [er]
            dsimp only
            rw [eu]
            dsimp only
            rw [ex0, ez]
          have eh2 : ∀ b ys, gps l r.1 u.2 x0 = .inr (b, ys) → hdY true l = .inr (b, blen r.1, x0 :: ys) := fun b ys ez => by
            dsimp only [hdY, hdK]
            rw [er]
            dsimp only
            rw [eu]
            dsimp only
            rw [ex0, ez]
          refine ⟨_, rfl, t2, _, 0, .int (u.1 : Nat), rfl, rfl, SqT.of ht2, rfl, u.1, rfl, fun H3 s3 => ⟨by show 1 ≤ sizeLine; decide, fun m nm => ?_⟩⟩
          rw [ex0]
          have s4 := same_new (o := .lst [V.int x0]) nm
          have s34 := s3.trans s4
          refine ⟨_, rfl, t2, _, 1, .int (u.2 : Nat), rfl, rfl, SqT.of (s34 _ _ ht2), rfl, ?_⟩
          have st := s12.trans s34
          refine while_by (fun σ Hc => ∃ (i a : Nat) (ys : List Int) (x : Int) (z : Option V), σ = [some (.str (yOf true).nm), some (.str (S l)), some (.ref t), some (.ref t2), some (.ref m), some (.int (a : Nat)), z] ∧ i ≤ r.1 ∧ ys.length = i ∧ i ≤ a ∧ a ≤ l.length ∧ Same H Hc ∧ SqT K Hc t [.int (r.1 : Nat), .int (r.2 : Nat)] ∧ Hc m = some (.lst ((x0 :: ys).map V.int)) ∧ (∃ pre, x0 :: ys = pre ++ [x]) ∧ gps l r.1 u.2 x0 = ahead ys (gps l (r.1 - i) a x)) muT ?_ ?_ ?_
          · refine ⟨0, u.2, [], x0, none, rfl, Nat.zero_le _, rfl, Nat.zero_le _, (rdO_lt bin eu).2, st, SqT.of (s34 _ _ ht1), upd_same, ⟨[], rfl⟩, ?_⟩
            rw [ahead_nil, Nat.sub_zero]
          · rintro σ Hc ⟨i, a, ys, x, z, rfl, ir, ly, ia, al, sm, htc, hl, ⟨pre, ep⟩, eg⟩
            have lt : ((x0 :: ys).map V.int).length = i + 1 := by
              rw [List.length_map, List.length_cons, ly]
            refine ⟨_, rfl, m, _, rfl, .inl (SqL.of hl), _, rfl, t, _, 0, .int (r.1 : Nat), rfl, rfl, htc, rfl, _, _, rfl, rfl, _, _, rfl, rfl, _, rfl, ite2 (fun g => ?_) (fun g => ?_)⟩
            · have g1 : i < r.1 := by
                have := of_decide_eq_true g
                rw [lt] at this
                omega
              obtain ⟨k, ek⟩ : ∃ k, r.1 - i = k + 1 := ⟨r.1 - i - 1, by omega⟩
              rw [ek] at eg
              refine ⟨_, rfl, _, rfl, l, a, rfl, bin, big, al, fun r3 er3 t3 H4 s4 ht3 => ?_, fun e H4 s4 => ?_⟩
              · have hl4 := s4 _ _ hl
                obtain ⟨a3, l3⟩ := rdO_lt bin er3
                refine ⟨_, rfl, rfl, false, rfl, if_f ?_⟩
                refine ⟨_, rfl, .inl ⟨rfl, _, SqL.of hl4⟩, _, rfl, 1, rfl, m, _, -1, .int x, rfl, rfl, SqL.of hl4, (by rw [ep, List.map_append]; exact atI_last _ _), _, rfl, t3, _, 0, .int (r3.1 : Nat), rfl, rfl, SqT.of ht3, rfl, _, _, rfl, rfl, _, _, rfl, rfl, m, _, _, rfl, rfl, hl4, Nat.lt_of_le_of_lt (show _ ≤ 9000 by omega) (by decide), ?_⟩
                have kt : KT H4 (upd H4 m (.lst ((x0 :: ys).map V.int ++ [.int (x + ((r3.1 : Nat) : Int) + 1)]))) := KT.put hl4 nfix_lst
                refine ⟨_, rfl, t3, _, 1, .int (r3.2 : Nat), rfl, rfl, sqT_kt kt (SqT.of ht3), rfl, ?_⟩
                refine ⟨⟨i + 1, r3.2, ys ++ [x + ((r3.1 : Nat) : Int) + 1], x + ((r3.1 : Nat) : Int) + 1, some (.ref t3), rfl, by omega, by rw [List.length_append, ly]; rfl, by omega, l3, same_put ((s12.trans s3).free nm) (sm.trans s4), sqT_kt kt (sqT_same s4 htc), ?_, ⟨x0 :: ys, rfl⟩, ?_⟩, ?_⟩
                · rw [upd_same, ← List.cons_append, List.map_append]
                  rfl
                · rw [eg, gps_next er3, ahead_more, show r.1 - (i + 1) = k by omega]
                · show (60000 - ((r3.2 : Nat) : Int)).toNat < (60000 - ((a : Nat) : Int)).toNat
                  omega
              · refine ⟨_, rfl, rfl, true, rfl, if_t ⟨_, rfl, by show 3 ≤ sizeLine; decide, fun t3 nt => ?_⟩⟩
                exact no _ (eh1 a (by rw [eg, gps_none e]; rfl)) t3 _ ((sm.trans s4).trans (same_new nt)) upd_same
            · have g1 : i = r.1 := by
                have : ¬ ((((x0 :: ys).map V.int).length : Nat) : Int) < ((r.1 : Nat) : Int) + 1 := fun z => g (decide_eq_true z)
                rw [lt] at this
                omega
              subst g1
              have eh := eh2 a ys (by
                rw [eg, Nat.sub_self]
                show Sum.inr (a, ys ++ []) = _
                rw [List.append_nil])
              refine ⟨_, rfl, _, rfl, t, _, 0, .int (r.1 : Nat), rfl, rfl, htc, rfl, r.1, rfl, ?_⟩
              refine ⟨_, rfl, by show 3 ≤ sizeLine; decide, fun t3 nt => ?_⟩
              have sf := same_new (o := .tup [.ref m, .int (blen r.1 : Nat), .int (a : Nat)]) nt
              exact q _ eh t3 m _ (sm.trans sf) upd_same (sf _ _ hl)
          · rintro σ Hc Q1 Q2 hq ⟨v1, h1, p, ys, e, sq, v2, h2, a2, xs, i2, x2, e1, e2, sq2, e3, i3, j3, e4, e5, i4, j4, e6, e7, b, e8, q⟩
            exact ⟨v1, h1, p, ys, e, sq, v2, h2, a2, xs, i2, x2, e1, e2, sq2, e3, i3, j3, e4, e5, i4, j4, e6, e7, b, e8, hq _ _ q⟩
      · refine ⟨_, rfl, rfl, true, rfl, if_t ?_⟩
        refine ⟨_, rfl, t, _, 1, .int (r.2 : Nat), rfl, rfl, SqT.of (s2 _ _ ht), rfl, by show 3 ≤ sizeLine; decide, fun t3 nt => ?_⟩
        exact no _ (head1 r er e) t3 _ ((s1.trans s2).trans (same_new nt)) upd_same
    · refine ⟨_, rfl, rfl, true, rfl, if_t ⟨by show 3 ≤ sizeLine; decide, fun t3 nt => ?_⟩⟩
      exact no _ (head0 e) t3 _ (s1.trans (same_new nt)) upd_same
/-- what reading tells: the numbers, or the place that is refused -/
def TellR (Q : VK) (H : Hp) (y : Wy) (l : List Nat) (n : Nat) : Prop := (∀ p, badG y l n = some p → ∀ t H', Same H H' → H' t = some (.tup [.str "none", .int (p : Nat)]) → Q (.ref t) H') ∧
  (badG y l n = none → ∀ t m H', Same H H' → H' t = some (.tup [.str "told", .ref m]) → NL H' m (resV y l n) → Q (.ref t) H')
def spRP : Sp := fun vs H Q _ => ∃ (b : Bool) (l : List Nat) (n : Nat), vs = [.str (yOf b).nm, .str (S l), .int (n : Nat)] ∧ Bits l ∧ l.length ≤ 8900 ∧ n ≤ 300 ∧ n ≠ 0 ∧ TellR Q H (yOf b) l n
theorem over_len {b : Bool} {bs : List Int} {c : Nat} (h : bs ≠ []) (e : b = true) : over (capB b bs) c = decide (bs.length ≤ c) := by
  unfold capB
  rw [if_pos e]
  have := List.length_pos_iff.mpr h
  unfold over
  exact decide_eq_decide.mpr (by (omega))
theorem hdY_is {b : Bool} {l : List Nat} {r : Nat × Nat × List Int} (bin : Bits l) (h : hdY b l = .inr r) : r.1 ≤ l.length ∧ r.2.2 ≠ [] := by
  cases b with
  | false =>
    dsimp only [hdY] at h
    cases e : hdP l with
    | inl q =>
      rw [e] at h
      cases h
    | inr u =>
      rw [e] at h
      cases h
      exact ⟨(hdP_is bin e).1, List.cons_ne_nil _ _⟩
  | true =>
    dsimp only [hdY] at h
    cases e : hdK l with
    | inl q =>
      rw [e] at h
      cases h
    | inr u =>
      rw [e] at h
      cases h
      obtain ⟨h1, _, h3⟩ := hdK_is bin e
      exact ⟨h1, fun z => by
        have h3 : u.2.2.length = u.2.1 + 1 := h3
        rw [show u.2.2 = [] from z] at h3
        cases h3⟩
theorem ok_rp (F : Fun K "_law_read_placed" "_law_read_placed" sRP f fd) (L_book : Cal P w K mg base k "_law_book" ["_law_a_way", "_law_a_bits"] spBo) (m_len : mg "len" = none) (m_int : mg "int" = none) (m_range : mg "range" = none) : FnOk P w K mg base CX0 (k + 1) f fd ["_law_a_way", "_law_a_bits", "_law_count"] spRP := by
  refine F.ok scRP (fun vs H Q E h => ?_) (fun cdv A outer s H vs Q E hr h => ?_)
  · obtain ⟨b, l, n, rfl, _⟩ := h
    rfl
  · obtain ⟨b, l, n, rfl, bin, big, few, n0, no, q⟩ := h
    refine ⟨_, pss_cons (ps_asg (pe_cal L_book (hr.mono (by omega)) (by rfl) (pa_cons (pv 0) (pa_cons (pv 1) pa_nil))) (pg_tup rfl (pgs_cons (pg_name (i := 3) scRP.nd rfl (.inl rfl)) (pgs_cons (pg_name (i := 4) scRP.nd rfl (.inl rfl)) (pgs_cons (pg_name (i := 5) scRP.nd rfl (.inl rfl)) pgs_nil)))))
      (pss_cons (ps_if (pt_cmpR op_isN (pv 3) pe_non (nomark _))
        (pss_one (ps_ret (pe_tup (pa_cons pe_str (pa_cons (pv 5) pa_nil)))))
        pss_nil)
      (pss_cons (ps_set (i := 6) scRP.nd rfl (.inl rfl) (pe_lst pa_nil))
      (pss_cons (ps_for PassesOwn.never rfl (pi_range1 (by rfl) m_range (pa_cons (pv 2) pa_nil)) (pg_name (i := 7) scRP.nd rfl (.inl rfl))
        (pss_cons (ps_if (pt_cmpR op_gt (pe_op op_add (pv 5) (pv 4)) (pe_callB call_lenB (by rfl) m_len (by decide +kernel) (pa_cons (pv 1) pa_nil)) (nomark _))
          (pss_one (ps_ret (pe_tup (pa_cons pe_str (pa_cons (pv 5) pa_nil)))))
          pss_nil)
        (pss_cons (ps_set (i := 8) scRP.nd rfl (.inl rfl) pe_int)
        (pss_cons (ps_for PassesOwn.never rfl (pi_str (pe_slice sl_str (pv 1) (po_some (pv 5)) (po_some (pe_op op_add (pv 5) (pv 4))))) (pg_name (i := 9) scRP.nd rfl (.inl rfl))
          (pss_one (ps_set (i := 8) scRP.nd rfl (.inl rfl) (pe_op op_add (pe_op op_mul pe_int (pv 8)) (pe_callTy call_int1 (by rfl) m_int (by decide +kernel) (pa_cons (pe_cmpR op_eq (pv 9) pe_str (nomark _)) pa_nil))))))
        (pss_cons (ps_if (PW.pt (pw_and (pt_cmpR op_eq (pv 0) pe_str (nomark _)) (pw_and1 (pt_cmpR op_ge (pv 8) (pe_callB call_len_seq (by rfl) m_len (by decide +kernel) (pa_cons (pv 3) pa_nil)) (nomark _)))))
          (pss_one (ps_ret (pe_tup (pa_cons pe_str (pa_cons (pv 5) pa_nil)))))
          pss_nil)
        (pss_cons (ps_if (pt_cmpR op_eq (pv 0) pe_str (nomark _))
          (pss_one (ps_expr (pe_bm PySem.F.plainAttrs_list PySem.F.slot_list_append PySem.F.type_list_append mt_append (pv 6) (pa_cons (pe_ix ix_list (pv 3) (pv 8) (fun _ _ => rfl)) pa_nil))))
          (pss_one (ps_expr (pe_bm PySem.F.plainAttrs_list PySem.F.slot_list_append PySem.F.type_list_append mt_append (pv 6) (pa_cons (pe_op op_add (pe_ix ix_list (pv 3) pe_int (fun _ _ => rfl)) (pv 8)) pa_nil)))))
        (pss_one (ps_set (i := 5) scRP.nd rfl (.inl rfl) (pe_op op_add (pv 5) (pv 4))))))))))
      (pss_cons (ps_if (pt_cmpR op_lt (pv 5) (pe_callB call_lenB (by rfl) m_len (by decide +kernel) (pa_cons (pv 1) pa_nil)) (nomark _))
        (pss_one (ps_ret (pe_tup (pa_cons pe_str (pa_cons (pv 5) pa_nil)))))
        pss_nil)
      (pss_one (ps_ret (pe_tup (pa_cons pe_str (pa_cons (pv 6) pa_nil))))))))), ?_⟩
    refine ⟨_, rfl, _, rfl, b, l, rfl, bin, big, fun p ep t H1 s1 ht => ?_, fun r er t m H1 s1 ht hm => ?_⟩
    · refine ⟨t, _, rfl, SqT.of ht, rfl, _, _, rfl, _, _, rfl, _, _, rfl, rfl, _, rfl, rfl, true, rfl, if_t ⟨_, rfl, by show 2 ≤ sizeLine; decide, fun u nu => ?_⟩⟩
      exact no p (bad_inl n0 ep) u _ (s1.trans (same_new nu)) upd_same
    · obtain ⟨ebad, eres⟩ := bad_inr (n := n) bin n0 er
      obtain ⟨al, bne⟩ := hdY_is bin er
      obtain ⟨a, v, bs⟩ := r
      dsimp only at ebad eres al bne ht hm
      refine ⟨t, _, rfl, SqT.of ht, rfl, _, _, rfl, _, _, rfl, _, _, rfl, rfl, _, rfl, rfl, false, rfl, if_f ?_⟩
      refine ⟨Nat.zero_le _, fun d nd => ?_⟩
      have s2 := same_new (o := .lst []) nd
      refine ⟨_, rfl, _, rfl, by omega, by omega, for_range (n := n) (fun i σ Hc => ∃ y7 y8 y9 : Option V, σ = [some (.str (yOf b).nm), some (.str (S l)), some (.int (n : Nat)), some (.ref m), some (.int (v : Nat)), some (.int (a + i * v : Nat)), some (.ref d), y7, y8, y9] ∧ Same H1 Hc ∧ NL Hc d ((cdN l a v i).map (valB b bs)) ∧ a + i * v ≤ l.length ∧ ∀ j, j < i → over (capB b bs) (num l (a + j * v) v) = false) ?_ ?_ ?_⟩
      · refine ⟨none, none, none, ?_, s2, upd_same, ?_, fun j h => by omega⟩
        · rw [Nat.zero_mul, Nat.add_zero]
          rfl
        · rw [Nat.zero_mul]
          exact al
      · rintro i σ Hc hi ⟨y7, y8, y9, rfl, sm, hl, fit, fine⟩
        have e1 : ((a + i * v : Nat) : Int) + ((v : Nat) : Int) = ((a + i * v + v : Nat) : Int) := by omega
        refine ⟨_, rfl, _, rfl, _, _, rfl, rfl, ?_⟩
        dsimp only
        rw [e1]
        refine ⟨_, rfl, l, rfl, by omega, _, _, rfl, rfl, _, rfl, ite2 (fun g => ?_) (fun g => ?_)⟩
        · have c : l.length < a + i * v + v := by
            have := of_decide_eq_true g
            omega
          have eb := bad_room (cap := capB b bs) hi fit c fine
          rw [← ebad] at eb
          exact ⟨_, rfl, by show 2 ≤ sizeLine; decide, fun u nu => no _ eb u _ ((s1.trans sm).trans (same_new nu)) upd_same⟩
        · have c : a + i * v + v ≤ l.length := by
            have : ¬ (((a + i * v + v : Nat) : Int) > ((l.length : Nat) : Int)) := fun z => g (decide_eq_true z)
            omega
          refine ⟨_, rfl, _, rfl, _, rfl, _, rfl, _, rfl, _, _, rfl, rfl, _, rfl, S l, rfl, by rw [SX.S_len]; exact z500 (by omega), _, rfl, ?_⟩
          rw [e1, cut_S l (by omega) (by omega), Nat.add_sub_cancel_left]
          obtain ⟨ds, eds⟩ : ∃ ds, (l.drop (a + i * v)).take v = ds := ⟨_, rfl⟩
          have bd : Bits ds := fun c hc => by
            rw [← eds] at hc
            exact bin c (List.mem_of_mem_drop (List.mem_of_mem_take hc))
          have en : num l (a + i * v) v = binNum ds := congrArg binNum eds
          rw [eds]
          refine for_str (x := S ds) (fun k σ Hd => ∃ y9, σ = [some (.str (yOf b).nm), some (.str (S l)), some (.int (n : Nat)), some (.ref m), some (.int (v : Nat)), some (.int (a + i * v : Nat)), some (.ref d), some (.int (0 + (i : Nat))), some (.int (binNum (ds.take k) : Nat)), y9] ∧ Hd = Hc) ⟨_, rfl, rfl⟩ ?_ ?_
          · rintro k c σ Hd ec ⟨y, rfl, rfl⟩
            have ec : ds[k]? = some c := by
              rw [← Array.getElem?_toList] at ec
              exact ec
            have hc := bd c (List.mem_of_getElem? ec)
            have en : binNum (ds.take (k + 1)) = binNum (ds.take k) * 2 + (c - 48) := by
              rw [List.take_add_one, ec]
              exact num_snoc _ _
            have e5 : 2 * ((binNum (ds.take k) : Nat) : Int) + (if decide (V.str ⟨#[c]⟩ = V.str "1") then (1 : Int) else 0) = ((binNum (ds.take (k + 1)) : Nat) : Int) := by
              rw [en, one_sign hc]
              unfold IsBin at hc
              rcases hc with rfl | rfl
              · rw [if_neg (by decide)]
                omega
              · rw [if_pos (by decide)]
                omega
            refine ⟨_, rfl, _, _, rfl, rfl, .inl ⟨by decide, by decide⟩, _, rfl, rfl, .inr ⟨_, rfl, _, _, rfl, rfl, some (.str ⟨#[c]⟩), ?_, rfl⟩⟩
            rw [← e5]
            rfl
          · rintro σ Hd ⟨y, rfl, rfl⟩
            have et : ds.take (S ds).cps.size = ds := List.take_of_length_le (Nat.le_refl _)
            rw [et, ← en]
            have hmc := sm _ _ hm
            have nx : cdN l a v (i + 1) = cdN l a v i ++ [num l (a + i * v) v] := by
              unfold cdN
              rw [List.range_succ, List.map_append]
              rfl
            have ea : a + (i + 1) * v = a + i * v + v := by
              rw [Nat.succ_mul]
              omega
            have fine2 : over (capB b bs) (num l (a + i * v) v) = false → ∀ j, j < i + 1 → over (capB b bs) (num l (a + j * v) v) = false := fun z j hj => by
              obtain h | h := Nat.lt_or_ge j i
              · exact fine j h
              · obtain rfl : j = i := by omega
                exact z
            have lcd : ((cdN l a v i).map (valB b bs)).length < sizeLine := by
              rw [List.length_map, cdN_len]
              exact small1000 (by omega)
            cases b with
            | true =>
              refine ⟨_, rfl, rfl, true, rfl, if_t ?_⟩
              refine ⟨_, rfl, _, rfl, m, _, rfl, .inl (SqL.of hmc), _, _, rfl, rfl, _, rfl, ite2 (fun g2 => ?_) (fun g2 => ?_)⟩
              · have c2 : bs.length ≤ num l (a + i * v) v := by
                  have := of_decide_eq_true g2
                  rw [List.length_map] at this
                  omega
                have eb := bad_over (cap := capB true bs) hi c (by rw [over_len bne rfl]; exact decide_eq_true c2) fine
                rw [← ebad] at eb
                exact ⟨_, rfl, by show 2 ≤ sizeLine; decide, fun u nu => no _ eb u _ ((s1.trans sm).trans (same_new nu)) upd_same⟩
              · have c2 : num l (a + i * v) v < bs.length := by
                  have : ¬ (((num l (a + i * v) v : Nat) : Int) ≥ (((bs.map V.int).length : Nat) : Int)) := fun z => g2 (decide_eq_true z)
                  rw [List.length_map] at this
                  omega
                refine ⟨_, rfl, rfl, true, rfl, if_t ?_⟩
                refine ⟨_, rfl, .inl ⟨rfl, _, SqL.of hl⟩, _, rfl, _, rfl, m, _, _, .int (bs.getD (num l (a + i * v) v) 0), rfl, rfl, SqL.of hmc, atI_nat (j := num l (a + i * v) v) (by rw [List.getElem?_map, List.getD_eq_getElem?_getD, List.getElem?_eq_getElem c2]; rfl), d, _, _, rfl, rfl, hl, by rw [List.length_map]; exact lcd, ?_⟩
                refine ⟨_, rfl, _, rfl, _, _, rfl, rfl, some (.int (0 + (i : Nat))), some (.int (num l (a + i * v) v : Nat)), y, ?_, same_put nd sm, ?_, by rw [ea]; exact c, fine2 (by rw [over_len bne rfl]; exact decide_eq_false (by omega))⟩
                · rw [ea, ← e1]
                  rfl
                · unfold NL
                  rw [upd_same, nx, List.map_append, List.map_append]
                  rfl
            | false =>
              refine ⟨_, rfl, rfl, false, rfl, if_f ?_⟩
              refine ⟨_, rfl, rfl, false, rfl, if_f ?_⟩
              obtain ⟨x0, r0, ebs⟩ : ∃ x0 r0, bs = x0 :: r0 := by
                cases bs with
                | nil => exact absurd rfl bne
                | cons x0 r0 => exact ⟨x0, r0, rfl⟩
              refine ⟨_, rfl, .inl ⟨rfl, _, SqL.of hl⟩, _, rfl, m, _, 0, .int x0, rfl, rfl, SqL.of hmc, by rw [ebs]; exact atI_nat (j := 0) rfl, _, rfl, _, _, rfl, rfl, d, _, _, rfl, rfl, hl, by rw [List.length_map]; exact lcd, ?_⟩
              refine ⟨_, rfl, _, rfl, _, _, rfl, rfl, some (.int (0 + (i : Nat))), some (.int (num l (a + i * v) v : Nat)), y, ?_, same_put nd sm, ?_, by rw [ea]; exact c, fine2 rfl⟩
              · rw [ea, ← e1]
                rfl
              · unfold NL
                rw [upd_same, nx, List.map_append, List.map_append, ebs]
                rfl
      · rintro σ Hc ⟨y7, y8, y9, rfl, sm, hl, fit, fine⟩
        have eend := bad_end (cap := capB b bs) fit fine
        rw [← ebad] at eend
        refine ⟨_, rfl, _, rfl, l, rfl, by omega, _, _, rfl, rfl, _, rfl, ite2 (fun g => ?_) (fun g => ?_)⟩
        · have c : a + n * v < l.length := by
            have := of_decide_eq_true g
            omega
          rw [if_pos c] at eend
          exact ⟨_, rfl, by show 2 ≤ sizeLine; decide, fun u nu => no _ eend u _ ((s1.trans sm).trans (same_new nu)) upd_same⟩
        · have c : ¬ a + n * v < l.length := fun z => g (decide_eq_true (by omega))
          rw [if_neg c] at eend
          refine ⟨_, rfl, by show 2 ≤ sizeLine; decide, fun u nu => ?_⟩
          have s3 := same_new (o := .tup [.str "told", .ref d]) nu
          exact q eend u d _ ((s1.trans sm).trans s3) upd_same (by rw [eres]; exact s3 _ _ hl)
end
end Tg

namespace Tg
open PySem PySem.Spec PyProof.Rows L2
open SX (S)
/-! ### the law's own reading: steps, turns and runs -/
abbrev sOn : Stmt := topS 46
abbrev sDu : Stmt := topS 47
theorem scOn : FnScope ["_law_a_way", "_law_a_bits", "_law_count", "_law_numbers_here", "_law_at", "_law_leap", "_law_one", "_law_number_here", "_law_often"] ["_law_a_way", "_law_a_bits", "_law_count"] (defScope sOn) := ⟨rfl, rfl, rfl, by decide +kernel, rfl, by decide +kernel, by decide +kernel⟩
theorem scDu : FnScope ["_law_a_way", "_law_a_bits", "_law_count"] ["_law_a_way", "_law_a_bits", "_law_count"] (defScope sDu) := ⟨rfl, rfl, rfl, by decide +kernel, rfl, by decide +kernel, by decide +kernel⟩
/-- at the place of the next code: what is kept beside -/
def Fresh (W : Way) (j : Nat) (leap : Int) (m : Mrk) : Prop := match W with
  | .steps => m.2.2 = none ∧ (j = 0 → m.2.1 = 0)
  | .turns => (j = 0 → m = (0, 0, none) ∧ leap = 0) ∧ (0 < j → m.2.2 = some leap)
  | .runs => m.2.2 = none ∨ m.2.2 = some 0
theorem nm_next {W : Way} {l : List Nat} {n j : Nat} {m : Mrk} (h : mkN W l n (j + 1) = .inr m) : nmN W l n (j + 1) = nmN W l n j ++ [m.2.1] := by
  conv => lhs; unfold nmN
  rw [h]
theorem mk_next {W : Way} {l : List Nat} {n j : Nat} {m : Mrk} (h : mkN W l n j = .inr m) : mkN W l n (j + 1) = stM W l (((n : Nat) : Int) - (j : Nat)) m := by
  conv => lhs; unfold mkN
  rw [h]
theorem nm_all {W : Way} {l : List Nat} {n : Nat} : ∀ {j : Nat} {m : Mrk}, mkN W l n j = .inr m → (nmN W l n j).length = j
  | 0, _, _ => rfl
  | j + 1, m, h => by
    rw [nm_next h, List.length_append]
    cases e : mkN W l n j with
    | inl p =>
      have := mkN_stop e (j + 1) (Nat.le_succ _)
      rw [h] at this
      cases this
    | inr m0 =>
      rw [nm_all e]
      rfl
/-- a run: the same number once more and once more -/
theorem run_on {l : List Nat} {n j b : Nat} {x : Int} {q : Nat} (h : mkN .runs l n (j + 1) = .inr (b, x, some ((q : Nat) : Int))) : ∀ i, i ≤ q → mkN .runs l n (j + 1 + i) = .inr (b, x, some ((q - i : Nat) : Int)) ∧ nmN .runs l n (j + 1 + i) = nmN .runs l n (j + 1) ++ List.replicate i x
  | 0, _ => ⟨h, (List.append_nil _).symm⟩
  | i + 1, hi => by
    obtain ⟨h1, h2⟩ := run_on h i (by omega)
    have e : mkN .runs l n (j + 1 + i + 1) = .inr (b, x, some ((q - (i + 1) : Nat) : Int)) := by
      rw [mk_next h1]
      dsimp only [stM]
      rw [if_pos (show 0 < (some ((q - i : Nat) : Int)).getD 0 by
        show (0 : Int) < ((q - i : Nat) : Int)
        omega)]
      show Sum.inr (b, x, some (((q - i : Nat) : Int) - 1)) = _
      rw [show ((q - i : Nat) : Int) - 1 = ((q - (i + 1) : Nat) : Int) by omega]
    refine ⟨e, ?_⟩
    show nmN .runs l n (j + 1 + i + 1) = _
    rw [nm_next e, h2, List.append_assoc, List.replicate_succ']
theorem bad_at {W : Way} {l : List Nat} {n j p : Nat} (n0 : n ≠ 0) (jn : j ≤ n) (h : mkN W l n j = .inl p) : badG (.by W) l n = some p := by
  have z := mkN_stop h n jn
  unfold badG
  rw [if_neg n0]
  show badW W l n = some p
  unfold badW
  rw [z]
theorem eqv_nil (xs : List Int) : PyData.eqv (.list (xs.map PyData.int)) (.list []) = decide (xs = []) := by
  cases xs with
  | nil => rfl
  | cons x r => rfl
theorem flat_rep (v : V) : ∀ n : Nat, (List.replicate n [v]).flatten = List.replicate n v
  | 0 => rfl
  | n + 1 => by
    rw [List.replicate_succ, List.flatten_cons, flat_rep v n]
    rfl
def muL (n : Nat) : L2.St → Hp → Nat := fun σ H => match σ[3]? with
  | some (some (V.ref b)) => match H b with
    | some (HO.lst xs) => n - xs.length
    | _ => 0
  | _ => 0
section
variable {P : Program} {w : World} {K : PySem.W.Frag} {mg : Str → Option Value} {base : Heap} {f : Addr} {fd : FuncData} {k : Nat} {CB C : Addr}
def spOn : Sp := fun vs H Q _ => ∃ (W : Way) (l : List Nat) (n : Nat), vs = [.str (Wy.by W).nm, .str (S l), .int (n : Nat)] ∧ Bits l ∧ l.length ≤ 8900 ∧ n ≤ 300 ∧ n ≠ 0 ∧ TellR Q H (.by W) l n
theorem ok_on (F : Fun K "_law_read_on" "_law_read_on" sOn f fd) (L_read_own : Cal P w K mg base k "_law_read_own" ["_law_a_bits", "_law_at"] spLRO) (L_back : Cal P w K mg base k "_law_back" ["_law_number_here"] spLB) (m_len : mg "len" = none) (m_int : mg "int" = none) : FnOk P w K mg base CX0 (k + 1) f fd ["_law_a_way", "_law_a_bits", "_law_count"] spOn := by
  refine F.ok scOn (fun vs H Q E h => ?_) (fun cdv A outer s H vs Q E hr h => ?_)
  · obtain ⟨W, l, n, rfl, _⟩ := h
    rfl
  · obtain ⟨W, l, n, rfl, bin, big, few, n0, no, q⟩ := h
    have hu := hr.units
    refine ⟨_, pss_cons (ps_set (i := 3) scOn.nd rfl (.inl rfl) (pe_lst pa_nil))
      (pss_cons (ps_set (i := 4) scOn.nd rfl (.inl rfl) pe_int)
      (pss_cons (ps_set (i := 5) scOn.nd rfl (.inl rfl) pe_int)
      (pss_cons (ps_while PassesOwn.never (pt_cmpR op_lt (pe_callB call_len_seq (by rfl) m_len (by decide +kernel) (pa_cons (pv 3) pa_nil)) (pv 2) (nomark _))
        (pss_cons (ps_set (i := 6) scOn.nd rfl (.inl rfl) (pe_cal L_read_own (hr.mono (by omega)) (by rfl) (pa_cons (pv 1) (pa_cons (pv 4) pa_nil))))
        (pss_cons (ps_if (pt_cmpR op_isN (pv 6) pe_non (nomark _))
          (pss_one (ps_ret (pe_tup (pa_cons pe_str (pa_cons (pv 4) pa_nil)))))
          pss_nil)
        (pss_cons (ps_par (i := 7) (j := 4) rfl scOn.nd rfl rfl (by decide) rfl rfl (pa_cons (pe_cal L_back (hr.mono (by omega)) (by rfl) (pa_cons (pe_ix ix_tup (pv 6) pe_int (fun _ _ => rfl)) pa_nil)) (pa_cons (pe_ix ix_tup (pv 6) pe_int (fun _ _ => rfl)) pa_nil)) rfl)
        (pss_one (ps_if (pt_cmpR op_eq (pv 0) pe_str (nomark _))
          (pss_cons (ps_set (i := 8) scOn.nd rfl (.inl rfl) (pe_cal L_read_own (hr.mono (by omega)) (by rfl) (pa_cons (pv 1) (pa_cons (pv 4) pa_nil))))
          (pss_cons (ps_if (PW.pt (pw_or (pt_cmpR op_isN (pv 8) pe_non (nomark _)) (pw_or1 (pt_cmpR op_ge (pe_op op_add (pe_callB call_len_seq (by rfl) m_len (by decide +kernel) (pa_cons (pv 3) pa_nil)) (pe_ix ix_tup (pv 8) pe_int (fun _ _ => rfl))) (pv 2) (nomark _)))))
            (pss_one (ps_ret (pe_tup (pa_cons pe_str (pa_cons (pv 4) pa_nil)))))
            pss_nil)
          (pss_cons (ps_set (i := 3) scOn.nd rfl (.inl rfl) (pe_op op_cat (pv 3) (pe_op op_rep (pe_lst (pa_cons (pv 7) pa_nil)) (pe_op op_add (pe_ix ix_tup (pv 8) pe_int (fun _ _ => rfl)) pe_int))))
          (pss_one (ps_set (i := 4) scOn.nd rfl (.inl rfl) (pe_ix ix_tup (pv 8) pe_int (fun _ _ => rfl)))))))
          (pss_one (ps_if (pt_cmpR (op_eqD hu) (pv 3) (pe_lst pa_nil) (nomark _))
            (pss_one (ps_expr (pe_bm PySem.F.plainAttrs_list PySem.F.slot_list_append PySem.F.type_list_append mt_append (pv 3) (pa_cons (pv 7) pa_nil))))
            (pss_cons (ps_set (i := 5) scOn.nd rfl (.inl rfl) (pe_ix ix_list (pe_lst (pa_cons (pv 7) (pa_cons (pe_op op_add (pv 5) (pv 7)) pa_nil))) (pe_callTy call_int1 (by rfl) m_int (by decide +kernel) (pa_cons (pe_cmpR op_eq (pv 0) pe_str (nomark _)) pa_nil)) (fun _ _ => rfl)))
            (pss_one (ps_expr (pe_bm PySem.F.plainAttrs_list PySem.F.slot_list_append PySem.F.type_list_append mt_append (pv 3) (pa_cons (pe_op op_add (pe_ix ix_list (pv 3) (pe_un un_neg pe_int) (fun _ _ => rfl)) (pv 5)) pa_nil)))))))))))))
      (pss_cons (ps_if (pt_cmpR op_lt (pv 4) (pe_callB call_lenB (by rfl) m_len (by decide +kernel) (pa_cons (pv 1) pa_nil)) (nomark _))
        (pss_one (ps_ret (pe_tup (pa_cons pe_str (pa_cons (pv 4) pa_nil)))))
        pss_nil)
      (pss_one (ps_ret (pe_tup (pa_cons pe_str (pa_cons (pv 3) pa_nil))))))))), ?_⟩
    refine ⟨Nat.zero_le _, fun b0 nb0 => ?_⟩
    have s1 := same_new (o := .lst []) nb0
    refine while_by (fun σ Hc => ∃ (j : Nat) (b : Addr) (leap : Int) (m : Mrk) (z6 z7 z8 : Option V), σ = [some (.str (Wy.by W).nm), some (.str (S l)), some (.int (n : Nat)), some (.ref b), some (.int (m.1 : Nat)), some (.int leap), z6, z7, z8] ∧ j ≤ n ∧ Same H Hc ∧ H b = none ∧ NL Hc b (nmN W l n j) ∧ mkN W l n j = .inr m ∧ Fresh W j leap m) (muL n) ?_ ?_ ?_
    · refine ⟨0, b0, 0, (0, 0, none), none, none, none, rfl, Nat.zero_le _, s1, nb0, upd_same, rfl, ?_⟩
      cases W with
      | steps => exact ⟨rfl, fun _ => rfl⟩
      | turns => exact ⟨fun _ => ⟨rfl, rfl⟩, fun h => by omega⟩
      | runs => exact .inl rfl
    · rintro σ Hc ⟨j, b, leap, m, z6, z7, z8, rfl, jn, sm, nb, hl, hm, fr⟩
      have lj := nm_all hm
      have le := mkN_at bin hm
      have lt : ((nmN W l n j).map V.int).length = j := by
        rw [List.length_map, lj]
      have mu0 : muL n [some (.str (Wy.by W).nm), some (.str (S l)), some (.int (n : Nat)), some (.ref b), some (.int (m.1 : Nat)), some (.int leap), z6, z7, z8] Hc = n - j := by
        show (match Hc b with | some (HO.lst xs) => n - xs.length | _ => 0) = _
        unfold NL at hl
        rw [hl]
        show n - ((nmN W l n j).map V.int).length = _
        rw [lt]
      rw [mu0]
      refine ⟨_, rfl, b, _, rfl, .inl (SqL.of hl), _, rfl, _, _, rfl, rfl, _, rfl, ite2 (fun g => ?_) (fun g => ?_)⟩
      · have g1 : j < n := by
          have := of_decide_eq_true g
          rw [lt] at this
          omega
        have nx := mk_next hm
        refine ⟨_, rfl, _, rfl, l, m.1, rfl, bin, big, le, fun r er t H1 s1 ht => ?_, fun e H1 s1 => ?_⟩
        · have fin : ∀ (H5 : Hp) (leap' : Int) (m' : Mrk) (z6 z7 z8 : Option V), Same H H5 → NL H5 b (nmN W l n j) → mkN W l n (j + 1) = .inr m' → m'.1 = r.2 → Fresh W (j + 1) leap' m' →
              (∃ (i : Nat) (b' : Addr) (leap : Int) (m : Mrk) (y6 y7 y8 : Option V), [some (V.str (Wy.by W).nm), some (.str (S l)), some (.int (n : Nat)), some (.ref b), some (.int (r.2 : Nat)), some (.int leap'), z6, z7, z8] = [some (.str (Wy.by W).nm), some (.str (S l)), some (.int (n : Nat)), some (.ref b'), some (.int (m.1 : Nat)), some (.int leap), y6, y7, y8] ∧ i ≤ n ∧ Same H (upd H5 b (.lst ((nmN W l n j).map V.int ++ [.int m'.2.1]))) ∧ H b' = none ∧ NL (upd H5 b (.lst ((nmN W l n j).map V.int ++ [.int m'.2.1]))) b' (nmN W l n i) ∧ mkN W l n i = .inr m ∧ Fresh W i leap m) ∧
              muL n [some (V.str (Wy.by W).nm), some (.str (S l)), some (.int (n : Nat)), some (.ref b), some (.int (r.2 : Nat)), some (.int leap'), z6, z7, z8] (upd H5 b (.lst ((nmN W l n j).map V.int ++ [.int m'.2.1]))) < n - j := fun H5 leap' m' z6 z7 z8 s5 hl5 em e1 f1 => by
            refine ⟨⟨j + 1, b, leap', m', z6, z7, z8, by rw [e1], g1, same_put nb s5, nb, ?_, em, f1⟩, ?_⟩
            · unfold NL
              rw [upd_same, nm_next em, List.map_append]
              rfl
            · show (match (upd H5 b (.lst ((nmN W l n j).map V.int ++ [V.int m'.2.1]))) b with | some (HO.lst xs) => n - xs.length | _ => 0) < _
              rw [upd_same]
              show n - ((nmN W l n j).map V.int ++ [V.int m'.2.1]).length < _
              rw [List.length_append, lt]
              show n - (j + 1) < n - j
              omega
          refine ⟨_, rfl, rfl, false, rfl, if_f ?_⟩
          refine ⟨_, rfl, t, _, 0, .int (r.1 : Nat), rfl, rfl, SqT.of ht, rfl, r.1, rfl, fun H2 s2 => ?_⟩
          have s12 := sm.trans (s1.trans s2)
          have hl2 : NL H2 b (nmN W l n j) := s2 _ _ (s1 _ _ hl)
          refine ⟨_, rfl, t, _, 1, .int (r.2 : Nat), rfl, rfl, SqT.of (s2 _ _ ht), rfl, _, _, rfl, ?_⟩
          cases W with
          | steps =>
            obtain ⟨fr1, fr2⟩ := fr
            have em : mkN .steps l n (j + 1) = .inr (r.2, m.2.1 + bk (r.1 : Nat), none) := by
              rw [nx]
              dsimp only [stM]
              rw [er]
            refine ⟨_, rfl, rfl, false, rfl, if_f ?_⟩
            refine ⟨_, rfl, Nat.zero_le _, fun e0 ne0 => ?_⟩
            have s3 := same_new (o := .lst []) ne0
            have hl3 := s3 _ _ hl2
            have s13 := s12.trans s3
            refine ⟨_, _, dp_lst (ns := nmN .steps l n j) (SqL.of hl3), .lst (SqL.of upd_same) .nil, shaped_ints _, rfl, _, rfl, ite2 (fun g2 => ?_) (fun g2 => ?_)⟩
            · have j0 : j = 0 := by
                rw [eqv_nil] at g2
                have := List.length_eq_zero_iff.mpr (of_decide_eq_true g2)
                omega
              rw [fr2 j0, Int.zero_add] at em
              refine ⟨_, rfl, .inl ⟨rfl, _, SqL.of hl3⟩, _, rfl, b, _, _, rfl, rfl, hl3, small1000 (by omega), ?_⟩
              exact fin _ leap _ _ _ _ s13 hl3 em rfl ⟨rfl, fun h => by omega⟩
            · have jp : 0 < j := by
                rcases Nat.eq_zero_or_pos j with z | z
                · refine absurd ?_ g2
                  rw [eqv_nil]
                  exact decide_eq_true (List.length_eq_zero_iff.mp (by omega))
                · exact z
              obtain ⟨i, rfl⟩ : ∃ i, j = i + 1 := ⟨j - 1, by omega⟩
              refine ⟨_, rfl, _, rfl, _, rfl, _, _, rfl, rfl, by show 2 ≤ sizeLine; decide, fun x1 nx1 => ?_⟩
              have s4 := same_new (o := .lst [V.int (bk (r.1 : Nat)), .int (leap + bk (r.1 : Nat))]) nx1
              have hl4 := s4 _ _ hl3
              refine ⟨_, rfl, rfl, .inr ⟨_, rfl, x1, _, 0, .int (bk (r.1 : Nat)), rfl, rfl, SqL.of upd_same, rfl, ?_⟩⟩
              have ep := nm_next hm
              refine ⟨_, rfl, .inl ⟨rfl, _, SqL.of hl4⟩, _, rfl, 1, rfl, b, _, -1, .int m.2.1, rfl, rfl, SqL.of hl4, (by rw [ep, List.map_append]; exact atI_last _ _), _, rfl, _, _, rfl, rfl, b, _, _, rfl, rfl, hl4, small1000 (by omega), ?_⟩
              exact fin _ (bk (r.1 : Nat)) _ _ _ _ (s13.trans s4) hl4 em rfl ⟨rfl, fun h => by omega⟩
          | turns =>
            obtain ⟨fr1, fr2⟩ := fr
            refine ⟨_, rfl, rfl, false, rfl, if_f ?_⟩
            refine ⟨_, rfl, Nat.zero_le _, fun e0 ne0 => ?_⟩
            have s3 := same_new (o := .lst []) ne0
            have hl3 := s3 _ _ hl2
            have s13 := s12.trans s3
            refine ⟨_, _, dp_lst (ns := nmN .turns l n j) (SqL.of hl3), .lst (SqL.of upd_same) .nil, shaped_ints _, rfl, _, rfl, ite2 (fun g2 => ?_) (fun g2 => ?_)⟩
            · have j0 : j = 0 := by
                rw [eqv_nil] at g2
                have := List.length_eq_zero_iff.mpr (of_decide_eq_true g2)
                omega
              obtain ⟨rfl, rfl⟩ := fr1 j0
              have em : mkN .turns l n (j + 1) = .inr (r.2, bk (r.1 : Nat), some 0) := by
                rw [nx]
                dsimp only [stM]
                rw [er]
              refine ⟨_, rfl, .inl ⟨rfl, _, SqL.of hl3⟩, _, rfl, b, _, _, rfl, rfl, hl3, small1000 (by omega), ?_⟩
              exact fin _ 0 _ _ _ _ s13 hl3 em rfl ⟨fun h => by omega, fun _ => rfl⟩
            · have jp : 0 < j := by
                rcases Nat.eq_zero_or_pos j with z | z
                · refine absurd ?_ g2
                  rw [eqv_nil]
                  exact decide_eq_true (List.length_eq_zero_iff.mp (by omega))
                · exact z
              have fr3 := fr2 jp
              have em : mkN .turns l n (j + 1) = .inr (r.2, m.2.1 + (leap + bk (r.1 : Nat)), some (leap + bk (r.1 : Nat))) := by
                rw [nx]
                dsimp only [stM]
                rw [er]
                dsimp only
                rw [fr3]
                dsimp only
                rw [Int.add_assoc]
              obtain ⟨i, rfl⟩ : ∃ i, j = i + 1 := ⟨j - 1, by omega⟩
              refine ⟨_, rfl, _, rfl, _, rfl, _, _, rfl, rfl, by show 2 ≤ sizeLine; decide, fun x1 nx1 => ?_⟩
              have s4 := same_new (o := .lst [V.int (bk (r.1 : Nat)), .int (leap + bk (r.1 : Nat))]) nx1
              have hl4 := s4 _ _ hl3
              refine ⟨_, rfl, rfl, .inr ⟨_, rfl, x1, _, 1, .int (leap + bk (r.1 : Nat)), rfl, rfl, SqL.of upd_same, rfl, ?_⟩⟩
              have ep := nm_next hm
              refine ⟨_, rfl, .inl ⟨rfl, _, SqL.of hl4⟩, _, rfl, 1, rfl, b, _, -1, .int m.2.1, rfl, rfl, SqL.of hl4, (by rw [ep, List.map_append]; exact atI_last _ _), _, rfl, _, _, rfl, rfl, b, _, _, rfl, rfl, hl4, small1000 (by omega), ?_⟩
              exact fin _ (leap + bk (r.1 : Nat)) _ _ _ _ (s13.trans s4) hl4 em rfl ⟨fun h => by omega, fun _ => rfl⟩
          | runs =>
            have c : ¬ 0 < m.2.2.getD 0 := by
              rcases fr with z | z <;> rw [z] <;> decide
            refine ⟨_, rfl, rfl, true, rfl, if_t ?_⟩
            have r2 := (rdO_lt bin er).2
            refine ⟨_, rfl, _, rfl, l, r.2, rfl, bin, big, r2, fun u eu t2 H3 s3 ht2 => ?_, fun e H3 s3 => ?_⟩
            · have s13 := s12.trans s3
              have hl3 := s3 _ _ hl2
              refine ⟨_, rfl, rfl, false, rfl, if_f ?_⟩
              refine ⟨_, rfl, b, _, rfl, .inl (SqL.of hl3), _, rfl, t2, _, 0, .int (u.1 : Nat), rfl, rfl, SqT.of ht2, rfl, _, _, rfl, rfl, _, rfl, _, _, rfl, rfl, _, rfl, ite2 (fun g2 => ?_) (fun g2 => ?_)⟩
              · have c2 : n ≤ j + u.1 := by
                  have := of_decide_eq_true g2
                  rw [lt] at this
                  omega
                refine ⟨_, rfl, by show 2 ≤ sizeLine; decide, fun v nv => no r.2 (bad_at n0 (show j + 1 ≤ n by omega) ?_) v _ (s13.trans (same_new nv)) upd_same⟩
                rw [nx]
                dsimp only [stM]
                rw [if_neg c, er]
                dsimp only
                rw [eu]
                dsimp only
                rw [if_pos (by omega)]
              · have c2 : j + u.1 < n := by
                  have : ¬ (((((nmN .runs l n j).map V.int).length : Nat) : Int) + ((u.1 : Nat) : Int) ≥ ((n : Nat) : Int)) := fun z => g2 (decide_eq_true z)
                  rw [lt] at this
                  omega
                have em : mkN .runs l n (j + 1) = .inr (u.2, bk (r.1 : Nat), some ((u.1 : Nat) : Int)) := by
                  rw [nx]
                  dsimp only [stM]
                  rw [if_neg c, er]
                  dsimp only
                  rw [eu]
                  dsimp only
                  rw [if_neg (by omega)]
                obtain ⟨f1, f2⟩ := run_on em u.1 (Nat.le_refl _)
                obtain ⟨x, ex⟩ : ∃ x, bk (r.1 : Nat) = x := ⟨_, rfl⟩
                rw [ex] at em f1 f2 ⊢
                refine ⟨_, rfl, _, rfl, by show 1 ≤ sizeLine; decide, fun x1 nx1 => ?_⟩
                have s4 := same_new (o := .lst [V.int x]) nx1
                refine ⟨_, rfl, t2, _, 0, .int (u.1 : Nat), rfl, rfl, SqT.of (s4 _ _ ht2), rfl, _, _, rfl, rfl, x1, _, _, rfl, rfl, upd_same, by omega, by omega, ?_, fun x2 nx2 => ?_⟩
                · show 1 * _ ≤ sizeLine
                  exact Nat.le_of_lt (small1000 (by omega))
                have erep : (List.replicate (((u.1 : Nat) : Int) + 1).toNat [V.int x]).flatten = (List.replicate (u.1 + 1) x).map V.int := by
                  rw [show (((u.1 : Nat) : Int) + 1).toNat = u.1 + 1 by omega, List.map_replicate]
                  exact flat_rep _ _
                rw [erep]
                have s5 := same_new (o := .lst ((List.replicate (u.1 + 1) x).map V.int)) nx2
                refine ⟨b, x2, _, _, rfl, rfl, s5 _ _ (s4 _ _ hl3), upd_same, ?_, fun x3 nx3 => ?_⟩
                · rw [lt, List.length_map, List.length_replicate]
                  exact Nat.le_of_lt (small1000 (by omega))
                have s6 := same_new (o := .lst ((nmN .runs l n j).map V.int ++ (List.replicate (u.1 + 1) x).map V.int)) nx3
                have s46 := (s4.trans s5).trans s6
                refine ⟨_, rfl, t2, _, 1, .int (u.2 : Nat), rfl, rfl, SqT.of (s46 _ _ ht2), rfl, ?_⟩
                have ee : nmN .runs l n (j + 1 + u.1) = nmN .runs l n j ++ List.replicate (u.1 + 1) x := by
                  rw [f2, nm_next em, List.append_assoc, List.replicate_succ]
                  rfl
                refine ⟨⟨j + 1 + u.1, x3, leap, _, _, _, _, rfl, by omega, s13.trans s46, ((s13.trans s4).trans s5).free nx3, ?_, f1, ?_⟩, ?_⟩
                · unfold NL
                  rw [upd_same, ee, List.map_append]
                · right
                  rw [Nat.sub_self]
                  rfl
                · show (match (upd _ x3 (.lst ((nmN .runs l n j).map V.int ++ (List.replicate (u.1 + 1) x).map V.int))) x3 with | some (HO.lst xs) => n - xs.length | _ => 0) < _
                  rw [upd_same]
                  show n - ((nmN .runs l n j).map V.int ++ (List.replicate (u.1 + 1) x).map V.int).length < _
                  rw [List.length_append, lt, List.length_map, List.length_replicate]
                  omega
            · refine ⟨_, rfl, rfl, true, rfl, if_t (if_t ⟨_, rfl, by show 2 ≤ sizeLine; decide, fun v nv => no r.2 (bad_at n0 (show j + 1 ≤ n by omega) ?_) v _ ((s12.trans s3).trans (same_new nv)) upd_same⟩)⟩
              rw [nx]
              dsimp only [stM]
              rw [if_neg c, er]
              dsimp only
              rw [e]
        · refine ⟨_, rfl, rfl, true, rfl, if_t ⟨_, rfl, by show 2 ≤ sizeLine; decide, fun u nu => ?_⟩⟩
          refine no m.1 (bad_at n0 (show j + 1 ≤ n by omega) ?_) u _ ((sm.trans s1).trans (same_new nu)) upd_same
          rw [nx]
          cases W with
          | steps =>
            dsimp only [stM]
            rw [e]
          | turns =>
            dsimp only [stM]
            rw [e]
          | runs =>
            dsimp only [stM]
            have c : ¬ 0 < m.2.2.getD 0 := by
              rcases fr with z | z <;> rw [z] <;> decide
            rw [if_neg c, e]
      · have g1 : j = n := by
          have : ¬ ((((nmN W l n j).map V.int).length : Nat) : Int) < ((n : Nat) : Int) := fun z => g (decide_eq_true z)
          rw [lt] at this
          omega
        subst g1
        refine ⟨_, rfl, _, rfl, l, rfl, by omega, _, _, rfl, rfl, _, rfl, ite2 (fun g => ?_) (fun g => ?_)⟩
        · have c : m.1 < l.length := by
            have := of_decide_eq_true g
            omega
          refine ⟨_, rfl, by show 2 ≤ sizeLine; decide, fun u nu => no m.1 ?_ u _ (sm.trans (same_new nu)) upd_same⟩
          unfold badG
          rw [if_neg n0]
          show badW W l j = _
          unfold badW
          rw [hm]
          exact if_pos c
        · have c : ¬ m.1 < l.length := fun z => g (decide_eq_true (by omega))
          refine ⟨_, rfl, by show 2 ≤ sizeLine; decide, fun u nu => ?_⟩
          have s3 := same_new (o := .tup [.str "told", .ref b]) nu
          refine q ?_ u b _ (sm.trans s3) upd_same ?_
          · unfold badG
            rw [if_neg n0]
            show badW W l j = _
            unfold badW
            rw [hm]
            exact if_neg c
          · unfold resV
            rw [if_neg n0]
            exact s3 _ _ hl
    · rintro σ Hc Q1 Q2 hq ⟨v1, h1, p, ys, e, sq, v2, h2, i4, j4, e6, e7, b, e8, q⟩
      exact ⟨v1, h1, p, ys, e, sq, v2, h2, i4, j4, e6, e7, b, e8, hq _ _ q⟩
end
end Tg

namespace Tg
open PySem PySem.Spec PyProof.Rows L2
open SX (S)
/-! ### what is due, and what the program says -/
abbrev sAs : Stmt := topS 48
abbrev NAs : List Str := ["_law_a_way", "_law_a_bits", "_law_count", "_law_by_name", "_law_kept", "_law_told", "e"]
theorem scAs : FnScope NAs ["_law_a_way", "_law_a_bits", "_law_count", "_law_by_name"] (defScope sAs) := ⟨rfl, rfl, rfl, by decide +kernel, rfl, by decide +kernel, by decide +kernel⟩
theorem bits_sh {l : List Nat} (bin : Bits l) : SeqAt.shaped (.str (S l)) = true := by
  refine shaped_of ?_ (by show 0 ≤ 64; decide)
  unfold PyData.canLay0 PyData.strOk
  simp only [← Array.all_toList, List.all_eq_true]
  intro c hc
  have hc : c ∈ l := hc
  have := bin c hc
  unfold IsBin at this
  exact decide_eq_true (by (omega))
theorem S_nil {l : List Nat} : (V.str (S l) = V.str "") ↔ l = [] := by
  constructor
  · intro h
    injection h with h
    exact congrArg (fun s : Str => s.cps.toList) h
  · rintro rfl
    rfl
theorem shaped_C {l : List Nat} (bin : Bits l) (y : Wy) (n : Nat) : SeqAt.shaped (.tuple [.str y.nm, .str (S l), .int (n : Nat), .int (n : Nat)]) = true := by
  refine shaped_of ?_ (by show 1 ≤ 64; decide)
  show (PyData.strOk y.nm && (PyData.strOk (S l) && (true && (true && true)))) = true
  have a : PyData.strOk (S l) = true := by
    unfold PyData.strOk
    simp only [← Array.all_toList, List.all_eq_true]
    intro c hc
    have hc : c ∈ l := hc
    have := bin c hc
    unfold IsBin at this
    exact decide_eq_true (by (omega))
  have b : PyData.strOk y.nm = true := by
    cases y with
    | plain => decide +kernel
    | book => decide +kernel
    | «by» W => cases W <;> decide +kernel
  rw [a, b]
  rfl
section
variable {P : Program} {w : World} {K : PySem.W.Frag} {mg : Str → Option Value} {base : Heap} {f : Addr} {fd : FuncData} {k : Nat} {CB C : Addr}
def spDu : Sp := fun vs H Q _ => ∃ (y : Wy) (l : List Nat) (n : Nat), vs = [.str y.nm, .str (S l), .int (n : Nat)] ∧ Bits l ∧ l.length ≤ 8900 ∧ n ≤ 300 ∧ TellR Q H y l n
theorem TellR.same {Q : VK} {H H1 : Hp} {y : Wy} {l : List Nat} {n : Nat} (h : TellR Q H y l n) (s : Same H H1) : TellR Q H1 y l n := ⟨fun p e t H' s' ht => h.1 p e t H' (s.trans s') ht, fun e t m H' s' ht hm => h.2 e t m H' (s.trans s') ht hm⟩
theorem ok_du (F : Fun K "_law_due" "_law_due" sDu f fd) (L_read_placed : Cal P w K mg base k "_law_read_placed" ["_law_a_way", "_law_a_bits", "_law_count"] spRP) (L_read_on : Cal P w K mg base k "_law_read_on" ["_law_a_way", "_law_a_bits", "_law_count"] spOn) (m_int : mg "int" = none) : FnOk P w K mg base CX0 (k + 1) f fd ["_law_a_way", "_law_a_bits", "_law_count"] spDu := by
  refine F.ok scDu (fun vs H Q E h => ?_) (fun cdv A outer s H vs Q E hr h => ?_)
  · obtain ⟨y, l, n, rfl, _⟩ := h
    rfl
  · obtain ⟨y, l, n, rfl, bin, big, few, tell⟩ := h
    refine ⟨_, pss_cons (ps_if (pt_cmpR op_eq (pv 2) pe_int (nomark _))
        (pss_one (ps_ret (pe_ix ix_list (pe_lst (pa_cons (pe_tup (pa_cons pe_str (pa_cons pe_int pa_nil))) (pa_cons (pe_tup (pa_cons pe_str (pa_cons (pe_lst pa_nil) pa_nil))) pa_nil))) (pe_callTy call_int1 (by rfl) m_int (by decide +kernel) (pa_cons (pe_cmpR op_eq (pv 1) pe_str (nomark _)) pa_nil)) (fun _ _ => rfl))))
        pss_nil)
      (pss_cons (ps_if (pt_cmpR op_in_seq (pv 0) (pe_lst (pa_cons pe_str (pa_cons pe_str pa_nil))) (by with_unfolding_all rfl))
        (pss_one (ps_ret (pe_cal L_read_placed (hr.mono (by omega)) (by rfl) (pa_cons (pv 0) (pa_cons (pv 1) (pa_cons (pv 2) pa_nil))))))
        pss_nil)
      (pss_one (ps_ret (pe_cal L_read_on (hr.mono (by omega)) (by rfl) (pa_cons (pv 0) (pa_cons (pv 1) (pa_cons (pv 2) pa_nil))))))), ?_⟩
    by_cases c : n = 0
    · subst c
      refine ⟨_, rfl, rfl, true, rfl, if_t ⟨by show 2 ≤ sizeLine; decide, fun t1 n1 => ⟨Nat.zero_le _, fun m nm => ⟨by show 2 ≤ sizeLine; decide, fun t2 n2 => ⟨by show 2 ≤ sizeLine; decide, fun b nb => ?_⟩⟩⟩⟩⟩
      have s1 := same_new (o := .tup [.str "none", .int 0]) n1
      have s2 := same_new (o := .lst []) nm
      have s3 := same_new (o := .tup [.str "told", .ref m]) n2
      have s4 := same_new (o := .lst [.ref t1, .ref t2]) nb
      have sA := ((s1.trans s2).trans s3).trans s4
      by_cases d : l = []
      · have e1 : decide (V.str (S l) = V.str "") = true := decide_eq_true (S_nil.mpr d)
        refine ⟨_, rfl, rfl, .inr ⟨_, rfl, b, _, 1, .ref t2, rfl, by rw [e1]; rfl, SqL.of upd_same, rfl, ?_⟩⟩
        exact tell.2 (by unfold badG; rw [if_pos rfl, if_pos d]) t2 m _ sA (s4 _ _ upd_same) (s4 _ _ (s3 _ _ upd_same))
      · have e1 : decide (V.str (S l) = V.str "") = false := decide_eq_false fun z => d (S_nil.mp z)
        refine ⟨_, rfl, rfl, .inr ⟨_, rfl, b, _, 0, .ref t1, rfl, by rw [e1]; rfl, SqL.of upd_same, rfl, ?_⟩⟩
        exact tell.1 0 (by unfold badG; rw [if_pos rfl, if_neg d]) t1 _ sA (s4 _ _ (s3 _ _ (s2 _ _ upd_same)))
    · refine ⟨_, rfl, rfl, false, congrArg V.bl (by rw [dec_int]; exact decide_eq_false (by omega)), if_f ?_⟩
      refine ⟨_, rfl, by show 2 ≤ sizeLine; decide, fun b nb => ?_⟩
      have s1 := same_new (o := .lst [V.str "plain", .str "book"]) nb
      have flat : [V.str "plain", V.str "book"].all flatV = true := rfl
      cases y with
      | plain =>
        refine ⟨b, _, rfl, .inl (SqL.of upd_same), rfl, flat, true, by decide +kernel, if_t ?_⟩
        exact ⟨_, rfl, _, rfl, _, rfl, false, l, n, rfl, bin, big, few, c, tell.same s1⟩
      | book =>
        refine ⟨b, _, rfl, .inl (SqL.of upd_same), rfl, flat, true, by decide +kernel, if_t ?_⟩
        exact ⟨_, rfl, _, rfl, _, rfl, true, l, n, rfl, bin, big, few, c, tell.same s1⟩
      | «by» W =>
        refine ⟨b, _, rfl, .inl (SqL.of upd_same), rfl, flat, false, by cases W <;> decide +kernel, if_f ?_⟩
        exact ⟨_, rfl, _, rfl, _, rfl, W, l, n, rfl, bin, big, few, c, tell.same s1⟩
/-- what the top says of NoBits and of four other errors -/
structure BitE (K : PySem.W.Frag) (mg : Str → Option Value) (CB CK CL CO CT : Addr) : Prop where
  mB : mg "NoBits" = some (.ref CB)
  mK : mg "NoBlock" = some (.ref CK)
  mL : mg "NoLog" = some (.ref CL)
  mO : mg "NoOrder" = some (.ref CO)
  mT : mg "NoText" = some (.ref CT)
  mi : mg "isinstance" = none
  mV : mg "ValueError" = none
  ex : PySem.W.exmOne K (.ref CB) (.ref CB) = some true
  xc : ExcC K CB
  xf : XfC K CB
  no : PySem.W.findIn K (.ref CB) "at" = some none
  kV : PySem.W.kitOne K (.ref CB) (.type "ValueError") = some true
  kA : PySem.W.kitAny K (.ref CB) [.ref CK, .ref CL, .ref CO, .ref CT] = some false
def spAs : Sp := fun vs H Q _ => ∃ (y : Wy) (l : List Nat) (n : Nat) (b : Bool), vs = [.str y.nm, .str (S l), .int (n : Nat), .bl b] ∧ Bits l ∧ l.length ≤ 8900 ∧ n ≤ 300 ∧ TellR Q H y l n
theorem ok_as {CK CL CO CT : Addr} {gl : Addr} {fdl : FuncData} (F : Fun K "_law_asked" "_law_asked" sAs f fd) (T : TCol K C) (Z : BitE K mg CB CK CL CO CT) (C_read : CalR P w K mg base k "read_column" ["way", "bits", "many"] (spRCo K CB C)) (C_readK : CalRK P w K mg base k "read_column" ["way", "bits", "many"] ["bits", "many", "way"] [2, 0, 1] (spRCo K CB C))
    (M_unpacked : CalM P w K mg base k C "unpacked" ["self"] (spCU K C)) (FL : FnOk P w K mg base CX0 k gl fdl ["self"] (spCL K C)) (at_ : PySem.W.findIn K (.ref C) "__len__" = some (some (.ref gl))) (fn : PySem.W.isFn K (.ref gl) = true) (hb : Binds K fdl ["self"] []) (m_len : mg "len" = none) : FnOk P w K mg base CX0 (k + 2) f fd ["_law_a_way", "_law_a_bits", "_law_count", "_law_by_name"] spAs := by
  refine F.ok scAs (fun vs H Q E h => ?_) (fun cdv A outer s H vs Q E hr h => ?_)
  · obtain ⟨y, l, n, b, rfl, _⟩ := h
    rfl
  · obtain ⟨y, l, n, b, rfl, bin, big, few, tell⟩ := h
    have hu := hr.units
    refine ⟨_, pss_cons (ps_set (i := 4) scAs.nd rfl (.inl rfl) pe_non) (pss_cons (ps_set (i := 5) scAs.nd rfl (.inl rfl) pe_non)
      (pss_cons (ps_try_keep (i := 6) (j := 4) rfl rfl rfl scAs.nd rfl rfl rfl rfl (tests_one ⟨by rfl, by decide, .inl Z.mB⟩)
        (fun W pn xe tk _ => pss_one (ps_if (pt_val (pv 3))
          (pss_one (ps_set (i := 5) scAs.nd rfl (.inl rfl) (pe_calKT C_readK (hr.mono (by omega)) (by rfl) tk (pk_cons (pv 1) (pk_cons (pv 2) (pk_cons (pv 0) pk_nil))))))
          (pss_one (ps_set (i := 5) scAs.nd rfl (.inl rfl) (pe_calT C_read (hr.mono (by omega)) (by rfl) tk (pa_cons (pv 0) (pa_cons (pv 1) (pa_cons (pv 2) pa_nil)))))))))
      (pss_cons (ps_if (pt_cmpR op_isN (pv 4) pe_non (nomark _))
        (pss_cons (ps_if (pt_cmpR (op_neD hu) (pe_tup (pa_cons (pe_fld (pv 5) rfl) (pa_cons (pe_fld (pv 5) rfl) (pa_cons (pe_fld (pv 5) rfl) (pa_cons (pe_callB (cr_lenO FL at_ fn hb pass0 (hr.mono (by omega))) (by rfl) m_len (by decide +kernel) (pa_cons (pv 5) pa_nil)) pa_nil))))) (pe_tup (pa_cons (pv 0) (pa_cons (pv 1) (pa_cons (pv 2) (pa_cons (pv 2) pa_nil))))) (nomark _))
          (pss_one (ps_ret (pe_tup (pa_cons pe_str (pa_cons pe_non pa_nil))))) pss_nil)
        (pss_one (ps_ret (pe_tup (pa_cons pe_str (pa_cons (pe_calM0 (pv 5) T.cl M_unpacked (hr.mono (by omega))) pa_nil)))))) pss_nil)
      (pss_cons (ps_if (PW.pt (pw_or (pt_not (pt_val (pe_callB call_isV (by rfl) Z.mi PyProof.Rows.boot_isinstance (pa_cons (pv 4) (pa_cons (pe_bltn (v := .ty "ValueError") (by rfl) Z.mV PyProof.Rows.Boot.«ValueError» rfl) pa_nil)))))
          (pw_or1 (pt_val (pe_callB call_isVT (by rfl) Z.mi PyProof.Rows.boot_isinstance (pa_cons (pv 4) (pa_cons (pe_tup (pa_cons (pe_glob (v := .ref CK) (by rfl) Z.mK rfl) (pa_cons (pe_glob (v := .ref CL) (by rfl) Z.mL rfl) (pa_cons (pe_glob (v := .ref CO) (by rfl) Z.mO rfl) (pa_cons (pe_glob (v := .ref CT) (by rfl) Z.mT rfl) pa_nil))))) pa_nil)))))))
        (pss_one (ps_ret (pe_tup (pa_cons pe_str (pa_cons pe_non pa_nil))))) pss_nil)
      (pss_one (ps_ret (pe_tup (pa_cons pe_str (pa_cons (pe_exf (pv 4)) pa_nil))))))))), ?_⟩

    cases b with
    | true =>
      refine ⟨_, rfl, true, rfl, if_t ?_⟩
      refine ⟨_, rfl, _, rfl, _, rfl, rfl, l, y, n, rfl, bin, big, few, fun nb a H1 s1 col => ?_, fun p bp d H' s' nd hd => ?_⟩
      · obtain ⟨dx, g, ea, gd, z⟩ := id col
        refine ⟨_, rfl, rfl, true, rfl, if_t ?_⟩
        refine ⟨_, rfl, a, C, dx, _, _, rfl, ea, T.cl, T.no _ (by decide), rfl, _, rfl, a, C, dx, _, _, rfl, ea, T.cl, T.no _ (by decide), rfl, _, rfl, a, C, dx, _, _, rfl, ea, T.cl, T.no _ (by decide), rfl, _, rfl, a, dx, _, rfl, ea, a, y, l, n, rfl, col, few, n, rfl, by omega, (by show 4 ≤ sizeLine; decide), fun t1 nt1 => ?_⟩
        have s2 := same_new (o := .tup [.str y.nm, .str (S l), .int (n : Nat), .int (n : Nat)]) nt1
        have u1 := upd_same (H := H1) (a := t1) (o := .tup [.str y.nm, .str (S l), .int (n : Nat), .int (n : Nat)])
        refine ⟨_, rfl, _, rfl, _, rfl, _, rfl, (by show 4 ≤ sizeLine; decide), fun t2 nt2 => ?_⟩
        have s3 := same_new (o := .tup [.str y.nm, .str (S l), .int (n : Nat), .int (n : Nat)]) nt2
        refine ⟨_, _, .tup (SqT.of (s3 _ _ u1)) (.cons (.str _) (.cons (.str _) (.cons (.int _) (.cons (.int _) .nil)))), .tup (SqT.of upd_same) (.cons (.str _) (.cons (.str _) (.cons (.int _) (.cons (.int _) .nil)))), shaped_C bin y n, shaped_C bin y n, false, congrArg V.bl (by rw [SeqAt.eqv_refl _ (SeqAt.canLay_of_shaped (shaped_C bin y n))]; rfl), if_f ?_⟩
        have s4 := (s1.trans s2).trans s3
        have col2 := (col.same s2).same s3
        obtain ⟨dx2, g2, ea2, gd2, z2⟩ := id col2
        refine ⟨_, rfl, a, dx2, _, rfl, ea2, rfl, a, y, l, n, rfl, col2, few, bin, big, fun b H5 s5 nb5 hb5 => ?_⟩
        refine ⟨by show 2 ≤ sizeLine; decide, fun t nt => ?_⟩
        have s6 := same_new (o := .tup [.str "told", .ref b]) nt
        exact tell.2 nb t b _ ((s4.trans s5).trans s6) upd_same (s6 _ _ hb5)
      · refine ⟨Z.ex, fun e ne => ?_⟩
        have sb : Same H' (upd H' e (ExV (.ref CB) (some d) e)) := same_new ne
        have hbb : (upd H' e (ExV (.ref CB) (some d) e)) e = some (ExV (.ref CB) (some d) e) := upd_same
        have hdd := sb _ _ hd
        refine ⟨_, rfl, rfl, false, rfl, if_f ?_⟩
        refine ⟨_, rfl, e, CB, d, _, .ty "ValueError", .type "ValueError", true, rfl, hbb, hdd, Z.xc, .ty _, Z.kV, true, rfl, if_f ?_⟩
        refine ⟨_, rfl, by show 4 ≤ sizeLine; decide, fun tp ntp => ?_⟩
        have st := same_new (o := .tup [.ref CK, .ref CL, .ref CO, .ref CT]) ntp
        refine ⟨e, CB, d, tp, _, _, _, false, rfl, st _ _ hbb, st _ _ hdd, Z.xc, upd_same, .cons (.own _) (.cons (.own _) (.cons (.own _) (.cons (.own _) .nil))), Z.kA, false, rfl, if_f ?_⟩
        refine ⟨_, rfl, e, CB, d, _, .int p, rfl, st _ _ hbb, Z.xf, Z.no, st _ _ hdd, rfl, by show 2 ≤ sizeLine; decide, fun t nt => ?_⟩
        exact tell.1 p bp t _ (((s'.trans sb).trans st).trans (same_new nt)) upd_same
    | false =>
      refine ⟨_, rfl, false, rfl, if_f ?_⟩
      refine ⟨_, rfl, _, rfl, _, rfl, l, y, n, rfl, bin, big, few, fun nb a H1 s1 col => ?_, fun p bp d H' s' nd hd => ?_⟩
      · obtain ⟨dx, g, ea, gd, z⟩ := id col
        refine ⟨_, rfl, rfl, true, rfl, if_t ?_⟩
        refine ⟨_, rfl, a, C, dx, _, _, rfl, ea, T.cl, T.no _ (by decide), rfl, _, rfl, a, C, dx, _, _, rfl, ea, T.cl, T.no _ (by decide), rfl, _, rfl, a, C, dx, _, _, rfl, ea, T.cl, T.no _ (by decide), rfl, _, rfl, a, dx, _, rfl, ea, a, y, l, n, rfl, col, few, n, rfl, by omega, (by show 4 ≤ sizeLine; decide), fun t1 nt1 => ?_⟩
        have s2 := same_new (o := .tup [.str y.nm, .str (S l), .int (n : Nat), .int (n : Nat)]) nt1
        have u1 := upd_same (H := H1) (a := t1) (o := .tup [.str y.nm, .str (S l), .int (n : Nat), .int (n : Nat)])
        refine ⟨_, rfl, _, rfl, _, rfl, _, rfl, (by show 4 ≤ sizeLine; decide), fun t2 nt2 => ?_⟩
        have s3 := same_new (o := .tup [.str y.nm, .str (S l), .int (n : Nat), .int (n : Nat)]) nt2
        refine ⟨_, _, .tup (SqT.of (s3 _ _ u1)) (.cons (.str _) (.cons (.str _) (.cons (.int _) (.cons (.int _) .nil)))), .tup (SqT.of upd_same) (.cons (.str _) (.cons (.str _) (.cons (.int _) (.cons (.int _) .nil)))), shaped_C bin y n, shaped_C bin y n, false, congrArg V.bl (by rw [SeqAt.eqv_refl _ (SeqAt.canLay_of_shaped (shaped_C bin y n))]; rfl), if_f ?_⟩
        have s4 := (s1.trans s2).trans s3
        have col2 := (col.same s2).same s3
        obtain ⟨dx2, g2, ea2, gd2, z2⟩ := id col2
        refine ⟨_, rfl, a, dx2, _, rfl, ea2, rfl, a, y, l, n, rfl, col2, few, bin, big, fun b H5 s5 nb5 hb5 => ?_⟩
        refine ⟨by show 2 ≤ sizeLine; decide, fun t nt => ?_⟩
        have s6 := same_new (o := .tup [.str "told", .ref b]) nt
        exact tell.2 nb t b _ ((s4.trans s5).trans s6) upd_same (s6 _ _ hb5)
      · refine ⟨Z.ex, fun e ne => ?_⟩
        have sb : Same H' (upd H' e (ExV (.ref CB) (some d) e)) := same_new ne
        have hbb : (upd H' e (ExV (.ref CB) (some d) e)) e = some (ExV (.ref CB) (some d) e) := upd_same
        have hdd := sb _ _ hd
        refine ⟨_, rfl, rfl, false, rfl, if_f ?_⟩
        refine ⟨_, rfl, e, CB, d, _, .ty "ValueError", .type "ValueError", true, rfl, hbb, hdd, Z.xc, .ty _, Z.kV, true, rfl, if_f ?_⟩
        refine ⟨_, rfl, by show 4 ≤ sizeLine; decide, fun tp ntp => ?_⟩
        have st := same_new (o := .tup [.ref CK, .ref CL, .ref CO, .ref CT]) ntp
        refine ⟨e, CB, d, tp, _, _, _, false, rfl, st _ _ hbb, st _ _ hdd, Z.xc, upd_same, .cons (.own _) (.cons (.own _) (.cons (.own _) (.cons (.own _) .nil))), Z.kA, false, rfl, if_f ?_⟩
        refine ⟨_, rfl, e, CB, d, _, .int p, rfl, st _ _ hbb, Z.xf, Z.no, st _ _ hdd, rfl, by show 2 ≤ sizeLine; decide, fun t nt => ?_⟩
        exact tell.1 p bp t _ (((s'.trans sb).trans st).trans (same_new nt)) upd_same
end
end Tg

namespace Tg
open PySem PySem.Spec PyProof.Rows L2
open SX (S)
/-! ### what bits the law draws -/
theorem own_bin (n : Nat) : Bits (ownL n) := fun c hc => by
  rw [← own_is] at hc
  obtain h | h := List.mem_append.mp hc
  · exact .inl (List.eq_of_mem_replicate h)
  · exact bt_bin _ _ c h
theorem flat_bin {ls : List (List Nat)} (h : ∀ l, l ∈ ls → Bits l) : Bits ls.flatten := fun c hc => by
  obtain ⟨l, hl, hc⟩ := List.mem_flatten.mp hc
  exact h l hl c hc
theorem app_bin {a b : List Nat} (h : Bits a) (g : Bits b) : Bits (a ++ b) := fun c hc => (List.mem_append.mp hc).elim (h c) (g c)
theorem take_bin {a : List Nat} (h : Bits a) (n : Nat) : Bits (a.take n) := fun c hc => h c (List.mem_of_mem_take hc)
theorem drop_bin {a : List Nat} (h : Bits a) (n : Nat) : Bits (a.drop n) := fun c hc => h c (List.mem_of_mem_drop hc)
theorem cds_bin (cs : List Int) : Bits (cds cs) := flat_bin fun l hl => by
  obtain ⟨x, _, rfl⟩ := List.mem_map.mp hl
  exact own_bin _
theorem bits_bin (y : Wy) (xs : List Int) : Bits (bitsY y xs) := by
  by_cases e : xs = []
  · subst e
    exact fun c hc => by cases hc
  · rw [show bitsY y xs = encY y xs from if_neg e]
    cases y with
    | plain => exact app_bin (app_bin (own_bin _) (own_bin _)) (flat_bin fun l hl => (plC_in hl).2)
    | book =>
      refine app_bin (app_bin (app_bin (own_bin _) (own_bin _)) (flat_bin fun l hl => ?_)) (flat_bin fun l hl => (bkC_in hl).2)
      obtain ⟨d, _, rfl⟩ := List.mem_map.mp hl
      exact own_bin _
    | «by» W =>
      cases W with
      | steps => exact cds_bin _
      | turns => exact cds_bin _
      | runs =>
        refine flat_bin fun l hl => ?_
        obtain ⟨r, _, rfl⟩ := List.mem_map.mp hl
        exact app_bin (own_bin _) (own_bin _)
theorem gaps_short {b : List Int} (lo : Lo 71 b) : ((difs b).map fun d => ownL (d - 1).toNat).flatten.length ≤ 165 * (b.length - 1) := by
  refine Nat.le_trans (flat_le (n := 165) fun y hy => ?_) (by rw [List.length_map, difs_len]; exact Nat.le_refl _)
  obtain ⟨d, hd, rfl⟩ := List.mem_map.mp hy
  have d2 := lo_difs lo _ hd
  have := own_short (n := (d - 1).toNat) (w := 74) (by
    have e : (2 : Nat) ^ 74 = 2 ^ 72 * 4 := rfl
    have d2' : d.natAbs < 2 ^ 72 := d2
    omega)
  omega
theorem bits_short {y : Wy} {xs : List Int} (lo : Lo 70 xs) (few : xs.length ≤ 39) : (bitsY y xs).length ≤ 8000 := by
  by_cases c : xs = []
  · subst c
    exact Nat.zero_le _
  · have pos := List.length_pos_iff.mpr c
    rw [show bitsY y xs = encY y xs from if_neg c]
    cases y with
    | plain =>
      obtain ⟨l1, l2, l3⟩ := encP_len pos (by omega) lo
      have sz : wdP xs * xs.length ≤ 71 * 39 := Nat.mul_le_mul l3 few
      show (encP xs).length ≤ _
      omega
    | book =>
      obtain ⟨l1, _, l3, _, l4, blo, _⟩ := encB_len pos (by omega) lo
      have sz : wdB xs * xs.length ≤ 8 * 39 := Nat.mul_le_mul l3 few
      have bl := Nat.le_trans (book_len xs) few
      obtain ⟨b, eb⟩ : ∃ b, bookOf xs = b := ⟨_, rfl⟩
      rw [eb] at l4 blo bl
      obtain ⟨b0, eb0⟩ : ∃ b0, b[0]? = some b0 := ⟨_, List.getElem?_eq_getElem l4⟩
      have c1 := cd_len (Nat.lt_of_lt_of_le (blo b0 (List.mem_of_getElem? eb0)) (show 2 ^ 70 ≤ 2 ^ 80 by decide))
      have c2 := own_short (n := b.length - 1) (w := 8) (by omega)
      have g1 := gaps_short (blo.mono (show 70 ≤ 71 by decide))
      have a1 : atB xs ≤ 16 + 165 + 165 * (b.length - 1) := by
        unfold atB gpC
        rw [eb, headD_of eb0, List.length_append, List.length_append]
        omega
      show (encB xs).length ≤ _
      omega
    | «by» W =>
      cases W with
      | steps =>
        have := cds_len ((lo_stp lo).mono (show 71 ≤ 80 by decide))
        rw [stp_len] at this
        show (cds (stp xs)).length ≤ _
        omega
      | turns =>
        have := cds_len ((lo_trn lo).mono (show 72 ≤ 80 by decide))
        rw [trn_len] at this
        show (cds (trn xs)).length ≤ _
        omega
      | runs =>
        show ((rn xs).map rcd).flatten.length ≤ _
        refine Nat.le_trans (flat_le (n := 200) fun y hy => ?_) ?_
        · obtain ⟨r, hr, rfl⟩ := List.mem_map.mp hy
          obtain ⟨r1, r2, r3⟩ := run_in hr
          exact rcd_len (Nat.lt_of_lt_of_le (lo r.1 r1) (by decide)) (by omega)
        · rw [List.length_map]
          have := rn_len xs
          omega
theorem unr_len : ∀ rs : List Run, (unr rs).length = (rs.map (·.2)).sum
  | [] => rfl
  | r :: rs => by
    show (List.replicate r.2 r.1 ++ unr rs).length = r.2 + (rs.map (·.2)).sum
    rw [List.length_append, List.length_replicate, unr_len rs]
theorem rn_sum (xs : List Int) : ((rn xs).map (·.2)).sum = xs.length := by
  rw [← unr_len, (rn_all xs).1]
theorem sum_take {l : List Nat} {i x : Nat} (h : l[i]? = some x) : (l.take (i + 1)).sum = (l.take i).sum + x := by
  rw [List.take_add_one, h, List.sum_append]
  rfl
theorem sum_take_le : ∀ (l : List Nat) (i : Nat), (l.take i).sum ≤ l.sum
  | [], i => by rw [List.take_nil]; exact Nat.le_refl _
  | x :: r, 0 => Nat.zero_le _
  | x :: r, i + 1 => by
    rw [List.take_succ_cons, List.sum_cons, List.sum_cons]
    have := sum_take_le r i
    omega
theorem dr_ne {H : Hp} {p l : Addr} {n : Nat} {xs : List Int} (d : Dr H p n) (h : NL H l xs) : l ≠ p := fun z => by
  obtain ⟨a, k, b, z2, _⟩ := d
  unfold NL at h
  rw [z, z2] at h
  injection h with h
  injection h with h
  have e := congrArg (fun l : List V => l[2]?) h
  simp only [List.getElem?_map] at e
  cases c : xs[2]? with
  | none => rw [c] at e; cases e
  | some x => rw [c] at e; cases e
/-- bits that the law draws -/
def BQ (Q : VK) (p : Addr) (H : Hp) (N b : Nat) : Prop := ∀ (zs : List Nat) (m : Nat) (H' : Hp), Bits zs → zs.length ≤ b → m ≤ 60 → Kp p H H' → Dr H' p (N + m) → Q (.str (S zs)) H'
abbrev sPa : Stmt := topS 49
abbrev NPa : List Str := ["_law_draws_here", "_law_numbers_here", "_law_told", "_law_number_here", "_law_often", "_law_first", "_law_size"]
theorem scPa : FnScope NPa ["_law_draws_here", "_law_numbers_here"] (defScope sPa) := ⟨rfl, rfl, rfl, by decide +kernel, rfl, by decide +kernel, by decide +kernel⟩
section
variable {P : Program} {w : World} {K : PySem.W.Frag} {mg : Str → Option Value} {base : Heap} {f : Addr} {fd : FuncData} {k : Nat}
def spPa : Sp := fun vs H Q _ => ∃ (p l : Addr) (xs : List Int) (N : Nat), vs = [.ref p, .ref l] ∧ Dr H p N ∧ N < 900000 ∧ NL H l xs ∧ Lo 70 xs ∧ xs.length ≤ 39 ∧ BQ Q p H N 8000
theorem ok_pa (F : Fun K "_law_parted" "_law_parted" sPa f fd) (L_next : Cal P w K mg base k "_law_next" ["_law_draws_here"] spNext) (L_runs : Cal P w K mg base k "_law_runs" ["_law_numbers_here"] spLR) (L_own : Cal P w K mg base k "_law_own" ["_law_number_here"] spLO) (L_turned : Cal P w K mg base k "_law_turned" ["_law_number_here"] spLT) : FnOk P w K mg base CX0 (k + 1) f fd ["_law_draws_here", "_law_numbers_here"] spPa := by
  refine F.ok scPa (fun vs H Q E h => ?_) (fun cdv A outer s H vs Q E hr h => ?_)
  · obtain ⟨p, l, xs, N, rfl, _⟩ := h
    rfl
  · obtain ⟨p, l, xs, N, rfl, dr, n9, hl, lo, few, q⟩ := h
    refine ⟨_, pss_cons (ps_set (i := 2) scPa.nd rfl (.inl rfl) pe_str)
      (pss_cons (ps_for PassesOwn.never rfl (pi_list (pe_cal L_runs (hr.mono (by omega)) (by rfl) (pa_cons (pv 1) pa_nil))) (pg_unl rfl (pgs_cons (pg_name (i := 3) scPa.nd rfl (.inl rfl)) (pgs_cons (pg_name (i := 4) scPa.nd rfl (.inl rfl)) pgs_nil)))
        (pss_cons (ps_set (i := 5) scPa.nd rfl (.inl rfl) (pe_op op_mod (pe_cal L_next (hr.mono (by omega)) (by rfl) (pa_cons (pv 0) pa_nil)) (pv 4)))
        (pss_one (ps_for PassesOwn.never rfl (pi_list (pe_lst (pa_cons (pv 5) (pa_cons (pe_op op_sub (pv 4) (pv 5)) pa_nil)))) (pg_name (i := 6) scPa.nd rfl (.inl rfl))
          (pss_one (ps_if (pt_cmpR op_gt (pv 6) pe_int (nomark _))
            (pss_one (ps_set (i := 2) scPa.nd rfl (.inl rfl) (pe_op op_addB (pe_op op_addB (pv 2) (pe_cal L_own (hr.mono (by omega)) (by rfl) (pa_cons (pe_cal L_turned (hr.mono (by omega)) (by rfl) (pa_cons (pv 3) pa_nil)) pa_nil))) (pe_cal L_own (hr.mono (by omega)) (by rfl) (pa_cons (pe_op op_sub (pv 6) pe_int) pa_nil)))))
            pss_nil))))))
      (pss_one (ps_ret (pv 2)))), ?_⟩
    have lp := dr_ne dr hl
    refine ⟨_, rfl, l, xs, rfl, hl, by omega, fun m ts H1 s1 hm rt => ⟨m, rfl, ⟨_, SqL.of hm⟩, ?_⟩⟩
    have rl := rn_len xs
    have mp : m ≠ p := fun z => by
      obtain ⟨a, kk, b, hp, _⟩ := Dr.same s1 dr
      rw [z, hp] at hm
      injection hm with hm
      injection hm with hm
      have e := congrArg (fun l : List V => l[0]?) hm
      simp only [List.getElem?_map] at e
      cases c : ts[0]? with
      | none => rw [c] at e; cases e
      | some x => rw [c] at e; cases e
    refine for_list (xs := ts.map V.ref) (fun i σ Hc => ∃ (zs : List Nat) (z3 z4 z5 z6 : Option V), σ = [some (.ref p), some (.ref l), some (.str (S zs)), z3, z4, z5, z6] ∧ Kp p H1 Hc ∧ Dr Hc p (N + i) ∧ Bits zs ∧ zs.length ≤ 200 * (((rn xs).map (·.2)).take i).sum) ?_ ?_ ?_ ?_
    · exact ⟨[], none, none, none, none, by rw [← s_nil]; rfl, Kp.refl _ _, Dr.same s1 dr, (fun c h => by cases h), Nat.zero_le _⟩
    · rintro i σ Hc _ ⟨zs, z3, z4, z5, z6, rfl, kc, _⟩
      exact SqL.of (kc _ _ mp hm)
    · rintro i y σ Hc hy ⟨zs, z3, z4, z5, z6, rfl, kc, dc, bin, ln⟩
      rw [List.getElem?_map] at hy
      obtain ⟨t, et, rfl⟩ := Option.map_eq_some_iff.mp hy
      have il : i < ts.length := (List.getElem?_eq_some_iff.mp et).1
      obtain ⟨r, er⟩ : ∃ r, (rn xs)[i]? = some r := ⟨_, List.getElem?_eq_getElem (by rw [← rt.1]; exact il)⟩
      obtain ⟨r1, r2, r3⟩ := run_in (List.mem_of_getElem? er)
      have b80 : r.1.natAbs < 2 ^ 80 := Nat.lt_of_lt_of_le (lo r.1 r1) (by decide)
      have et1 := rt.2 i t r et er
      have tp : t ≠ p := fun z => by
        obtain ⟨a, kk, b, hp, _⟩ := Dr.same s1 dr
        rw [z, hp] at et1
        cases et1
      have ht := kc _ _ tp et1
      have es := sum_take (l := (rn xs).map (·.2)) (i := i) (x := r.2) (by rw [List.getElem?_map, er]; rfl)
      have sl := sum_take_le ((rn xs).map (·.2)) (i + 1)
      rw [rn_sum] at sl
      refine ⟨t, _, rfl, SqL.of ht, rfl, _, _, rfl, _, _, rfl, rfl, ?_⟩
      refine ⟨_, rfl, p, N + i, rfl, dc, by have := rt.1; omega, fun v H2 k2 d2 v0 v9 => ?_⟩
      refine ⟨_, rfl, v, (r.2 : Nat), rfl, rfl, (by show (0 : Int) < (r.2 : Nat); omega), ?_⟩
      have f0 := Int.emod_nonneg v (show ((r.2 : Nat) : Int) ≠ 0 by omega)
      have f1 := Int.emod_lt_of_pos v (show (0 : Int) < (r.2 : Nat) by omega)
      obtain ⟨a, ea⟩ : ∃ a, v % ((r.2 : Nat) : Int) = a := ⟨_, rfl⟩
      rw [ea] at f0 f1
      show gName 5 (V.int (v % ((r.2 : Nat) : Int))) _ _ _
      rw [ea]
      refine ⟨_, rfl, _, rfl, _, rfl, _, _, rfl, rfl, by show 2 ≤ sizeLine; decide, fun b nb => ⟨b, rfl, ⟨_, SqL.of upd_same⟩, ?_⟩⟩
      have bp : b ≠ p := fun z => by
        obtain ⟨_, _, _, hp, _⟩ := d2
        rw [z, hp] at nb
        cases nb
      have kb := (kc.trans k2).trans (Kp.of (same_new (o := .lst [.int a, .int ((r.2 : Nat) - a)]) nb))
      have db := Dr.same (same_new (o := .lst [.int a, .int ((r.2 : Nat) - a)]) nb) d2
      have hb := upd_same (H := H2) (a := b) (o := .lst [.int a, .int ((r.2 : Nat) - a)])
      obtain ⟨H3, e3⟩ : ∃ H3, upd H2 b (.lst [.int a, .int ((r.2 : Nat) - a)]) = H3 := ⟨_, rfl⟩
      rw [e3] at kb db hb ⊢
      refine for_list (xs := [.int a, .int ((r.2 : Nat) - a)]) (fun j σ Hd => ∃ (zs2 : List Nat) (z6 : Option V), σ = [some (.ref p), some (.ref l), some (.str (S zs2)), some (.int r.1), some (.int (r.2 : Nat)), some (.int a), z6] ∧ Same H3 Hd ∧ Bits zs2 ∧ zs2.length ≤ zs.length + 200 * (([a, (r.2 : Nat) - a].map Int.toNat).take j).sum) ?_ ?_ ?_ ?_
      · exact ⟨zs, _, rfl, Same.refl _, bin, Nat.le_add_right _ _⟩
      · rintro j σ Hd _ ⟨zs2, z6, rfl, sd, _⟩
        exact SqL.of (sd _ _ hb)
      · rintro j y σ Hd hy ⟨zs2, z6, rfl, sd, bin2, ln2⟩
        obtain ⟨c, ec, rfl⟩ : ∃ c, [a, ((r.2 : Nat) : Int) - a][j]? = some c ∧ y = .int c := by
          rcases j with _ | _ | j
          · exact ⟨a, rfl, (Option.some.inj hy).symm⟩
          · exact ⟨_, rfl, (Option.some.inj hy).symm⟩
          · cases hy
        have c01 : 0 ≤ c ∧ c ≤ r.2 := by
          rcases j with _ | _ | j
          · cases ec; omega
          · cases ec; omega
          · cases ec
        have es2 := sum_take (l := [a, (r.2 : Nat) - a].map Int.toNat) (i := j) (x := c.toNat) (by rw [List.getElem?_map, ec]; rfl)
        have sl2 := sum_take_le ([a, (r.2 : Nat) - a].map Int.toNat) (j + 1)
        have tot : ([a, ((r.2 : Nat) : Int) - a].map Int.toNat).sum = r.2 := by
          show a.toNat + ((((r.2 : Nat) : Int) - a).toNat + 0) = r.2
          omega
        refine ⟨_, rfl, c, 0, rfl, rfl, _, rfl, ite2 (fun g => ?_) (fun g => ?_)⟩
        · have cp : 0 < c := of_decide_eq_true g
          have zl : (ownL (tN r.1)).length + (ownL (c.toNat - 1)).length ≤ 200 := by
            have z := rcd_len (r := (r.1, c.toNat)) b80 (by show c.toNat ≤ 200; omega)
            unfold rcd cd at z
            rw [List.length_append] at z
            exact z
          refine ⟨_, rfl, _, rfl, r.1, rfl, abs_89 b80, fun H4 s4 => ⟨tN r.1, (by rw [← tn_nat]; rfl), tN_90 b80, _, _, rfl, rfl, by omega, ?_⟩⟩
          refine ⟨_, rfl, c, 1, rfl, rfl, c.toNat - 1, ?_, Nat.lt_of_le_of_lt (show c.toNat - 1 ≤ 100 by omega) (by decide), _, _, rfl, rfl, ?_, ?_⟩
          · show [V.int (c - 1)] = _
            congr 2
            omega
          · rw [List.length_append]
            omega
          · refine ⟨_, _, rfl, sd.trans s4, app_bin (app_bin bin2 (own_bin _)) (own_bin _), ?_⟩
            rw [List.length_append, List.length_append]
            omega
        · exact ⟨zs2, _, rfl, sd, bin2, by omega⟩
      · rintro σ Hd ⟨zs2, z6, rfl, sd, bin2, ln2⟩
        refine ⟨zs2, _, _, _, _, rfl, kb.trans (Kp.of sd), Dr.same sd db, bin2, ?_⟩
        have tot : (([a, ((r.2 : Nat) : Int) - a].map Int.toNat).take 2).sum = r.2 := by
          show a.toNat + ((((r.2 : Nat) : Int) - a).toNat + 0) = r.2
          omega
        have ln3 : zs2.length ≤ zs.length + 200 * (([a, ((r.2 : Nat) : Int) - a].map Int.toNat).take 2).sum := ln2
        omega
    · rintro σ Hc ⟨zs, z3, z4, z5, z6, rfl, kc, dc, bin, ln⟩
      refine ⟨_, rfl, q zs ts.length Hc bin ?_ ?_ ((Kp.of s1).trans kc) (by rw [List.length_map] at dc; exact dc)⟩
      · have sl := sum_take_le ((rn xs).map (·.2)) (ts.map V.ref).length
        rw [rn_sum] at sl
        omega
      · rw [rt.1]
        omega
end
end Tg

namespace Tg
open PySem PySem.Spec PyProof.Rows L2
open SX (S)
abbrev sWi : Stmt := topS 50
abbrev NWi : List Str := ["_law_draws_here", "_law_numbers_here", "_law_some", "_law_told", "_law_gap"]
theorem scWi : FnScope NWi ["_law_draws_here", "_law_numbers_here"] (defScope sWi) := ⟨rfl, rfl, rfl, by decide +kernel, rfl, by decide +kernel, by decide +kernel⟩
section
variable {P : Program} {w : World} {K : PySem.W.Frag} {mg : Str → Option Value} {base : Heap} {f : Addr} {fd : FuncData} {k : Nat}
theorem ok_wi2 (F : Fun K "_law_wider" "_law_wider" sWi f fd) (L_next : Cal P w K mg base k "_law_next" ["_law_draws_here"] spNext) (L_gaps : Cal P w K mg base k "_law_gaps" ["_law_numbers_here"] (spNew 80 200 difs)) (L_length : Cal P w K mg base k "_law_length" ["_law_number_here"] spLe) (L_own : Cal P w K mg base k "_law_own" ["_law_number_here"] spLO) (L_turned : Cal P w K mg base k "_law_turned" ["_law_number_here"] spLT) (L_placed : Cal P w K mg base k "_law_placed" ["_law_numbers_here", "_law_some", "_law_width"] spPc)
    (m_min : mg "min" = none) (m_max : mg "max" = none) (m_sorted : mg "sorted" = none) (m_set : mg "set" = none) (m_len : mg "len" = none) : FnOk P w K mg base CX0 (k + 1) f fd ["_law_draws_here", "_law_numbers_here"] spPa := by
  refine F.ok scWi (fun vs H Q E h => ?_) (fun cdv A outer s H vs Q E hr h => ?_)
  · obtain ⟨p, l, xs, N, rfl, _⟩ := h
    rfl
  · obtain ⟨p, l, xs, N, rfl, dr, n9, hl, lo, few, q⟩ := h
    have hu := hr.units
    refine ⟨_, pss_cons (ps_if (pt_cmpR (op_eqD hu) (pv 1) (pe_lst pa_nil) (nomark _))
        (pss_one (ps_ret pe_str))
        pss_nil)
      (pss_cons (ps_set (i := 2) scWi.nd rfl (.inl rfl) (pe_callB (cr_sortedSetA rfl) (by rfl) m_sorted (by decide +kernel) (pa_cons (pe_callTy (cr_setL rfl) (by rfl) m_set (by decide +kernel) (pa_cons (pe_op op_cat (pv 1) (pe_lst (pa_cons (pe_op op_add (pe_op op_add (pe_callB (cr_max rfl) (by rfl) m_max (by decide +kernel) (pa_cons (pv 1) pa_nil)) pe_int) (pe_op op_mod (pe_cal L_next (hr.mono (by omega)) (by rfl) (pa_cons (pv 0) pa_nil)) pe_int)) (pa_cons (pe_op op_sub (pe_callB (cr_min rfl) (by rfl) m_min (by decide +kernel) (pa_cons (pv 1) pa_nil)) pe_int) pa_nil)))) pa_nil)) pa_nil)))
      (pss_cons (ps_set (i := 3) scWi.nd rfl (.inl rfl) (pe_op op_addB (pe_cal L_own (hr.mono (by omega)) (by rfl) (pa_cons (pe_op op_sub (pe_callB call_len_seq (by rfl) m_len (by decide +kernel) (pa_cons (pv 2) pa_nil)) pe_int) pa_nil)) (pe_cal L_own (hr.mono (by omega)) (by rfl) (pa_cons (pe_cal L_turned (hr.mono (by omega)) (by rfl) (pa_cons (pe_ix ix_list (pv 2) pe_int (fun _ _ => rfl)) pa_nil)) pa_nil))))
      (pss_cons (ps_set (i := 3) scWi.nd rfl (.inl rfl) (pe_op op_addB (pv 3) (pe_bm PySem.F.plainAttrs_str PySem.F.slot_str_join PySem.F.type_str_join mt_joinB pe_str (pa_cons (pe_lc (own := [("_law_gap", 4)]) (g := (gName 4)) (tt := tYes) rfl scWi.nd (pi_list (pe_cal L_gaps (hr.mono (by omega)) (by rfl) (pa_cons (pv 2) pa_nil))) (blkOk_by (own := [("_law_gap", 4)]) (N := NWi) (sc := defScope sWi) (by decide +kernel)) (fun _ _ _ _ _ => (pg_name (i := 4) scWi.nd rfl (.inl rfl))) (fun _ _ _ _ _ => pts_nil) (fun _ _ _ _ _ => (pe_cal L_own (hr.mono (by omega)) (by rfl) (pa_cons (pe_op op_sub (pv 4) pe_int) pa_nil)))) pa_nil))))
      (pss_one (ps_ret (pe_op op_addB (pv 3) (pe_cal L_placed (hr.mono (by omega)) (by rfl) (pa_cons (pv 1) (pa_cons (pv 2) (pa_cons (pe_cal L_length (hr.mono (by omega)) (by rfl) (pa_cons (pe_op op_sub (pe_callB call_len_seq (by rfl) m_len (by decide +kernel) (pa_cons (pv 2) pa_nil)) pe_int) pa_nil)) pa_nil)))))))))), ?_⟩
    have lp := dr_ne dr hl
    refine ⟨_, rfl, Nat.zero_le _, fun e0 ne0 => ?_⟩
    have s0 := same_new (o := .lst []) ne0
    obtain ⟨Ha, ea⟩ : ∃ Ha, upd H e0 (.lst []) = Ha := ⟨_, rfl⟩
    have dp0 : Dp K Ha (.ref e0) (.list []) := by
      rw [← ea]
      exact .lst (SqL.of upd_same) .nil
    rw [ea] at s0 ⊢
    have hla := s0 _ _ hl
    have da := Dr.same s0 dr
    by_cases c : xs = []
    · subst c
      refine ⟨_, _, dp_lst (ns := []) (SqL.of hla), dp0, rfl, rfl, true, rfl, if_t ?_⟩
      show Q (.str "") Ha
      rw [s_nil]
      exact q [] 0 Ha (fun c h => by cases h) (Nat.zero_le _) (by decide) (Kp.of s0) da
    have pos := List.length_pos_iff.mpr c
    refine ⟨_, _, dp_lst (ns := xs) (SqL.of hla), dp0, shaped_ints xs, rfl, false, ?_, if_f ?_⟩
    · cases xs with
      | nil => exact absurd rfl c
      | cons a r => rfl
    obtain ⟨n1, n2⟩ := mnI_is c
    obtain ⟨x1, x2⟩ := mxI_is c
    have nlo := lo _ n1
    have xlo := lo _ x1
    refine ⟨_, rfl, _, rfl, l, xs, rfl, SqL.of hla, pos, fun mx hm hmax => ?_⟩
    obtain rfl := mx_of hm hmax
    refine ⟨_, _, rfl, rfl, _, rfl, p, N, rfl, da, by omega, fun v H1 k1 d1 v0 v9 => ?_⟩
    have kA := (Kp.of s0).trans k1
    have h1l := kA _ _ lp hl
    have v90 := Int.emod_nonneg v (show (9 : Int) ≠ 0 by decide)
    have v91 := Int.emod_lt_of_pos v (show (0 : Int) < 9 by decide)
    refine ⟨v, 9, rfl, rfl, (by show (0 : Int) < 9; decide), _, _, rfl, rfl, ?_⟩
    refine ⟨_, rfl, l, xs, rfl, SqL.of h1l, pos, fun mn hm hmin => ?_⟩
    obtain rfl := mn_of hm hmin
    refine ⟨_, _, rfl, rfl, by show 2 ≤ sizeLine; decide, fun t nt => ?_⟩
    have sT := same_new (o := .lst [.int (mxI xs + 1 + v % 9), .int (mnI xs - 1)]) nt
    have ht := upd_same (H := H1) (a := t) (o := .lst [.int (mxI xs + 1 + v % 9), .int (mnI xs - 1)])
    refine ⟨l, t, _, _, rfl, rfl, sT _ _ h1l, ht, ?_, fun l3 nl3 => ?_⟩
    · rw [List.length_map]
      show xs.length + 2 ≤ sizeLine
      exact small1000 (by omega)
    obtain ⟨ys, ey⟩ : ∃ ys, xs ++ [mxI xs + 1 + v % 9, mnI xs - 1] = ys := ⟨_, rfl⟩
    have sL := same_new (o := .lst (xs.map V.int ++ [.int (mxI xs + 1 + v % 9), .int (mnI xs - 1)])) nl3
    have ylo : Lo 71 ys := fun x hx => by
      have e : (2 : Nat) ^ 71 = 2 ^ 70 * 2 := rfl
      have e8 : (16 : Nat) < 2 ^ 70 := by decide
      rw [← ey] at hx
      rcases List.mem_append.mp hx with g | g
      · have := lo x g
        omega
      · rcases List.mem_cons.mp g with rfl | g
        · omega
        · rw [List.mem_singleton.mp g]
          omega
    have yl : ys.length = xs.length + 2 := by
      rw [← ey, List.length_append]
      rfl
    have ysub : ∀ x, x ∈ xs → x ∈ ys := fun x hx => by
      rw [← ey]
      exact List.mem_append_left _ hx
    obtain ⟨H2, e2⟩ : ∃ H2, upd (upd H1 t (.lst [.int (mxI xs + 1 + v % 9), .int (mnI xs - 1)])) l3 (.lst (xs.map V.int ++ [.int (mxI xs + 1 + v % 9), .int (mnI xs - 1)])) = H2 := ⟨_, rfl⟩
    have s12 : Same H1 H2 := by
      rw [← e2]
      exact sT.trans sL
    have h23 : NL H2 l3 ys := by
      rw [← e2, ← ey]
      show _ = some (HO.lst ((xs ++ [mxI xs + 1 + v % 9, mnI xs - 1]).map V.int))
      rw [List.map_append]
      exact upd_same
    show tNil _ (upd (upd H1 t (.lst [.int (mxI xs + 1 + v % 9), .int (mnI xs - 1)])) l3 (.lst (xs.map V.int ++ [.int (mxI xs + 1 + v % 9), .int (mnI xs - 1)]))) _
    rw [e2]
    refine ⟨l3, ys, rfl, SqL.of h23, by omega, fun a cn na cnt => ?_⟩
    have c100 : cn ≤ ys.length := cnt ys fun _ h => h
    have s3 : Same H2 (upd H2 a (SetO w a (fun k => decide (k ∈ ys)) cn)) := same_new na
    refine ⟨a, _, cn, rfl, upd_same, Nat.le_of_lt (small1000 (by omega)), fun b o2 ⟨up', mem, len⟩ np => ?_⟩
    obtain rfl : b = bookOf ys := book_of up' fun k => (mem k).trans decide_eq_true_iff
    have bl := book_len ys
    obtain ⟨up, bmem⟩ := book_is ys
    have bp : 0 < (bookOf ys).length := book_ne (by omega)
    obtain ⟨b, eb⟩ : ∃ b, bookOf ys = b := ⟨_, rfl⟩
    have s4 := same_new (o := .lst ((bookOf ys).map V.int)) np
    obtain ⟨H3, e3⟩ : ∃ H3, upd (upd H2 a (SetO w a (fun k => decide (k ∈ ys)) cn)) o2 (.lst ((bookOf ys).map V.int)) = H3 := ⟨_, rfl⟩
    have h3 : NL H3 o2 b := by
      rw [← e3, eb]
      exact upd_same
    have s13 : Same H1 H3 := by
      rw [← e3]
      exact s12.trans (s3.trans s4)
    show gName 2 _ _ (upd (upd H2 a (SetO w a (fun k => decide (k ∈ ys)) cn)) o2 (.lst ((bookOf ys).map V.int))) _
    rw [e3]
    rw [eb] at bl up bmem bp
    have blo : Lo 71 b := fun x hx => ylo x ((bmem x).mp hx)
    have sub : ∀ x, x ∈ xs → x ∈ b := fun x hx => (bmem x).mpr (ysub x hx)
    obtain ⟨b0, eb0⟩ : ∃ b0, b[0]? = some b0 := ⟨_, List.getElem?_eq_getElem bp⟩
    have b0lo : b0.natAbs < 2 ^ 80 := Nat.lt_of_lt_of_le (blo b0 (List.mem_of_getElem? eb0)) (by decide)
    have c1 := cd_len b0lo
    unfold cd at c1
    have c2 := own_short (n := b.length - 1) (w := 8) (by omega)
    have g1 := gaps_short blo
    obtain ⟨gs, eg⟩ : ∃ gs, (difs b).map (fun d => ownL (d - 1).toNat) = gs := ⟨_, rfl⟩
    rw [eg] at g1
    have w7 : blen (b.length - 1) ≤ 7 := blen_le (by omega)
    have kB : Kp p H H3 := kA.trans (Kp.of s13)
    have dB := Dr.same s13 d1
    have hlB := s13 _ _ h1l
    have vl : ∀ X : List Int, X = b → [V.int ((((X.map V.int).length : Nat) : Int) - 1)] = [V.int ((b.length - 1 : Nat) : Int)] := fun X e => by
      subst e
      rw [List.length_map]
      congr 2
      omega
    refine ⟨_, rfl, o2, _, rfl, .inl (SqL.of h3), _, _, rfl, rfl, b.length - 1, vl _ rfl, Nat.lt_of_le_of_lt (show b.length - 1 ≤ 100 by omega) (by decide), ?_⟩
    refine ⟨_, rfl, o2, _, 0, .int b0, rfl, rfl, SqL.of h3, atI_nat (j := 0) (by rw [List.getElem?_map, eb0]; rfl), b0, rfl, abs_89 b0lo, fun H4 s4 => ⟨tN b0, (by rw [← tn_nat]; rfl), tN_90 b0lo, _, _, rfl, rfl, by omega, ?_⟩⟩
    have h4 := s4 _ _ h3
    refine ⟨_, rfl, rfl, _, rfl, o2, b, rfl, h4, blo.mono (by decide), by omega, fun g2 H5 s5 ng2 hg2 => ⟨g2, rfl, ⟨_, SqL.of hg2⟩, fun D nD => lc_mapL (xs := (difs b).map V.int) (gs.map fun y => V.str (S y)) (by rw [← eg]; simp) nD (SqL.of hg2) (by rw [List.length_map, difs_len]; exact small1000 (by omega)) (fun i x y Hc Q' hx hy sm q' => ?_) fun H6 s6 hD => ?_⟩⟩
    · rw [← eg] at hy
      rw [List.getElem?_map] at hx hy
      obtain ⟨d, ed, rfl⟩ := Option.map_eq_some_iff.mp hx
      rw [List.getElem?_map, ed] at hy
      cases hy
      have d1 := up_gap up _ (List.mem_of_getElem? ed)
      have d2 := lo_difs blo _ (List.mem_of_getElem? ed)
      refine ⟨rfl, _, rfl, _, _, rfl, rfl, (d - 1).toNat, ?_, Nat.lt_of_le_of_lt (show (d - 1).toNat ≤ d.natAbs by omega) (Nat.lt_trans d2 (by decide)), q' Hc (Same.refl _)⟩
      show [V.int (d - 1)] = _
      rw [Int.toNat_of_nonneg (by omega)]
    · refine ⟨D, gs, (by rw [← s_nil]), rfl, SqL.of hD, by omega, _, _, rfl, rfl, by rw [List.length_append]; omega, ?_⟩
      have s56 := s5.trans s6
      have h6 := s56 _ _ h4
      have s36 := s4.trans s56
      refine ⟨_, rfl, _, rfl, _, rfl, _, rfl, o2, _, rfl, .inl (SqL.of h6), _, _, rfl, rfl, b.length - 1, vl _ rfl, ?_⟩
      refine ⟨l, o2, xs, b, blen (b.length - 1), rfl, s36 _ _ hlB, h6, by omega, by omega, by omega, sub, fun H9 s9 => ⟨_, _, rfl, rfl, ?_, ?_⟩⟩
      all_goals
        have fl : (plB b (blen (b.length - 1)) xs).flatten.length = (plB b (blen (b.length - 1)) xs).length * blen (b.length - 1) := flat_same fun y hy => by
          obtain ⟨x, _, rfl⟩ := List.mem_map.mp hy
          exact bt_len _ _
        have pl : (plB b (blen (b.length - 1)) xs).length = xs.length := List.length_map ..
        have m1 : xs.length * blen (b.length - 1) ≤ 39 * 7 := Nat.mul_le_mul few w7
        rw [pl] at fl
      · rw [List.length_append, List.length_append]
        omega
      · refine q _ 1 H9 (app_bin (app_bin (app_bin (own_bin _) (own_bin _)) (flat_bin fun y hy => ?_)) (flat_bin fun y hy => ?_)) ?_ (by decide) (kB.trans (Kp.of (s36.trans s9))) (Dr.same (s36.trans s9) dB)
        · rw [← eg] at hy
          obtain ⟨d, _, rfl⟩ := List.mem_map.mp hy
          exact own_bin _
        · obtain ⟨x, _, rfl⟩ := List.mem_map.mp hy
          exact bt_bin _ _
        · rw [List.length_append, List.length_append, List.length_append]
          omega
end
end Tg

namespace Tg
open PySem PySem.Spec PyProof.Rows L2
open SX (S)
theorem cut_to (l : List Nat) {m : Nat} (h : m ≤ l.length) : cutS (S l) none (some (m : Int)) = S (l.take m) := by
  unfold cutS
  rw [HT.sIx_nat, SX.S_len, Nat.min_eq_left h]
  show S ((l.drop 0).take (m - 0)) = _
  rw [List.drop_zero, Nat.sub_zero]
theorem cut_from (l : List Nat) (m : Nat) : cutS (S l) (some (m : Int)) none = S (l.drop m) := by
  unfold cutS
  rw [HT.sIx_nat, SX.S_len]
  show S ((l.drop (min m l.length)).take (l.length - min m l.length)) = _
  by_cases h : m ≤ l.length
  · rw [Nat.min_eq_left h, List.take_of_length_le (by rw [List.length_drop]; omega)]
  · rw [Nat.min_eq_right (by omega), List.drop_of_length_le (by omega : l.length ≤ m), List.drop_length, List.take_nil]
theorem yes_b {σ : L2.St} {H : Hp} {Q : Bool → Hp → Prop} (h : Q true H) : tYes σ H Q := h
theorem one_bin {c : Nat} (h : IsBin c) : Bits [c] := fun d hd => by
  rw [List.mem_singleton.mp hd]
  exact h
theorem bt_bits (w n : Nat) : Bits (bt w n) := bt_bin w n
theorem zeros_bin (n : Nat) : Bits (List.replicate n 48) := fun c hc => .inl (List.eq_of_mem_replicate hc)
abbrev sBt : Stmt := topS 51
abbrev NBt : List Str := ["_law_draws_here", "_law_a_way", "_law_numbers_here", "_law_a_bits", "_law_kind", "_law_at", "_law_k"]
theorem scBt : FnScope NBt ["_law_draws_here", "_law_a_way", "_law_numbers_here"] (defScope sBt) := ⟨rfl, rfl, rfl, by decide +kernel, rfl, by decide +kernel, by decide +kernel⟩
section
variable {P : Program} {w : World} {K : PySem.W.Frag} {mg : Str → Option Value} {base : Heap} {f : Addr} {fd : FuncData} {k : Nat}
def spBt : Sp := fun vs H Q _ => ∃ (p l : Addr) (xs : List Int) (N : Nat) (y : Wy), vs = [.ref p, .str y.nm, .ref l] ∧ Dr H p N ∧ N < 800000 ∧ NL H l xs ∧ Lo 70 xs ∧ xs.length ≤ 39 ∧
  ∀ (zs : List Nat) (m : Nat) (H' : Hp), Bits zs → zs.length ≤ 8900 → m ≤ 70 → Kp p H H' → Dr H' p (N + m) → Q (.str (S zs)) H'
theorem ok_bt (F : Fun K "_law_bits" "_law_bits" sBt f fd) (L_next : Cal P w K mg base k "_law_next" ["_law_draws_here"] spNext) (L_plain : Cal P w K mg base k "_law_plain" ["_law_number_here", "_law_width"] spLP) (L_written : Cal P w K mg base k "_law_written" ["_law_numbers_here", "_law_a_way"] spWn) (L_parted : Cal P w K mg base k "_law_parted" ["_law_draws_here", "_law_numbers_here"] spPa) (L_wider : Cal P w K mg base k "_law_wider" ["_law_draws_here", "_law_numbers_here"] spPa)
    (m_int : mg "int" = none) (m_len : mg "len" = none) (m_range : mg "range" = none) : FnOk P w K mg base CX0 (k + 1) f fd ["_law_draws_here", "_law_a_way", "_law_numbers_here"] spBt := by
  refine F.ok scBt (fun vs H Q E h => ?_) (fun cdv A outer s H vs Q E hr h => ?_)
  · obtain ⟨p, l, xs, N, y, rfl, _⟩ := h
    rfl
  · obtain ⟨p, l, xs, N, y, rfl, dr, n9, hl, lo, few, q⟩ := h
    refine ⟨_, pss_cons (ps_set (i := 3) scBt.nd rfl (.inl rfl) (pe_cal L_written (hr.mono (by omega)) (by rfl) (pa_cons (pv 2) (pa_cons (pv 1) pa_nil))))
      (pss_cons (ps_set (i := 4) scBt.nd rfl (.inl rfl) (pe_op op_mod (pe_cal L_next (hr.mono (by omega)) (by rfl) (pa_cons (pv 0) pa_nil)) pe_int))
      (pss_cons (ps_set (i := 5) scBt.nd rfl (.inl rfl) (pe_op op_mod (pe_cal L_next (hr.mono (by omega)) (by rfl) (pa_cons (pv 0) pa_nil)) (pe_op op_add (pe_callB call_lenB (by rfl) m_len (by decide +kernel) (pa_cons (pv 3) pa_nil)) pe_int)))
      (pss_cons (ps_if (pt_cmpR op_eq (pv 4) pe_int (nomark _))
        (pss_one (ps_ret (pe_slice sl_str (pv 3) po_none (po_some (pv 5)))))
        pss_nil)
      (pss_cons (ps_if (pt_cmpR op_eq (pv 4) pe_int (nomark _))
        (pss_one (ps_ret (pe_op op_addB (pe_op op_addB (pe_slice sl_str (pv 3) po_none (po_some (pv 5))) (pe_item_str pe_str (pe_callTy call_int1 (by rfl) m_int (by decide +kernel) (pa_cons (pe_cmpR op_eq (pe_slice sl_str (pv 3) (po_some (pv 5)) (po_some (pe_op op_add (pv 5) pe_int))) pe_str (nomark _)) pa_nil)) (fun _ _ => rfl))) (pe_slice sl_str (pv 3) (po_some (pe_op op_add (pv 5) pe_int)) po_none))))
        pss_nil)
      (pss_cons (ps_if (pt_cmpR op_eq (pv 4) pe_int (nomark _))
        (pss_one (ps_ret (pe_op op_addB (pe_op op_addB (pe_slice sl_str (pv 3) po_none (po_some (pv 5))) (pe_cal L_plain (hr.mono (by omega)) (by rfl) (pa_cons (pe_cal L_next (hr.mono (by omega)) (by rfl) (pa_cons (pv 0) pa_nil)) (pa_cons (pe_op op_add pe_int (pe_op op_mod (pe_cal L_next (hr.mono (by omega)) (by rfl) (pa_cons (pv 0) pa_nil)) pe_int)) pa_nil)))) (pe_slice sl_str (pv 3) (po_some (pv 5)) po_none))))
        pss_nil)
      (pss_cons (ps_if (pt_cmpR op_eq (pv 4) pe_int (nomark _))
        (pss_one (ps_ret (pe_op op_addB (pv 3) (pe_op (op_times (c := 48)) pe_str (pe_op op_add pe_int (pe_op op_mod (pe_cal L_next (hr.mono (by omega)) (by rfl) (pa_cons (pv 0) pa_nil)) pe_int))))))
        pss_nil)
      (pss_cons (ps_if (PW.pt (pw_and (pt_cmpR op_eq (pv 4) pe_int (nomark _)) (pw_and1 (pt_cmpR op_eq (pv 1) pe_str (nomark _)))))
        (pss_one (ps_ret (pe_cal L_parted (hr.mono (by omega)) (by rfl) (pa_cons (pv 0) (pa_cons (pv 2) pa_nil)))))
        pss_nil)
      (pss_cons (ps_if (PW.pt (pw_and (pt_cmpR op_eq (pv 4) pe_int (nomark _)) (pw_and1 (pt_cmpR op_eq (pv 1) pe_str (nomark _)))))
        (pss_one (ps_ret (pe_cal L_wider (hr.mono (by omega)) (by rfl) (pa_cons (pv 0) (pa_cons (pv 2) pa_nil)))))
        pss_nil)
      (pss_cons (ps_if (pt_cmpR op_eq (pv 4) pe_int (nomark _))
        (pss_one (ps_ret (pe_bm PySem.F.plainAttrs_str PySem.F.slot_str_join PySem.F.type_str_join mt_joinB pe_str (pa_cons (pe_lc (own := [("_law_k", 6)]) (g := (gName 6)) (tt := tYes) rfl scBt.nd (pi_range1 (by rfl) m_range (pa_cons (pe_op op_mod (pe_cal L_next (hr.mono (by omega)) (by rfl) (pa_cons (pv 0) pa_nil)) pe_int) pa_nil)) (blkOk_by (own := [("_law_k", 6)]) (N := NBt) (sc := defScope sBt) (by decide +kernel)) (fun _ _ _ _ _ => (pg_name (i := 6) scBt.nd rfl (.inl rfl))) (fun _ _ _ _ _ => pts_nil) (fun _ _ _ _ _ => (pe_cal L_plain (hr.mono (by omega)) (by rfl) (pa_cons (pe_cal L_next (hr.mono (by omega)) (by rfl) (pa_cons (pv 0) pa_nil)) (pa_cons pe_int pa_nil))))) pa_nil))))
        pss_nil)
      (pss_one (ps_ret (pv 3)))))))))))), ?_⟩
    have lp := dr_ne dr hl
    have bs := bits_short (y := y) lo few
    have bb := bits_bin y xs
    obtain ⟨z, ez⟩ : ∃ z, bitsY y xs = z := ⟨_, rfl⟩
    refine ⟨_, rfl, _, rfl, l, xs, y, rfl, hl, lo, by omega, fun H1 s1 => ?_⟩
    rw [ez] at bs bb ⊢
    have d1 := Dr.same s1 dr
    refine ⟨_, rfl, p, N, rfl, d1, by omega, fun v H2 k2 d2 v0 v9 => ?_⟩
    refine ⟨v, 8, rfl, rfl, (by show (0 : Int) < 8; decide), ?_⟩
    have u0 := Int.emod_nonneg v (show (8 : Int) ≠ 0 by decide)
    have u1 := Int.emod_lt_of_pos v (show (0 : Int) < 8 by decide)
    obtain ⟨κ, eκ⟩ : ∃ κ, v % 8 = κ := ⟨_, rfl⟩
    rw [eκ] at u0 u1
    show gName 4 (V.int (v % 8)) _ _ _
    rw [eκ]
    refine ⟨_, rfl, p, N + 1, rfl, d2, by omega, fun v2 H3 k3 d3 v20 v29 => ?_⟩
    refine ⟨_, rfl, z, rfl, by omega, _, _, rfl, rfl, v2, _, rfl, rfl, (by show (0 : Int) < (z.length : Nat) + 1; omega), ?_⟩
    have a0 := Int.emod_nonneg v2 (show (((z.length : Nat) : Int) + 1) ≠ 0 by omega)
    have a1 := Int.emod_lt_of_pos v2 (show (0 : Int) < ((z.length : Nat) : Int) + 1 by omega)
    obtain ⟨a, ea⟩ : ∃ a : Nat, v2 % (((z.length : Nat) : Int) + 1) = (a : Nat) := ⟨(v2 % (((z.length : Nat) : Int) + 1)).toNat, by omega⟩
    rw [ea] at a0 a1
    have al : a ≤ z.length := by omega
    show gName 5 (V.int (v2 % (((z.length : Nat) : Int) + 1))) _ _ _
    rw [ea]
    have k13 : Kp p H H3 := ((Kp.of s1).trans k2).trans k3
    have hl3 := k13 _ _ lp hl
    have zsz : (S z).length ≤ sizeLine := by
      rw [SX.S_len]
      exact Nat.le_trans (show z.length ≤ 60000 by omega) (by decide)
    have kk : κ = 0 ∨ κ = 1 ∨ κ = 2 ∨ κ = 3 ∨ κ = 4 ∨ κ = 5 ∨ κ = 6 ∨ κ = 7 := by omega
    have ez0 : Str.ofString "0" = S [48] := by decide +kernel
    have ez01 : Str.ofString "01" = S [48, 49] := by decide +kernel
    rcases kk with rfl | rfl | rfl | rfl | rfl | rfl | rfl | rfl
    · refine ⟨_, rfl, rfl, true, rfl, if_t ?_⟩
      refine ⟨_, rfl, _, rfl, _, rfl, S z, rfl, zsz, ?_⟩
      rw [cut_to z al]
      exact q _ 2 H3 (take_bin bb a) (by rw [List.length_take]; omega) (by decide) k13 d3
    · refine ⟨_, rfl, rfl, false, rfl, if_f ⟨_, rfl, rfl, true, rfl, if_t ?_⟩⟩
      refine ⟨_, rfl, _, rfl, _, rfl, S z, rfl, zsz, ?_⟩
      refine ⟨_, rfl, _, rfl, _, rfl, _, rfl, _, _, rfl, rfl, _, rfl, S z, rfl, zsz, rfl, .inr ⟨_, rfl, ?_⟩⟩
      rw [cut_to z al]
      have fin : ∀ c, IsBin c → Q (V.str (S (z.take a ++ [c] ++ z.drop (a + 1)))) H3 := fun c hc => q _ 2 H3 (app_bin (app_bin (take_bin bb a) (one_bin hc)) (drop_bin bb _)) (by rw [List.length_append, List.length_append, List.length_take, List.length_drop]; show _ + 1 + _ ≤ _; omega) (by decide) k13 d3
      obtain ⟨g, eg⟩ : ∃ g, decide (V.str (cutS (S z) (some ((a : Nat) : Int)) (some (((a : Nat) : Int) + 1))) = V.str (Str.ofString "0")) = g := ⟨_, rfl⟩
      rw [eg]
      have e3 : cutS (S z) (some (((a : Nat) : Int) + 1)) none = S (z.drop (a + 1)) := cut_from z (a + 1)
      have l1 : (z.take a).length + 1 ≤ 60000 := by rw [List.length_take]; omega
      have l2 : ∀ c : Nat, (z.take a ++ [c]).length + (z.drop (a + 1)).length ≤ 60000 := fun c => by
        rw [List.length_append, List.length_take, List.length_drop]
        show _ + 1 + _ ≤ _
        omega
      cases g with
      | false =>
        refine ⟨S [48, 49], 0, 48, congrArg V.str ez01, rfl, by decide, by decide, by decide, rfl, z.take a, [48], rfl, rfl, l1, ?_⟩
        refine ⟨_, rfl, _, rfl, _, _, rfl, rfl, _, rfl, S z, rfl, zsz, ?_⟩
        rw [e3]
        exact ⟨_, _, rfl, rfl, l2 48, fin 48 (.inl rfl)⟩
      | true =>
        refine ⟨S [48, 49], 1, 49, congrArg V.str ez01, rfl, by decide, by decide, by decide, rfl, z.take a, [49], rfl, rfl, l1, ?_⟩
        refine ⟨_, rfl, _, rfl, _, _, rfl, rfl, _, rfl, S z, rfl, zsz, ?_⟩
        rw [e3]
        exact ⟨_, _, rfl, rfl, l2 49, fin 49 (.inr rfl)⟩
    · refine ⟨_, rfl, rfl, false, rfl, if_f ⟨_, rfl, rfl, false, rfl, if_f ⟨_, rfl, rfl, true, rfl, if_t ?_⟩⟩⟩
      refine ⟨_, rfl, _, rfl, _, rfl, S z, rfl, zsz, ?_⟩
      rw [cut_to z al]
      refine ⟨_, rfl, p, N + 2, rfl, d3, by omega, fun v4 H4 k4 d4 v40 v49 => ?_⟩
      refine ⟨_, rfl, p, N + 3, rfl, d4, by omega, fun v5 H5 k5 d5 v50 v59 => ?_⟩
      have w0 := Int.emod_nonneg v5 (show (4 : Int) ≠ 0 by decide)
      have w1 := Int.emod_lt_of_pos v5 (show (0 : Int) < 4 by decide)
      refine ⟨v5, 4, rfl, rfl, (by show (0 : Int) < 4; decide), 1, _, rfl, rfl, v4.toNat, (1 + v5 % 4).toNat, ?_, by omega, z.take a, _, rfl, rfl, ?_, ?_⟩
      · show [V.int v4, V.int (1 + v5 % 4)] = _
        rw [Int.toNat_of_nonneg v40, Int.toNat_of_nonneg (by omega)]
      · rw [bt_len, List.length_take]
        omega
      refine ⟨_, rfl, _, rfl, _, rfl, S z, rfl, zsz, ?_⟩
      rw [cut_from z a]
      refine ⟨_, _, rfl, rfl, ?_, q _ 4 H5 (app_bin (app_bin (take_bin bb a) (bt_bits _ _)) (drop_bin bb _)) ?_ (by decide) ((k13.trans k4).trans k5) d5⟩
      all_goals
        rw [List.length_append]
        try rw [List.length_append]
        rw [bt_len, List.length_take, List.length_drop]
        omega
    · refine ⟨_, rfl, rfl, false, rfl, if_f ⟨_, rfl, rfl, false, rfl, if_f ⟨_, rfl, rfl, false, rfl, if_f ⟨_, rfl, rfl, true, rfl, if_t ?_⟩⟩⟩⟩
      refine ⟨_, rfl, _, rfl, p, N + 2, rfl, d3, by omega, fun v4 H4 k4 d4 v40 v49 => ?_⟩
      have w0 := Int.emod_nonneg v4 (show (3 : Int) ≠ 0 by decide)
      have w1 := Int.emod_lt_of_pos v4 (show (0 : Int) < 3 by decide)
      refine ⟨v4, 3, rfl, rfl, (by show (0 : Int) < 3; decide), 1, _, rfl, rfl, (1 + v4 % 3).toNat, congrArg V.str ez0, ?_, by omega, z, _, rfl, rfl, ?_, q _ 3 H4 (app_bin bb (zeros_bin _)) ?_ (by decide) (k13.trans k4) d4⟩
      · show V.int (1 + v4 % 3) = _
        rw [Int.toNat_of_nonneg (by omega)]
      · rw [List.length_replicate]
        omega
      · rw [List.length_append, List.length_replicate]
        omega
    · refine ⟨_, rfl, rfl, false, rfl, if_f ⟨_, rfl, rfl, false, rfl, if_f ⟨_, rfl, rfl, false, rfl, if_f ⟨_, rfl, rfl, false, rfl, if_f ⟨_, rfl, rfl, true, rfl, if_t ?_⟩⟩⟩⟩⟩
      cases y with
      | plain => exact ⟨_, rfl, rfl, false, rfl, if_f ⟨_, rfl, rfl, true, rfl, if_t ⟨_, rfl, rfl, false, rfl, if_f ⟨_, rfl, rfl, false, rfl, if_f ⟨_, rfl, q z 2 H3 bb (by omega) (by decide) k13 d3⟩⟩⟩⟩⟩
      | book =>
        refine ⟨_, rfl, rfl, false, rfl, if_f ⟨_, rfl, rfl, true, rfl, if_t ⟨_, rfl, rfl, true, rfl, if_t ?_⟩⟩⟩
        refine ⟨_, rfl, _, rfl, p, l, xs, N + 2, rfl, d3, by omega, hl3, lo, few, fun zs m H4 zb zl ml k4 d4 => q zs (2 + m) H4 zb (by omega) (by omega) (k13.trans k4) (by rw [← Nat.add_assoc]; exact d4)⟩
      | «by» W =>
        cases W with
        | steps => exact ⟨_, rfl, rfl, false, rfl, if_f ⟨_, rfl, rfl, true, rfl, if_t ⟨_, rfl, rfl, false, rfl, if_f ⟨_, rfl, rfl, false, rfl, if_f ⟨_, rfl, q z 2 H3 bb (by omega) (by decide) k13 d3⟩⟩⟩⟩⟩
        | turns => exact ⟨_, rfl, rfl, false, rfl, if_f ⟨_, rfl, rfl, true, rfl, if_t ⟨_, rfl, rfl, false, rfl, if_f ⟨_, rfl, rfl, false, rfl, if_f ⟨_, rfl, q z 2 H3 bb (by omega) (by decide) k13 d3⟩⟩⟩⟩⟩
        | runs =>
          refine ⟨_, rfl, rfl, true, rfl, if_t ?_⟩
          refine ⟨_, rfl, _, rfl, p, l, xs, N + 2, rfl, d3, by omega, hl3, lo, few, fun zs m H4 zb zl ml k4 d4 => q zs (2 + m) H4 zb (by omega) (by omega) (k13.trans k4) (by rw [← Nat.add_assoc]; exact d4)⟩
    · refine ⟨_, rfl, rfl, false, rfl, if_f ⟨_, rfl, rfl, false, rfl, if_f ⟨_, rfl, rfl, false, rfl, if_f ⟨_, rfl, rfl, false, rfl, if_f ⟨_, rfl, rfl, false, rfl, if_f (if_f ⟨_, rfl, rfl, false, rfl, if_f (if_f ⟨_, rfl, rfl, true, rfl, if_t ?_⟩)⟩)⟩⟩⟩⟩⟩
      refine ⟨rfl, _, rfl, p, N + 2, rfl, d3, by omega, fun v4 H4 k4 d4 v40 v49 => ?_⟩
      have w0 := Int.emod_nonneg v4 (show (6 : Int) ≠ 0 by decide)
      have w1 := Int.emod_lt_of_pos v4 (show (0 : Int) < 6 by decide)
      obtain ⟨n, en⟩ : ∃ n : Nat, v4 % 6 = (n : Nat) := ⟨(v4 % 6).toNat, by omega⟩
      refine ⟨v4, 6, rfl, rfl, (by show (0 : Int) < 6; decide), n, congrArg (fun i : Int => [V.int i]) en, by omega, by omega, fun D nD => lc_range (fun i Hc => ∃ ys : List (List Nat), ys.length = i ∧ (∀ y, y ∈ ys → Bits y ∧ y.length = 9) ∧ Hc D = some (.lst (ys.map fun y => V.str (S y))) ∧ Kp p H4 Hc ∧ Dr Hc p (N + 3 + i)) ?_ ?_ ?_⟩
      · exact ⟨[], rfl, (fun y h => by cases h), upd_same, Kp.of (same_new nD), Dr.same (same_new nD) d4⟩
      · rintro i Hc hi ⟨ys, yl, yb, hD, kc, dc⟩
        refine ⟨rfl, yes_b (if_t ?_)⟩
        refine ⟨_, rfl, p, N + 3 + i, rfl, dc, by omega, fun v5 H5 k5 d5 v50 v59 => ?_⟩
        have Dp : D ≠ p := fun e => by
          obtain ⟨_, _, _, hp, _⟩ := d4
          rw [e, hp] at nD
          cases nD
        refine ⟨v5.toNat, 9, ?_, by omega, _, k5 _ _ Dp hD, ?_, ys ++ [bt 9 v5.toNat], ?_, ?_, ?_, ?_, ?_⟩
        · show [V.int v5, V.int 9] = _
          rw [Int.toNat_of_nonneg v50]
          rfl
        · rw [List.length_map, yl]
          exact small1000 (by omega)
        · rw [List.length_append, yl]
          rfl
        · intro y hy
          rcases List.mem_append.mp hy with h | h
          · exact yb y h
          · rw [List.mem_singleton.mp h]
            exact ⟨bt_bits _ _, bt_len _ _⟩
        · rw [upd_same, List.map_append]
          rfl
        · intro b o hb e
          have bD : b ≠ D := fun e2 => by
            subst e2
            rw [nD] at e
            cases e
          rw [upd_ne bD]
          exact k5 _ _ hb (kc _ _ hb e)
        · obtain ⟨_, _, _, hp, r⟩ := d5
          exact ⟨_, _, _, by rw [upd_ne (fun e => Dp e.symm)]; exact hp, r⟩
      · rintro Hc ⟨ys, yl, yb, hD, kc, dc⟩
        have fl : ys.flatten.length = ys.length * 9 := flat_same fun y hy => (yb y hy).2
        refine ⟨D, ys, (by rw [← s_nil]), rfl, SqL.of hD, by omega, q _ (3 + n) Hc (flat_bin fun y hy => (yb y hy).1) (by omega) (by omega) ((k13.trans k4).trans kc) (by rw [← Nat.add_assoc]; exact dc)⟩
    · refine ⟨_, rfl, rfl, false, rfl, if_f ⟨_, rfl, rfl, false, rfl, if_f ⟨_, rfl, rfl, false, rfl, if_f ⟨_, rfl, rfl, false, rfl, if_f ⟨_, rfl, rfl, false, rfl, if_f (if_f ⟨_, rfl, rfl, false, rfl, if_f (if_f ⟨_, rfl, rfl, false, rfl, if_f ⟨_, rfl, ?_⟩⟩)⟩)⟩⟩⟩⟩⟩
      exact q z 2 H3 bb (by omega) (by decide) k13 d3
    · refine ⟨_, rfl, rfl, false, rfl, if_f ⟨_, rfl, rfl, false, rfl, if_f ⟨_, rfl, rfl, false, rfl, if_f ⟨_, rfl, rfl, false, rfl, if_f ⟨_, rfl, rfl, false, rfl, if_f (if_f ⟨_, rfl, rfl, false, rfl, if_f (if_f ⟨_, rfl, rfl, false, rfl, if_f ⟨_, rfl, ?_⟩⟩)⟩)⟩⟩⟩⟩⟩
      exact q z 2 H3 bb (by omega) (by decide) k13 d3
end
end Tg

namespace Tg
open PySem PySem.Spec PyProof.Rows L2
open SX (S)
def ways : List Wy := [.plain, .by .steps, .by .turns, .by .runs, .book]
def wayV : List V := ways.map fun y => V.str y.nm
abbrev sLaw : Stmt := topS 52
abbrev NLaw : List Str := ["_law_script", "_law_cell", "_law_draws_here", "_law_numbers_here", "_law_a_way", "_law_a_bits", "_law_count", "_law_some", "_law_told"]
theorem scLaw : FnScope NLaw ["_law_script"] (defScope sLaw) := ⟨rfl, rfl, rfl, by decide +kernel, rfl, by decide +kernel, by decide +kernel⟩
theorem cut_some (ns : List Int) (lo hi : Option Int) : ∃ ms : List Int, cutV (ns.map V.int) lo hi = ms.map V.int ∧ ms.length ≤ ns.length ∧ ∀ x, x ∈ ms → x ∈ ns := by
  unfold cutV
  refine ⟨(ns.drop (HT.sIx (ns.map V.int).length 0 lo)).take (HT.sIx (ns.map V.int).length (ns.map V.int).length hi - HT.sIx (ns.map V.int).length 0 lo), ?_, ?_, fun x hx => List.mem_of_mem_drop (List.mem_of_mem_take hx)⟩
  · rw [List.map_take, List.map_drop]
  · simp only [List.length_take, List.length_drop]
    omega
theorem Dr.le {H : Hp} {p : Addr} {n m : Nat} (d : Dr H p n) (h : n ≤ m) : Dr H p m := by
  obtain ⟨a, k, b, e, k0, kn⟩ := d
  exact ⟨a, k, b, e, k0, by omega⟩
theorem told_sh (xs : List Int) : SeqAt.shaped (.tuple [.str "told", .list (xs.map PyData.int)]) = true := by
  refine shaped_of ?_ ?_
  · have h : PyData.canLay0 (.list (xs.map PyData.int)) = true := lay_ints xs
    show (PyData.strOk "told" && (PyData.canLay0 (.list (xs.map PyData.int)) && true)) = true
    rw [h]
    decide +kernel
  · show max 0 (max (PyData.depthAll (xs.map PyData.int) + 1) 0) + 1 ≤ 64
    rw [depth_ints]
    decide
theorem none_sh (p : Nat) : SeqAt.shaped (.tuple [.str "none", .int (p : Nat)]) = true := by
  refine shaped_of ?_ (by show 1 ≤ 64; decide)
  show (PyData.strOk "none" && (true && true)) = true
  decide +kernel
section
variable {P : Program} {w : World} {K : PySem.W.Frag} {mg : Str → Option Value} {base : Heap} {f : Addr} {fd : FuncData} {k : Nat} {WT : Addr}
def spLaw (K : PySem.W.Frag) : Sp := fun vs H Q _ => ∃ (a : Addr) (ns : List Int), vs = [.ref a] ∧ SqL K H a (ns.map V.int) ∧ ns.length ≤ 63 ∧ ∀ H', Q (.bl true) H'
theorem ok_law (F : Fun K "law" "law" sLaw f fd) (L_draws : Cal P w K mg base k "_law_draws" ["_law_cell"] spDraws) (L_next : Cal P w K mg base k "_law_next" ["_law_draws_here"] spNext) (L_many : Cal P w K mg base k "_law_many" ["_law_draws_here"] spMa) (L_numbers : Cal P w K mg base k "_law_numbers" ["_law_draws_here", "_law_a_many"] spNs)
    (L_bits : Cal P w K mg base k "_law_bits" ["_law_draws_here", "_law_a_way", "_law_numbers_here"] spBt) (L_asked : Cal P w K mg base k "_law_asked" ["_law_a_way", "_law_a_bits", "_law_count", "_law_by_name"] spAs) (L_due : Cal P w K mg base k "_law_due" ["_law_a_way", "_law_a_bits", "_law_count"] spDu) (g_WAYS : mg "WAYS" = some (.ref WT)) (hW : ∀ H, SqT K H WT wayV) (m_max : mg "max" = none) (m_len : mg "len" = none) : FnOk P w K mg base CX0 (k + 1) f fd ["_law_script"] (spLaw K) := by
  refine F.ok scLaw (fun vs H Q E h => ?_) (fun cdv A outer s H vs Q E hr h => ?_)
  · obtain ⟨a, ns, rfl, _⟩ := h
    rfl
  · obtain ⟨a, ns, rfl, hS, hlen, q⟩ := h
    have hu := hr.units
    refine ⟨_, pss_cons (ps_for PassesOwn.never rfl (pi_list (pe_op op_cat (pe_slice sl_list (pv 0) po_none (po_some pe_int)) (pe_lst (pa_cons pe_int pa_nil)))) (pg_name (i := 1) scLaw.nd rfl (.inl rfl))
        (pss_cons (ps_set (i := 2) scLaw.nd rfl (.inl rfl) (pe_cal L_draws (hr.mono (by omega)) (by rfl) (pa_cons (pv 1) pa_nil)))
        (pss_cons (ps_set (i := 3) scLaw.nd rfl (.inl rfl) (pe_cal L_numbers (hr.mono (by omega)) (by rfl) (pa_cons (pv 2) (pa_cons (pe_op op_mod (pe_cal L_many (hr.mono (by omega)) (by rfl) (pa_cons (pv 2) pa_nil)) pe_int) pa_nil))))
        (pss_one (ps_for PassesOwn.never rfl (pi_tup (pe_glob (v := .ref WT) rfl g_WAYS rfl)) (pg_name (i := 4) scLaw.nd rfl (.inl rfl))
          (pss_cons (ps_set (i := 5) scLaw.nd rfl (.inl rfl) (pe_cal L_bits (hr.mono (by omega)) (by rfl) (pa_cons (pv 2) (pa_cons (pv 4) (pa_cons (pv 3) pa_nil)))))
          (pss_cons (ps_set (i := 6) scLaw.nd rfl (.inl rfl) (pe_op op_add (pe_callB call_len_seq (by rfl) m_len (by decide +kernel) (pa_cons (pv 3) pa_nil)) (pe_ix ix_list (pe_lst (pa_cons pe_int (pa_cons pe_int (pa_cons pe_int (pa_cons pe_int (pa_cons pe_int (pa_cons (pe_un un_neg pe_int) (pa_cons pe_int (pa_cons pe_int pa_nil))))))))) (pe_op op_mod (pe_cal L_next (hr.mono (by omega)) (by rfl) (pa_cons (pv 2) pa_nil)) pe_int) (fun _ _ => rfl))))
          (pss_one (ps_for PassesOwn.never rfl (pi_list (pe_lst (pa_cons (pe_callB (call_max2 rfl) (by rfl) m_max (by decide +kernel) (pa_cons pe_int (pa_cons (pv 6) pa_nil))) (pa_cons (pe_op op_mod (pe_cal L_next (hr.mono (by omega)) (by rfl) (pa_cons (pv 2) pa_nil)) pe_int) pa_nil)))) (pg_name (i := 7) scLaw.nd rfl (.inl rfl))
            (pss_cons (ps_set (i := 8) scLaw.nd rfl (.inl rfl) (pe_cal L_asked (hr.mono (by omega)) (by rfl) (pa_cons (pv 4) (pa_cons (pv 5) (pa_cons (pv 7) (pa_cons (pe_cmpR op_eq (pe_op op_mod (pe_cal L_next (hr.mono (by omega)) (by rfl) (pa_cons (pv 2) pa_nil)) pe_int) pe_int (nomark _)) pa_nil))))))
            (pss_one (ps_if (pt_cmpR (op_neD hu) (pv 8) (pe_cal L_due (hr.mono (by omega)) (by rfl) (pa_cons (pv 4) (pa_cons (pv 5) (pa_cons (pv 7) pa_nil)))) (nomark _))
              (pss_one (ps_ret pe_bl))
              pss_nil))))))))))))
      (pss_one (ps_ret pe_bl)), ?_⟩
    obtain ⟨ms, em, lm, _⟩ := cut_some ns none (some 8)
    refine ⟨_, rfl, 8, rfl, a, _, rfl, hS, fun l1 n1 => ?_⟩
    rw [em]
    refine ⟨(by show 1 ≤ sizeLine; decide), fun l2 n2 => ?_⟩
    have s2 := same_new (o := .lst [.int 0]) n2
    refine ⟨l1, l2, _, _, rfl, rfl, s2 _ _ upd_same, upd_same, Nat.le_of_lt (small1000 (by rw [List.length_map]; show ms.length + 1 ≤ 1000; omega)), fun l3 n3 => ?_⟩
    have e3 : (ms.map V.int ++ [V.int 0]) = (ms ++ [0]).map V.int := by
      rw [List.map_append]
      rfl
    rw [e3]
    obtain ⟨H3, eH3⟩ : ∃ H3, upd (upd (upd H l1 (.lst (ms.map V.int))) l2 (.lst [.int 0])) l3 (.lst ((ms ++ [0]).map V.int)) = H3 := ⟨_, rfl⟩
    have m3 : H3 l3 = some (.lst ((ms ++ [0]).map V.int)) := by
      rw [← eH3]
      exact upd_same
    rw [eH3]
    refine ⟨l3, rfl, ⟨_, SqL.of m3⟩, for_list (K := K) (a := l3) (xs := (ms ++ [0]).map V.int) (fun i σ Hc => ∃ z1 z2 z3 z4 z5 z6 z7 z8 : Option V, σ = [some (.ref a), z1, z2, z3, z4, z5, z6, z7, z8] ∧ Same H3 Hc) ⟨none, none, none, none, none, none, none, none, rfl, Same.refl _⟩ ?_ ?_ ?_⟩
    · rintro i σ Hc _ ⟨_, _, _, _, _, _, _, _, _, h⟩
      exact SqL.of (h _ _ m3)
    · rintro i xv σ Hc hx ⟨z1, z2, z3, z4, z5, z6, z7, z8, rfl, sc⟩
      obtain ⟨c, rfl⟩ : ∃ c : Int, xv = .int c := by
        rw [List.getElem?_map] at hx
        obtain ⟨c, _, e⟩ := Option.map_eq_some_iff.mp hx
        exact ⟨c, e.symm⟩
      refine ⟨_, rfl, c, rfl, fun p da db np => ?_⟩
      have sp := same_new (o := .lst [.int da, .int 0, .bl db]) np
      have d0 : Dr (upd Hc p (.lst [.int da, .int 0, .bl db])) p 0 := ⟨da, 0, db, upd_same, by decide, by decide⟩
      refine ⟨_, rfl, _, rfl, p, 0, rfl, d0, by decide, fun n H5 k5 d5 n66 => ?_⟩
      refine ⟨_, _, rfl, rfl, (by show (0 : Int) < 40; decide), p, 1, n % 40, rfl, d5, by decide, by omega, fun l xs H6 k6 d6 nl hl lx lo => ?_⟩
      have kp6 := k5.trans k6
      have sc6 : Same Hc H6 := Kp.same sp np kp6
      have lp : l ≠ p := d5.ne nl
      have lo70 := lo.mono (show 69 ≤ 70 by decide)
      have few : xs.length ≤ 39 := by omega
      refine ⟨WT, rfl, ⟨_, hW _⟩, for_tup (K := K) (a := WT) (xs := wayV) (fun i σ Hd => ∃ z4 z5 z6 z7 z8 : Option V, σ = [some (.ref a), some (.int c), some (.ref p), some (.ref l), z4, z5, z6, z7, z8] ∧ Kp p H6 Hd ∧ Dr Hd p (1000 + 100 * i)) ⟨_, _, _, _, _, rfl, Kp.refl _ _, d6.le (by omega)⟩ (fun _ _ Hd _ _ => hW Hd) ?_ ?_⟩
      · rintro j v σ Hd hv ⟨z4, z5, z6, z7, z8, rfl, kd, dd⟩
        have j5 : j < 5 := (List.getElem?_eq_some_iff.mp hv).1
        unfold wayV at hv
        rw [List.getElem?_map] at hv
        obtain ⟨y, _, rfl⟩ := Option.map_eq_some_iff.mp hv
        have hld := kd _ _ lp hl
        refine ⟨_, rfl, _, rfl, _, rfl, p, l, xs, _, y, rfl, dd, by omega, hld, lo70, few, fun zs m H7 zb zl ml k7 d7 => ?_⟩
        have k67 := kd.trans k7
        have hl7 := k67 _ _ lp hl
        refine ⟨_, rfl, l, _, rfl, .inl (SqL.of hl7), 1, rfl, by show 8 ≤ sizeLine; decide, fun u nu => ?_⟩
        have su := same_new (o := .lst [.int 0, .int 0, .int 0, .int 0, .int 1, .int (-1), .int 3, .int 0]) nu
        have up : u ≠ p := d7.ne nu
        refine ⟨_, rfl, p, _, rfl, d7.same su, by omega, fun v H8 k8 d8 v0 v9 => ?_⟩
        obtain ⟨e, ee, me⟩ := atI_mem (xs := [0, 0, 0, 0, 1, -1, 3, 0]) (i := v % 8) (by omega) (by show v % 8 < ((8 : Nat) : Int); omega)
        have eb : -1 ≤ e ∧ e ≤ 3 := by
          simp only [List.mem_cons, List.not_mem_nil, or_false] at ee
          omega
        refine ⟨_, _, rfl, rfl, (by show (0 : Int) < 8; decide), u, _, _, _, rfl, rfl, SqL.of (k8 _ _ up upd_same), me, _, _, rfl, rfl, ?_⟩
        have k68 := (k67.trans (Kp.of su)).trans k8
        refine ⟨_, rfl, _, _, rfl, ?_⟩
        refine ⟨_, rfl, p, _, rfl, d8, by omega, fun v2 H9 k9 d9 v20 v29 => ?_⟩
        have w0 := Int.emod_nonneg v2 (show (5 : Int) ≠ 0 by decide)
        have w1 := Int.emod_lt_of_pos v2 (show (0 : Int) < 5 by decide)
        refine ⟨v2, 5, rfl, rfl, (by show (0 : Int) < 5; decide), by show 2 ≤ sizeLine; decide, fun o no => ?_⟩
        have lx2 : (xs.map V.int).length = xs.length := List.length_map ..
        obtain ⟨a1, ea1⟩ : ∃ a1 : Nat, (if (((xs.map V.int).length : Nat) : Int) + e > 0 then (((xs.map V.int).length : Nat) : Int) + e else 0) = (a1 : Nat) := ⟨(if (((xs.map V.int).length : Nat) : Int) + e > 0 then (((xs.map V.int).length : Nat) : Int) + e else 0).toNat, by split <;> omega⟩
        obtain ⟨a2, ea2⟩ : ∃ a2 : Nat, v2 % 5 = (a2 : Nat) := ⟨(v2 % 5).toNat, by omega⟩
        have b1 : a1 ≤ 300 := by
          split at ea1 <;> omega
        have b2 : a2 ≤ 300 := by omega
        have so := same_new (o := .lst [V.int (a1 : Nat), .int (a2 : Nat)]) no
        have op : o ≠ p := d9.ne no
        have ho := upd_same (H := H9) (a := o) (o := .lst [V.int (a1 : Nat), .int (a2 : Nat)])
        have d10 := d9.same so
        have k610 := (k68.trans k9).trans (Kp.of so)
        obtain ⟨H10, e10⟩ : ∃ H10, upd H9 o (.lst [V.int (a1 : Nat), .int (a2 : Nat)]) = H10 := ⟨_, rfl⟩
        have e10' : upd H9 o (.lst [V.int (if (((xs.map V.int).length : Nat) : Int) + e > 0 then (((xs.map V.int).length : Nat) : Int) + e else 0), V.int (v2 % 5)]) = H10 := by
          rw [ea1, ea2]
          exact e10
        rw [e10] at ho d10 k610
        have hO : SqL K (upd H9 o (.lst [V.int (if (((xs.map V.int).length : Nat) : Int) + e > 0 then (((xs.map V.int).length : Nat) : Int) + e else 0), V.int (v2 % 5)])) o [V.int (a1 : Nat), .int (a2 : Nat)] := by
          rw [e10']
          exact SqL.of ho
        have kO : Kp p H10 (upd H9 o (.lst [V.int (if (((xs.map V.int).length : Nat) : Int) + e > 0 then (((xs.map V.int).length : Nat) : Int) + e else 0), V.int (v2 % 5)])) := by
          rw [e10']
          exact Kp.refl _ _
        have dO : Dr (upd H9 o (.lst [V.int (if (((xs.map V.int).length : Nat) : Int) + e > 0 then (((xs.map V.int).length : Nat) : Int) + e else 0), V.int (v2 % 5)])) p (1000 + 100 * j + m + 2 + 0) := by
          rw [e10']
          exact d10.le (by omega)
        refine ⟨o, rfl, ⟨_, hO⟩, for_list (xs := [V.int (a1 : Nat), .int (a2 : Nat)]) (fun i σ Hi => ∃ (cv : V) (z7 z8 : Option V), σ = [some (.ref a), some (.int c), some (.ref p), some (.ref l), some (.str y.nm), some (.str (S zs)), some cv, z7, z8] ∧ Kp p H10 Hi ∧ Dr Hi p (1000 + 100 * j + m + 2 + i)) ⟨_, _, _, rfl, kO, dO⟩ ?_ ?_ ?_⟩
        · rintro i σ Hi _ ⟨cv, z7, z8, rfl, ki, di⟩
          exact SqL.of (ki _ _ op ho)
        · rintro i xv σ Hi hxv ⟨cv, z7, z8, rfl, ki, di⟩
          obtain ⟨n, rfl, n300⟩ : ∃ n : Nat, xv = .int (n : Nat) ∧ n ≤ 300 := by
            rcases i with _ | _ | i
            · exact ⟨a1, (Option.some.inj hxv).symm, b1⟩
            · exact ⟨a2, (Option.some.inj hxv).symm, b2⟩
            · cases hxv
          have i2 : i < 2 := (List.getElem?_eq_some_iff.mp hxv).1
          refine ⟨_, rfl, _, rfl, _, rfl, _, rfl, p, _, rfl, di, by omega, fun v3 Hj kj dj v30 v39 => ?_⟩
          refine ⟨v3, 2, rfl, rfl, (by show (0 : Int) < 2; decide), rfl, y, zs, n, _, rfl, zb, zl, n300, ⟨fun q1 bq t1 G1 s1 ht1 => ?_, fun nb t1 m1 G1 s1 ht1 hm1 => ?_⟩⟩
          · refine ⟨_, rfl, _, rfl, _, rfl, _, rfl, y, zs, n, rfl, zb, zl, n300, ⟨fun q2 bq2 t2 G2 s2 ht2 => ?_, fun nb2 => by rw [bq] at nb2; cases nb2⟩⟩
            obtain rfl : q1 = q2 := by
              rw [bq] at bq2
              exact Option.some.inj bq2
            refine ⟨_, _, .tup (SqT.of (s2 _ _ ht1)) (.cons (.str _) (.cons (.int _) .nil)), .tup (SqT.of ht2) (.cons (.str _) (.cons (.int _) .nil)), none_sh q1, none_sh q1, false, congrArg V.bl (by rw [SeqAt.eqv_refl _ (SeqAt.canLay_of_shaped (none_sh q1))]; rfl), if_f ?_⟩
            exact ⟨_, _, _, rfl, (ki.trans kj).trans (Kp.of (s1.trans s2)), (dj.same (s1.trans s2)).le (by omega)⟩
          · refine ⟨_, rfl, _, rfl, _, rfl, _, rfl, y, zs, n, rfl, zb, zl, n300, ⟨fun q2 bq2 => (by rw [nb] at bq2; cases bq2), fun nb2 t2 m2 G2 s2 ht2 hm2 => ?_⟩⟩
            refine ⟨_, _, .tup (SqT.of (s2 _ _ ht1)) (.cons (.str _) (.cons (dp_lst (SqL.of (s2 _ _ hm1))) .nil)), .tup (SqT.of ht2) (.cons (.str _) (.cons (dp_lst (SqL.of hm2)) .nil)), told_sh _, told_sh _, false, congrArg V.bl (by rw [SeqAt.eqv_refl _ (SeqAt.canLay_of_shaped (told_sh (resV y zs n)))]; rfl), if_f ?_⟩
            exact ⟨_, _, _, rfl, (ki.trans kj).trans (Kp.of (s1.trans s2)), (dj.same (s1.trans s2)).le (by omega)⟩
        · rintro σ Hi ⟨cv, z7, z8, rfl, ki, di⟩
          refine ⟨_, _, _, _, _, rfl, k610.trans ki, di.le ?_⟩
          show 1000 + 100 * j + m + 2 + 2 ≤ _
          omega
      · rintro σ Hd ⟨z4, z5, z6, z7, z8, rfl, kd, dd⟩
        exact ⟨_, _, _, _, _, _, _, _, rfl, sc.trans (Kp.same sp np (kp6.trans kd))⟩
    · rintro σ Hc ⟨_, _, _, _, _, _, _, _, rfl, _⟩
      exact q Hc
end
end Tg

namespace Tg
open PySem PySem.Spec PyProof.Rows L2
abbrev sErB : Stmt := inCls (topS 3) 0
theorem scErB : FnScope ["self", "at"] ["self", "at"] (defScope sErB) := ⟨rfl, rfl, rfl, by decide +kernel, rfl, by decide +kernel, by decide +kernel⟩
section
variable {P : Program} {w : World} {K : PySem.W.Frag} {mg : Str → Option Value} {base : Heap}
theorem ok_errB {f C : Addr} {fd : FuncData} {k : Nat} (F : Fun K "__init__" "NoBits.__init__" sErB f fd) (T : OexC K C) (hno : PySem.W.findIn K (.ref C) "at" = some none) (mV : mg "ValueError" = none)
    (vV : PySem.W.findCls K (.type "ValueError") (.type "type") "__init__" = some (.val (.builtin "ValueError.__init__"))) : FnOk P w K mg base CX0 (k + 1) f fd ["self", "at"] (spErr C "at") := by
  refine F.ok scErB (fun vs H Q E h => ?_) (fun cdv A outer s H vs Q E hr h => ?_)
  · obtain ⟨a, v, rfl, _⟩ := h
    rfl
  · obtain ⟨a, v, rfl, ha, q⟩ := h
    refine ⟨_, pss_cons (ps_expr (pe_veinit (by rfl) mV vV (pa_cons (pv 0) (pa_cons pe_str pa_nil)))) (pss_one (ps_ost (pv 0) (pv 1))), ?_⟩
    exact ⟨_, rfl, a, C, _, rfl, by show 1 ≤ 1000; decide, T, ha, _, rfl, _, rfl, a, C, rfl, T, hno, .inl ⟨ha, fun dx nd da => q dx nd da⟩⟩
end
section
variable {K : PySem.W.Frag} {f : Addr} {fd : FuncData}
theorem kk_rco (F : Fun K "read_column" "read_column" sRCo f fd) : KBn K fd ["way", "bits", "many"] 0 ["bits", "many", "way"] (fun _ ws => prm [2, 0, 1] ws) (fun _ zs => prm [2, 0, 1] zs) := by
  obtain ⟨_, _, kV, doc, pm, an, cdv, ct, _, rfl, _, _⟩ := F.ex
  exact ⟨fun s us ws _ h0 h2 => match us, ws, h0, h2 with | [], [_, _, _], _, _ => .of_eq rfl, fun _ r => prm_rel r _⟩
end
/-! ### what the top has written; the law's own head -/
set_option maxHeartbeats 0 in
theorem all_mk {l : PySem.W.OpenLaw} {w : World} {K : PySem.W.Frag} {h : Heap} {mg : Str → Option Value} {fa CB C1 CK CL CO CT f1 f2 f3 f4 f5 f6 f7 f8 f9 f10 f11 f12 f13 f14 f15 f16 f17 f18 f19 f20 f21 f22 f23 f24 f25 f26 f27 f28 f29 f30 f31 f32 f33 f34 f35 f36 f37 f38 f39 f40 f41 f42 : Addr} {nmCB qCB : Str} {NCB : Addr} {bsCB : List Value} {snCB : List Str} {subCB : List Value} {abCB : Bool} {colCB : Option Bool} {ddCB : Option Addr} {v0CB v1CB v2CB v3CB v5CB : Option Value} {tk32 : Tok} {RD BG WT : Addr} {esR : Array DictEntry} {nR nT nB : Nat} {cT cB : Value} {dT dB : Option Addr} {itT itB : Array Value} {sT sB : Array (Option Value)} (X : K.In h) (G : h.Ns mainGlobals mg) (hfa : mg "law" = some (.ref fa))
    {od1 an1 od2 an2 od3 an3 od4 an4 od5 an5 od6 an6 od7 an7 od8 an8 od9 an9 od10 an10 od11 an11 od12 an12 od13 an13 od14 an14 od15 an15 od16 an16 od17 an17 od18 an18 od19 an19 od20 an20 od21 an21 od22 an22 od23 an23 od24 an24 od25 an25 od26 an26 od27 an27 od28 an28 od29 an29 od30 an30 od31 an31 od32 an32 od33 an33 od34 an34 od35 an35 od36 an36 od37 an37 od38 an38 od39 an39 od40 an40 od41 an41 od42 an42 : Option Addr} {sl1 sl2 sl3 sl4 sl5 sl6 sl7 sl8 sl9 sl10 sl11 sl12 sl13 sl14 sl15 sl16 sl17 sl18 sl19 sl20 sl21 sl22 sl23 sl24 sl25 sl26 sl27 sl28 sl29 sl30 sl31 sl32 sl33 sl34 sl35 sl36 sl37 sl38 sl39 sl40 sl41 sl42 : Array (Option Value)} {oc1 kV1 dc1 pm1 cd1 ct1 oc2 kV2 dc2 pm2 cd2 ct2 oc3 kV3 dc3 pm3 cd3 ct3 oc4 kV4 dc4 pm4 cd4 ct4 oc5 kV5 dc5 pm5 cd5 ct5 oc6 kV6 dc6 pm6 cd6 ct6 oc7 kV7 dc7 pm7 cd7 ct7 oc8 kV8 dc8 pm8 cd8 ct8 oc9 kV9 dc9 pm9 cd9 ct9 oc10 kV10 dc10 pm10 cd10 ct10 oc11 kV11 dc11 pm11 cd11 ct11 oc12 kV12 dc12 pm12 cd12 ct12 oc13 kV13 dc13 pm13 cd13 ct13 oc14 kV14 dc14 pm14 cd14 ct14 oc15 kV15 dc15 pm15 cd15 ct15 oc16 kV16 dc16 pm16 cd16 ct16 oc17 kV17 dc17 pm17 cd17 ct17 oc18 kV18 dc18 pm18 cd18 ct18 oc19 kV19 dc19 pm19 cd19 ct19 oc20 kV20 dc20 pm20 cd20 ct20 oc21 kV21 dc21 pm21 cd21 ct21 oc22 kV22 dc22 pm22 cd22 ct22 oc23 kV23 dc23 pm23 cd23 ct23 oc24 kV24 dc24 pm24 cd24 ct24 oc25 kV25 dc25 pm25 cd25 ct25 oc26 kV26 dc26 pm26 cd26 ct26 oc27 kV27 dc27 pm27 cd27 ct27 oc28 kV28 dc28 pm28 cd28 ct28 oc29 kV29 dc29 pm29 cd29 ct29 oc30 kV30 dc30 pm30 cd30 ct30 oc31 kV31 dc31 pm31 cd31 ct31 oc32 kV32 dc32 pm32 cd32 ct32 oc33 kV33 dc33 pm33 cd33 ct33 oc34 kV34 dc34 pm34 cd34 ct34 oc35 kV35 dc35 pm35 cd35 ct35 oc36 kV36 dc36 pm36 cd36 ct36 oc37 kV37 dc37 pm37 cd37 ct37 oc38 kV38 dc38 pm38 cd38 ct38 oc39 kV39 dc39 pm39 cd39 ct39 oc40 kV40 dc40 pm40 cd40 ct40 oc41 kV41 dc41 pm41 cd41 ct41 oc42 kV42 dc42 pm42 cd42 ct42 : Value}
    (aCB : PySem.W.nsIn K mainGlobals "NoBits" = some (some (.ref CB)))
    (xCB : K.lookup CB = some (excClassObj nmCB qCB CB NCB bsCB [.type "ValueError", .type "Exception", .type "BaseException", .type "object"] true snCB subCB abCB colCB ddCB v0CB v1CB v2CB v3CB v5CB "ValueError.__new__"))
    (saCB : PySem.W.findIn K (.ref CB) "__setattr__" = some (some (.builtin "object.__setattr__")))
    (gaCB : PySem.W.findIn K (.ref CB) "__getattribute__" = some (some (.builtin "BaseException.__getattribute__")))
    (ggCB : PySem.W.findIn K (.ref CB) "__getattr__" = some none)
    (noCB : PySem.W.findIn K (.ref CB) "at" = some none)
    (kcCB : PySem.W.keepIn K (.ref CB) = true)
    (ecCB : PySem.W.subIn K (.ref CB) (.type "BaseException") = some true)
    (tcCB : PySem.W.typeIn K (.ref CB) = some (.type "type"))
    (hcCB : PySem.W.hasDictIn K CB = true)
    (ccCB : PySem.W.findIn K (.ref CB) "__class__" = some (some (.builtin "object.__class__")))
    (moCB : PySem.W.mroIn K CB (.type "object") = some true)
    (xmCB : PySem.W.exmOne K (.ref CB) (.ref CB) = some true)
    (hnC : PySem.W.specialIn K (.builtin "object.__class__") "__get__" = some (some (.builtin "getset_descriptor.__get__")))
    (htC : PySem.W.takesIn K (.builtin "object.__class__") = some true)
    (vV : PySem.W.findCls K (.type "ValueError") (.type "type") "__init__" = some (.val (.builtin "ValueError.__init__")))
    (aCK : PySem.W.nsIn K mainGlobals "NoBlock" = some (some (.ref CK)))
    (aCL : PySem.W.nsIn K mainGlobals "NoLog" = some (some (.ref CL)))
    (aCO : PySem.W.nsIn K mainGlobals "NoOrder" = some (some (.ref CO)))
    (aCT : PySem.W.nsIn K mainGlobals "NoText" = some (some (.ref CT)))
    (aC1 : PySem.W.nsIn K mainGlobals "Column" = some (some (.ref C1)))
    (pgC1 : PySem.W.plainGet K C1 Str.empty = true)
    (hdC1 : PySem.W.hasDictIn K C1 = true)
    (poC1 : PySem.W.plainOver K C1 = true)
    (saC1 : PySem.W.findIn K (.ref C1) "__setattr__" = some (some (.builtin "object.__setattr__")))
    (mkC1 : PySem.W.makesIn K C1 = true)
    (kcC1 : PySem.W.keepIn K (.ref C1) = true)
    (noC1_guide : PySem.W.findIn K (.ref C1) "guide" = some none)
    (noC1_way : PySem.W.findIn K (.ref C1) "way" = some none)
    (noC1_bits : PySem.W.findIn K (.ref C1) "bits" = some none)
    (noC1_many : PySem.W.findIn K (.ref C1) "many" = some none)
    (noC1_passed : PySem.W.findIn K (.ref C1) "passed" = some none)
    (a1 : PySem.W.findIn K (.ref CB) "__init__" = some (some (.ref f1)))
    (t1 : PySem.W.typeIn K (.ref f1) = some (.type "function"))
    (l1 : K.lookup f1 = some ⟨oc1, od1, .func (PySem.W.fnOf "__init__" "NoBits.__init__" (defArgs sErB) (defBody sErB) (defScope sErB) .none kV1 dc1 pm1 an1 cd1 ct1), sl1⟩)
    (c1 : PySem.W.codeIn K cd1 "NoBits.__init__" = true)
    (k1 : PySem.W.keepIn K (.ref f1) = true)
    (a2 : PySem.W.findIn K (.ref C1) "__init__" = some (some (.ref f2)))
    (i2 : PySem.W.isFn K (.ref f2) = true)
    (l2 : K.lookup f2 = some ⟨oc2, od2, .func (PySem.W.fnOf "__init__" "Column.__init__" (defArgs sCI) (defBody sCI) (defScope sCI) .none kV2 dc2 pm2 an2 cd2 ct2), sl2⟩)
    (c2 : PySem.W.codeIn K cd2 "Column.__init__" = true)
    (k2 : PySem.W.keepIn K (.ref f2) = true)
    (a3 : PySem.W.findIn K (.ref C1) "__len__" = some (some (.ref f3)))
    (i3 : PySem.W.isFn K (.ref f3) = true)
    (l3 : K.lookup f3 = some ⟨oc3, od3, .func (PySem.W.fnOf "__len__" "Column.__len__" (defArgs sCL) (defBody sCL) (defScope sCL) .none kV3 dc3 pm3 an3 cd3 ct3), sl3⟩)
    (c3 : PySem.W.codeIn K cd3 "Column.__len__" = true)
    (k3 : PySem.W.keepIn K (.ref f3) = true)
    (a4 : PySem.W.findIn K (.ref C1) "unpacked" = some (some (.ref f4)))
    (i4 : PySem.W.isFn K (.ref f4) = true)
    (l4 : K.lookup f4 = some ⟨oc4, od4, .func (PySem.W.fnOf "unpacked" "Column.unpacked" (defArgs sCU) (defBody sCU) (defScope sCU) .none kV4 dc4 pm4 an4 cd4 ct4), sl4⟩)
    (c4 : PySem.W.codeIn K cd4 "Column.unpacked" = true)
    (k4 : PySem.W.keepIn K (.ref f4) = true)
    (a5 : PySem.W.nsIn K mainGlobals "back" = some (some (.ref f5)))
    (l5 : K.lookup f5 = some ⟨oc5, od5, .func (PySem.W.fnOf "back" "back" (defArgs sBa) (defBody sBa) (defScope sBa) .none kV5 dc5 pm5 an5 cd5 ct5), sl5⟩)
    (c5 : PySem.W.codeIn K cd5 "back" = true)
    (k5 : PySem.W.keepIn K (.ref f5) = true)
    (a6 : PySem.W.nsIn K mainGlobals "read_own" = some (some (.ref f6)))
    (l6 : K.lookup f6 = some ⟨oc6, od6, .func (PySem.W.fnOf "read_own" "read_own" (defArgs sRO) (defBody sRO) (defScope sRO) .none kV6 dc6 pm6 an6 cd6 ct6), sl6⟩)
    (c6 : PySem.W.codeIn K cd6 "read_own" = true)
    (k6 : PySem.W.keepIn K (.ref f6) = true)
    (a7 : PySem.W.nsIn K mainGlobals "read_step" = some (some (.ref f7)))
    (l7 : K.lookup f7 = some ⟨oc7, od7, .func (PySem.W.fnOf "read_step" "read_step" (defArgs sRS) (defBody sRS) (defScope sRS) .none kV7 dc7 pm7 an7 cd7 ct7), sl7⟩)
    (c7 : PySem.W.codeIn K cd7 "read_step" = true)
    (k7 : PySem.W.keepIn K (.ref f7) = true)
    (a8 : PySem.W.nsIn K mainGlobals "read_turn" = some (some (.ref f8)))
    (l8 : K.lookup f8 = some ⟨oc8, od8, .func (PySem.W.fnOf "read_turn" "read_turn" (defArgs sRT) (defBody sRT) (defScope sRT) .none kV8 dc8 pm8 an8 cd8 ct8), sl8⟩)
    (c8 : PySem.W.codeIn K cd8 "read_turn" = true)
    (k8 : PySem.W.keepIn K (.ref f8) = true)
    (a9 : PySem.W.nsIn K mainGlobals "read_run" = some (some (.ref f9)))
    (l9 : K.lookup f9 = some ⟨oc9, od9, .func (PySem.W.fnOf "read_run" "read_run" (defArgs sRR) (defBody sRR) (defScope sRR) .none kV9 dc9 pm9 an9 cd9 ct9), sl9⟩)
    (c9 : PySem.W.codeIn K cd9 "read_run" = true)
    (k9 : PySem.W.keepIn K (.ref f9) = true)
    (a10 : PySem.W.nsIn K mainGlobals "marks_by" = some (some (.ref f10)))
    (l10 : K.lookup f10 = some ⟨oc10, od10, .func (PySem.W.fnOf "marks_by" "marks_by" (defArgs sMB) (defBody sMB) (defScope sMB) .none kV10 dc10 pm10 an10 cd10 ct10), sl10⟩)
    (c10 : PySem.W.codeIn K cd10 "marks_by" = true)
    (k10 : PySem.W.keepIn K (.ref f10) = true)
    (a11 : PySem.W.nsIn K mainGlobals "check_codes" = some (some (.ref f11)))
    (l11 : K.lookup f11 = some ⟨oc11, od11, .func (PySem.W.fnOf "check_codes" "check_codes" (defArgs sCC) (defBody sCC) (defScope sCC) .none kV11 dc11 pm11 an11 cd11 ct11), sl11⟩)
    (c11 : PySem.W.codeIn K cd11 "check_codes" = true)
    (k11 : PySem.W.keepIn K (.ref f11) = true)
    (a12 : PySem.W.nsIn K mainGlobals "read_codes" = some (some (.ref f12)))
    (l12 : K.lookup f12 = some ⟨oc12, od12, .func (PySem.W.fnOf "read_codes" "read_codes" (defArgs sRC) (defBody sRC) (defScope sRC) .none kV12 dc12 pm12 an12 cd12 ct12), sl12⟩)
    (c12 : PySem.W.codeIn K cd12 "read_codes" = true)
    (k12 : PySem.W.keepIn K (.ref f12) = true)
    (a13 : PySem.W.nsIn K mainGlobals "plain_head" = some (some (.ref f13)))
    (l13 : K.lookup f13 = some ⟨oc13, od13, .func (PySem.W.fnOf "plain_head" "plain_head" (defArgs sPH) (defBody sPH) (defScope sPH) .none kV13 dc13 pm13 an13 cd13 ct13), sl13⟩)
    (c13 : PySem.W.codeIn K cd13 "plain_head" = true)
    (k13 : PySem.W.keepIn K (.ref f13) = true)
    (a14 : PySem.W.nsIn K mainGlobals "book_head" = some (some (.ref f14)))
    (l14 : K.lookup f14 = some ⟨oc14, od14, .func (PySem.W.fnOf "book_head" "book_head" (defArgs sBH) (defBody sBH) (defScope sBH) .none kV14 dc14 pm14 an14 cd14 ct14), sl14⟩)
    (c14 : PySem.W.codeIn K cd14 "book_head" = true)
    (k14 : PySem.W.keepIn K (.ref f14) = true)
    (a15 : PySem.W.nsIn K mainGlobals "guide_of" = some (some (.ref f15)))
    (l15 : K.lookup f15 = some ⟨oc15, od15, .func (PySem.W.fnOf "guide_of" "guide_of" (defArgs sGO) (defBody sGO) (defScope sGO) .none kV15 dc15 pm15 an15 cd15 ct15), sl15⟩)
    (c15 : PySem.W.codeIn K cd15 "guide_of" = true)
    (k15 : PySem.W.keepIn K (.ref f15) = true)
    (a16 : PySem.W.nsIn K mainGlobals "numbers_in" = some (some (.ref f16)))
    (l16 : K.lookup f16 = some ⟨oc16, od16, .func (PySem.W.fnOf "numbers_in" "numbers_in" (defArgs sNI) (defBody sNI) (defScope sNI) .none kV16 dc16 pm16 an16 cd16 ct16), sl16⟩)
    (c16 : PySem.W.codeIn K cd16 "numbers_in" = true)
    (k16 : PySem.W.keepIn K (.ref f16) = true)
    (a17 : PySem.W.nsIn K mainGlobals "walked_in" = some (some (.ref f17)))
    (l17 : K.lookup f17 = some ⟨oc17, od17, .func (PySem.W.fnOf "walked_in" "walked_in" (defArgs sWI) (defBody sWI) (defScope sWI) .none kV17 dc17 pm17 an17 cd17 ct17), sl17⟩)
    (c17 : PySem.W.codeIn K cd17 "walked_in" = true)
    (k17 : PySem.W.keepIn K (.ref f17) = true)
    (a18 : PySem.W.nsIn K mainGlobals "read_column" = some (some (.ref f18)))
    (l18 : K.lookup f18 = some ⟨oc18, od18, .func (PySem.W.fnOf "read_column" "read_column" (defArgs sRCo) (defBody sRCo) (defScope sRCo) .none kV18 dc18 pm18 an18 cd18 ct18), sl18⟩)
    (c18 : PySem.W.codeIn K cd18 "read_column" = true)
    (k18 : PySem.W.keepIn K (.ref f18) = true)
    (a19 : PySem.W.nsIn K mainGlobals "_law_draws" = some (some (.ref f19)))
    (l19 : K.lookup f19 = some ⟨oc19, od19, .func (PySem.W.fnOf "_law_draws" "_law_draws" (defArgs sDraws) (defBody sDraws) (defScope sDraws) .none kV19 dc19 pm19 an19 cd19 ct19), sl19⟩)
    (c19 : PySem.W.codeIn K cd19 "_law_draws" = true)
    (k19 : PySem.W.keepIn K (.ref f19) = true)
    (a20 : PySem.W.nsIn K mainGlobals "_law_next" = some (some (.ref f20)))
    (l20 : K.lookup f20 = some ⟨oc20, od20, .func (PySem.W.fnOf "_law_next" "_law_next" (defArgs sNext) (defBody sNext) (defScope sNext) .none kV20 dc20 pm20 an20 cd20 ct20), sl20⟩)
    (c20 : PySem.W.codeIn K cd20 "_law_next" = true)
    (k20 : PySem.W.keepIn K (.ref f20) = true)
    (a21 : PySem.W.nsIn K mainGlobals "_law_number" = some (some (.ref f21)))
    (l21 : K.lookup f21 = some ⟨oc21, od21, .func (PySem.W.fnOf "_law_number" "_law_number" (defArgs sNu) (defBody sNu) (defScope sNu) .none kV21 dc21 pm21 an21 cd21 ct21), sl21⟩)
    (c21 : PySem.W.codeIn K cd21 "_law_number" = true)
    (k21 : PySem.W.keepIn K (.ref f21) = true)
    (a22 : PySem.W.nsIn K mainGlobals "_law_many" = some (some (.ref f22)))
    (l22 : K.lookup f22 = some ⟨oc22, od22, .func (PySem.W.fnOf "_law_many" "_law_many" (defArgs sMa) (defBody sMa) (defScope sMa) .none kV22 dc22 pm22 an22 cd22 ct22), sl22⟩)
    (c22 : PySem.W.codeIn K cd22 "_law_many" = true)
    (k22 : PySem.W.keepIn K (.ref f22) = true)
    (a23 : PySem.W.nsIn K mainGlobals "_law_numbers" = some (some (.ref f23)))
    (l23 : K.lookup f23 = some ⟨oc23, od23, .func (PySem.W.fnOf "_law_numbers" "_law_numbers" (defArgs sNs) (defBody sNs) (defScope sNs) .none kV23 dc23 pm23 an23 cd23 ct23), sl23⟩)
    (c23 : PySem.W.codeIn K cd23 "_law_numbers" = true)
    (k23 : PySem.W.keepIn K (.ref f23) = true)
    (a24 : PySem.W.nsIn K mainGlobals "_law_length" = some (some (.ref f24)))
    (l24 : K.lookup f24 = some ⟨oc24, od24, .func (PySem.W.fnOf "_law_length" "_law_length" (defArgs sLe) (defBody sLe) (defScope sLe) .none kV24 dc24 pm24 an24 cd24 ct24), sl24⟩)
    (c24 : PySem.W.codeIn K cd24 "_law_length" = true)
    (k24 : PySem.W.keepIn K (.ref f24) = true)
    (a25 : PySem.W.nsIn K mainGlobals "_law_plain" = some (some (.ref f25)))
    (l25 : K.lookup f25 = some ⟨oc25, od25, .func (PySem.W.fnOf "_law_plain" "_law_plain" (defArgs sLP) (defBody sLP) (defScope sLP) .none kV25 dc25 pm25 an25 cd25 ct25), sl25⟩)
    (c25 : PySem.W.codeIn K cd25 "_law_plain" = true)
    (k25 : PySem.W.keepIn K (.ref f25) = true)
    (a26 : PySem.W.nsIn K mainGlobals "_law_own" = some (some (.ref f26)))
    (l26 : K.lookup f26 = some ⟨oc26, od26, .func (PySem.W.fnOf "_law_own" "_law_own" (defArgs sLO) (defBody sLO) (defScope sLO) .none kV26 dc26 pm26 an26 cd26 ct26), sl26⟩)
    (c26 : PySem.W.codeIn K cd26 "_law_own" = true)
    (k26 : PySem.W.keepIn K (.ref f26) = true)
    (a27 : PySem.W.nsIn K mainGlobals "_law_turned" = some (some (.ref f27)))
    (l27 : K.lookup f27 = some ⟨oc27, od27, .func (PySem.W.fnOf "_law_turned" "_law_turned" (defArgs sLT) (defBody sLT) (defScope sLT) .none kV27 dc27 pm27 an27 cd27 ct27), sl27⟩)
    (c27 : PySem.W.codeIn K cd27 "_law_turned" = true)
    (k27 : PySem.W.keepIn K (.ref f27) = true)
    (a28 : PySem.W.nsIn K mainGlobals "_law_gaps" = some (some (.ref f28)))
    (l28 : K.lookup f28 = some ⟨oc28, od28, .func (PySem.W.fnOf "_law_gaps" "_law_gaps" (defArgs sGa) (defBody sGa) (defScope sGa) .none kV28 dc28 pm28 an28 cd28 ct28), sl28⟩)
    (c28 : PySem.W.codeIn K cd28 "_law_gaps" = true)
    (k28 : PySem.W.keepIn K (.ref f28) = true)
    (a29 : PySem.W.nsIn K mainGlobals "_law_runs" = some (some (.ref f29)))
    (l29 : K.lookup f29 = some ⟨oc29, od29, .func (PySem.W.fnOf "_law_runs" "_law_runs" (defArgs sLR) (defBody sLR) (defScope sLR) .none kV29 dc29 pm29 an29 cd29 ct29), sl29⟩)
    (c29 : PySem.W.codeIn K cd29 "_law_runs" = true)
    (k29 : PySem.W.keepIn K (.ref f29) = true)
    (a30 : PySem.W.nsIn K mainGlobals "_law_placed" = some (some (.ref f30)))
    (l30 : K.lookup f30 = some ⟨oc30, od30, .func (PySem.W.fnOf "_law_placed" "_law_placed" (defArgs sPc) (defBody sPc) (defScope sPc) .none kV30 dc30 pm30 an30 cd30 ct30), sl30⟩)
    (c30 : PySem.W.codeIn K cd30 "_law_placed" = true)
    (k30 : PySem.W.keepIn K (.ref f30) = true)
    (a31 : PySem.W.nsIn K mainGlobals "_law_written" = some (some (.ref f31)))
    (l31 : K.lookup f31 = some ⟨oc31, od31, .func (PySem.W.fnOf "_law_written" "_law_written" (defArgs sWn) (defBody sWn) (defScope sWn) .none kV31 dc31 pm31 an31 cd31 ct31), sl31⟩)
    (c31 : PySem.W.codeIn K cd31 "_law_written" = true)
    (k31 : PySem.W.keepIn K (.ref f31) = true)
    (a32 : PySem.W.nsIn K mainGlobals "_law_back" = some (some (.ref f32)))
    (l32 : K.lookup f32 = some ⟨oc32, od32, .func (PySem.W.fnOf "_law_back" "_law_back" (defArgs sLB) (defBody sLB) (defScope sLB) .none kV32 dc32 pm32 an32 cd32 ct32), sl32⟩)
    (c32 : PySem.W.codeIn K cd32 "_law_back" = true)
    (k32 : PySem.W.keepIn K (.ref f32) = true)
    (a33 : PySem.W.nsIn K mainGlobals "_law_read_own" = some (some (.ref f33)))
    (l33 : K.lookup f33 = some ⟨oc33, od33, .func (PySem.W.fnOf "_law_read_own" "_law_read_own" (defArgs sLR2) (defBody sLR2) (defScope sLR2) .none kV33 dc33 pm33 an33 cd33 ct33), sl33⟩)
    (c33 : PySem.W.codeIn K cd33 "_law_read_own" = true)
    (k33 : PySem.W.keepIn K (.ref f33) = true)
    (a34 : PySem.W.nsIn K mainGlobals "_law_book" = some (some (.ref f34)))
    (l34 : K.lookup f34 = some ⟨oc34, od34, .func (PySem.W.fnOf "_law_book" "_law_book" (defArgs sBo) (defBody sBo) (defScope sBo) .none kV34 dc34 pm34 an34 cd34 ct34), sl34⟩)
    (c34 : PySem.W.codeIn K cd34 "_law_book" = true)
    (k34 : PySem.W.keepIn K (.ref f34) = true)
    (a35 : PySem.W.nsIn K mainGlobals "_law_read_placed" = some (some (.ref f35)))
    (l35 : K.lookup f35 = some ⟨oc35, od35, .func (PySem.W.fnOf "_law_read_placed" "_law_read_placed" (defArgs sRP) (defBody sRP) (defScope sRP) .none kV35 dc35 pm35 an35 cd35 ct35), sl35⟩)
    (c35 : PySem.W.codeIn K cd35 "_law_read_placed" = true)
    (k35 : PySem.W.keepIn K (.ref f35) = true)
    (a36 : PySem.W.nsIn K mainGlobals "_law_read_on" = some (some (.ref f36)))
    (l36 : K.lookup f36 = some ⟨oc36, od36, .func (PySem.W.fnOf "_law_read_on" "_law_read_on" (defArgs sOn) (defBody sOn) (defScope sOn) .none kV36 dc36 pm36 an36 cd36 ct36), sl36⟩)
    (c36 : PySem.W.codeIn K cd36 "_law_read_on" = true)
    (k36 : PySem.W.keepIn K (.ref f36) = true)
    (a37 : PySem.W.nsIn K mainGlobals "_law_due" = some (some (.ref f37)))
    (l37 : K.lookup f37 = some ⟨oc37, od37, .func (PySem.W.fnOf "_law_due" "_law_due" (defArgs sDu) (defBody sDu) (defScope sDu) .none kV37 dc37 pm37 an37 cd37 ct37), sl37⟩)
    (c37 : PySem.W.codeIn K cd37 "_law_due" = true)
    (k37 : PySem.W.keepIn K (.ref f37) = true)
    (a38 : PySem.W.nsIn K mainGlobals "_law_asked" = some (some (.ref f38)))
    (l38 : K.lookup f38 = some ⟨oc38, od38, .func (PySem.W.fnOf "_law_asked" "_law_asked" (defArgs sAs) (defBody sAs) (defScope sAs) .none kV38 dc38 pm38 an38 cd38 ct38), sl38⟩)
    (c38 : PySem.W.codeIn K cd38 "_law_asked" = true)
    (k38 : PySem.W.keepIn K (.ref f38) = true)
    (a39 : PySem.W.nsIn K mainGlobals "_law_parted" = some (some (.ref f39)))
    (l39 : K.lookup f39 = some ⟨oc39, od39, .func (PySem.W.fnOf "_law_parted" "_law_parted" (defArgs sPa) (defBody sPa) (defScope sPa) .none kV39 dc39 pm39 an39 cd39 ct39), sl39⟩)
    (c39 : PySem.W.codeIn K cd39 "_law_parted" = true)
    (k39 : PySem.W.keepIn K (.ref f39) = true)
    (a40 : PySem.W.nsIn K mainGlobals "_law_wider" = some (some (.ref f40)))
    (l40 : K.lookup f40 = some ⟨oc40, od40, .func (PySem.W.fnOf "_law_wider" "_law_wider" (defArgs sWi) (defBody sWi) (defScope sWi) .none kV40 dc40 pm40 an40 cd40 ct40), sl40⟩)
    (c40 : PySem.W.codeIn K cd40 "_law_wider" = true)
    (k40 : PySem.W.keepIn K (.ref f40) = true)
    (a41 : PySem.W.nsIn K mainGlobals "_law_bits" = some (some (.ref f41)))
    (l41 : K.lookup f41 = some ⟨oc41, od41, .func (PySem.W.fnOf "_law_bits" "_law_bits" (defArgs sBt) (defBody sBt) (defScope sBt) .none kV41 dc41 pm41 an41 cd41 ct41), sl41⟩)
    (c41 : PySem.W.codeIn K cd41 "_law_bits" = true)
    (k41 : PySem.W.keepIn K (.ref f41) = true)
    (a42 : PySem.W.nsIn K mainGlobals "law" = some (some (.ref f42)))
    (l42 : K.lookup f42 = some ⟨oc42, od42, .func (PySem.W.fnOf "law" "law" (defArgs sLaw) (defBody sLaw) (defScope sLaw) .none kV42 dc42 pm42 an42 cd42 ct42), sl42⟩)
    (c42 : PySem.W.codeIn K cd42 "law" = true)
    (k42 : PySem.W.keepIn K (.ref f42) = true)
    (z_range : PySem.W.nsIn K mainGlobals "range" = some none)
    (z_len : PySem.W.nsIn K mainGlobals "len" = some none)
    (z_max : PySem.W.nsIn K mainGlobals "max" = some none)
    (z_min : PySem.W.nsIn K mainGlobals "min" = some none)
    (z_int : PySem.W.nsIn K mainGlobals "int" = some none)
    (z_zip : PySem.W.nsIn K mainGlobals "zip" = some none)
    (z_sorted : PySem.W.nsIn K mainGlobals "sorted" = some none)
    (z_set : PySem.W.nsIn K mainGlobals "set" = some none)
    (z_enumerate : PySem.W.nsIn K mainGlobals "enumerate" = some none)
    (z_isinstance : PySem.W.nsIn K mainGlobals "isinstance" = some none)
    (z_ValueError : PySem.W.nsIn K mainGlobals "ValueError" = some none)
    (v_SPAN : PySem.W.nsIn K mainGlobals "SPAN" = some (some (.int 32 tk32)))
    (v_READERS : PySem.W.nsIn K mainGlobals "READERS" = some (some (.ref RD)))
    (v_BEGIN : PySem.W.nsIn K mainGlobals "BEGIN" = some (some (.ref BG)))
    (v_WAYS : PySem.W.nsIn K mainGlobals "WAYS" = some (some (.ref WT)))
    (lRD : K.lookup RD = some ⟨.type "dict", none, .dict esR nR, #[]⟩)
    (tRD : PySem.W.KeysLit w.params esR.toList)
    (sRD : (RD == sysModules) = false)
    (r_steps : PySem.W.nsIn K RD "steps" = some (some (.ref f7)))
    (r_turns : PySem.W.nsIn K RD "turns" = some (some (.ref f8)))
    (r_runs : PySem.W.nsIn K RD "runs" = some (some (.ref f9)))
    (r_plain : PySem.W.nsIn K RD "plain" = some none)
    (r_book : PySem.W.nsIn K RD "book" = some none)
    (lT : K.lookup WT = some ⟨cT, dT, .seq itT nT, sT⟩)
    (cT_ : cT = .type "tuple")
    (nT_ : itT.size ≤ sizeLine)
    (vT : Vals wayV itT.toList)
    (lB : K.lookup BG = some ⟨cB, dB, .seq itB nB, sB⟩)
    (cB_ : cB = .type "tuple")
    (nB_ : itB.size ≤ sizeLine)
    (vB : Vals (mkV (0, 0, none)) itB.toList)
    (sd : PySem.W.nsIn K PySem.cStatics "sys.int_max_str_digits" = some none)
    (kitV : PySem.W.kitOne K (.ref CB) (.type "ValueError") = some true)
    (kitA : PySem.W.kitAny K (.ref CB) [.ref CK, .ref CL, .ref CO, .ref CT] = some false)
    : ∃ fd : FuncData, (∀ (s : Shared) (v : Value), BindsTo s fd ⟨[v], []⟩ [("_law_script", v)]) ∧ ∀ base : Heap, K.In base → base.Ns mainGlobals mg → FnOk l.prog w K mg base CX0 15 fa fd ["_law_script"] (spLaw K) := by
  have e := hfa.symm.trans (PySem.W.mg_of X G a42)
  cases e
  have F1 := fun_mk (st := sErB) l1 c1 k1
  have F2 := fun_mk (st := sCI) l2 c2 k2
  have F3 := fun_mk (st := sCL) l3 c3 k3
  have F4 := fun_mk (st := sCU) l4 c4 k4
  have F5 := fun_mk (st := sBa) l5 c5 k5
  have F6 := fun_mk (st := sRO) l6 c6 k6
  have F7 := fun_mk (st := sRS) l7 c7 k7
  have F8 := fun_mk (st := sRT) l8 c8 k8
  have F9 := fun_mk (st := sRR) l9 c9 k9
  have F10 := fun_mk (st := sMB) l10 c10 k10
  have F11 := fun_mk (st := sCC) l11 c11 k11
  have F12 := fun_mk (st := sRC) l12 c12 k12
  have F13 := fun_mk (st := sPH) l13 c13 k13
  have F14 := fun_mk (st := sBH) l14 c14 k14
  have F15 := fun_mk (st := sGO) l15 c15 k15
  have F16 := fun_mk (st := sNI) l16 c16 k16
  have F17 := fun_mk (st := sWI) l17 c17 k17
  have F18 := fun_mk (st := sRCo) l18 c18 k18
  have F19 := fun_mk (st := sDraws) l19 c19 k19
  have F20 := fun_mk (st := sNext) l20 c20 k20
  have F21 := fun_mk (st := sNu) l21 c21 k21
  have F22 := fun_mk (st := sMa) l22 c22 k22
  have F23 := fun_mk (st := sNs) l23 c23 k23
  have F24 := fun_mk (st := sLe) l24 c24 k24
  have F25 := fun_mk (st := sLP) l25 c25 k25
  have F26 := fun_mk (st := sLO) l26 c26 k26
  have F27 := fun_mk (st := sLT) l27 c27 k27
  have F28 := fun_mk (st := sGa) l28 c28 k28
  have F29 := fun_mk (st := sLR) l29 c29 k29
  have F30 := fun_mk (st := sPc) l30 c30 k30
  have F31 := fun_mk (st := sWn) l31 c31 k31
  have F32 := fun_mk (st := sLB) l32 c32 k32
  have F33 := fun_mk (st := sLR2) l33 c33 k33
  have F34 := fun_mk (st := sBo) l34 c34 k34
  have F35 := fun_mk (st := sRP) l35 c35 k35
  have F36 := fun_mk (st := sOn) l36 c36 k36
  have F37 := fun_mk (st := sDu) l37 c37 k37
  have F38 := fun_mk (st := sAs) l38 c38 k38
  have F39 := fun_mk (st := sPa) l39 c39 k39
  have F40 := fun_mk (st := sWi) l40 c40 k40
  have F41 := fun_mk (st := sBt) l41 c41 k41
  have F42 := fun_mk (st := sLaw) l42 c42 k42
  have b1 := F1.binds (ps := ["self", "at"]) fun _ _ _ _ _ _ us hl => match us, hl with | [_, _], _ => rfl
  have b2 := F2.binds (ps := ["self", "way", "bits", "many"]) fun _ _ _ _ _ _ us hl => match us, hl with | [_, _, _, _], _ => rfl
  have b3 := F3.binds (ps := ["self"]) fun _ _ _ _ _ _ us hl => match us, hl with | [_], _ => rfl
  have b4 := F4.binds (ps := ["self"]) fun _ _ _ _ _ _ us hl => match us, hl with | [_], _ => rfl
  have b5 := F5.binds (ps := ["number"]) fun _ _ _ _ _ _ us hl => match us, hl with | [_], _ => rfl
  have b6 := F6.binds (ps := ["bits", "at"]) fun _ _ _ _ _ _ us hl => match us, hl with | [_, _], _ => rfl
  have b7 := F7.binds (ps := ["bits", "mark", "room"]) fun _ _ _ _ _ _ us hl => match us, hl with | [_, _, _], _ => rfl
  have b8 := F8.binds (ps := ["bits", "mark", "room"]) fun _ _ _ _ _ _ us hl => match us, hl with | [_, _, _], _ => rfl
  have b9 := F9.binds (ps := ["bits", "mark", "room"]) fun _ _ _ _ _ _ us hl => match us, hl with | [_, _, _], _ => rfl
  have b10 := F10.binds (ps := ["way", "bits", "many"]) fun _ _ _ _ _ _ us hl => match us, hl with | [_, _, _], _ => rfl
  have b11 := F11.binds (ps := ["bits", "at", "width", "many"]) fun _ _ _ _ _ _ us hl => match us, hl with | [_, _, _, _], _ => rfl
  have b12 := F12.binds (ps := ["bits", "at", "width", "many"]) fun _ _ _ _ _ _ us hl => match us, hl with | [_, _, _, _], _ => rfl
  have b13 := F13.binds (ps := ["bits", "many"]) fun _ _ _ _ _ _ us hl => match us, hl with | [_, _], _ => rfl
  have b14 := F14.binds (ps := ["bits", "many"]) fun _ _ _ _ _ _ us hl => match us, hl with | [_, _], _ => rfl
  have b15 := F15.binds (ps := ["way", "bits", "many"]) fun _ _ _ _ _ _ us hl => match us, hl with | [_, _, _], _ => rfl
  have b16 := F16.binds (ps := ["column", "start", "end"]) fun _ _ _ _ _ _ us hl => match us, hl with | [_, _, _], _ => rfl
  have b17 := F17.binds (ps := ["column", "start", "end"]) fun _ _ _ _ _ _ us hl => match us, hl with | [_, _, _], _ => rfl
  have b18 := F18.binds (ps := ["way", "bits", "many"]) fun _ _ _ _ _ _ us hl => match us, hl with | [_, _, _], _ => rfl
  have b19 := F19.binds (ps := ["_law_cell"]) fun _ _ _ _ _ _ us hl => match us, hl with | [_], _ => rfl
  have b20 := F20.binds (ps := ["_law_draws_here"]) fun _ _ _ _ _ _ us hl => match us, hl with | [_], _ => rfl
  have b21 := F21.binds (ps := ["_law_draws_here"]) fun _ _ _ _ _ _ us hl => match us, hl with | [_], _ => rfl
  have b22 := F22.binds (ps := ["_law_draws_here"]) fun _ _ _ _ _ _ us hl => match us, hl with | [_], _ => rfl
  have b23 := F23.binds (ps := ["_law_draws_here", "_law_a_many"]) fun _ _ _ _ _ _ us hl => match us, hl with | [_, _], _ => rfl
  have b24 := F24.binds (ps := ["_law_number_here"]) fun _ _ _ _ _ _ us hl => match us, hl with | [_], _ => rfl
  have b25 := F25.binds (ps := ["_law_number_here", "_law_width"]) fun _ _ _ _ _ _ us hl => match us, hl with | [_, _], _ => rfl
  have b26 := F26.binds (ps := ["_law_number_here"]) fun _ _ _ _ _ _ us hl => match us, hl with | [_], _ => rfl
  have b27 := F27.binds (ps := ["_law_number_here"]) fun _ _ _ _ _ _ us hl => match us, hl with | [_], _ => rfl
  have b28 := F28.binds (ps := ["_law_numbers_here"]) fun _ _ _ _ _ _ us hl => match us, hl with | [_], _ => rfl
  have b29 := F29.binds (ps := ["_law_numbers_here"]) fun _ _ _ _ _ _ us hl => match us, hl with | [_], _ => rfl
  have b30 := F30.binds (ps := ["_law_numbers_here", "_law_some", "_law_width"]) fun _ _ _ _ _ _ us hl => match us, hl with | [_, _, _], _ => rfl
  have b31 := F31.binds (ps := ["_law_numbers_here", "_law_a_way"]) fun _ _ _ _ _ _ us hl => match us, hl with | [_, _], _ => rfl
  have b32 := F32.binds (ps := ["_law_number_here"]) fun _ _ _ _ _ _ us hl => match us, hl with | [_], _ => rfl
  have b33 := F33.binds (ps := ["_law_a_bits", "_law_at"]) fun _ _ _ _ _ _ us hl => match us, hl with | [_, _], _ => rfl
  have b34 := F34.binds (ps := ["_law_a_way", "_law_a_bits"]) fun _ _ _ _ _ _ us hl => match us, hl with | [_, _], _ => rfl
  have b35 := F35.binds (ps := ["_law_a_way", "_law_a_bits", "_law_count"]) fun _ _ _ _ _ _ us hl => match us, hl with | [_, _, _], _ => rfl
  have b36 := F36.binds (ps := ["_law_a_way", "_law_a_bits", "_law_count"]) fun _ _ _ _ _ _ us hl => match us, hl with | [_, _, _], _ => rfl
  have b37 := F37.binds (ps := ["_law_a_way", "_law_a_bits", "_law_count"]) fun _ _ _ _ _ _ us hl => match us, hl with | [_, _, _], _ => rfl
  have b38 := F38.binds (ps := ["_law_a_way", "_law_a_bits", "_law_count", "_law_by_name"]) fun _ _ _ _ _ _ us hl => match us, hl with | [_, _, _, _], _ => rfl
  have b39 := F39.binds (ps := ["_law_draws_here", "_law_numbers_here"]) fun _ _ _ _ _ _ us hl => match us, hl with | [_, _], _ => rfl
  have b40 := F40.binds (ps := ["_law_draws_here", "_law_numbers_here"]) fun _ _ _ _ _ _ us hl => match us, hl with | [_, _], _ => rfl
  have b41 := F41.binds (ps := ["_law_draws_here", "_law_a_way", "_law_numbers_here"]) fun _ _ _ _ _ _ us hl => match us, hl with | [_, _, _], _ => rfl
  have g5 := PySem.W.mg_of X G a5
  have g6 := PySem.W.mg_of X G a6
  have g7 := PySem.W.mg_of X G a7
  have g8 := PySem.W.mg_of X G a8
  have g9 := PySem.W.mg_of X G a9
  have g10 := PySem.W.mg_of X G a10
  have g11 := PySem.W.mg_of X G a11
  have g12 := PySem.W.mg_of X G a12
  have g13 := PySem.W.mg_of X G a13
  have g14 := PySem.W.mg_of X G a14
  have g15 := PySem.W.mg_of X G a15
  have g16 := PySem.W.mg_of X G a16
  have g17 := PySem.W.mg_of X G a17
  have g18 := PySem.W.mg_of X G a18
  have g19 := PySem.W.mg_of X G a19
  have g20 := PySem.W.mg_of X G a20
  have g21 := PySem.W.mg_of X G a21
  have g22 := PySem.W.mg_of X G a22
  have g23 := PySem.W.mg_of X G a23
  have g24 := PySem.W.mg_of X G a24
  have g25 := PySem.W.mg_of X G a25
  have g26 := PySem.W.mg_of X G a26
  have g27 := PySem.W.mg_of X G a27
  have g28 := PySem.W.mg_of X G a28
  have g29 := PySem.W.mg_of X G a29
  have g30 := PySem.W.mg_of X G a30
  have g31 := PySem.W.mg_of X G a31
  have g32 := PySem.W.mg_of X G a32
  have g33 := PySem.W.mg_of X G a33
  have g34 := PySem.W.mg_of X G a34
  have g35 := PySem.W.mg_of X G a35
  have g36 := PySem.W.mg_of X G a36
  have g37 := PySem.W.mg_of X G a37
  have g38 := PySem.W.mg_of X G a38
  have g39 := PySem.W.mg_of X G a39
  have g40 := PySem.W.mg_of X G a40
  have g41 := PySem.W.mg_of X G a41
  have gC1 := PySem.W.mg_of X G aC1
  have gCK := PySem.W.mg_of X G aCK
  have gCL := PySem.W.mg_of X G aCL
  have gCO := PySem.W.mg_of X G aCO
  have gCT := PySem.W.mg_of X G aCT
  have gCB := PySem.W.mg_of X G aCB
  have OCB : OexC K CB := ⟨⟨nmCB, qCB, NCB, bsCB, _, snCB, subCB, abCB, colCB, ddCB, v0CB, v1CB, v2CB, v3CB, v5CB, xCB, by decide +kernel⟩, saCB, ecCB, tcCB, kcCB⟩
  have ECB : ExcC K CB := ⟨gaCB, ggCB, ecCB, hcCB, ccCB, hnC, htC, moCB⟩
  have XCB : XfC K CB := ⟨gaCB, ggCB, ecCB, hcCB⟩
  have m_range := PySem.W.mg_none_of X G z_range
  have m_len := PySem.W.mg_none_of X G z_len
  have m_max := PySem.W.mg_none_of X G z_max
  have m_min := PySem.W.mg_none_of X G z_min
  have m_int := PySem.W.mg_none_of X G z_int
  have m_zip := PySem.W.mg_none_of X G z_zip
  have m_sorted := PySem.W.mg_none_of X G z_sorted
  have m_set := PySem.W.mg_none_of X G z_set
  have m_enumerate := PySem.W.mg_none_of X G z_enumerate
  have m_isinstance := PySem.W.mg_none_of X G z_isinstance
  have m_ValueError := PySem.W.mg_none_of X G z_ValueError
  have g_SPAN := PySem.W.mg_of X G v_SPAN
  have g_READERS := PySem.W.mg_of X G v_READERS
  have g_BEGIN := PySem.W.mg_of X G v_BEGIN
  have g_WAYS := PySem.W.mg_of X G v_WAYS
  refine ⟨PySem.W.fnOf "law" "law" (defArgs sLaw) (defBody sLaw) (defScope sLaw) .none kV42 dc42 pm42 an42 cd42 ct42, fun s v => .of_eq rfl, fun base _ _ => ?_⟩
  have T : TCol K C1 := ⟨⟨pgC1, hdC1, poC1, saC1⟩, fun n hn => by
    simp only [List.mem_cons, List.not_mem_nil, or_false] at hn
    rcases hn with rfl | rfl | rfl | rfl | rfl
    · exact noC1_guide
    · exact noC1_way
    · exact noC1_bits
    · exact noC1_many
    · exact noC1_passed⟩
  have hW : ∀ H, SqT K H WT wayV := fun H => .inr ⟨_, itT, nT, lT, cT_, rfl, nT_, vT⟩
  have hB : ∀ H, SqT K H BG (mkV (0, 0, none)) := fun H => .inr ⟨_, itB, nB, lB, cB_, rfl, nB_, vB⟩
  have CE : ∀ j, CalE l.prog w K mg base (j + 1) "NoBits" CB "at" := fun j => ⟨f1, _, OCB, a1, t1, ok_errB (k := j) F1 OCB noCB m_ValueError vV, b1, gCB⟩
  have BA : ∀ j, Cal l.prog w K mg base (j + 1) "back" ["number"] spBk := fun j => ⟨f5, _, ok_bk F5, g5, k5, b5⟩
  have RO : ∀ j, CalR l.prog w K mg base (j + 3) "read_own" ["bits", "at"] (spRO CB) := fun j => ⟨f6, _, ok_ro (k := j + 1) F6 m_len m_int sd (CE j), g6, k6, b6⟩
  have YS : ∀ j, FnOk l.prog w K mg base (L2.CX l.prog w) (j + 4) f7 _ ["bits", "mark", "room"] (spRd K CB .steps) := fun j => ok_rs (k := j + 3) F7 (RO j) (BA (j + 2))
  have YT : ∀ j, FnOk l.prog w K mg base (L2.CX l.prog w) (j + 4) f8 _ ["bits", "mark", "room"] (spRd K CB .turns) := fun j => ok_rt (k := j + 3) F8 (RO j) (BA (j + 2))
  have YR : ∀ j, FnOk l.prog w K mg base (L2.CX l.prog w) (j + 5) f9 _ ["bits", "mark", "room"] (spRd K CB .runs) := fun j => ok_rr (k := j + 3) F9 (RO j) (BA (j + 2)) (CE (j + 2))
  have RDs : ∀ j, Rds l.prog w K mg base (j + 5) CB RD := fun j => ⟨fun W => match W with | .steps => f7 | .turns => f8 | .runs => f9,
    fun W => match W with | .steps => ⟨_, _, YS (j + 1), k7, b7⟩ | .turns => ⟨_, _, YT (j + 1), k8, b8⟩ | .runs => ⟨_, _, YR j, k9, b9⟩,
    fun W => match W with | .steps => ⟨esR, nR, _, lRD, tRD, r_steps, rfl⟩ | .turns => ⟨esR, nR, _, lRD, tRD, r_turns, rfl⟩ | .runs => ⟨esR, nR, _, lRD, tRD, r_runs, rfl⟩⟩
  have has : ∀ y : Wy, KHas K w RD y.nm y.walks := fun y => match y with | .plain => ⟨esR, nR, lRD, tRD, sRD, _, r_plain, rfl⟩ | .book => ⟨esR, nR, lRD, tRD, sRD, _, r_book, rfl⟩ | .by .steps => ⟨esR, nR, lRD, tRD, sRD, _, r_steps, rfl⟩ | .by .turns => ⟨esR, nR, lRD, tRD, sRD, _, r_turns, rfl⟩ | .by .runs => ⟨esR, nR, lRD, tRD, sRD, _, r_runs, rfl⟩
  have MB : ∀ j, CalR l.prog w K mg base (j + 7) "marks_by" ["way", "bits", "many"] (spMB K CB) := fun j => ⟨f10, _, ok_mb (k := j + 5) F10 (RDs j) (CE (j + 4)) g_READERS g_BEGIN hB g_SPAN m_range m_len, g10, k10, b10⟩
  have CC : ∀ j, CalR l.prog w K mg base (j + 3) "check_codes" ["bits", "at", "width", "many"] (spCC CB) := fun j => ⟨f11, _, ok_cc (k := j + 1) F11 (CE j) m_len, g11, k11, b11⟩
  have RC : ∀ j, Cal l.prog w K mg base (j + 1) "read_codes" ["bits", "at", "width", "many"] spRC := fun j => ⟨f12, _, ok_rc F12 sd m_len m_min m_range m_int, g12, k12, b12⟩
  have PH : ∀ j, CalR l.prog w K mg base (j + 4) "plain_head" ["bits", "many"] (spPH CB) := fun j => ⟨f13, _, ok_ph (k := j + 3) F13 (RO j) (BA (j + 2)) (CC j), g13, k13, b13⟩
  have BH : ∀ j, CalR l.prog w K mg base (j + 5) "book_head" ["bits", "many"] (spBH CB) := fun j => ⟨f14, _, ok_bh (k := j + 3) F14 (RO j) (BA (j + 2)) (CC j) (RC (j + 2)) (CE (j + 2)) m_len m_enumerate, g14, k14, b14⟩
  have GO : ∀ j, CalR l.prog w K mg base (j + 9) "guide_of" ["way", "bits", "many"] (spGO K CB) := fun j => ⟨f15, _, ok_go (k := j + 7) F15 (PH (j + 3)) (BH (j + 2)) (MB j) (CE (j + 6)), g15, k15, b15⟩
  have WI : ∀ j, Cal l.prog w K mg base (j + 6) "walked_in" ["column", "start", "end"] (spWI K C1) := fun j => ⟨f17, _, ok_wi (k := j + 5) F17 T (RDs j) g_READERS g_SPAN m_range, g17, k17, b17⟩
  have NI : ∀ j, Cal l.prog w K mg base (j + 7) "numbers_in" ["column", "start", "end"] (spNI K C1) := fun j => ⟨f16, _, ok_ni (k := j + 6) F16 T has g_READERS (WI j) (RC (j + 5)), g16, k16, b16⟩
  have KC : ∀ j, CalRC l.prog w K mg base (j + 10) "Column" C1 ["self", "way", "bits", "many"] (spCI K CB C1) := fun j => ⟨f2, _, ok_ci (k := j + 9) F2 T (GO j), gC1, ⟨mkC1, a2, i2, kcC1⟩, b2⟩
  have CU : ∀ j, CalM l.prog w K mg base (j + 8) C1 "unpacked" ["self"] (spCU K C1) := fun j => ⟨f4, _, ok_cu (k := j + 7) F4 T (NI j), ⟨a4, i4, k4⟩, b4⟩
  have OR_ : ∀ j, FnOk l.prog w K mg base (L2.CX l.prog w) (j + 12) f18 _ ["way", "bits", "many"] (spRCo K CB C1) := fun j => ok_rco (k := j + 10) F18 (KC j)
  have RCK : ∀ j, CalRK l.prog w K mg base (j + 12) "read_column" ["way", "bits", "many"] ["bits", "many", "way"] [2, 0, 1] (spRCo K CB C1) := fun j => ⟨f18, _, OR_ j, g18, k18, kk_rco F18⟩
  have RC_ : ∀ j, CalR l.prog w K mg base (j + 12) "read_column" ["way", "bits", "many"] (spRCo K CB C1) := fun j => ⟨f18, _, OR_ j, g18, k18, b18⟩
  have ZE : BitE K mg CB CK CL CO CT := ⟨gCB, gCK, gCL, gCO, gCT, m_isinstance, m_ValueError, xmCB, ECB, XCB, noCB, kitV, kitA⟩
  have DR_ : ∀ j, Cal l.prog w K mg base (j + 1) "_law_draws" ["_law_cell"] spDraws := fun j => ⟨f19, _, ok_draws F19 m_range, g19, k19, b19⟩
  have NX : ∀ j, Cal l.prog w K mg base (j + 1) "_law_next" ["_law_draws_here"] spNext := fun j => ⟨f20, _, ok_next F20, g20, k20, b20⟩
  have NU : ∀ j, Cal l.prog w K mg base (j + 2) "_law_number" ["_law_draws_here"] spNu := fun j => ⟨f21, _, ok_nu (k := j + 1) F21 (NX j), g21, k21, b21⟩
  have MA : ∀ j, Cal l.prog w K mg base (j + 2) "_law_many" ["_law_draws_here"] spMa := fun j => ⟨f22, _, ok_ma (k := j + 1) F22 (NX j), g22, k22, b22⟩
  have NS : ∀ j, Cal l.prog w K mg base (j + 3) "_law_numbers" ["_law_draws_here", "_law_a_many"] spNs := fun j => ⟨f23, _, ok_ns (k := j + 2) F23 (NX (j + 1)) (NU j) m_range, g23, k23, b23⟩
  have LE : ∀ j, Cal l.prog w K mg base (j + 1) "_law_length" ["_law_number_here"] spLe := fun j => ⟨f24, _, ok_le F24, g24, k24, b24⟩
  have LP : ∀ j, Cal l.prog w K mg base (j + 1) "_law_plain" ["_law_number_here", "_law_width"] spLP := fun j => ⟨f25, _, ok_lp F25 m_range, g25, k25, b25⟩
  have LO : ∀ j, Cal l.prog w K mg base (j + 2) "_law_own" ["_law_number_here"] spLO := fun j => ⟨f26, _, ok_lo (k := j + 1) F26 (LE j) (LP j), g26, k26, b26⟩
  have LT : ∀ j, Cal l.prog w K mg base (j + 1) "_law_turned" ["_law_number_here"] spLT := fun j => ⟨f27, _, ok_lt F27 m_int, g27, k27, b27⟩
  have GA : ∀ j, Cal l.prog w K mg base (j + 1) "_law_gaps" ["_law_numbers_here"] (spNew 80 200 difs) := fun j => ⟨f28, _, ok_ga F28 m_zip, g28, k28, b28⟩
  have LR : ∀ j, Cal l.prog w K mg base (j + 1) "_law_runs" ["_law_numbers_here"] spLR := fun j => ⟨f29, _, ok_lr F29, g29, k29, b29⟩
  have PC : ∀ j, Cal l.prog w K mg base (j + 2) "_law_placed" ["_law_numbers_here", "_law_some", "_law_width"] spPc := fun j => ⟨f30, _, ok_pc (k := j + 1) F30 (LP j), g30, k30, b30⟩
  have WN : ∀ j, Cal l.prog w K mg base (j + 3) "_law_written" ["_law_numbers_here", "_law_a_way"] spWn := fun j => ⟨f31, _, ok_wn (k := j + 2) F31 (GA (j + 1)) (LE (j + 1)) (LO j) (LT (j + 1)) (LP (j + 1)) (LR (j + 1)) (PC j) m_min m_max m_sorted m_set m_len, g31, k31, b31⟩
  have LB : ∀ j, Cal l.prog w K mg base (j + 1) "_law_back" ["_law_number_here"] spLB := fun j => ⟨f32, _, ok_lb F32, g32, k32, b32⟩
  have LRO : ∀ j, Cal l.prog w K mg base (j + 1) "_law_read_own" ["_law_a_bits", "_law_at"] spLRO := fun j => ⟨f33, _, ok_lro F33 m_len m_int, g33, k33, b33⟩
  have BO : ∀ j, Cal l.prog w K mg base (j + 2) "_law_book" ["_law_a_way", "_law_a_bits"] spBo := fun j => ⟨f34, _, ok_bo (k := j + 1) F34 (LRO j) (LB j) (LE j) m_len, g34, k34, b34⟩
  have RP : ∀ j, Cal l.prog w K mg base (j + 3) "_law_read_placed" ["_law_a_way", "_law_a_bits", "_law_count"] spRP := fun j => ⟨f35, _, ok_rp (k := j + 2) F35 (BO j) m_len m_int m_range, g35, k35, b35⟩
  have ON : ∀ j, Cal l.prog w K mg base (j + 2) "_law_read_on" ["_law_a_way", "_law_a_bits", "_law_count"] spOn := fun j => ⟨f36, _, ok_on (k := j + 1) F36 (LRO j) (LB j) m_len m_int, g36, k36, b36⟩
  have DU : ∀ j, Cal l.prog w K mg base (j + 4) "_law_due" ["_law_a_way", "_law_a_bits", "_law_count"] spDu := fun j => ⟨f37, _, ok_du (k := j + 3) F37 (RP j) (ON (j + 1)) m_int, g37, k37, b37⟩
  have AS_ : ∀ j, Cal l.prog w K mg base (j + 14) "_law_asked" ["_law_a_way", "_law_a_bits", "_law_count", "_law_by_name"] spAs := fun j => ⟨f38, _, ok_as (k := j + 12) F38 T ZE (RC_ j) (RCK j) (CU (j + 4)) (ok_cl (k := j + 11) F3 T m_len m_range) a3 i3 b3 m_len, g38, k38, b38⟩
  have PA_ : ∀ j, Cal l.prog w K mg base (j + 3) "_law_parted" ["_law_draws_here", "_law_numbers_here"] spPa := fun j => ⟨f39, _, ok_pa (k := j + 2) F39 (NX (j + 1)) (LR (j + 1)) (LO j) (LT (j + 1)), g39, k39, b39⟩
  have WD_ : ∀ j, Cal l.prog w K mg base (j + 3) "_law_wider" ["_law_draws_here", "_law_numbers_here"] spPa := fun j => ⟨f40, _, ok_wi2 (k := j + 2) F40 (NX (j + 1)) (GA (j + 1)) (LE (j + 1)) (LO j) (LT (j + 1)) (PC j) m_min m_max m_sorted m_set m_len, g40, k40, b40⟩
  have BT : ∀ j, Cal l.prog w K mg base (j + 4) "_law_bits" ["_law_draws_here", "_law_a_way", "_law_numbers_here"] spBt := fun j => ⟨f41, _, ok_bt (k := j + 3) F41 (NX (j + 2)) (LP (j + 2)) (WN j) (PA_ j) (WD_ j) m_int m_len m_range, g41, k41, b41⟩
  exact ok_law (k := 14) F42 (DR_ 13) (NX 13) (MA 12) (NS 11) (BT 10) (AS_ 0) (DU 10) g_WAYS hW m_max m_len
end Tg
open PySem PySem.W PyProof.Rows
set_option maxRecDepth 100000 in
set_option maxHeartbeats 0 in
theorem PySem.Challenge.cw_timegranary_k24_bits_that_tell_columns_holds : PySem.Challenge.rw_timegranary_k24_bits_that_tell_columns.Holds := by
  w_on; o_law; k_head; (case hw => w_witness2)
  k_fill
  refine L2.walk_of (l := PySem.Challenge.rw_timegranary_k24_bits_that_tell_columns) (n := 63) (k := 15) (x := "_law_script") (CX := fun _ => L2.CX0) (sp := fun w => Tg.spLaw _) rfl (by decide) rfl ⟨rfl, by decide, by decide⟩ (fun w h Y => PySem.W.kIn_of Y) ?F (fun _ _ a ns hl _ hS => ⟨a, ns, rfl, hS, hl, fun _ => rfl⟩) (fun _ _ _ _ _ h => h)
  case F =>
    intro w mg fa h KX G hmg
    refine' Tg.all_mk KX G hmg ?aCB ?xCB ?saCB ?gaCB ?ggCB ?noCB ?kcCB ?ecCB ?tcCB ?hcCB ?ccCB ?moCB ?xmCB ?hnC ?htC ?vV ?aCK ?aCL ?aCO ?aCT ?aC1 ?pgC1 ?hdC1 ?poC1 ?saC1 ?mkC1 ?kcC1 ?noC1_guide ?noC1_way ?noC1_bits ?noC1_many ?noC1_passed ?a1 ?t1 ?l1 ?c1 ?k1 ?a2 ?i2 ?l2 ?c2 ?k2 ?a3 ?i3 ?l3 ?c3 ?k3 ?a4 ?i4 ?l4 ?c4 ?k4 ?a5 ?l5 ?c5 ?k5 ?a6 ?l6 ?c6 ?k6 ?a7 ?l7 ?c7 ?k7 ?a8 ?l8 ?c8 ?k8 ?a9 ?l9 ?c9 ?k9 ?a10 ?l10 ?c10 ?k10 ?a11 ?l11 ?c11 ?k11 ?a12 ?l12 ?c12 ?k12 ?a13 ?l13 ?c13 ?k13 ?a14 ?l14 ?c14 ?k14 ?a15 ?l15 ?c15 ?k15 ?a16 ?l16 ?c16 ?k16 ?a17 ?l17 ?c17 ?k17 ?a18 ?l18 ?c18 ?k18 ?a19 ?l19 ?c19 ?k19 ?a20 ?l20 ?c20 ?k20 ?a21 ?l21 ?c21 ?k21 ?a22 ?l22 ?c22 ?k22 ?a23 ?l23 ?c23 ?k23 ?a24 ?l24 ?c24 ?k24 ?a25 ?l25 ?c25 ?k25 ?a26 ?l26 ?c26 ?k26 ?a27 ?l27 ?c27 ?k27 ?a28 ?l28 ?c28 ?k28 ?a29 ?l29 ?c29 ?k29 ?a30 ?l30 ?c30 ?k30 ?a31 ?l31 ?c31 ?k31 ?a32 ?l32 ?c32 ?k32 ?a33 ?l33 ?c33 ?k33 ?a34 ?l34 ?c34 ?k34 ?a35 ?l35 ?c35 ?k35 ?a36 ?l36 ?c36 ?k36 ?a37 ?l37 ?c37 ?k37 ?a38 ?l38 ?c38 ?k38 ?a39 ?l39 ?c39 ?k39 ?a40 ?l40 ?c40 ?k40 ?a41 ?l41 ?c41 ?k41 ?a42 ?l42 ?c42 ?k42 ?z_range ?z_len ?z_max ?z_min ?z_int ?z_zip ?z_sorted ?z_set ?z_enumerate ?z_isinstance ?z_ValueError ?v_SPAN ?v_READERS ?v_BEGIN ?v_WAYS ?lRD ?tRD ?sRD ?r_steps ?r_turns ?r_runs ?r_plain ?r_book ?lT ?cT_ ?nT_ ?vT ?lB ?cB_ ?nB_ ?vB ?sd ?kitV ?kitA
    (case aCB => k_is); (case xCB => k_is); (case saCB => k_is); (case gaCB => k_is); (case ggCB => k_is); (case noCB => k_is)
    (case kcCB => k_is); (case ecCB => k_is); (case tcCB => k_is); (case hcCB => k_is); (case ccCB => k_is); (case moCB => k_is)
    (case xmCB => first | k_is | rfl); (case hnC => k_is); (case htC => k_is); (case vV => first | k_is | rfl); (case aCK => k_is); (case aCL => k_is)
    (case aCO => k_is); (case aCT => k_is); (case aC1 => k_is); (case pgC1 => k_is); (case hdC1 => k_is); (case poC1 => k_is)
    (case saC1 => k_is); (case mkC1 => k_is); (case kcC1 => k_is); (case noC1_guide => k_is); (case noC1_way => k_is); (case noC1_bits => k_is)
    (case noC1_many => k_is); (case noC1_passed => k_is); (case a1 => k_is); (case t1 => k_is); (case l1 => k_is); (case c1 => k_is)
    (case k1 => k_is); (case a2 => k_is); (case i2 => k_is); (case l2 => k_is); (case c2 => k_is); (case k2 => k_is)
    (case a3 => k_is); (case i3 => k_is); (case l3 => k_is); (case c3 => k_is); (case k3 => k_is); (case a4 => k_is)
    (case i4 => k_is); (case l4 => k_is); (case c4 => k_is); (case k4 => k_is); (case a5 => k_is); (case l5 => k_is)
    (case c5 => k_is); (case k5 => k_is); (case a6 => k_is); (case l6 => k_is); (case c6 => k_is); (case k6 => k_is)
    (case a7 => k_is); (case l7 => k_is); (case c7 => k_is); (case k7 => k_is); (case a8 => k_is); (case l8 => k_is)
    (case c8 => k_is); (case k8 => k_is); (case a9 => k_is); (case l9 => k_is); (case c9 => k_is); (case k9 => k_is)
    (case a10 => k_is); (case l10 => k_is); (case c10 => k_is); (case k10 => k_is); (case a11 => k_is); (case l11 => k_is)
    (case c11 => k_is); (case k11 => k_is); (case a12 => k_is); (case l12 => k_is); (case c12 => k_is); (case k12 => k_is)
    (case a13 => k_is); (case l13 => k_is); (case c13 => k_is); (case k13 => k_is); (case a14 => k_is); (case l14 => k_is)
    (case c14 => k_is); (case k14 => k_is); (case a15 => k_is); (case l15 => k_is); (case c15 => k_is); (case k15 => k_is)
    (case a16 => k_is); (case l16 => k_is); (case c16 => k_is); (case k16 => k_is); (case a17 => k_is); (case l17 => k_is)
    (case c17 => k_is); (case k17 => k_is); (case a18 => k_is); (case l18 => k_is); (case c18 => k_is); (case k18 => k_is)
    (case a19 => k_is); (case l19 => k_is); (case c19 => k_is); (case k19 => k_is); (case a20 => k_is); (case l20 => k_is)
    (case c20 => k_is); (case k20 => k_is); (case a21 => k_is); (case l21 => k_is); (case c21 => k_is); (case k21 => k_is)
    (case a22 => k_is); (case l22 => k_is); (case c22 => k_is); (case k22 => k_is); (case a23 => k_is); (case l23 => k_is)
    (case c23 => k_is); (case k23 => k_is); (case a24 => k_is); (case l24 => k_is); (case c24 => k_is); (case k24 => k_is)
    (case a25 => k_is); (case l25 => k_is); (case c25 => k_is); (case k25 => k_is); (case a26 => k_is); (case l26 => k_is)
    (case c26 => k_is); (case k26 => k_is); (case a27 => k_is); (case l27 => k_is); (case c27 => k_is); (case k27 => k_is)
    (case a28 => k_is); (case l28 => k_is); (case c28 => k_is); (case k28 => k_is); (case a29 => k_is); (case l29 => k_is)
    (case c29 => k_is); (case k29 => k_is); (case a30 => k_is); (case l30 => k_is); (case c30 => k_is); (case k30 => k_is)
    (case a31 => k_is); (case l31 => k_is); (case c31 => k_is); (case k31 => k_is); (case a32 => k_is); (case l32 => k_is)
    (case c32 => k_is); (case k32 => k_is); (case a33 => k_is); (case l33 => k_is); (case c33 => k_is); (case k33 => k_is)
    (case a34 => k_is); (case l34 => k_is); (case c34 => k_is); (case k34 => k_is); (case a35 => k_is); (case l35 => k_is)
    (case c35 => k_is); (case k35 => k_is); (case a36 => k_is); (case l36 => k_is); (case c36 => k_is); (case k36 => k_is)
    (case a37 => k_is); (case l37 => k_is); (case c37 => k_is); (case k37 => k_is); (case a38 => k_is); (case l38 => k_is)
    (case c38 => k_is); (case k38 => k_is); (case a39 => k_is); (case l39 => k_is); (case c39 => k_is); (case k39 => k_is)
    (case a40 => k_is); (case l40 => k_is); (case c40 => k_is); (case k40 => k_is); (case a41 => k_is); (case l41 => k_is)
    (case c41 => k_is); (case k41 => k_is); (case a42 => k_is); (case l42 => k_is); (case c42 => k_is); (case k42 => k_is)
    (case z_range => k_is); (case z_len => k_is); (case z_max => k_is); (case z_min => k_is); (case z_int => k_is); (case z_zip => k_is)
    (case z_sorted => k_is); (case z_set => k_is); (case z_enumerate => k_is); (case z_isinstance => k_is); (case z_ValueError => k_is); (case v_SPAN => k_is)
    (case v_READERS => k_is); (case v_BEGIN => k_is); (case v_WAYS => k_is); (case lRD => k_is); (case tRD => exact ⟨⟨_, _, rfl, rfl⟩, ⟨⟨_, _, rfl, rfl⟩, ⟨⟨_, _, rfl, rfl⟩, trivial⟩⟩⟩); (case sRD => first | rfl | decide +kernel)
    (case r_steps => k_is); (case r_turns => k_is); (case r_runs => k_is); (case r_plain => k_is); (case r_book => k_is); (case lT => k_is)
    (case cT_ => rfl); (case nT_ => decide +kernel); (case vT => exact .cons ⟨_, rfl⟩ (.cons ⟨_, rfl⟩ (.cons ⟨_, rfl⟩ (.cons ⟨_, rfl⟩ (.cons ⟨_, rfl⟩ .nil))))); (case lB => k_is); (case cB_ => rfl); (case nB_ => decide +kernel)
    (case vB => exact .cons ⟨_, rfl⟩ (.cons ⟨_, rfl⟩ (.cons rfl .nil))); (case sd => first | k_is | rfl); (case kitV => first | k_is | rfl); (case kitA => first | k_is | rfl)

