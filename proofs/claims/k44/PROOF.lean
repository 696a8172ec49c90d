import PyProof.Rows.All
import Wide.All
import OpenK.AllK
import Wide.FinOn
import HandS.ForMost
import HandS.Conv
import HandS.Wide
import HandS.IsInst
import HandS.Defaults
import HandS.Dict
import HandS.Iter
import HandS.Walk
import HandS.Exc
import HandS.ExcInit
import HandS.ExcIs
import HandS.ExcField
import HandS.ExcValue
import KE.KExcIs
import KE.KTryMore
import HandS.WordsExc
import HandS.ExcOwn
import PyProof.ReprRoads
import HandS.FStr
import HandS.OwnEq
import HandS.Zip
import KE.GoesNew
import KE.GoesMore
import KE.GoesEnum
import KE.KIndexOf
import KE.GoesEnumKw
import PyProof.Rows.CallKwBuiltin
import HandS.Text
import PyProof.MeetsStr3
import PyProof.StrLawsLast
import PyProof.StrLawsIn
import HandS.Codes
import PyProof.InstSpecial
import KE.KDictZip
import KE.KTurns
import HandS.WideBits
import KE.IntBitsLaws
import PySem.Challenge.RW_timegranary_k44_whole_logs_spoilt
import HandS.MakeKwOnly
set_option Elab.async false
set_option linter.all false
set_option maxRecDepth 100000
namespace Tg
open PySem PySem.Spec PyProof.Rows L2

/-! ### rules of my own: a call by keywords alone; list(range(a, b, c)) -/
section
variable {X : Cx} {CX : CXT} {k : Nat} {f : Addr} {fd : FuncData} {ps ks : List Str} {sp : Sp} {E : XK} {x : Str} {p pos : Pos} {kws : List Keyword} {tk : TA}
  {g : List Value → List Value → List Value} {gV : List V → List V → List V}
def tKw0 (n : Nat) (sp : Sp) (gV : List V → List V → List V) (E : XK) (tk : TA) : TE :=
  fun σ H Q => tk σ H fun zs H2 => zs.length = n ∧ sp (gV [] zs) H2 Q E
theorem pe_kw0 (F : FnOk X.prog X.w X.K X.mg X.base CX k f fd ps sp) (room : Room k X.A) (gl : Gl X x) (at_x : X.mg x = some (.ref f)) (kept : PySem.W.keepIn X.K (.ref f) = true) (binds : KBn X.K fd ps 0 ks g gV) (lets : Passes CX X E) (vals : PK X kws tk)
    (named : (backToKw pos (keywordEach kws X.env)).all (·.1.isSome) = true := by rfl) (names : (backToKw pos (keywordEach kws X.env)).filterMap (·.1) = ks := by rfl) (nodebug : (x == ("__debug__" : Str)) = false := by decide)
    (nostar : ((backTo pos (starEach [] X.env)).any (·.1) || (backToKw pos (keywordEach kws X.env)).any (·.1.isNone)) = false := by rfl) : PE X (.Call (.Name x p) [] kws pos) (tKw0 ks.length sp gV E tk) := by
  constructor
  intro pins s σ H Q I read
  refine wpAny_Call_Name_kw (ld_glob I gl at_x (PySem.W.callWith_KW0 (h₀ := X.base) I.ok.mod.kin kept named (thn (vals.run pos pins s σ H _ I read) fun ws s2 y => ?_) nostar) nodebug)
  obtain ⟨zs, H2, J, rel, many, h⟩ := y
  rw [names]
  exact ⟨J.kIn, run_fnN (us := []) (vs := []) F room binds lets J .nil rel rfl many h⟩
end

/-- two keywords, the second parameter's first -/
def sw2 {α : Type} : List α → List α
  | [y, x] => [x, y]
  | _ => []
/-- three keywords, the parameters' from the last on -/
def sw3 {α : Type} : List α → List α
  | [z, y, x] => [x, y, z]
  | _ => []
theorem sw2_rel : ∀ {zs : List V} {ws : List Value}, Vals zs ws → Vals (sw2 zs) (sw2 ws)
  | _, _, .nil => .nil
  | _, _, .cons _ .nil => .nil
  | _, _, .cons a (.cons b .nil) => .cons b (.cons a .nil)
  | _, _, .cons _ (.cons _ (.cons _ _)) => .nil
theorem sw3_rel : ∀ {zs : List V} {ws : List Value}, Vals zs ws → Vals (sw3 zs) (sw3 ws)
  | _, _, .nil => .nil
  | _, _, .cons _ .nil => .nil
  | _, _, .cons _ (.cons _ .nil) => .nil
  | _, _, .cons a (.cons b (.cons c .nil)) => .cons c (.cons b (.cons a .nil))
  | _, _, .cons _ (.cons _ (.cons _ (.cons _ _))) => .nil

section
variable {X : Cx} {a b c : Expr} {ta : TA}
def rg3 (a c : Int) (n : Nat) : List V := (List.range n).map fun i => V.int (a + (i : Nat) * c)
theorem rg3_length (a c : Int) (n : Nat) : (rg3 a c n).length = n := by
  simp [rg3]
def R3 (a b c : Int) (n : Nat) : Prop :=
  c ≠ 0 ∧ c.natAbs.log2 < 9000 ∧ Builtin.Range.small a b c = true ∧ Builtin.Range.rangeSize a b c = n ∧ n ≤ 2 ^ 24
def tLst3 (ta : TA) : TE := fun σ H Q => ta σ H fun vs H1 => ∃ (a b c : Int) (n : Nat), vs = [.int a, .int b, .int c] ∧ R3 a b c n ∧
  ∀ q, H1 q = none → Q (.ref q) (upd H1 q (.lst (rg3 a c n)))
theorem pe_lst3 {p p2 pos pos2 : Pos} (calm : X.calm = true) (gl : Gl X "list") (nl : X.mg "list" = none) (gr : Gl X "range") (nr : X.mg "range" = none) (args : PA X [a, b, c] ta)
    (one : starEach [a, b, c] X.env = (false, eval a X.env) :: starEach [b, c] X.env := by rfl) (nostar : (backTo pos2 (starEach [b, c] X.env)).any (·.1) = false := by rfl)
    (whole : starEach [.Call (.Name "range" p2) [a, b, c] [] pos2] X.env = (false, eval (.Call (.Name "range" p2) [a, b, c] [] pos2) X.env) :: starEach [] X.env := by rfl) :
    PE X (.Call (.Name "list" p) [.Call (.Name "range" p2) [a, b, c] [] pos2] [] pos) (tLst3 ta) := by
  constructor
  intro pins s σ H Q I read
  refine Call_ (ld_blt I gl nl boot_list (PyProof.Rows.callWith_type1 (args_cons (Call_ (ld_blt I gr nr boot_range (PyProof.Rows.callWith_type1 (thn (args.run pos2 pins s σ H _ I read) fun us s1 y => ?_) one nostar))) whole) whole))
  obtain ⟨zs, H1, J, rel, i, j, k, n, e, ⟨c0, c1, c2, c3, c4⟩, h⟩ := y
  subst e
  match us, rel with
  | [_, _, _], .cons ⟨t, ei⟩ (.cons ⟨u, ej⟩ (.cons ⟨v, ek⟩ .nil)) =>
    subst ei
    subst ej
    subst ek
    refine call_range_3 c0 (args_nil ?_) (.inl (PyProof.noPylong_of_log2 c1))
    obtain ⟨hx, ehx⟩ : ∃ hx, hx = s1.heap.push { cls := .type "range", data := .fields #[.int i t, .int j u, .int k v] } := ⟨_, rfl⟩
    have J2 : Inv X pins σ H1 { s1 with heap := hx } := by
      rw [ehx]
      exact J.kept (t' := s1.toks) fun _ _ z => Heap.get?_push_of_some _ z
    rw [← ehx]
    refine call_list_range (s := { s1 with heap := hx }) (n := n) (J2.ok.hd calm) (by rw [ehx]; exact IsRange.new ..) c2 c3 c4 fun h' tk acc cc kp made items => ?_
    have len : acc.toList.length = n := Array.length_toList.trans items.1
    have vals : Vals (rg3 i k n) acc.toList := by
      have z := vals_of_get acc.toList (fun m : Nat => V.int (i + m * k)) fun m w hw => by
        obtain ⟨tw, ew⟩ := items.2 m w (by rw [← hw, Array.getElem?_toList])
        exact ⟨tw, ew⟩
      rw [len] at z
      exact z
    refine ⟨.ref hx.objs.size, upd H1 hx.objs.size (.lst (rg3 i k n)), J2.laid kp (Nat.le_refl _) (show ObjOk X.prog X.w _ _ _ (.lst (rg3 i k n)) from ⟨?_, acc.toList, cc, vals, ?_⟩), rfl, h _ (J2.hok.fresh (Nat.le_refl _))⟩
    · rw [rg3_length, sizeLine_eq]
      omega
    · rw [Array.toArray_toList]
      exact made
end

/-! ### lists of ints, compared -/
theorem dp_ints {K : PySem.W.Frag} {H : Hp} : ∀ ns : List Int, DpAll K H (ns.map V.int) (ns.map PyData.int)
  | [] => .nil
  | n :: r => .cons (.int n) (dp_ints r)
theorem lay_ints : ∀ ns : List Int, PyData.canLayAll0 (ns.map PyData.int) = true
  | [] => rfl
  | n :: r => by
    show (true && PyData.canLayAll0 (r.map PyData.int)) = true
    rw [lay_ints r]
    rfl
theorem depth_ints : ∀ ns : List Int, PyData.depthAll (ns.map PyData.int) = 0
  | [] => rfl
  | n :: r => by
    show max 0 (PyData.depthAll (r.map PyData.int)) = 0
    rw [depth_ints r]
    rfl
theorem shaped_ints (ns : List Int) : SeqAt.shaped (.list (ns.map PyData.int)) = true := by
  unfold SeqAt.shaped
  have h1 : PyData.canLay0 (.list (ns.map PyData.int)) = true := lay_ints ns
  have h2 : PyData.depth (.list (ns.map PyData.int)) = 1 := by
    show PyData.depthAll (ns.map PyData.int) + 1 = 1
    rw [depth_ints]
  rw [h1, h2]
  rfl
theorem eqv_ints : ∀ ns : List Int, PyData.eqvAll (ns.map PyData.int) (ns.map PyData.int) = true
  | [] => rfl
  | n :: r => by
    show ((n == n) && PyData.eqvAll (r.map PyData.int) (r.map PyData.int)) = true
    rw [eqv_ints r, beq_self_eq_true]
    rfl
theorem dp_lst {K : PySem.W.Frag} {H : Hp} {a : Addr} {ns : List Int} (h : SqL K H a (ns.map V.int)) : Dp K H (.ref a) (.list (ns.map PyData.int)) := .lst h (dp_ints ns)
end Tg

namespace Tg
open PySem PySem.Spec PyProof.Rows L2
/-! ### defs, methods and classes as a caller needs them -/
section
variable (P : Program) (w : World) (K : PySem.W.Frag) (mg : Str → Option Value) (base : Heap)
/-- the def x is there, and keeps sp by level k -/
def Cal (k : Nat) (x : Str) (ps : List Str) (sp : Sp) : Prop := ∃ f fd, FnOk P w K mg base CX0 k f fd ps sp ∧ mg x = some (.ref f) ∧ PySem.W.keepIn K (.ref f) = true ∧ Binds K fd ps []
/-- the places that is tells, out of a list -/
def prm {α : Type} (is : List Nat) (zs : List α) : List α := is.filterMap fun i => zs[i]?
/-- the same with keywords alone, ks in this order; is: the places of the parameters among them -/
def CalK (k : Nat) (x : Str) (ps ks : List Str) (is : List Nat) (sp : Sp) : Prop := ∃ f fd, FnOk P w K mg base CX0 k f fd ps sp ∧ mg x = some (.ref f) ∧ PySem.W.keepIn K (.ref f) = true ∧ KBn K fd ps 0 ks (fun _ ws => prm is ws) (fun _ zs => prm is zs)
/-- a method of the class C -/
def CalM (k : Nat) (C : Addr) (m : Str) (ps : List Str) (sp : Sp) : Prop := ∃ f fd, FnOk P w K mg base CX0 k f fd ps sp ∧ Meth K C m f ∧ Binds K fd ps []
def CalMK (k : Nat) (C : Addr) (m : Str) (ps ks : List Str) (is : List Nat) (sp : Sp) : Prop := ∃ f fd, FnOk P w K mg base CX0 k f fd ps sp ∧ Meth K C m f ∧ KBn K fd ps 1 ks (fun us ws => us ++ prm is ws) (fun vs zs => vs ++ prm is zs)
/-- a class, by its __init__ -/
def CalC (k : Nat) (x : Str) (C : Addr) (ps : List Str) (sp : Sp) : Prop := ∃ f fd, FnOk P w K mg base CX0 k f fd ps sp ∧ mg x = some (.ref C) ∧ Mk K C f ∧ Binds K fd ps []
end
theorem vals_at : ∀ {zs : List V} {ws : List Value}, Vals zs ws → ∀ i : Nat, (zs[i]? = none ∧ ws[i]? = none) ∨ ∃ z w, zs[i]? = some z ∧ ws[i]? = some w ∧ RelV z w
  | _, _, .nil, i => .inl ⟨by simp, by simp⟩
  | _, _, .cons a b, i => by
    cases i with
    | zero => exact .inr ⟨_, _, rfl, rfl, a⟩
    | succ i => exact vals_at b i
theorem prm_rel {zs : List V} {ws : List Value} (h : Vals zs ws) : ∀ is : List Nat, Vals (prm is zs) (prm is ws)
  | [] => .nil
  | i :: r => by
    have ih := prm_rel h r
    unfold prm at ih ⊢
    rcases vals_at h i with ⟨h1, h2⟩ | ⟨z, w, h1, h2, h3⟩
    · rw [List.filterMap_cons_none h1, List.filterMap_cons_none h2]
      exact ih
    · rw [List.filterMap_cons_some h1, List.filterMap_cons_some h2]
      exact .cons h3 ih
section
variable {X : Cx} {k : Nat} {ps ks : List Str} {is : List Nat} {sp : Sp} {x m : Str} {C : Addr} {o e : Expr} {es : List Expr} {p pos apos : Pos} {kws : List Keyword} {ta t tk : TA} {to : TE}
theorem pe_cal (c : Cal X.prog X.w X.K X.mg X.base k x ps sp) (hr : Room k X.A) (gl : Gl X x) (ha : PA X (e :: es) t) (hdb : (x == ("__debug__" : Str)) = false := by decide)
    (he : starEach (e :: es) X.env = (false, eval e X.env) :: starEach es X.env := by rfl) (hpl : (backTo pos (starEach es X.env)).any (·.1) = false := by rfl) : PE X (.Call (.Name x p) (e :: es) [] pos) (tCall sp [] E0 t) := by
  obtain ⟨f, fd, F, hm, hk, hb⟩ := c
  exact pe_call F hr gl hm hk hb .nil pass0 ha hdb he hpl
theorem pe_calK (c : CalK X.prog X.w X.K X.mg X.base k x ps ks is sp) (hr : Room k X.A) (gl : Gl X x) (vals : PK X kws tk)
    (named : (backToKw pos (keywordEach kws X.env)).all (·.1.isSome) = true := by rfl) (names : (backToKw pos (keywordEach kws X.env)).filterMap (·.1) = ks := by rfl) (nodebug : (x == ("__debug__" : Str)) = false := by decide)
    (nostar : ((backTo pos (starEach [] X.env)).any (·.1) || (backToKw pos (keywordEach kws X.env)).any (·.1.isNone)) = false := by rfl) :
    PE X (.Call (.Name x p) [] kws pos) (tKw0 ks.length sp (fun _ zs => prm is zs) E0 tk) := by
  obtain ⟨f, fd, F, hm, hk, hb⟩ := c
  exact pe_kw0 F hr gl hm hk hb pass0 vals named names nodebug nostar
theorem pe_calM {pl : Sem Bool} (he : PE X o to) (cl : Cls X.K C) (c : CalM X.prog X.w X.K X.mg X.base k C m ps sp) (hr : Room k X.A) (ha : PA X (e :: es) t)
    (hst : starEach (e :: es) X.env = (false, eval e X.env) :: starEach es X.env := by rfl) (hpl : (backTo pos (starEach es X.env)).any (·.1) = false := by rfl) (ht : eval (.Call (.Attribute o m apos) (e :: es) [] pos) X.env = (do let ov ← eval o X.env; standAt apos.atName; let (f, first) ← holding [ov] (getMethod ov m pl); callWith pos f first (backTo pos (starEach (e :: es) X.env)) (backToKw pos (keywordEach [] X.env))) := by rfl) :
    PE X (.Call (.Attribute o m apos) (e :: es) [] pos) (tMeth C m sp [] E0 to t) := by
  obtain ⟨f, fd, F, hm, hb⟩ := c
  exact pe_meth (pl := pl) he cl hm F hr hb .nil pass0 ha hst hpl ht
theorem pe_calM0 {pl : Sem Bool} (he : PE X o to) (cl : Cls X.K C) (c : CalM X.prog X.w X.K X.mg X.base k C m ps sp) (hr : Room k X.A)
    (ht : eval (.Call (.Attribute o m apos) [] [] pos) X.env = (do let ov ← eval o X.env; standAt apos.atName; let (f, first) ← holding [ov] (getMethod ov m pl); callWith pos f first (backTo pos (starEach [] X.env)) (backToKw pos (keywordEach [] X.env))) := by rfl) :
    PE X (.Call (.Attribute o m apos) [] [] pos) (tMeth C m sp [] E0 to tNil) := by
  obtain ⟨f, fd, F, hm, hb⟩ := c
  exact pe_meth0 (pl := pl) he cl hm F hr hb .nil pass0 ht
/-- o.m(k = v, ..) -/
def tMethK (C : Addr) (m : Str) (n : Nat) (sp : Sp) (is : List Nat) (E : XK) (to : TE) (tk : TA) : TE := fun σ H Q => to σ H fun x H1 => ∃ a dx fs, x = .ref a ∧ H1 a = some (.ins C dx fs) ∧ fs.lookup m = none ∧ tk σ H1 fun zs H2 => zs.length = n ∧ sp (x :: prm is zs) H2 Q E
theorem pe_calMK {pl : Sem Bool} (he : PE X o to) (cl : Cls X.K C) (c : CalMK X.prog X.w X.K X.mg X.base k C m ps ks is sp) (hr : Room k X.A) (vals : PK X kws tk)
    (named : (backToKw pos (keywordEach kws X.env)).all (·.1.isSome) = true := by rfl) (names : (backToKw pos (keywordEach kws X.env)).filterMap (·.1) = ks := by rfl)
    (nostar : ((backTo pos (starEach [] X.env)).any (·.1) || (backToKw pos (keywordEach kws X.env)).any (·.1.isNone)) = false := by rfl)
    (ht : eval (.Call (.Attribute o m apos) [] kws pos) X.env = (do let ov ← eval o X.env; standAt apos.atName; let (f, first) ← holding [ov] (getMethod ov m pl); callWith pos f first (backTo pos (starEach [] X.env)) (backToKw pos (keywordEach kws X.env))) := by rfl) :
    PE X (.Call (.Attribute o m apos) [] kws pos) (tMethK C m ks.length sp is E0 to tk) := by
  obtain ⟨f, fd, F, hm, hb⟩ := c
  constructor
  intro pins s σ H Q I read
  refine PySem.W.methodCall_KW (pl := pl) (thn (he.run pins s σ H _ I read) fun u s1 ⟨x, H1, I1, rx, a, dx, fs, ex, ea, l, q⟩ => ?_) ht
  subst ex
  obtain rfl : u = .ref a := rx
  refine getmeth_ok I1 ea cl hm l ?_
  refine PySem.W.callWith_KW0 (first := [.ref a]) (h₀ := X.base) I.ok.mod.kin hm.kp named (thn (vals.run pos pins s1 σ H1 _ I1 q) fun ws s2 y => ?_) nostar
  obtain ⟨zs, H2, J, rel, many, h⟩ := y
  rw [names]
  exact ⟨J.kIn, run_fnN (E := E0) (us := [.ref a]) (vs := [.ref a]) F hr hb pass0 J (.cons rfl .nil) rel rfl many h⟩
theorem pe_calC0 (c : CalC X.prog X.w X.K X.mg X.base k x C ps sp) (hr : Room (k + 1) X.A) (gl : Gl X x) (hdb : (x == ("__debug__" : Str)) = false := by decide) : PE X (.Call (.Name x p) [] [] pos) (tMake C sp [] E0 tNil) := by
  obtain ⟨f, fd, F, hm, M, hb⟩ := c
  exact pe_make0 M F hr gl hm hb .nil pass0 hdb
theorem pe_calC (c : CalC X.prog X.w X.K X.mg X.base k x C ps sp) (hr : Room (k + 1) X.A) (gl : Gl X x) (ha : PA X (e :: es) t) (hdb : (x == ("__debug__" : Str)) = false := by decide)
    (he : starEach (e :: es) X.env = (false, eval e X.env) :: starEach es X.env := by rfl) (hpl : (backTo pos (starEach es X.env)).any (·.1) = false := by rfl) : PE X (.Call (.Name x p) (e :: es) [] pos) (tMake C sp [] E0 t) := by
  obtain ⟨f, fd, F, hm, M, hb⟩ := c
  exact pe_make M F hr gl hm hb .nil pass0 ha hdb he hpl
end
end Tg

namespace Tg
open PySem PySem.Spec PyProof.Rows L2
/-! ### the heap: what stands -/
/-- all but p stands as it stood -/
def Kp (p : Addr) (H H' : Hp) : Prop := ∀ b o, b ≠ p → H b = some o → H' b = some o
theorem Kp.refl (p : Addr) (H : Hp) : Kp p H H := fun _ _ _ h => h
theorem Kp.trans {p : Addr} {H H1 H2 : Hp} (a : Kp p H H1) (b : Kp p H1 H2) : Kp p H H2 := fun c o hc h => b c o hc (a c o hc h)
theorem Kp.of {p : Addr} {H H' : Hp} (s : Same H H') : Kp p H H' := fun c o _ h => s c o h
theorem Kp.put {p : Addr} {H : Hp} {o : HO} : Kp p H (upd H p o) := fun c u hc h => by
  rw [upd_ne hc]
  exact h
/-- what is new stays apart -/
theorem Kp.same {p : Addr} {H H1 H2 : Hp} (s : Same H H1) (n : H p = none) (k : Kp p H1 H2) : Same H H2 := fun b o h => k b o (ne_of_none h n) (s b o h)
theorem same_new {H : Hp} {p : Addr} {o : HO} (h : H p = none) : Same H (upd H p o) := fun b x e => by
  rw [upd_ne (ne_of_none e h)]
  exact e
theorem same_put {H H' : Hp} {D : Addr} {o : HO} (n : H D = none) (s : Same H H') : Same H (upd H' D o) := fun b x e => by
  rw [upd_ne (ne_of_none e n)]
  exact s _ _ e
/-- what can't be changed: tuples, and what is locked -/
def Fix : HO → Prop
  | .tup _ => True
  | .frz _ _ => True
  | _ => False
/-- all that can't be changed stands -/
def KT (H H' : Hp) : Prop := ∀ a o, Fix o → H a = some o → H' a = some o
theorem KT.refl (H : Hp) : KT H H := fun _ _ _ h => h
theorem KT.trans {H H1 H2 : Hp} (a : KT H H1) (b : KT H1 H2) : KT H H2 := fun c o f h => b c o f (a c o f h)
theorem KT.of {H H' : Hp} (s : Same H H') : KT H H' := fun c o _ h => s c o h
theorem KT.kp {p : Addr} {H H' : Hp} {o : HO} (k : Kp p H H') (h : H p = some o) (n : ¬ Fix o) : KT H H' := fun a u f e => k a u (fun z => n (by
  rw [z, h] at e
  cases e
  exact f)) e
theorem KT.put {p : Addr} {H : Hp} {o u : HO} (h : H p = some o) (n : ¬ Fix o) : KT H (upd H p u) := KT.kp Kp.put h n
theorem KT.new {p : Addr} {H : Hp} {u : HO} (h : H p = none) : KT H (upd H p u) := KT.of (same_new h)
theorem nfix_lst {xs : List V} : ¬ Fix (.lst xs) := fun z => z
theorem nfix_dK {xs : List (Key × V)} : ¬ Fix (.dK xs) := fun z => z
theorem nfix_ins {C dx : Addr} {fs : List (Str × V)} : ¬ Fix (.ins C dx fs) := fun z => z
/-! ### data -/
theorem rd_same {H H' : Hp} {a : Addr} {o : HO} (s : Same H H') (h : Rd H a o) : Rd H' a o := by
  rcases h with h | ⟨ob, h⟩
  · exact .inl (s _ _ h)
  · exact .inr ⟨ob, s _ _ h⟩
theorem sqL_same {K : PySem.W.Frag} {H H' : Hp} {a : Addr} {xs : List V} (s : Same H H') (h : SqL K H a xs) : SqL K H' a xs := h.imp (rd_same s) id
theorem sqT_same {K : PySem.W.Frag} {H H' : Hp} {a : Addr} {xs : List V} (s : Same H H') (h : SqT K H a xs) : SqT K H' a xs := h.imp (rd_same s) id
theorem sqT_kt {K : PySem.W.Frag} {H H' : Hp} {a : Addr} {xs : List V} (s : KT H H') (h : SqT K H a xs) : SqT K H' a xs := by
  refine h.imp (fun h => ?_) id
  rcases h with h | ⟨ob, h⟩
  · exact .inl (s _ _ trivial h)
  · exact .inr ⟨ob, s _ _ trivial h⟩
mutual
theorem dp_same {K : PySem.W.Frag} {H H' : Hp} (s : Same H H') : ∀ {x : V} {d : PyData}, Dp K H x d → Dp K H' x d
  | _, _, .non => .non
  | _, _, .bl b => .bl b
  | _, _, .int i => .int i
  | _, _, .str z => .str z
  | _, _, .lst a b => .lst (sqL_same s a) (dpAll_same s b)
  | _, _, .tup a b => .tup (sqT_same s a) (dpAll_same s b)
theorem dpAll_same {K : PySem.W.Frag} {H H' : Hp} (s : Same H H') : ∀ {xs : List V} {ds : List PyData}, DpAll K H xs ds → DpAll K H' xs ds
  | _, _, .nil => .nil
  | _, _, .cons a b => .cons (dp_same s a) (dpAll_same s b)
end
/-- no list and no dict in it -/
inductive TD : PyData → Prop
  | non : TD .none
  | bl (b : Bool) : TD (.bool b)
  | int (i : Int) : TD (.int i)
  | str (z : Str) : TD (.str z)
  | tup {ds : List PyData} : (∀ d, d ∈ ds → TD d) → TD (.tuple ds)
mutual
theorem dp_kt {K : PySem.W.Frag} {H H' : Hp} (s : KT H H') : ∀ {x : V} {d : PyData}, Dp K H x d → TD d → Dp K H' x d
  | _, _, .non, _ => .non
  | _, _, .bl b, _ => .bl b
  | _, _, .int i, _ => .int i
  | _, _, .str z, _ => .str z
  | _, _, .lst _ _, t => nomatch t
  | _, _, .tup a b, .tup t => .tup (sqT_kt s a) (dpAll_kt s b t)
theorem dpAll_kt {K : PySem.W.Frag} {H H' : Hp} (s : KT H H') : ∀ {xs : List V} {ds : List PyData}, DpAll K H xs ds → (∀ d, d ∈ ds → TD d) → DpAll K H' xs ds
  | _, _, .nil, _ => .nil
  | _, _, .cons a b, t => .cons (dp_kt s a (t _ List.mem_cons_self)) (dpAll_kt s b fun d hd => t d (List.mem_cons_of_mem _ hd))
end
theorem dpAll_len {K : PySem.W.Frag} {H : Hp} : ∀ {xs : List V} {ds : List PyData}, DpAll K H xs ds → xs.length = ds.length
  | _, _, .nil => rfl
  | _, _, .cons _ b => congrArg Nat.succ (dpAll_len b)
theorem dpAll_at {K : PySem.W.Frag} {H : Hp} : ∀ {xs : List V} {ds : List PyData}, DpAll K H xs ds → ∀ (i : Nat) (x : V), xs[i]? = some x → ∃ d, ds[i]? = some d ∧ Dp K H x d
  | _, _, .nil => fun i x h => by simp at h
  | _, _, .cons a b => fun i x h => by
    cases i with
    | zero =>
      simp only [Option.some.injEq, List.getElem?_cons_zero] at h
      subst h
      exact ⟨_, rfl, a⟩
    | succ i =>
      rw [List.getElem?_cons_succ] at h ⊢
      exact dpAll_at b i x h
theorem dpAll_tk {K : PySem.W.Frag} {H : Hp} : ∀ {xs : List V} {ds : List PyData}, DpAll K H xs ds → ∀ (i : Nat) (d : PyData), ds[i]? = some d → ∃ x, xs[i]? = some x ∧ Dp K H x d
  | _, _, .nil => fun i x h => by simp at h
  | _, _, .cons a b => fun i x h => by
    cases i with
    | zero =>
      simp only [Option.some.injEq, List.getElem?_cons_zero] at h
      subst h
      exact ⟨_, rfl, a⟩
    | succ i =>
      rw [List.getElem?_cons_succ] at h ⊢
      exact dpAll_tk b i x h
theorem dpAll_app {K : PySem.W.Frag} {H : Hp} : ∀ {xs ys : List V} {ds es : List PyData}, DpAll K H xs ds → DpAll K H ys es → DpAll K H (xs ++ ys) (ds ++ es)
  | _, _, _, _, .nil, h => h
  | _, _, _, _, .cons a b, h => .cons a (dpAll_app b h)
theorem dpAll_snoc {K : PySem.W.Frag} {H : Hp} {xs : List V} {ds : List PyData} {y : V} {e : PyData} (h : DpAll K H xs ds) (a : Dp K H y e) : DpAll K H (xs ++ [y]) (ds ++ [e]) := dpAll_app h (.cons a .nil)
/-- a list of data that can't be changed itself -/
def LD (K : PySem.W.Frag) (H : Hp) (a : Addr) (ds : List PyData) : Prop := ∃ xs, H a = some (.lst xs) ∧ DpAll K H xs ds
theorem LD.dp {K : PySem.W.Frag} {H : Hp} {a : Addr} {ds : List PyData} (h : LD K H a ds) : Dp K H (.ref a) (.list ds) := by
  obtain ⟨xs, h1, h2⟩ := h
  exact .lst (SqL.of h1) h2
theorem LD.same {K : PySem.W.Frag} {H H' : Hp} {a : Addr} {ds : List PyData} (s : Same H H') (h : LD K H a ds) : LD K H' a ds := by
  obtain ⟨xs, h1, h2⟩ := h
  exact ⟨xs, s _ _ h1, dpAll_same s h2⟩
/-- where the list itself stands and all tuples do -/
theorem LD.kt {K : PySem.W.Frag} {H H' : Hp} {a : Addr} {ds : List PyData} (s : KT H H') (e : ∀ o, H a = some o → H' a = some o) (t : ∀ d, d ∈ ds → TD d) (h : LD K H a ds) : LD K H' a ds := by
  obtain ⟨xs, h1, h2⟩ := h
  exact ⟨xs, e _ h1, dpAll_kt s h2 t⟩
theorem LD.kp {K : PySem.W.Frag} {H H' : Hp} {a p : Addr} {o : HO} {ds : List PyData} (k : Kp p H H') (hp : H p = some o) (n : ¬ Fix o) (ne : a ≠ p) (t : ∀ d, d ∈ ds → TD d) (h : LD K H a ds) : LD K H' a ds :=
  h.kt (KT.kp k hp n) (fun u e => k _ _ ne e) t
/-- one more at the end -/
theorem LD.snoc {K : PySem.W.Frag} {H H1 : Hp} {a : Addr} {xs : List V} {ds : List PyData} {y : V} {e : PyData} (k : KT H H1) (h1 : H1 a = some (.lst xs)) (hd : DpAll K H xs ds) (t : ∀ d, d ∈ ds → TD d) (hy : Dp K H1 y e) (te : TD e) :
    LD K (upd H1 a (.lst (xs ++ [y]))) a (ds ++ [e]) :=
  ⟨_, upd_same, dpAll_snoc (dpAll_kt (k.trans (KT.put h1 nfix_lst)) hd t) (dp_kt (KT.put h1 nfix_lst) hy te)⟩
theorem shaped_of {d : PyData} (h1 : d.canLay0 = true) (h2 : d.depth ≤ 64) : SeqAt.shaped d = true := by
  unfold SeqAt.shaped
  rw [h1, decide_eq_true h2]
  rfl
theorem if_f {A B : Prop} (h : B) : if false = true then A else B := by
  rw [if_neg (by decide)]
  exact h
theorem if_t {A B : Prop} (h : A) : if true = true then A else B := by
  rw [if_pos rfl]
  exact h
theorem atI_mem {xs : List Int} {i : Int} (h0 : 0 ≤ i) (h1 : i < xs.length) : ∃ v, v ∈ xs ∧ atI (xs.map V.int) i = some (.int v) := by
  have hn : i.toNat < xs.length := by omega
  obtain ⟨j, rfl⟩ : ∃ j : Nat, i = (j : Int) := ⟨i.toNat, by omega⟩
  have hj : j < xs.length := by omega
  refine ⟨xs[j], List.getElem_mem hj, atI_nat ?_⟩
  rw [List.getElem?_map, List.getElem?_eq_getElem hj]
  rfl
end Tg

namespace Tg
open PySem L2
/-! ### rows: time, number, worth or none -/
abbrev Rw := Int × Int × Option Int
def Lt (x y : Rw) : Prop := x.1 < y.1 ∨ (x.1 = y.1 ∧ x.2.1 < y.2.1)
def Srt (rs : List Rw) : Prop := rs.Pairwise Lt
theorem Lt.irr (x : Rw) : ¬ Lt x x := fun h => by
  rcases h with h | h
  · omega
  · omega
theorem Srt.sub {rs : List Rw} (h : Srt rs) (p : Rw → Bool) : Srt (rs.filter p) := List.Pairwise.filter p h
/-- r is the last row of its time with a number up to n -/
def IsLast (rs : List Rw) (n : Int) (r : Rw) : Prop := r ∈ rs ∧ r.2.1 ≤ n ∧ ∀ q, q ∈ rs → q.1 = r.1 → q.2.1 ≤ n → q.2.1 ≤ r.2.1
theorem srt_tri {rs : List Rw} (h : Srt rs) {a b : Rw} (ha : a ∈ rs) (hb : b ∈ rs) : a = b ∨ Lt a b ∨ Lt b a := by
  induction rs with
  | nil => cases ha
  | cons x r ih =>
    have ⟨h1, h2⟩ := List.pairwise_cons.mp (show (x :: r).Pairwise Lt from h)
    rcases List.mem_cons.mp ha with e1 | a1
    · rcases List.mem_cons.mp hb with e2 | b1
      · exact .inl (e1.trans e2.symm)
      · rw [e1]
        exact .inr (.inl (h1 b b1))
    · rcases List.mem_cons.mp hb with e2 | b1
      · rw [e2]
        exact .inr (.inr (h1 a a1))
      · exact ih h2 a1 b1
theorem srt_same {rs : List Rw} (h : Srt rs) {a b : Rw} (ha : a ∈ rs) (hb : b ∈ rs) (e1 : a.1 = b.1) (e2 : a.2.1 = b.2.1) : a = b := by
  rcases srt_tri h ha hb with e | (e | e) | (e | e)
  · exact e
  · omega
  · omega
  · omega
  · omega
theorem last_uniq {rs : List Rw} (h : Srt rs) {n : Int} {a b : Rw} (ha : IsLast rs n a) (hb : IsLast rs n b) (e : a.1 = b.1) : a = b := by
  have h1 := ha.2.2 b hb.1 e.symm hb.2.1
  have h2 := hb.2.2 a ha.1 e ha.2.1
  exact srt_same h ha.1 hb.1 e (by omega)
theorem Srt.nodup {rs : List Rw} (h : Srt rs) : rs.Nodup := by
  unfold List.Nodup
  refine List.Pairwise.imp (fun {a b} (l : Lt a b) => ?_) h
  intro e
  rw [← e] at l
  exact Lt.irr a l
/-! ### tables by times -/
def putL {α : Type} (m : List (Int × α)) (t : Int) (a : α) : List (Int × α) := if (m.any fun p => decide (p.1 = t)) = true then m.map (fun p => if p.1 = t then (p.1, a) else p) else m ++ [(t, a)]
theorem mem_putL {α : Type} {m : List (Int × α)} {t : Int} {a : α} {p : Int × α} : p ∈ putL m t a ↔ p = (t, a) ∨ (p ∈ m ∧ ¬ p.1 = t) := by
  unfold putL
  by_cases c : (m.any fun p => decide (p.1 = t)) = true
  · rw [if_pos c]
    obtain ⟨q, hq, eq⟩ := List.any_eq_true.mp c
    have eq := of_decide_eq_true eq
    constructor
    · intro h
      obtain ⟨x, hx, e⟩ := List.mem_map.mp h
      by_cases d : x.1 = t
      · rw [if_pos d, d] at e
        exact .inl e.symm
      · rw [if_neg d] at e
        subst e
        exact .inr ⟨hx, d⟩
    · rintro (rfl | ⟨h1, h2⟩)
      · exact List.mem_map.mpr ⟨q, hq, by rw [if_pos eq, eq]⟩
      · exact List.mem_map.mpr ⟨p, h1, by rw [if_neg h2]⟩
  · rw [if_neg c]
    constructor
    · intro there
      rcases List.mem_append.mp there with old | new
      · exact .inr ⟨old, fun z => c (List.any_eq_true.mpr ⟨p, old, decide_eq_true z⟩)⟩
      · exact .inl (List.mem_singleton.mp new)
    · rintro (rfl | ⟨h1, h2⟩)
      · exact List.mem_append_right _ (List.mem_singleton.mpr rfl)
      · exact List.mem_append_left _ h1
theorem putL_keys {α : Type} {m : List (Int × α)} {t : Int} {a : α} (h : m.Pairwise fun x y => x.1 < y.1) (le : ∀ p, p ∈ m → p.1 ≤ t) : (putL m t a).Pairwise fun x y => x.1 < y.1 := by
  unfold putL
  by_cases c : (m.any fun p => decide (p.1 = t)) = true
  · rw [if_pos c, List.pairwise_map]
    refine h.imp fun {x y} l => ?_
    by_cases d : x.1 = t
    · by_cases e : y.1 = t
      · rw [if_pos d, if_pos e]
        exact l
      · rw [if_pos d, if_neg e]
        exact l
    · by_cases e : y.1 = t
      · rw [if_neg d, if_pos e]
        exact l
      · rw [if_neg d, if_neg e]
        exact l
  · rw [if_neg c, List.pairwise_append]
    refine ⟨h, List.pairwise_singleton _ _, fun x hx y hy => ?_⟩
    rw [List.mem_singleton.mp hy]
    have h1 := le x hx
    have h2 : ¬ x.1 = t := fun z => c (List.any_eq_true.mpr ⟨x, hx, decide_eq_true z⟩)
    show x.1 < t
    omega
theorem putL_len {α : Type} {m : List (Int × α)} {t : Int} {a : α} : (putL m t a).length ≤ m.length + 1 := by
  unfold putL
  split
  · rw [List.length_map]
    omega
  · rw [List.length_append]
    exact Nat.le_refl _
/-- of each time the last row up to a number -/
def lwR (rs : List Rw) (n : Int) : List (Int × Rw) := rs.foldl (fun m r => if r.2.1 ≤ n then putL m r.1 r else m) []
theorem lwR_snoc (rs : List Rw) (n : Int) (r : Rw) : lwR (rs ++ [r]) n = if r.2.1 ≤ n then putL (lwR rs n) r.1 r else lwR rs n := by
  unfold lwR
  rw [List.foldl_append]
  rfl
theorem lwR_len (rs : List Rw) (n : Int) : (lwR rs n).length ≤ rs.length := by
  obtain ⟨k, hk⟩ : ∃ k, rs.length = k := ⟨_, rfl⟩
  induction k generalizing rs with
  | zero =>
    rw [List.length_eq_zero_iff.mp hk]
    exact Nat.le_refl _
  | succ k ih =>
    rcases List.eq_nil_or_concat rs with rfl | ⟨q, x, e⟩
    · exact Nat.zero_le _
    · rw [List.concat_eq_append] at e
      subst e
      rw [List.length_append] at hk ⊢
      have i1 := ih q (by simp at hk; exact hk)
      rw [lwR_snoc]
      have := putL_len (m := lwR q n) (t := x.1) (a := x)
      show _ ≤ q.length + 1
      split <;> omega
theorem lwR_is {n : Int} (rs : List Rw) (h : Srt rs) : ((lwR rs n).Pairwise fun x y => x.1 < y.1) ∧ ∀ p : Int × Rw, p ∈ lwR rs n ↔ p.1 = p.2.1 ∧ IsLast rs n p.2 := by
  obtain ⟨k, hk⟩ : ∃ k, rs.length = k := ⟨_, rfl⟩
  induction k generalizing rs with
  | zero =>
    rw [List.length_eq_zero_iff.mp hk]
    exact ⟨.nil, fun p => ⟨(fun z => absurd z List.not_mem_nil), (fun z => absurd z.2.1 List.not_mem_nil)⟩⟩
  | succ k ih =>
    rcases List.eq_nil_or_concat rs with rfl | ⟨q, x, e⟩
    · exact ⟨.nil, fun p => ⟨(fun z => absurd z List.not_mem_nil), (fun z => absurd z.2.1 List.not_mem_nil)⟩⟩
    · rw [List.concat_eq_append] at e
      subst e
      rw [List.length_append] at hk
      obtain ⟨h1, _, h3⟩ := List.pairwise_append.mp h
      have hx : ∀ y, y ∈ q → Lt y x := fun y hy => h3 y hy x (List.mem_singleton.mpr rfl)
      obtain ⟨i1, i2⟩ := ih q h1 (by simp at hk; exact hk)
      rw [lwR_snoc]
      by_cases c : x.2.1 ≤ n
      · rw [if_pos c]
        constructor
        · refine putL_keys i1 fun p hp => ?_
          obtain ⟨e1, e2⟩ := (i2 p).mp hp
          rcases hx p.2 e2.1 with l | l <;> omega
        · intro p
          rw [mem_putL]
          constructor
          · rintro (rfl | ⟨h4, h5⟩)
            · refine ⟨rfl, List.mem_append_right _ (List.mem_singleton.mpr rfl), c, fun y hy e4 _ => ?_⟩
              rcases List.mem_append.mp hy with h | h
              · rcases hx y h with l | l
                · have e4' : y.1 = x.1 := e4
                  omega
                · show y.2.1 ≤ x.2.1
                  omega
              · rw [List.mem_singleton.mp h]
                exact Int.le_refl _
            · obtain ⟨e1, e2, e3, e4⟩ := (i2 p).mp h4
              refine ⟨e1, List.mem_append_left _ e2, e3, fun y hy e5 e6 => ?_⟩
              rcases List.mem_append.mp hy with h | h
              · exact e4 y h e5 e6
              · rw [List.mem_singleton.mp h] at e5
                omega
          · rintro ⟨e1, e2, e3, e4⟩
            rcases List.mem_append.mp e2 with h | h
            · by_cases d : p.1 = x.1
              · exfalso
                have := e4 x (List.mem_append_right _ (List.mem_singleton.mpr rfl)) (by omega) c
                rcases hx p.2 h with l | l <;> omega
              · exact .inr ⟨(i2 p).mpr ⟨e1, h, e3, fun y hy => e4 y (List.mem_append_left _ hy)⟩, d⟩
            · left
              have e := List.mem_singleton.mp h
              obtain ⟨p1, p2⟩ := p
              have e' : p2 = x := e
              rw [e'] at e1 ⊢
              exact congrArg (fun z => (z, x)) e1
      · rw [if_neg c]
        refine ⟨i1, fun p => ?_⟩
        rw [i2 p]
        constructor
        · rintro ⟨e1, e2, e3, e4⟩
          refine ⟨e1, List.mem_append_left _ e2, e3, fun y hy e5 e6 => ?_⟩
          rcases List.mem_append.mp hy with h | h
          · exact e4 y h e5 e6
          · rw [List.mem_singleton.mp h] at e6
            exact absurd e6 c
        · rintro ⟨e1, e2, e3, e4⟩
          rcases List.mem_append.mp e2 with h | h
          · exact ⟨e1, h, e3, fun y hy => e4 y (List.mem_append_left _ hy)⟩
          · rw [List.mem_singleton.mp h] at e3
            exact absurd e3 c
/-- there is a last one -/
theorem last_of {rs : List Rw} (h : Srt rs) {n t : Int} {l : Rw} (e : (rs.filter fun q => decide (q.1 = t ∧ q.2.1 ≤ n)).getLast? = some l) : IsLast rs n l ∧ l.1 = t := by
  have ml := List.mem_of_getLast? e
  obtain ⟨m1, m2⟩ := List.mem_filter.mp ml
  obtain ⟨m3, m4⟩ := of_decide_eq_true m2
  refine ⟨⟨m1, m4, fun q hq e1 e2 => ?_⟩, m3⟩
  have mq : q ∈ rs.filter fun q => decide (q.1 = t ∧ q.2.1 ≤ n) := List.mem_filter.mpr ⟨hq, decide_eq_true ⟨by omega, e2⟩⟩
  have hs := h.sub fun q => decide (q.1 = t ∧ q.2.1 ≤ n)
  revert e mq hs
  generalize rs.filter (fun q => decide (q.1 = t ∧ q.2.1 ≤ n)) = fs
  intro e mq hs
  rcases List.eq_nil_or_concat fs with rfl | ⟨g, x, eg⟩
  · cases mq
  · rw [List.concat_eq_append] at eg
    subst eg
    rw [List.getLast?_concat] at e
    cases e
    rcases List.mem_append.mp mq with hg | hg
    · rcases (List.pairwise_append.mp hs).2.2 q hg l (List.mem_singleton.mpr rfl) with z | z <;> omega
    · rw [List.mem_singleton.mp hg]
      exact Int.le_refl _
theorem last_there {rs : List Rw} (h : Srt rs) {n : Int} {r : Rw} (hr : r ∈ rs) (hn : r.2.1 ≤ n) : ∃ l, IsLast rs n l ∧ l.1 = r.1 := by
  cases e : (rs.filter fun q => decide (q.1 = r.1 ∧ q.2.1 ≤ n)).getLast? with
  | some l => exact ⟨l, last_of h e⟩
  | none =>
    rw [List.getLast?_eq_none_iff] at e
    have : r ∈ rs.filter fun q => decide (q.1 = r.1 ∧ q.2.1 ≤ n) := List.mem_filter.mpr ⟨hr, decide_eq_true ⟨rfl, hn⟩⟩
    rw [e] at this
    cases this
/-! ### rising lists are told by their members -/
theorem ext_sorted {α : Type} {lt : α → α → Prop} (irr : ∀ a, ¬ lt a a) (tr : ∀ a b c, lt a b → lt b c → lt a c) : ∀ {xs ys : List α}, xs.Pairwise lt → ys.Pairwise lt → (∀ a, a ∈ xs ↔ a ∈ ys) → xs = ys
  | [], [], _, _, _ => rfl
  | [], y :: ys, _, _, h => nomatch (h y).mpr List.mem_cons_self
  | x :: xs, [], _, _, h => nomatch (h x).mp List.mem_cons_self
  | x :: xs, y :: ys, h1, h2, h => by
    obtain ⟨a1, a2⟩ := List.pairwise_cons.mp h1
    obtain ⟨b1, b2⟩ := List.pairwise_cons.mp h2
    have e : x = y := by
      rcases List.mem_cons.mp ((h x).mp List.mem_cons_self) with z | z
      · exact z
      · rcases List.mem_cons.mp ((h y).mpr List.mem_cons_self) with u | u
        · exact u.symm
        · exact absurd (tr _ _ _ (a1 y u) (b1 x z)) (irr x)
    subst e
    refine congrArg (x :: ·) (ext_sorted irr tr a2 b2 fun a => ?_)
    constructor
    · intro ha
      rcases List.mem_cons.mp ((h a).mp (List.mem_cons_of_mem _ ha)) with z | z
      · rw [z] at ha
        exact absurd (a1 x ha) (irr x)
      · exact z
    · intro ha
      rcases List.mem_cons.mp ((h a).mpr (List.mem_cons_of_mem _ ha)) with z | z
      · rw [z] at ha
        exact absurd (b1 x ha) (irr x)
      · exact z
/-! ### what is known -/
def kn (rs : List Rw) (n : Int) : List (Int × Int) := (lwR rs n).filterMap fun p => p.2.2.2.map fun w => (p.1, w)
theorem mem_kn {rs : List Rw} (h : Srt rs) {n : Int} {x : Int × Int} : x ∈ kn rs n ↔ ∃ r, IsLast rs n r ∧ r.1 = x.1 ∧ r.2.2 = some x.2 := by
  unfold kn
  rw [List.mem_filterMap]
  constructor
  · rintro ⟨p, hp, e⟩
    obtain ⟨e1, e2⟩ := ((lwR_is rs h).2 p).mp hp
    obtain ⟨w, e3, rfl⟩ := Option.map_eq_some_iff.mp e
    exact ⟨p.2, e2, e1.symm, e3⟩
  · rintro ⟨r, h1, h2, h3⟩
    refine ⟨(r.1, r), ((lwR_is rs h).2 _).mpr ⟨rfl, h1⟩, ?_⟩
    rw [h3, h2]
    rfl
theorem kn_srt {rs : List Rw} (h : Srt rs) (n : Int) : (kn rs n).Pairwise fun x y => x.1 < y.1 := by
  unfold kn
  rw [List.pairwise_filterMap]
  refine (lwR_is rs h).1.imp fun {a b} l x hx y hy => ?_
  obtain ⟨w, _, rfl⟩ := Option.map_eq_some_iff.mp hx
  obtain ⟨u, _, rfl⟩ := Option.map_eq_some_iff.mp hy
  exact l
theorem kn_len (rs : List Rw) (n : Int) : (kn rs n).length ≤ rs.length := Nat.le_trans (List.length_filterMap_le _ _) (lwR_len rs n)
theorem kn_ext {rs qs : List Rw} (h1 : Srt rs) (h2 : Srt qs) {n m : Int} (h : ∀ r, r.2.2 ≠ none → (IsLast rs n r ↔ IsLast qs m r)) : kn rs n = kn qs m := by
  refine ext_sorted (lt := fun x y => x.1 < y.1) (fun a => Int.lt_irrefl _) (fun a b c => Int.lt_trans) (kn_srt h1 n) (kn_srt h2 m) fun x => ?_
  rw [mem_kn h1, mem_kn h2]
  constructor
  · rintro ⟨r, a, b, c⟩
    exact ⟨r, (h r (by rw [c]; simp)).mp a, b, c⟩
  · rintro ⟨r, a, b, c⟩
    exact ⟨r, (h r (by rw [c]; simp)).mpr a, b, c⟩
/-! ### what is needed -/
instance (rs : List Rw) (n : Int) (r : Rw) : Decidable (IsLast rs n r) := by
  unfold IsLast
  exact inferInstance
def Need (rs : List Rw) (n : Int) (r : Rw) : Prop := n < r.2.1 ∨ (IsLast rs n r ∧ ¬ r.2.2 = none)
instance (rs : List Rw) (n : Int) (r : Rw) : Decidable (Need rs n r) := by
  unfold Need
  exact inferInstance
def fl (rs : List Rw) (n : Int) (r : Rw) : Bool := decide (Need rs n r)
def thin (rs : List Rw) (n : Int) : List Rw := rs.filter (fl rs n)
def ndl (rs : List Rw) (n : Int) : List Rw := rs.filter fun r => !fl rs n r
theorem thin_known {rs : List Rw} (h : Srt rs) {n m : Int} (le : n ≤ m) : kn (thin rs n) m = kn rs m := by
  refine kn_ext (h.sub _) h fun r hr => ?_
  constructor
  · rintro ⟨a1, a2, a3⟩
    obtain ⟨b1, b2⟩ := List.mem_filter.mp a1
    have b3 : Need rs n r := of_decide_eq_true b2
    refine ⟨b1, a2, fun q hq e1 e2 => ?_⟩
    by_cases c : n < q.2.1
    · exact a3 q (List.mem_filter.mpr ⟨hq, decide_eq_true (.inl c)⟩) e1 e2
    · rcases b3 with z | z
      · omega
      · exact z.1.2.2 q hq e1 (by omega)
  · rintro ⟨a1, a2, a3⟩
    refine ⟨List.mem_filter.mpr ⟨a1, decide_eq_true ?_⟩, a2, fun q hq e1 e2 => a3 q (List.mem_filter.mp hq).1 e1 e2⟩
    by_cases c : n < r.2.1
    · exact .inl c
    · exact .inr ⟨⟨a1, by omega, fun q hq e1 e2 => a3 q hq e1 (by omega)⟩, hr⟩
/-- a row left out is missed -/
theorem missed {rs : List Rw} (h : Srt rs) {n : Int} {row : Rw} (hm : row ∈ thin rs n) (hw : ¬ row.2.2 = none) {b : Int} (eb : b = max n row.2.1)
    (he : (((thin rs n).filter fun q => !decide (q = row)).filter fun q => decide (q.1 = row.1 ∧ q.2.1 ≤ b)).getLast?.map (·.2.2) ≠ some row.2.2) :
    kn ((thin rs n).filter fun q => !decide (q = row)) b ≠ kn (thin rs n) b := fun z => by
  have hl : Srt (thin rs n) := h.sub _
  have hf : Srt ((thin rs n).filter fun q => !decide (q = row)) := hl.sub _
  obtain ⟨w, ew⟩ : ∃ w, row.2.2 = some w := by
    cases e : row.2.2 with
    | none => exact absurd e hw
    | some w => exact ⟨w, rfl⟩
  have last : IsLast (thin rs n) b row := by
    refine ⟨hm, by omega, fun q hq e1 e2 => ?_⟩
    obtain ⟨m1, m2⟩ := List.mem_filter.mp hm
    have nd : Need rs n row := of_decide_eq_true m2
    rcases nd with c | c
    · omega
    · have := c.1.2.1
      exact c.1.2.2 q (List.mem_filter.mp hq).1 e1 (by omega)
  have m1 : (row.1, w) ∈ kn (thin rs n) b := (mem_kn hl).mpr ⟨row, last, rfl, ew⟩
  rw [← z, mem_kn hf] at m1
  obtain ⟨r, r1, r2, r3⟩ := m1
  cases e : (((thin rs n).filter fun q => !decide (q = row)).filter fun q => decide (q.1 = row.1 ∧ q.2.1 ≤ b)).getLast? with
  | none =>
    rw [List.getLast?_eq_none_iff] at e
    have : r ∈ ((thin rs n).filter fun q => !decide (q = row)).filter fun q => decide (q.1 = row.1 ∧ q.2.1 ≤ b) := List.mem_filter.mpr ⟨r1.1, decide_eq_true ⟨r2, r1.2.1⟩⟩
    rw [e] at this
    cases this
  | some l =>
    obtain ⟨l1, l2⟩ := last_of hf e
    have el := last_uniq hf r1 l1 (by rw [l2]; exact r2)
    refine he ?_
    rw [e, ← el, ew]
    exact congrArg some r3
/-! ### the tables as dicts -/
def lwV (f : Rw → V) (rs : List Rw) (n : Int) : List (Key × V) := rs.foldl (fun m r => if r.2.1 ≤ n then putK m (Sum.inl r.1) (f r) else m) []
theorem lwV_snoc (f : Rw → V) (rs : List Rw) (n : Int) (r : Rw) : lwV f (rs ++ [r]) n = if r.2.1 ≤ n then putK (lwV f rs n) (Sum.inl r.1) (f r) else lwV f rs n := by
  unfold lwV
  rw [List.foldl_append]
  rfl
theorem putK_map (f : Rw → V) (m : List (Int × Rw)) (t : Int) (r : Rw) : putK (m.map fun p => ((Sum.inl p.1 : Key), f p.2)) (Sum.inl t) (f r) = (putL m t r).map fun p => ((Sum.inl p.1 : Key), f p.2) := by
  unfold putK putL
  have e : ((m.map fun p => ((Sum.inl p.1 : Key), f p.2)).any fun kv => decide (kv.1 = Sum.inl t)) = m.any fun p => decide (p.1 = t) := by
    rw [List.any_map]
    refine List.any_congr rfl fun p => ?_
    simp only [Function.comp_apply, Sum.inl.injEq]
  rw [e]
  by_cases c : (m.any fun p => decide (p.1 = t)) = true
  · rw [if_pos c, if_pos c, List.map_map, List.map_map]
    refine List.map_congr_left fun p _ => ?_
    simp only [Function.comp_apply]
    by_cases d : p.1 = t
    · rw [if_pos (congrArg Sum.inl d), if_pos d]
    · rw [if_neg (fun z => d (Sum.inl.inj z)), if_neg d]
  · rw [if_neg c, if_neg c, List.map_append]
    rfl
theorem lwV_eq (f : Rw → V) (rs : List Rw) (n : Int) : lwV f rs n = (lwR rs n).map fun p => ((Sum.inl p.1 : Key), f p.2) := by
  obtain ⟨k, hk⟩ : ∃ k, rs.length = k := ⟨_, rfl⟩
  induction k generalizing rs with
  | zero =>
    rw [List.length_eq_zero_iff.mp hk]
    rfl
  | succ k ih =>
    rcases List.eq_nil_or_concat rs with rfl | ⟨q, x, e⟩
    · rfl
    · rw [List.concat_eq_append] at e
      subst e
      rw [List.length_append] at hk
      have i1 := ih q (by simp at hk; exact hk)
      rw [lwV_snoc, lwR_snoc, i1]
      by_cases c : x.2.1 ≤ n
      · rw [if_pos c, if_pos c, putK_map]
      · rw [if_neg c, if_neg c]
theorem lwV_len (f : Rw → V) (rs : List Rw) (n : Int) : (lwV f rs n).length ≤ rs.length := by
  rw [lwV_eq, List.length_map]
  exact lwR_len rs n
theorem valV_of {f : Rw → V} : ∀ {m : List (Int × Rw)} {p : Int × Rw}, (m.Pairwise fun x y => x.1 < y.1) → p ∈ m → valV (m.map fun p => ((Sum.inl p.1 : Key), f p.2)) (Sum.inl p.1) = some (f p.2)
  | [], p, _, h => nomatch h
  | q :: m, p, .cons h1 h2, there => by
    rcases List.mem_cons.mp there with rfl | h
    · exact valV_pos rfl
    · rw [List.map_cons, valV_neg (fun z => by
        have := h1 p h
        have : q.1 = p.1 := Sum.inl.inj z
        omega)]
      exact valV_of h2 h
theorem lwV_last {f : Rw → V} {rs : List Rw} (h : Srt rs) {n : Int} {r : Rw} (hl : IsLast rs n r) : valV (lwV f rs n) (Sum.inl r.1 : Key) = some (f r) := by
  rw [lwV_eq]
  exact valV_of (p := (r.1, r)) (lwR_is rs h).1 (((lwR_is rs h).2 _).mpr ⟨rfl, hl⟩)
/-- the values of a list of unlike rows, as a function -/
theorem val_fun : ∀ (rs : List Rw) (xs : List V), rs.Nodup → ∃ f : Rw → V, ∀ (i : Nat) (r : Rw) (v : V), rs[i]? = some r → xs[i]? = some v → f r = v
  | [], xs, _ => ⟨fun _ => .non, fun i r v h => by simp at h⟩
  | r0 :: rs, [], _ => ⟨fun _ => .non, fun i r v _ h => by simp at h⟩
  | r0 :: rs, x :: xs, nd => by
    have n1 := (List.nodup_cons.mp nd).1
    obtain ⟨f, hf⟩ := val_fun rs xs (List.nodup_cons.mp nd).2
    refine ⟨fun r => if r = r0 then x else f r, fun i r v h1 h2 => ?_⟩
    cases i with
    | zero =>
      simp only [List.getElem?_cons_zero, Option.some.injEq] at h1 h2
      show (if r = r0 then x else f r) = v
      rw [if_pos h1.symm, h2]
    | succ i =>
      rw [List.getElem?_cons_succ] at h1 h2
      have ne : ¬ r = r0 := fun z => n1 (z ▸ List.mem_of_getElem? h1)
      show (if r = r0 then x else f r) = v
      rw [if_neg ne]
      exact hf i r v h1 h2
end Tg

namespace Tg
open PySem PySem.Spec PyProof.Rows L2
/-! ### rows and points as data -/
def dw : Option Int → PyData
  | none => .none
  | some i => .int i
def vw : Option Int → V
  | none => .non
  | some i => .int i
theorem dp_vw {K : PySem.W.Frag} {H : Hp} : ∀ o : Option Int, Dp K H (vw o) (dw o)
  | none => .non
  | some i => .int i
theorem dp_dw {K : PySem.W.Frag} {H : Hp} {v : V} : ∀ {o : Option Int}, Dp K H v (dw o) → v = vw o
  | none, h => by
    cases h
    rfl
  | some i, h => by
    cases h
    rfl
theorem vw_non (o : Option Int) : decide (vw o = .non) = o.isNone := by
  cases o with
  | none => rfl
  | some i => rfl
theorem td_dw : ∀ o : Option Int, TD (dw o)
  | none => .non
  | some i => .int i
theorem eq_dw (a b : Option Int) : PyData.eqv (dw a) (dw b) = decide (a = b) := by
  cases a with
  | none =>
    cases b with
    | none => rfl
    | some j => rfl
  | some i =>
    cases b with
    | none => rfl
    | some j =>
      show (i == j) = _
      by_cases c : i = j
      · rw [c, beq_self_eq_true, decide_eq_true rfl]
      · rw [beq_eq_false_iff_ne.mpr c, decide_eq_false fun z => c (Option.some.inj z)]
def rd (r : Rw) : PyData := .tuple [.int r.1, .int r.2.1, dw r.2.2]
def pd (x : Int × Int) : PyData := .tuple [.int x.1, .int x.2]
theorem td_rd (r : Rw) : TD (rd r) := .tup fun d hd => by
  simp only [List.mem_cons, List.not_mem_nil, or_false] at hd
  rcases hd with rfl | rfl | rfl
  · exact .int _
  · exact .int _
  · exact td_dw _
theorem td_rds (rs : List Rw) : ∀ d, d ∈ rs.map rd → TD d := fun d hd => by
  obtain ⟨x, _, rfl⟩ := List.mem_map.mp hd
  exact td_rd x
theorem td_pd (x : Int × Int) : TD (pd x) := .tup fun d hd => by
  simp only [List.mem_cons, List.not_mem_nil, or_false] at hd
  rcases hd with rfl | rfl
  · exact .int _
  · exact .int _
theorem td_pds (ps : List (Int × Int)) : ∀ d, d ∈ ps.map pd → TD d := fun d hd => by
  obtain ⟨x, _, rfl⟩ := List.mem_map.mp hd
  exact td_pd x
theorem dp_rd {K : PySem.W.Frag} {H : Hp} {v : V} {r : Rw} (h : Dp K H v (rd r)) : ∃ a, v = .ref a ∧ SqT K H a [.int r.1, .int r.2.1, vw r.2.2] := by
  cases h with
  | tup a b =>
    cases b with
    | cons h1 b =>
      cases b with
      | cons h2 b =>
        cases b with
        | cons h3 b =>
          cases b
          cases h1
          cases h2
          rw [dp_dw h3] at a
          exact ⟨_, rfl, a⟩
theorem rd_new {K : PySem.W.Frag} {H : Hp} {a : Addr} {r : Rw} (h : SqT K H a [.int r.1, .int r.2.1, vw r.2.2]) : Dp K H (.ref a) (rd r) := .tup h (.cons (.int _) (.cons (.int _) (.cons (dp_vw _) .nil)))
theorem pd_new {K : PySem.W.Frag} {H : Hp} {a : Addr} {x : Int × Int} (h : H a = some (.tup [.int x.1, .int x.2])) : Dp K H (.ref a) (pd x) := .tup (SqT.of h) (.cons (.int _) (.cons (.int _) .nil))
theorem lay_dw : ∀ o : Option Int, (dw o).canLay0 = true
  | none => rfl
  | some i => rfl
theorem dep_dw : ∀ o : Option Int, (dw o).depth = 0
  | none => rfl
  | some i => rfl
theorem lay_rd (r : Rw) : (rd r).canLay0 = true := by
  show (true && (true && ((dw r.2.2).canLay0 && true))) = true
  rw [lay_dw]
  rfl
theorem dep_rd (r : Rw) : (rd r).depth = 1 := by
  show max 0 (max 0 (max (dw r.2.2).depth 0)) + 1 = 1
  rw [dep_dw]
  rfl
theorem eq_rd (a b : Rw) : PyData.eqv (rd a) (rd b) = decide (a = b) := by
  show ((a.1 == b.1) && ((a.2.1 == b.2.1) && (PyData.eqv (dw a.2.2) (dw b.2.2) && true))) = _
  rw [eq_dw]
  by_cases c : a = b
  · subst c
    rw [beq_self_eq_true, beq_self_eq_true, decide_eq_true rfl, decide_eq_true rfl]
    rfl
  · rw [decide_eq_false c]
    by_cases c1 : a.1 = b.1
    · by_cases c2 : a.2.1 = b.2.1
      · by_cases c3 : a.2.2 = b.2.2
        · exact absurd (Prod.ext c1 (Prod.ext c2 c3)) c
        · rw [decide_eq_false c3]
          simp
      · rw [beq_eq_false_iff_ne.mpr c2]
        simp
    · rw [beq_eq_false_iff_ne.mpr c1]
      rfl
/-- lists of things of such a form -/
theorem form_all {α : Type} {f : α → PyData} (h1 : ∀ x, (f x).canLay0 = true) (h2 : ∀ x, (f x).depth ≤ 1) (h3 : ∀ x, PyData.eqv (f x) (f x) = true) (xs : List α) :
    PyData.canLayAll0 (xs.map f) = true ∧ PyData.depthAll (xs.map f) ≤ 1 ∧ PyData.eqvAll (xs.map f) (xs.map f) = true := by
  induction xs with
  | nil => exact ⟨rfl, Nat.zero_le _, rfl⟩
  | cons x r ih =>
    obtain ⟨i1, i2, i3⟩ := ih
    refine ⟨?_, ?_, ?_⟩
    · show ((f x).canLay0 && PyData.canLayAll0 (r.map f)) = true
      rw [h1, i1]
      rfl
    · show max (f x).depth (PyData.depthAll (r.map f)) ≤ 1
      have := h2 x
      omega
    · show (PyData.eqv (f x) (f x) && PyData.eqvAll (r.map f) (r.map f)) = true
      rw [h3, i3]
      rfl
theorem form_list {α : Type} {f : α → PyData} (h1 : ∀ x, (f x).canLay0 = true) (h2 : ∀ x, (f x).depth ≤ 1) (h3 : ∀ x, PyData.eqv (f x) (f x) = true) (xs : List α) : SeqAt.shaped (.list (xs.map f)) = true ∧ PyData.eqv (.list (xs.map f)) (.list (xs.map f)) = true := by
  obtain ⟨a, b, c⟩ := form_all h1 h2 h3 xs
  refine ⟨shaped_of a ?_, c⟩
  show PyData.depthAll (xs.map f) + 1 ≤ 64
  omega
theorem ref_rd (r : Rw) : PyData.eqv (rd r) (rd r) = true := by
  rw [eq_rd]
  exact decide_eq_true rfl
theorem rds_form (rs : List Rw) : SeqAt.shaped (.list (rs.map rd)) = true ∧ PyData.eqv (.list (rs.map rd)) (.list (rs.map rd)) = true := form_list lay_rd (fun r => Nat.le_of_eq (dep_rd r)) ref_rd rs
theorem ref_pd (x : Int × Int) : PyData.eqv (pd x) (pd x) = true := by
  show ((x.1 == x.1) && ((x.2 == x.2) && true)) = true
  rw [beq_self_eq_true, beq_self_eq_true]
  rfl
theorem pds_form (ps : List (Int × Int)) : SeqAt.shaped (.list (ps.map pd)) = true ∧ PyData.eqv (.list (ps.map pd)) (.list (ps.map pd)) = true := form_list (f := pd) (fun _ => rfl) (fun _ => Nat.le_refl 1) ref_pd ps
theorem sh_rd (r : Rw) : SeqAt.shaped (rd r) = true := shaped_of (lay_rd r) (by rw [dep_rd]; decide)
theorem dl_at {α : Type} {f : α → PyData} {K : PySem.W.Frag} {H : Hp} {xs : List V} {ps : List α} (h : DpAll K H xs (ps.map f)) {i : Nat} {v : V} (e : xs[i]? = some v) : ∃ x, ps[i]? = some x ∧ Dp K H v (f x) := by
  obtain ⟨d, h1, h2⟩ := dpAll_at h i v e
  rw [List.getElem?_map] at h1
  obtain ⟨x, h3, rfl⟩ := Option.map_eq_some_iff.mp h1
  exact ⟨x, h3, h2⟩
theorem dl_get {α : Type} {f : α → PyData} {K : PySem.W.Frag} {H : Hp} {xs : List V} {ps : List α} (h : DpAll K H xs (ps.map f)) {i : Nat} {x : α} (e : ps[i]? = some x) : ∃ v, xs[i]? = some v ∧ Dp K H v (f x) := dpAll_tk h i (f x) (by rw [List.getElem?_map, e]; rfl)
theorem dl_len {α : Type} {f : α → PyData} {K : PySem.W.Frag} {H : Hp} {xs : List V} {ps : List α} (h : DpAll K H xs (ps.map f)) : xs.length = ps.length := by
  have := dpAll_len h
  rw [List.length_map] at this
  exact this
theorem nodup_len {α : Type} [DecidableEq α] : ∀ {rs L : List α}, rs.Nodup → (∀ r, r ∈ rs → r ∈ L) → rs.length ≤ L.length
  | [], L, _, _ => Nat.zero_le _
  | r :: rs, L, nd, h => by
    have n1 := (List.nodup_cons.mp nd).1
    have n2 := (List.nodup_cons.mp nd).2
    have hr : r ∈ L := h r List.mem_cons_self
    have i := nodup_len (rs := rs) (L := L.erase r) n2 fun q hq => (List.mem_erase_of_ne (fun z : q = r => n1 (by rw [← z]; exact hq))).mpr (h q (List.mem_cons_of_mem _ hq))
    rw [List.length_erase_of_mem hr] at i
    have := List.length_pos_of_mem hr
    show rs.length + 1 ≤ L.length
    omega
theorem take_snoc {α : Type} {L : List α} {i : Nat} {x : α} (h : L[i]? = some x) : L.take (i + 1) = L.take i ++ [x] := by
  rw [List.take_add_one, h]
  rfl
end Tg

namespace Tg
open PySem PySem.Spec PyProof.Rows L2
/-! ### a new thing that is only read from now on -/
section
variable {X : Cx} {e : Expr} {t : TE}
def tFrz (t : TE) : TE := fun σ H Q => t σ H fun x H1 => ∃ d u, x = .ref d ∧ H1 d = some u ∧ Mut (some u) ∧ ∀ od, Q x (upd H1 d (.frz od u))
theorem pe_frz (h : PE X e t) : PE X e (tFrz t) := by
  constructor
  intro pins s σ H Q I read
  refine thn (h.run pins s σ H _ I read) fun v s1 y => ?_
  obtain ⟨x, H1, J, r, d, u, ex, hd, mu, q⟩ := y
  obtain ⟨od, J2⟩ := J.lock hd mu
  exact ⟨x, _, J2, r, q od⟩
/-- a statement that is never reached -/
theorem ps_dead {st : Stmt} : PS X st (fun _ _ _ => False) := ⟨fun _ _ _ _ _ _ h => h.elim⟩
end
end Tg

set_option maxHeartbeats 2000000
namespace Tg
open PySem PySem.Spec PyProof.Rows L2
/-! ### a caught exception that is kept in a name: try: .. except T as e: kept = e -/
/-- the exception of the class cls, its dict at d, at a -/
def ExV (cls : Value) (d : Option Addr) (a : Addr) : HO := .ext fun h => ∃ (oe : Obj) (vs : Array Value), h.get? a = some oe ∧ Zc cls d oe ∧ oe.data = .fields vs
theorem exV_ok {P : Program} {w : World} {H : Hp} {h : Heap} {a : Addr} {cls : Value} {d : Option Addr} {oe : Obj} {vs : Array Value} (e : h.get? a = some oe) (z : Zc cls d oe) (q : oe.data = .fields vs) : ObjOk P w H h a (ExV cls d a) := by
  refine ⟨⟨oe, vs, e, z, q⟩, ⟨oe, e⟩, fun h1 h2 y st => ?_⟩
  obtain ⟨o1, v1, e1, z1, q1⟩ := y
  exact ⟨o1, v1, st _ e1, z1, q1⟩
section
variable {X : Cx} {s : Shared} {H : Hp} {σ : L2.St} {pins : List (Addr × Obj)}
theorem track {a : Addr} {oe : Obj} {vs : Array Value} {o : HO} (I : Inv X pins σ H s) (h0 : X.s_0.heap.get? a = none) (he : s.heap.get? a = some oe) (hd : oe.data = .fields vs) (na : H a = none)
    (nL : a ≠ X.env.locals) (np : ∀ p, p ∈ X.pn ++ pins → p.1 ≠ a) (new : ObjOk X.prog X.w (upd H a o) s.heap a o) : Inv X pins σ (upd H a o) s where
  ok := I.ok
  os := I.os
  bare := I.bare
  base := {
    keep := I.base.keep
    slot := I.base.slot
    free := fun b u q n x => by
      rw [upd_ne (fun z => by rw [z, h0] at q; cases q)]
      exact I.base.free b u q n x
    there := I.base.there
    tups := fun b xs q => by
      have y := I.base.tups b xs q
      rw [upd_ne (ne_of_none y na)]
      exact y
    frzs := fun b u xs q => by
      have y := I.base.frzs b u xs q
      rw [upd_ne (ne_of_none y na)]
      exact y
    tbls := fun b ps q => by
      obtain ⟨m, y⟩ := I.base.tbls b ps q
      refine ⟨m, ?_⟩
      rw [upd_ne (ne_of_none y na)]
      exact y }
  loc := I.loc
  cell := I.cell
  free := by
    rw [upd_ne nL.symm]
    exact I.free
  freeC := fun x c e => by
    have nc : c ≠ a := fun z => by
      obtain ⟨v, y⟩ := I.cell x c e
      obtain ⟨oc, y1, y2⟩ := y
      rw [z, he] at y1
      cases y1
      rw [hd] at y2
      cases y2
    rw [upd_ne nc]
    exact I.freeC x c e
  pin := fun p hp => by
    obtain ⟨y1, y2, y3⟩ := I.pin p hp
    refine ⟨y1, ?_, y3⟩
    rw [upd_ne (np p hp)]
    exact y2
  hok := I.hok.laidN (fun _ _ z => z) na new
  len := I.len
/-- what is wanted of an exception of the body: its class is one that the clause takes; it is kept in slot j -/
def wKeep (Mt : Value → Prop) (i j : Nat) (D : Ends) : WX := fun cls d σ H => Mt cls ∧ ∀ a, H a = none → D.nx (((σ.set i (some (.ref a))).set j (some (.ref a))).set i none) (upd H a (ExV cls d a))
/-- the clause's test: its value takes each exception of such a class -/
def Tests (X : Cx) (test : Expr) (Mt : Value → Prop) : Prop := ∀ (a : Addr) (oe : Obj) (pn : List (Addr × Obj)) (s : Shared) (σ : L2.St) (H : Hp) (Q : Value → Shared → Prop) (E : Value → Shared → Prop),
  Inv (X.suite a ((a, oe) :: pn)) [] σ H s → s.heap.get? a = some oe → Mt oe.cls →
  (∀ (c : Value) (s' : Shared), (∀ b o, s.heap.get? b = some o → s'.heap.get? b = some o) → s'.os = s.os → s'.gens = s.gens → PySem.W.Looks (model X.prog X.w) s'.heap (excMatches (.ref a) c) true → Q c s') →
    wpAny (model X.prog X.w) (X.A.mark (some (.ref a))) (eval test X.env) Q E s
theorem flying_keeps {B : Heap} {l : List Env} {a : Addr} {Z : Obj → Prop} {h h' : Heap} (k : ∀ b o, h.get? b = some o → h'.get? b = some o) (f : HandSPX.FlyingZ B l a Z h) : HandSPX.FlyingZ B l a Z h' := by
  obtain ⟨f1, f2, f3, oe, vs, T, oT, ts, y1, y2, y3, y4, y5, y6, y7, y8, y9⟩ := f
  exact ⟨fun b o e => k _ _ (f1 b o e), f2, Heap.FunFrames.of_keeps (fun b o e _ => ⟨o, k _ _ e, rfl⟩) f3, oe, vs, T, oT, ts, k _ _ y1, y2, y3, y4, y5, y6, k _ _ y7, y8, y9⟩
variable {n y : Str} {i j : Nat} {body : List Stmt} {test : Expr} {py pn' ps' pos pos' : Pos} {tb : WX → TS} {Mt : Value → Prop}
/-- a try's body, whatever is wished of the exceptions that leave it -/
def Bodies (X : Cx) (body : List Stmt) (tb : WX → TS) : Prop := ∀ W pn xe, Takes (X.tr pn xe) W → PassesOwn (model X.prog X.w) X.A X.env xe → PSs (X.tr pn xe) body (tb W)
/-- the same state, one thing more (or less) pinned -/
theorem repin {Y Z : Cx} {p q : List (Addr × Obj)} (I : Inv Y p σ H s) (ok : Z.Ok) (e : Z = { Y with A := Z.A, calm := Z.calm, pn := Z.pn, xe := Z.xe }) (sub : ∀ r, r ∈ Z.pn ++ q → r ∈ Y.pn ++ p) : Inv Z q σ H s := by
  obtain ⟨_, f2, f3, f4, f5, f6, f7, f8, f9, f10, f11⟩ := I
  rw [e] at ok sub ⊢
  exact ⟨ok, f2, f3, f4, f5, f6, f7, f8, fun r hr => f9 r (sub r hr), f10, f11⟩
theorem ps_try_keep (top : X.stack = X.env :: X.outer) (own : X.env.frame = some X.env.locals) (noex : X.ex = []) (nd : X.N.Nodup) (at_i : X.N[i]? = some n) (at_j : X.N[j]? = some y) (loc_n : X.env.scope.names.lookup n = some .local)
    (loc_y : X.env.scope.names.lookup y = some .local) (takes : Tests X test Mt) (bodies : Bodies X body tb) (nodebug : (n == ("__debug__" : Str)) = false := by decide) (noclass : (n == ("__classdict__" : Str)) = false := by decide) :
    PS X (.Try body [.ExceptHandler (some test) (some n) [.Assign [.Name y py] (.Name n pn') ps'] pos'] [] [] pos) (fun D σ H => tb (wKeep Mt i j D) D σ H) := by
  constructor
  intro pins s σ H D I read
  have frames := I.ok.frames.trans (congrArg some top)
  refine wpAny_Try_except (wpAny_mono ((bodies (wKeep Mt i j D) (X.pn ++ pins) _ (fun u s' air => ?_) PassesOwn.looking).run [] s σ H D (I.toTry _) read) (fun f s1 z => ?_) (fun _ _ z => z))
  · obtain ⟨a, B, s0, _, σ0, H0, cls, d, rfl, J0, ground, up, sky, na, os, gens, takes_it, wish⟩ := air
    have J : Inv X pins σ0 H0 s0 := J0.ofTry I.ok
    rw [show (X.tr (X.pn ++ pins) _).stack = X.env :: X.outer from top] at sky ground
    refine Sky.land Zc.steady frames own sky fun h3 fly3 up3 => ?_
    have J3 := J.landed (s' := { s' with heap := h3 }) (B := B) (by rw [top]; exact ground) fly3.1 (up.trans up3) os gens
    obtain ⟨o3, v3, get3, kind3, data3⟩ := fly3.there
    -- it is none of the frames, and it wasn't there ahead of the try
    have noframe : a ∉ frs (X.env :: X.outer) := fun m => by
      obtain ⟨_, _, e, nofields⟩ := fly3.2.2.1.mem m
      cases get3.symm.trans e
      exact nofields _ data3
    have noloc : a ≠ X.env.locals := fun z => noframe (by
      rw [z]
      exact List.mem_filterMap.mpr ⟨X.env, List.mem_cons_self, own⟩)
    have noouter : a ∉ X.fs := fun m => noframe (by
      obtain ⟨env, h1, h2⟩ := List.mem_filterMap.mp m
      exact List.mem_filterMap.mpr ⟨env, .tail _ h1, h2⟩)
    have new0 : s0.heap.get? a = none := by
      rcases q : s0.heap.get? a with _ | o
      · rfl
      · exact nomatch (ground a o q noframe).symm.trans fly3.2.1
    have new : X.s_0.heap.get? a = none := by
      rcases q : X.s_0.heap.get? a with _ | o
      · rfl
      · exact (J.base.there a o q (by rw [noex]; exact List.not_mem_nil)).elim fun _ z => nomatch z.symm.trans new0
    have nopin : ∀ p, p ∈ X.pn ++ pins → p.1 ≠ a := fun p m z => by
      have there := (J.pin p m).1
      rw [z, new0] at there
      cases there
    refine wpAny_handleBy_cons (codeAny_handlers_test (takes a o3 _ _ σ0 H0 _ _ (J3.suite get3 data3 na noloc noouter) get3 (by rw [kind3.1]; exact takes_it) fun c s4 kp4 os4 gens4 match4 => match4.here ?_)) (fun z => nomatch z)
    refine codeAny_handlers_suite_as (HandSPX.lands_againZ (flying_keeps kp4 fly3) fun h5 fly5 up5 => ?_)
    have up4 : h3.UpToSlots s4.heap := fun b o z _ => ⟨o.slots, kp4 _ _ z⟩
    have J5 := J.landed (s' := { s4 with heap := h5 }) (B := B) (by rw [top]; exact ground) fly5.1 (((up.trans up3).trans up4).trans up5) (os4.trans os) (by rw [show ({ s4 with heap := h5 } : Shared).gens = s4.gens from rfl, gens4]; exact gens)
    obtain ⟨o5, v5, get5, kind5, data5⟩ := fly5.there
    refine store_ok (X := X.suite a ((a, o5) :: (X.pn ++ pins))) (v := .ref a) (J5.suite get5 data5 na noloc noouter) nd at_i (.inl loc_n) rfl (fun s6 J6 => ?_) (.inr loc_n)
    -- kept = e
    have keep : PSs (X.suite a ((a, o5) :: (X.pn ++ pins))) [.Assign [.Name y py] (.Name n pn') ps'] (tAsg (tVar i) (gName j)) := pss_one (ps_set nd at_j (.inl loc_y) (pe_var at_i (.inl loc_n) nodebug noclass) (by rfl) (.inr loc_y))
    have short : i < σ0.length := by
      rw [J.len]
      exact (List.getElem?_eq_some_iff.mp at_i).1
    refine wpAny_mono (keep.run [] s6 _ H0 { nx := fun σ7 H7 => σ7 = (σ0.set i (some (.ref a))).set j (some (.ref a)) ∧ H0 = H7, rt := fun _ _ => False, bk := fun _ _ => False, ct := fun _ _ => False } J6 ⟨.ref a, by rw [List.getElem?_set_self short], rfl, rfl⟩) (fun f s7 z => ?_) (fun _ _ z => z.elim)
    match f, z with
    | .next, ⟨_, _, J7, e7, eH⟩ =>
      subst e7
      subst eH
      refine gone_ok (repin (q := (a, o5) :: pins) J7 I.ok rfl fun r m => ?_) nd at_i loc_n fun s8 J8 => ?_
      · refine List.mem_append_left _ ?_
        rcases List.mem_append.mp m with m | m
        · exact .tail _ (List.mem_append_left _ m)
        · cases m with
          | head => exact .head _
          | tail _ m => exact .tail _ (List.mem_append_right _ m)
      · have get8 := (J8.pin (a, o5) (List.mem_append_right _ (.head _))).1
        have J9 : Inv X pins (((σ0.set i (some (.ref a))).set j (some (.ref a))).set i none) H0 s8 := repin J8 I.ok rfl fun r m => by
          rcases List.mem_append.mp m with m | m
          · exact List.mem_append_left _ m
          · exact List.mem_append_right _ (.tail _ m)
        exact ⟨_, _, track J9 new get8 data5 na noloc nopin (exV_ok get8 kind5 data5), wish a na⟩
    | .brk, ⟨_, _, _, z⟩ => exact z.elim
    | .cont, ⟨_, _, _, z⟩ => exact z.elim
    | .ret _, ⟨_, _, _, _, _, z⟩ => exact z.elim
  · match f, z with
    | .next, ⟨σ1, H1, J1, z⟩ => exact wpAny_execs_nil ⟨σ1, H1, J1.ofTry I.ok, z⟩
    | .brk, ⟨σ1, H1, J1, z⟩ => exact ⟨σ1, H1, J1.ofTry I.ok, z⟩
    | .cont, ⟨σ1, H1, J1, z⟩ => exact ⟨σ1, H1, J1.ofTry I.ok, z⟩
    | .ret _, ⟨v, σ1, H1, J1, rel, z⟩ => exact ⟨v, σ1, H1, J1.ofTry I.ok, rel, z⟩
end
end Tg

set_option maxHeartbeats 2000000
namespace Tg
open PySem PySem.Spec PyProof.Rows L2
section
variable {X : Cx} {x1 x2 x3 x4 : Str} {c1 c2 c3 c4 : Value} {p1 p2 p3 p4 pos : Pos}
theorem tests_one (hc : Names X x1 c1) : Tests X (.Name x1 p1) (fun cls => PySem.W.exmOne X.K cls c1 = some true) := by
  intro a oe pn s σ H Q E I he mt h
  have LT : PySem.W.Looks (model X.prog X.w) s.heap (typeOf (.ref a)) oe.cls := fun A Q E s k q => wpAny_typeOf_ref (k _ _ he) q
  have LM := PySem.W.exm_one (M := model X.prog X.w) I.kIn LT mt
  have told := h c1 s (fun _ _ z => z) rfl rfl LM
  rcases hc with ⟨gl, nodebug, own | ⟨none_, boot, noname⟩⟩
  · exact ld_glob (X := X.suite a ((a, oe) :: pn)) I gl own told nodebug
  · exact ld_blt (X := X.suite a ((a, oe) :: pn)) I gl none_ boot told noname nodebug
/-- own classes named one after the other -/
structure Glb (X : Cx) (x : Str) (c : Value) : Prop where
  gl : Gl X x
  mg : X.mg x = some c
  db : (x == ("__debug__" : Str)) = false := by decide
theorem glb_args {a : Addr} {oe : Obj} {pn : List (Addr × Obj)} {s : Shared} {σ : L2.St} {H : Hp} {E : Value → Shared → Prop} {pos : Pos} (I : Inv (X.suite a ((a, oe) :: pn)) [] σ H s) :
    ∀ {xs : List (Str × Pos)} {cs : List Value} {Q : List Value → Shared → Prop}, Paired (fun x c => Glb X x.1 c) xs cs → Q cs s →
      wpAny (model X.prog X.w) (X.A.mark (some (.ref a))) (spliced (backTo pos (starEach (xs.map fun x => .Name x.1 x.2) X.env))) Q E s
  | _, _, Q, .nil, q => args_nil q
  | (x, p) :: xs, c :: cs, Q, .cons g r, q => by
    refine args_cons (ld_glob (X := X.suite a ((a, oe) :: pn)) I g.gl g.mg (glb_args I r q) g.db) rfl
theorem tests_tup {xs : List (Str × Pos)} {cs : List Value} {kt : Nat} (hp : Paired (fun x c => Glb X x.1 c) xs cs) (hl : cs.length ≤ sizeLine)
    (hm : ∀ {h : Heap} {a tp : Addr} {cls : Value}, X.K.In h → PySem.W.Looks (model X.prog X.w) h (typeOf (.ref a)) cls → h.get? tp = some { cls := .type "tuple", data := .seq cs.toArray } → PySem.W.exmAny X.K cls cs = some true → PySem.W.Looks (model X.prog X.w) h (excMatches (.ref a) (.ref tp)) true) :
    Tests X (.Tuple (xs.map fun x => .Name x.1 x.2) kt pos) (fun cls => PySem.W.exmAny X.K cls cs = some true) := by
  intro a oe pn s σ H Q E I he mt h
  refine wpAny_Tuple_spliced (glb_args I hp ⟨hl, ?_⟩)
  have kk : ∀ b o, s.heap.get? b = some o → (s.heap.push { cls := .type "tuple", data := .seq cs.toArray }).get? b = some o := fun b o e => Heap.get?_push_of_some _ e
  have LT : PySem.W.Looks (model X.prog X.w) (s.heap.push { cls := .type "tuple", data := .seq cs.toArray }) (typeOf (.ref a)) oe.cls := fun A Q E s k q => wpAny_typeOf_ref (k _ _ (kk _ _ he)) q
  exact h _ _ kk rfl rfl (hm (I.kIn.keeps kk) LT (Heap.get?_push_size _ rfl) mt)
theorem tests_2 {kt : Nat} (h1 : Glb X x1 c1) (h2 : Glb X x2 c2) : Tests X (.Tuple [.Name x1 p1, .Name x2 p2] kt pos) (fun cls => PySem.W.exmAny X.K cls [c1, c2] = some true) :=
  tests_tup (xs := [(x1, p1), (x2, p2)]) (.cons h1 (.cons h2 .nil)) (by show 2 ≤ sizeLine; decide) fun X LT hp mt => PySem.W.exm_tup2 X LT hp mt
theorem tests_3 {kt : Nat} (h1 : Glb X x1 c1) (h2 : Glb X x2 c2) (h3 : Glb X x3 c3) : Tests X (.Tuple [.Name x1 p1, .Name x2 p2, .Name x3 p3] kt pos) (fun cls => PySem.W.exmAny X.K cls [c1, c2, c3] = some true) :=
  tests_tup (xs := [(x1, p1), (x2, p2), (x3, p3)]) (.cons h1 (.cons h2 (.cons h3 .nil))) (by show 3 ≤ sizeLine; decide) fun X LT hp mt => PySem.W.exm_tup3 X LT hp mt
theorem tests_4 {kt : Nat} (h1 : Glb X x1 c1) (h2 : Glb X x2 c2) (h3 : Glb X x3 c3) (h4 : Glb X x4 c4) : Tests X (.Tuple [.Name x1 p1, .Name x2 p2, .Name x3 p3, .Name x4 p4] kt pos) (fun cls => PySem.W.exmAny X.K cls [c1, c2, c3, c4] = some true) :=
  tests_tup (xs := [(x1, p1), (x2, p2), (x3, p3), (x4, p4)]) (.cons h1 (.cons h2 (.cons h3 (.cons h4 .nil)))) (by show 4 ≤ sizeLine; decide) fun X LT hp mt => PySem.W.exm_tup4 X LT hp mt
end
/-! ### what is asked of it later: a field, isinstance -/
section
variable {X : Cx} {e : Expr} {te : TE} {pos : Pos} {n : Str}
/-- kept.f -/
def tExf (K : PySem.W.Frag) (f : Str) (te : TE) : TE := fun σ H Q => te σ H fun x H1 => ∃ (a C dd : Addr) (fs : List (Str × V)) (v : V), x = .ref a ∧ H1 a = some (ExV (.ref C) (some dd) a) ∧ XfC K C ∧ PySem.W.findIn K (.ref C) f = some none ∧ H1 dd = some (.xd fs) ∧ fs.lookup f = some v ∧ Q v H1
theorem exV_inst {a C dd : Addr} {fs : List (Str × V)} {pins : List (Addr × Obj)} {σ : L2.St} {H : Hp} {s : Shared} (I : Inv X pins σ H s) (ea : H a = some (ExV (.ref C) (some dd) a)) (ed : H dd = some (.xd fs)) :
    ∃ (oe od : Obj) (m : Str → Option Value), PySem.W.InstAt s.heap a oe C (some od) ∧ (∀ f, RelO (fs.lookup f) (m f)) ∧ ∀ x, PySem.W.lookIn x od = some (m x) := by
  obtain ⟨⟨oe, vs, he, hz, hd⟩, _, _⟩ := (show ObjOk X.prog X.w H s.heap a (ExV (.ref C) (some dd) a) from I.hok a _ ea)
  obtain ⟨m, ns, rel⟩ := (show ObjOk X.prog X.w H s.heap dd (.xd fs) from I.hok dd _ ed)
  obtain ⟨od, get, look⟩ := lookIn_ns ns
  exact ⟨oe, od, m, ⟨he, hz.1, by unfold PySem.W.notCls; rw [hd] <;> rfl, by rw [hz.2]; exact get⟩, rel, look⟩
theorem pe_exf (he : PE X e te) (base : attributeBase e n X.env (eval e X.env) = eval e X.env := by rfl) : PE X (.Attribute e n pos) (tExf X.K n te) := by
  constructor
  intro pins s σ H Q I read
  refine attr_of base (thn (he.run pins s σ H _ I read) fun u s1 z => ?_)
  obtain ⟨_, H1, J, ru, a, C, dd, fs, v, rfl, ea, T, none_, ed, is_v, told⟩ := z
  obtain rfl : u = .ref a := ru
  obtain ⟨oe, od, m, inst, rel, look⟩ := exV_inst J ea ed
  have there := rel n
  rw [is_v] at there
  obtain ⟨w, mw, rw_⟩ := RelO.some_of there
  exact HandSPX.exc_get J.kIn inst T.ga T.gg T.exC (PySem.W.findObj_own T.hdC none_ rfl ((look n).trans (congrArg some mw))) (handed_of rw_) ⟨v, H1, J.tok _, rw_, told⟩
theorem cls_some {K : PySem.W.Frag} {D : Addr} (h : PySem.W.hasDictIn K D = true) : (PySem.W.clsIn K D).isSome = true := by
  obtain ⟨cd, hc, _⟩ := PySem.W.any_some h
  rw [hc]
  rfl
/-- isinstance(kept, c) -/
def rIsV (K : PySem.W.Frag) : List V → Hp → VK → Prop := fun xs H Q => ∃ (a D dd : Addr) (fs : List (Str × V)) (c : V) (cv : Value) (b : Bool), xs = [.ref a, c] ∧ H a = some (ExV (.ref D) (some dd) a) ∧ H dd = some (.xd fs) ∧ ExcC K D ∧ ClsV c cv ∧ PySem.W.kitOne K (.ref D) cv = some b ∧ Q (.bl b) H
theorem call_isV : CallR X (.builtin "isinstance") (rIsV X.K) := by
  rintro pins s σ H _ us Q I rel ⟨a, D, dd, fs, c, cv, b, rfl, ea, ed, C, cls, kit, told⟩
  match us, rel with
  | [_, _], .cons ra (.cons rc .nil) =>
    cases ra
    cases cls.eq rc
    obtain ⟨_, _, _, inst, _⟩ := exV_inst I ea ed
    exact PySem.W.kia_one (PySem.W.kitx_exc (cls_some C.hd) C.hg C.hk C.hs C.ha C.hn C.ht C.hm) I.kIn inst kit (fun z => nomatch z) fun tk => ⟨.bl b, H, I.tok tk, rfl, told⟩
/-- isinstance(kept, (c1, c2, ..)) -/
def rIsVT (K : PySem.W.Frag) : List V → Hp → VK → Prop := fun xs H Q => ∃ (a D dd tp : Addr) (fs : List (Str × V)) (cs : List V) (us : List Value) (b : Bool), xs = [.ref a, .ref tp] ∧ H a = some (ExV (.ref D) (some dd) a) ∧ H dd = some (.xd fs) ∧ ExcC K D ∧
  H tp = some (.tup cs) ∧ Paired ClsV cs us ∧ PySem.W.kitAny K (.ref D) us = some b ∧ Q (.bl b) H
theorem call_isVT : CallR X (.builtin "isinstance") (rIsVT X.K) := by
  rintro pins s σ H _ us Q I rel ⟨a, D, dd, tp, fs, cs, ws, b, rfl, ea, ed, C, tup, cls, kit, told⟩
  match us, rel with
  | [_, _], .cons ra (.cons rt .nil) =>
    cases ra
    cases rt
    obtain ⟨_, _, _, inst, _⟩ := exV_inst I ea ed
    obtain ⟨_, items, ri, ⟨oc, od, dt, sl⟩, get, is_tup, m, is_seq⟩ := (show ObjOk X.prog X.w H s.heap tp (.tup cs) from I.hok tp _ tup)
    cases ClsV.all cls ri
    cases is_tup
    cases is_seq
    exact PySem.W.kia_tup (PySem.W.kitx_exc (cls_some C.hd) C.hg C.hk C.hs C.ha C.hn C.ht C.hm) I.kIn inst get kit (fun z => nomatch z) fun tk => ⟨.bl b, H, I.tok tk, rfl, told⟩
end
end Tg

set_option maxHeartbeats 2000000
namespace Tg
open PySem PySem.Spec PyProof.Rows L2
/-! ### class X(ValueError): def __init__(self, at): ValueError.__init__(self, "..") ; self.at = at -/
def inCls (s : Stmt) (i : Nat) : Stmt := match s with
  | .ClassDef _ _ _ body _ _ _ _ _ _ _ => body.getD i (.Pass ⟨0, 0, 0, 0⟩)
  | _ => .Pass ⟨0, 0, 0, 0⟩
/-- what __init__ leaves: the field in a new dict -/
def spErr (C : Addr) (f : Str) : Sp := fun vs H Q _ => ∃ (a : Addr) (v : V), vs = [.ref a, v] ∧ H a = some (exo a C none) ∧ ∀ dx, H dx = none → dx ≠ a → Q .non (upd (upd H dx (exd dx [(f, v)])) a (exo a C (some dx)))
/-- what raise X(v) then leads to -/
theorem err_read {C : Addr} {f : Str} {ta : TE} {σ : L2.St} {H : Hp} {Q : XK} (h : ta σ H fun v H1 => ∀ (d : Addr) (H' : Hp), Same H1 H' → H1 d = none → H' d = some (.xd [(f, v)]) → Q (.ref C) (some d) H')
    (mono : ∀ {Q Q' : VK}, (∀ v H1, Q v H1 → Q' v H1) → ta σ H Q → ta σ H Q') : tMkO C (spErr C f) [] (tCons ta tNil) σ H Q := by
  refine mono (fun v H1 q => ⟨by show 1 ≤ 1000; decide, fun a na => ?_⟩) h
  refine ⟨a, v, rfl, upd_same, fun dx nd da => ⟨rfl, dx, [(f, v)], upd_same, ?_, ?_, ?_⟩⟩
  · rw [upd_ne da, upd_same]
  · rw [upd_ne da] at nd
    exact nd
  · have nd' : H1 dx = none := by
      rw [upd_ne da] at nd
      exact nd
    refine q dx _ (fun b o e => ?_) nd' upd_same
    have nb : b ≠ dx := ne_of_none e nd'
    have nba : b ≠ a := ne_of_none e na
    rw [upd_ne nb, del_ne nba, upd_ne nba, upd_ne nb, upd_ne nba]
    exact e
end Tg

set_option maxHeartbeats 2000000
namespace Tg
open PySem PySem.Spec PyProof.Rows L2
/-! ### a call by keywords that may raise, in a try -/
section
variable {X : Cx} {CX : CXT} {k : Nat} {f : Addr} {fd : FuncData} {ps ks : List Str} {sp : Sp} {E : L2.St → XK} {x : Str} {p pos : Pos} {kws : List Keyword} {tk : TA} {g : List Value → List Value → List Value} {gV : List V → List V → List V}
theorem pe_kwS (F : FnOk X.prog X.w X.K X.mg X.base CX k f fd ps sp) (room : Room k X.A) (gl : Gl X x) (at_x : X.mg x = some (.ref f)) (kept : PySem.W.keepIn X.K (.ref f) = true) (binds : KBn X.K fd ps 0 ks g gV) (lets : ∀ σ, PassesAt CX X σ (E σ)) (vals : PK X kws tk)
    (named : (backToKw pos (keywordEach kws X.env)).all (·.1.isSome) = true := by rfl) (names : (backToKw pos (keywordEach kws X.env)).filterMap (·.1) = ks := by rfl) (nodebug : (x == ("__debug__" : Str)) = false := by decide)
    (nostar : ((backTo pos (starEach [] X.env)).any (·.1) || (backToKw pos (keywordEach kws X.env)).any (·.1.isNone)) = false := by rfl) : PE X (.Call (.Name x p) [] kws pos) (fun σ H Q => tk σ H fun zs H2 => zs.length = ks.length ∧ sp (gV [] zs) H2 Q (E σ)) := by
  constructor
  intro pins s σ H Q I read
  refine wpAny_Call_Name_kw (ld_glob I gl at_x (PySem.W.callWith_KW0 (h₀ := X.base) I.ok.mod.kin kept named (thn (vals.run pos pins s σ H _ I read) fun ws s2 y => ?_) nostar) nodebug)
  obtain ⟨zs, H2, J, rel, many, told⟩ := y
  rw [names]
  refine ⟨J.kIn, wpAny_call (codeAny_mono (F.run X.A X.stack s2 H2 ⟨[], ks.zip ws⟩ (g [] ws) (gV [] zs) Q (E σ) room J.env0 (binds.to s2 [] ws J.kIn rfl (rel.length.symm.trans many)) (binds.rel (vs := []) (us := []) .nil rel) told) fun a s' z => ?_)⟩
  match a, z with
  | .error e, z => exact lets σ pins H2 s2 e s' J z
  | .ok (.ret u), z => exact J.after z
end
end Tg

set_option maxHeartbeats 2000000
namespace Tg
open PySem PySem.Spec PyProof.Rows L2
/-! ### own errors, and classes whose __init__ may raise, as a caller needs them -/
section
variable (P : Program) (w : World) (K : PySem.W.Frag) (mg : Str → Option Value) (base : Heap)
/-- the error x, of the class C over ValueError, made of one thing that is its field fld -/
def CalE (k : Nat) (x : Str) (C : Addr) (fld : Str) : Prop := ∃ fI fdI, OexC K C ∧ PySem.W.findIn K (.ref C) "__init__" = some (some (.ref fI)) ∧ PySem.W.typeIn K (.ref fI) = some (.type "function") ∧
  FnOk P w K mg base CX0 k fI fdI ["self", fld] (spErr C fld) ∧ Binds K fdI ["self", fld] [] ∧ mg x = some (.ref C)
/-- a def that may raise -/
def CalR (k : Nat) (x : Str) (ps : List Str) (sp : Sp) : Prop := ∃ f fd, FnOk P w K mg base (L2.CX P w) k f fd ps sp ∧ mg x = some (.ref f) ∧ PySem.W.keepIn K (.ref f) = true ∧ Binds K fd ps []
def CalRK (k : Nat) (x : Str) (ps ks : List Str) (is : List Nat) (sp : Sp) : Prop := ∃ f fd, FnOk P w K mg base (L2.CX P w) k f fd ps sp ∧ mg x = some (.ref f) ∧ PySem.W.keepIn K (.ref f) = true ∧ KBn K fd ps 0 ks (fun _ ws => prm is ws) (fun _ zs => prm is zs)
/-- a class whose __init__ may raise -/
def CalRC (k : Nat) (x : Str) (C : Addr) (ps : List Str) (sp : Sp) : Prop := ∃ f fd, FnOk P w K mg base (L2.CX P w) k f fd ps sp ∧ mg x = some (.ref C) ∧ Mk K C f ∧ Binds K fd ps []
def CalRCK (k : Nat) (x : Str) (C : Addr) (ps ks : List Str) (is : List Nat) (sp : Sp) : Prop := ∃ f fd, FnOk P w K mg base (L2.CX P w) k f fd ps sp ∧ mg x = some (.ref C) ∧ Mk K C f ∧ KBn K fd ps 1 ks (fun us ws => us ++ prm is ws) (fun vs zs => vs ++ prm is zs)
end
section
variable {X : Cx} {k : Nat} {ps ks : List Str} {is : List Nat} {sp : Sp} {x fld : Str} {C : Addr} {e : Expr} {es : List Expr} {p pos : Pos} {kws : List Keyword} {ta : TE} {t tk : TA} {W : WX}
theorem pm_err (c : CalE X.prog X.w X.K X.mg X.base k x C fld) (room : Room (k + 1) X.A) (gl : Gl X x) (he : PE X e ta) (nodebug : (x == ("__debug__" : Str)) = false := by decide)
    (star : starEach [e] X.env = (false, eval e X.env) :: starEach [] X.env := by rfl) : PMk X (.Call (.Name x p) [e] [] pos) (tMkO C (spErr C fld) [] (tCons ta tNil)) := by
  obtain ⟨fI, fdI, T, iC, tI, F, b, m⟩ := c
  exact pmk_oex T iC tI F room b .nil (fun _ _ _ _ _ _ _ z => z.elim) gl m (pa_cons he pa_nil star) nodebug star
/-- raise x(e), out of the def -/
def tErr (C : Addr) (fld : Str) (ta : TE) (E : XK) : TS := fun _ σ H => ta σ H fun v H1 => ∀ (d : Addr) (H' : Hp), Same H1 H' → H1 d = none → H' d = some (.xd [(fld, v)]) → E (.ref C) (some d) H'
/-- a call that may raise, in a def that lets it out -/
def tCalR (sp : Sp) (E : XK) (t : TA) : TE := fun σ H Q => t σ H fun vs H1 => sp vs H1 Q E
theorem pe_calR {E : XK} (c : CalR X.prog X.w X.K X.mg X.base k x ps sp) (hr : Room k X.A) (gl : Gl X x) (lets : Passes (L2.CX X.prog X.w) X E) (ha : PA X (e :: es) t) (nodebug : (x == ("__debug__" : Str)) = false := by decide)
    (star : starEach (e :: es) X.env = (false, eval e X.env) :: starEach es X.env := by rfl) (plain : (backTo pos (starEach es X.env)).any (·.1) = false := by rfl) : PE X (.Call (.Name x p) (e :: es) [] pos) (tCall sp [] E t) := by
  obtain ⟨f, fd, F, m, kp, b⟩ := c
  exact pe_call F hr gl m kp b .nil lets ha nodebug star plain
/-- the same in a try -/
theorem pe_calT (c : CalR X.prog X.w X.K X.mg X.base k x ps sp) (hr : Room k X.A) (gl : Gl X x) (tks : Takes X W) (ha : PA X (e :: es) t) (nodebug : (x == ("__debug__" : Str)) = false := by decide)
    (star : starEach (e :: es) X.env = (false, eval e X.env) :: starEach es X.env := by rfl) (plain : (backTo pos (starEach es X.env)).any (·.1) = false := by rfl) : PE X (.Call (.Name x p) (e :: es) [] pos) (tCallS sp (WE W) t) := by
  obtain ⟨f, fd, F, m, kp, b⟩ := c
  exact pe_callS F hr gl m kp b (fun σ => passAt tks σ) ha nodebug star plain
def tKwT (n : Nat) (sp : Sp) (is : List Nat) (W : WX) (tk : TA) : TE := fun σ H Q => tk σ H fun zs H2 => zs.length = n ∧ sp (prm is zs) H2 Q (WE W σ)
theorem pe_calKT (c : CalRK X.prog X.w X.K X.mg X.base k x ps ks is sp) (hr : Room k X.A) (gl : Gl X x) (tks : Takes X W) (vals : PK X kws tk)
    (named : (backToKw pos (keywordEach kws X.env)).all (·.1.isSome) = true := by rfl) (names : (backToKw pos (keywordEach kws X.env)).filterMap (·.1) = ks := by rfl) (nodebug : (x == ("__debug__" : Str)) = false := by decide)
    (nostar : ((backTo pos (starEach [] X.env)).any (·.1) || (backToKw pos (keywordEach kws X.env)).any (·.1.isNone)) = false := by rfl) : PE X (.Call (.Name x p) [] kws pos) (tKwT ks.length sp is W tk) := by
  obtain ⟨f, fd, F, m, kp, b⟩ := c
  exact pe_kwS (E := WE W) F hr gl m kp b (fun σ => passAt tks σ) vals named names nodebug nostar
/-! ### C(..), whose __init__ may raise, in a try -/
theorem made_or_raised {CX : CXT} {f : Addr} {fd : FuncData} {pins : List (Addr × Obj)} {σ : L2.St} {H : Hp} {s : Shared} {Q : VK} {E : L2.St → XK} {us zs : List Value} {kwv : List (Str × Value)} {vs : List V} (M : Mk X.K C f) (F : FnOk X.prog X.w X.K X.mg X.base CX k f fd ps sp)
    (room : Room (k + 1) X.A) (lets : PassesAt CX X σ (E σ)) (I : Inv X pins σ H s) (bound : ∀ s2 : Shared, X.K.In s2.heap → BindsTo s2 fd ⟨.ref (s.heap.objs.size + 1) :: us, kwv⟩ (ps.zip zs)) (rel : Vals (.ref (s.heap.objs.size + 1) :: vs) zs)
    (told : ∀ a d, H a = none → H d = none → d ≠ a → sp (.ref a :: vs) (upd (upd H d (.own a)) a (.ins C d [])) (fun v H2 => v = .non ∧ Q (.ref a) H2) (E σ)) : wpAny (model X.prog X.w) X.A (call (.ref C) us kwv) (EP X pins σ Q) X.xe s := by
  have new := I.made (C := C)
  have now := told _ _ (I.hok.fresh (Nat.le_succ s.heap.objs.size)) (I.hok.fresh (Nat.le_refl s.heap.objs.size)) (Nat.ne_of_lt (Nat.lt_succ_self _))
  have ran := F.run _ X.stack _ _ _ zs _ _ (E σ) (room.make C us kwv) (new.env0.make C us kwv) (bound _ new.kIn) rel now
  refine wpAny_call (make_map (f := f) I.kIn M.makes M.init (beq_iff_eq.mp M.fn) (codeAny_mono ran fun out s' z => ?_))
  match out, z with
  | .error err, z => exact lets pins _ _ err s' new z
  | .ok (.ret u), z =>
    obtain ⟨_, H3, J, r, rfl, q⟩ := new.after z
    exact ⟨r, .ref (s.heap.objs.size + 1), H3, J, rfl, q⟩
def tMkT (C : Addr) (sp : Sp) (W : WX) (t : TA) : TE := fun σ H Q => t σ H fun vs H1 => ∀ a d, H1 a = none → H1 d = none → d ≠ a → sp (.ref a :: vs) (upd (upd H1 d (.own a)) a (.ins C d [])) (fun v H2 => v = .non ∧ Q (.ref a) H2) (WE W σ)
theorem pe_mkT (c : CalRC X.prog X.w X.K X.mg X.base k x C ps sp) (room : Room (k + 1) X.A) (gl : Gl X x) (tks : Takes X W) (ha : PA X (e :: es) t) (nodebug : (x == ("__debug__" : Str)) = false := by decide)
    (star : starEach (e :: es) X.env = (false, eval e X.env) :: starEach es X.env := by rfl) (plain : (backTo pos (starEach es X.env)).any (·.1) = false := by rfl) : PE X (.Call (.Name x p) (e :: es) [] pos) (tMkT C sp W t) := by
  obtain ⟨f, fd, F, m, M, b⟩ := c
  constructor
  intro pins s σ H Q I read
  refine wpAny_Call_Name_kw (ld_glob I gl m (PySem.W.callWith_K (h₀ := X.base) I.ok.mod.kin M.kp (thn (ha.run pos pins s σ H _ I read) fun us s1 y => ?_) star plain) nodebug)
  obtain ⟨vs, H1, J, rel, told⟩ := y
  refine ⟨J.kIn, made_or_raised (E := WE W) (zs := .ref (s1.heap.objs.size + 1) :: us) M F room (passAt tks σ) J (fun s2 kin => ?_) (.cons rfl rel) told⟩
  have many : (V.ref (s1.heap.objs.size + 1) :: vs).length = ps.length := F.len _ _ _ _ (told _ _ (J.hok.fresh (Nat.le_succ s1.heap.objs.size)) (J.hok.fresh (Nat.le_refl s1.heap.objs.size)) (Nat.ne_of_lt (Nat.lt_succ_self _)))
  have z := b s2 (.ref (s1.heap.objs.size + 1) :: us) kin (by rw [List.append_nil, List.length_cons, ← rel.length]; exact many)
  rw [List.append_nil] at z
  exact z
def tMkKT (C : Addr) (n : Nat) (sp : Sp) (is : List Nat) (W : WX) (tk : TA) : TE := fun σ H Q => tk σ H fun zs H1 => zs.length = n ∧ ∀ a d, H1 a = none → H1 d = none → d ≠ a → sp (.ref a :: prm is zs) (upd (upd H1 d (.own a)) a (.ins C d [])) (fun v H2 => v = .non ∧ Q (.ref a) H2) (WE W σ)
theorem pe_mkKT (c : CalRCK X.prog X.w X.K X.mg X.base k x C ps ks is sp) (room : Room (k + 1) X.A) (gl : Gl X x) (tks : Takes X W) (vals : PK X kws tk)
    (named : (backToKw pos (keywordEach kws X.env)).all (·.1.isSome) = true := by rfl) (names : (backToKw pos (keywordEach kws X.env)).filterMap (·.1) = ks := by rfl) (nodebug : (x == ("__debug__" : Str)) = false := by decide)
    (nostar : ((backTo pos (starEach [] X.env)).any (·.1) || (backToKw pos (keywordEach kws X.env)).any (·.1.isNone)) = false := by rfl) : PE X (.Call (.Name x p) [] kws pos) (tMkKT C ks.length sp is W tk) := by
  obtain ⟨f, fd, F, m, M, b⟩ := c
  constructor
  intro pins s σ H Q I read
  refine wpAny_Call_Name_kw (ld_glob I gl m (PySem.W.callWith_KW0 (h₀ := X.base) I.ok.mod.kin M.kp named (thn (vals.run pos pins s σ H _ I read) fun ws s1 y => ?_) nostar) nodebug)
  obtain ⟨zs, H1, J, rel, many, told⟩ := y
  rw [names]
  exact ⟨J.kIn, made_or_raised (E := WE W) (us := []) (zs := .ref (s1.heap.objs.size + 1) :: prm is ws) M F room (passAt tks σ) J (fun s2 kin => b.to s2 [.ref (s1.heap.objs.size + 1)] ws kin rfl (rel.length.symm.trans many)) (.cons rfl (prm_rel rel is)) told⟩
end
end Tg

/-! a derivation with a told precondition in the place of the one that is read off -/
namespace Tg
open PySem PySem.Spec PyProof.Rows L2
theorem pss_by {X : Cx} {rest : List Stmt} {u R : TS} (h : PSs X rest u) (hr : ∀ D σ H, R D σ H → u D σ H) : PSs X rest R := ⟨fun pins s σ H D I hw => h.run pins s σ H D I (hr D σ H hw)⟩
theorem pe_by {X : Cx} {e : Expr} {u R : TE} (h : PE X e u) (hr : ∀ σ H Q, R σ H Q → u σ H Q) : PE X e R := ⟨fun pins s σ H Q I hw => h.run pins s σ H Q I (hr σ H Q hw)⟩
theorem pt_by {X : Cx} {e : Expr} {u R : TT} (h : PT X e u) (hr : ∀ σ H Q, R σ H Q → u σ H Q) : PT X e R := ⟨fun pins s σ H Q I hw => h.run pins s σ H Q I (hr σ H Q hw)⟩
end Tg

namespace Tg
open PySem PySem.Spec PyProof.Rows L2
/-! ### promises of defs that are called where no repr is under way (str and repr of lists ask for it) -/
section
variable {P : Program} {w : World} {K : PySem.W.Frag} {mg : Str → Option Value} {base : Heap} {CX : CXT} {k : Nat} {f : Addr} {fd : FuncData} {ps : List Str} {sp : Sp}
/-- FnOk's promise, asked only where no repr is under way -/
structure FnG (P : Program) (w : World) (K : PySem.W.Frag) (mg : Str → Option Value) (base : Heap) (CX : CXT) (k : Nat) (f : Addr) (fd : FuncData) (ps : List Str) (sp : Sp) : Prop where
  arity : ∀ {zs : List V} {H : Hp} {Q : VK} {E : XK}, sp zs H Q E → zs.length = ps.length
  runs : ∀ {A : Around} {outer : List Env} {s : Shared} {H : Hp} {given : Args} {us : List Value} {zs : List V} {Q : VK} {E : XK}, A.guards = some [] → Room k A →
    Env0 P w K mg base A outer s H → BindsTo s fd given (ps.zip us) → Vals zs us → sp zs H Q E → codeAny (model P w) A (.call (.ref f) given) (CR CX outer P w H s Q E) s
theorem FnG.of (F : FnOk P w K mg base CX k f fd ps sp) : FnG P w K mg base CX k f fd ps sp := ⟨fun h => F.len _ _ _ _ h, fun _ r e b v h => F.run _ _ _ _ _ _ _ _ _ r e b v h⟩
end
section
variable {P : Program} {w : World} {K : PySem.W.Frag} {mg : Str → Option Value} {base : Heap}
/-- where a body ends: what its call hands back -/
theorem body_end {CX : CXT} {N : List Str} {qual : Str} {scope : Scope} {f : Addr} {cdv : Value} {A : Around} {outer : List Env} {s s' : Shared} {H : Hp} {Q : VK} {E : XK} {fl : Flow}
    (h : SP (cxOf CX P w K mg base N qual scope f cdv A outer s H E) [] { nx := fun _ H' => Q .non H', rt := Q } fl s') :
    CR CX outer P w H s Q E (match fl with | .ret u => .ok (.ret u) | .next => .ok (.ret .none) | x => .ok x) s' := by
  cases fl with
  | ret u =>
    obtain ⟨v, _, Hx, J, rv, z⟩ := h
    exact ⟨v, Hx, J.os, J.bare, J.base, J.hok, rv, z⟩
  | next =>
    obtain ⟨_, Hx, J, z⟩ := h
    exact ⟨V.non, Hx, J.os, J.bare, J.base, J.hok, rfl, z⟩
  | brk => exact h.elim fun _ z => z.elim fun _ y => y.2.elim
  | cont => exact h.elim fun _ z => z.elim fun _ y => y.2.elim
/-- a def by its body, where no repr is under way -/
theorem okG {x qual : Str} {st : Stmt} {f : Addr} {fd : FuncData} {N ps : List Str} {k : Nat} {sp : Sp} (F : Fun K x qual st f fd) (S : FnScope N ps (defScope st))
    (many : ∀ zs H Q E, sp zs H Q E → zs.length = ps.length)
    (bodies : ∀ (cdv : Value) (A : Around) (outer : List Env) (s : Shared) (H : Hp) (zs : List V) (Q : VK) (E : XK), A.guards = some [] → Room k (A.deeper (envOfC qual (defScope st) s.heap.objs.size f cdv)) → sp zs H Q E →
      ∃ t, PSs (cxOf CX0 P w K mg base N qual (defScope st) f cdv A outer s H E).nox (defBody st) t ∧ t { nx := fun _ H' => Q .non H', rt := Q } (start N zs) H) : FnG P w K mg base CX0 (k + 1) f fd ps sp := by
  obtain ⟨_, _, _, _, _, _, cdv, _, _, rfl, at_f, code⟩ := F.ex
  refine ⟨fun h => many _ _ _ _ h, fun {A outer s H given us zs Q E} hg room e0 binds rel h => ?_⟩
  have stays : ∀ b o, base.get? b = some o → s.heap.get? b = some o := fun b o z => (e0.bs b o z).1
  have written := e0.mod.kin.keeps stays
  have endless := e0.mod.nolimit.keeps stays
  have slots : ∀ y ∈ ps.zip us, (defScope st).names.lookup y.1 = some .local ∨ ((defScope st).names.lookup y.1 = some .cell ∧ ((cellsFrom (s.heap.objs.size + 1) (defScope st).names []).lookup y.1).isSome = true) := fun y hy =>
    (S.par y.1 (List.of_mem_zip hy).1).imp id fun z => ⟨z, PySem.W.cellsFrom_some _ _ _ (.inl z)⟩
  refine codeAny_call_function room.depth (written _ _ at_f) rfl S.co S.gen rfl (PySem.W.codeRec_of written code) (binds _ _ _ _ (wpAny_newFunctionEnv_cells S.kind slots fun env he s1 fresh => ?_))
  subst he
  obtain ⟨t, ht, read⟩ := bodies cdv A outer s H zs Q E hg (room.deeper _) h
  have I := inv_start (CX := CX0) (P := P) (w := w) (E := E) S room.hd e0 (many _ _ _ _ h) rel fresh
  refine ⟨endless.keeps fresh.toInCall.keep, codeAny_func (wpAny_mono (ht.nox.run [] s1 (start N zs) H _ I read) (fun fl s' z => ?_) fun _ _ z => z)⟩
  have told := body_end z
  cases fl with
  | ret u => exact told
  | next => exact told
  | brk => exact False.elim told
  | cont => exact False.elim told
end
section
variable {X : Cx} {CX : CXT} {k : Nat} {f : Addr} {fd : FuncData} {ps : List Str} {sp : Sp} {E : XK} {x : Str} {p pos : Pos} {e : Expr} {es : List Expr} {t : TA}
/-- the reading of f(e, ..) for such a def -/
abbrev tCallG (sp : Sp) (E : XK) (t : TA) : TE := fun σ H Q => t σ H fun zs H1 => sp zs H1 Q E
theorem pe_callG (F : FnG X.prog X.w X.K X.mg X.base CX k f fd ps sp) (quiet : X.A.guards = some []) (room : Room k X.A) (gl : Gl X x) (at_x : X.mg x = some (.ref f)) (kept : PySem.W.keepIn X.K (.ref f) = true)
    (binds : Binds X.K fd ps []) (lets : Passes CX X E) (args : PA X (e :: es) t) (nodebug : (x == ("__debug__" : Str)) = false := by decide)
    (one : starEach (e :: es) X.env = (false, eval e X.env) :: starEach es X.env := by rfl) (nostar : (backTo pos (starEach es X.env)).any (·.1) = false := by rfl) : PE X (.Call (.Name x p) (e :: es) [] pos) (tCallG sp E t) := by
  constructor
  intro pins s σ H Q I read
  refine wpAny_Call_Name_kw (ld_glob I gl at_x (PySem.W.callWith_K (h₀ := X.base) I.ok.mod.kin kept (thn (args.run pos pins s σ H _ I read) fun us s1 y => ?_) one nostar) nodebug)
  obtain ⟨zs, H1, J, rel, h⟩ := y
  have len : (us ++ []).length = ps.length := by
    rw [List.append_nil, ← rel.length]
    exact F.arity h
  have bound := binds s1 us J.kIn len
  rw [List.append_nil] at bound
  refine ⟨J.kIn, wpAny_call (codeAny_mono (F.runs (given := ⟨us, []⟩) quiet room J.env0 bound rel h) fun a s' z => ?_)⟩
  match a, z with
  | .error er, z => exact lets pins σ H1 s1 er s' J z
  | .ok (.ret u), z => exact J.after z
/-! ### str(x) of data -/
def rShow (K : PySem.W.Frag) : List V → Hp → VK → Prop := fun xs H Q => ∃ (a : Addr) (d : PyData), xs = [.ref a] ∧ Dp K H (.ref a) d ∧ d.showable = true ∧ d.hasDict = false ∧ d.depth ≤ 60 ∧ d.shown.length ≤ sizeLine ∧ Q (.str d.shown) H
theorem call_strD (deep : X.A.units + 64 < cLine) (quiet : X.A.guards = some []) : CallR X (.type "str") (rShow X.K) := by
  rintro pins s σ H _ _ Q I (_ | ⟨ra, rb⟩) ⟨a, d, e, dp, h1, h2, h3, h4, h⟩
  · exact nomatch e
  · obtain ⟨rfl, rfl⟩ := List.cons.inj e
    cases rb
    obtain ⟨as, rd⟩ := Dp.reads I d _ _ dp ra
    cases (show _ = Value.ref a from ra)
    exact str_of_reads rd h1 (fun z => absurd (h2.symm.trans z) (by decide)) quiet (by omega) (fun _ _ z => z) (fun hx u tk kp => ⟨.str d.shown, H, I.kept kp, ⟨u, rfl⟩, h⟩) h4
end
/-! ### the law's own head, for such a def -/
/-- a law's promise: of a list of at most 63 ints it gives True -/
def spScript (K : PySem.W.Frag) : Sp := fun zs H Q _ => ∃ (a : Addr) (ns : List Int), zs = [.ref a] ∧ SqL K H a (ns.map V.int) ∧ ns.length ≤ 63 ∧ ∀ Hx, Q (.bl true) Hx
section
variable {P : Program} {w : World} {K : PySem.W.Frag} {mg mb : Str → Option Value} {k : Nat} {fa a : Addr} {fd : FuncData} {x : Str} {s1 : Shared} {vs : List Value} {ns : List Int}
theorem law_from (KX : K.In s1.heap) (globals : s1.heap.Ns mainGlobals mg) (builtins : s1.heap.Ns builtinsNs mb) (boot : ∀ y : Str, y ≠ "__name__" → mb y = bootBuiltins y) (lim : s1.heap.NoLimit) (nogens : s1.gens = #[])
    (script : s1.heap.get? a = some { cls := .type "list", data := .seq vs.toArray }) (room : Room k callerA) (F : ∀ B : Heap, K.In B → B.Ns mainGlobals mg → FnG P w K mg B CX0 k fa fd [x] (spScript K))
    (bind : ∀ (s : Shared) (u : Value), BindsTo s fd ⟨[u], []⟩ [(x, u)]) (H : Hp) (only : Only H) (here : SqL K H a (ns.map V.int)) (few : ns.length ≤ 63) (fine : HOk P w H s1.heap) (alone : ∀ b, H b ≠ none → b = a ∧ K.lookup a = none) :
    codeAny (model P w) callerA (.call (.ref fa) ⟨[.ref a], []⟩) (fun r s' => r = .ok (.ret (.bool true)) ∧ OldK s1.heap s'.heap ∧ s'.os = s1.os ∧ AllBare s'.gens) s1 := by
  have free : ∀ {b : Addr}, (b = a → K.lookup a = none → False) → H b = none := fun {b} z => by
    cases hb : H b with
    | none => rfl
    | some u => exact ((fun y => z y.1 y.2) (alone b (by rw [hb]; exact fun e => nomatch e))).elim
  have dicts : ∀ {b : Addr} {m : Str → Option Value}, s1.heap.Ns b m → (hidT s1.heap H).Ns b m := fun {b m} y => by
    obtain ⟨o, es, ep, e, dd, r⟩ := y
    refine ⟨o, es, ep, hidT_get e (free fun z _ => ?_), dd, r⟩
    rw [z, script] at e
    cases e
    exact nomatch dd
  have kin : K.In (hidT s1.heap H) := fun b o e => hidT_get (KX b o e) (free fun z y => by
    rw [z, y] at e
    exact nomatch e)
  obtain ⟨mc, c1, c2⟩ := lim
  have e0 : Env0 P w K mg (hidT s1.heap H) callerA [] s1 H := {
    frames := rfl
    mod := ⟨kin, dicts globals, ⟨mb, dicts builtins, boot⟩, ⟨mc, dicts c1, c2⟩⟩
    bs := fun _ _ z => of_hidT z
    bsz := Nat.le_of_eq (hidT_size _ _)
    funs := trivial
    frf := fun b z => nomatch (show b ∈ ([] : List Addr) from z)
    hok := fine
    bare := .of_eq nogens }
  have run := (F _ kin (dicts globals)).runs (given := ⟨[.ref a], []⟩) (us := [.ref a]) (zs := [.ref a]) (Q := fun v _ => v = .bl true) (E := fun _ _ _ => False) rfl room e0 (bind s1 (.ref a)) (.cons rfl .nil) ⟨a, ns, rfl, here, few, fun _ => rfl⟩
  refine codeAny_mono run fun r s' told => ?_
  match r, told with
  | .error er, told => exact told.elim
  | .ok (.ret u), told =>
    obtain ⟨v, Hx, os, bare, un, fine2, rel, is_true⟩ := told
    cases (show v = .bl true from is_true)
    cases (show u = Value.bool true from rel)
    refine ⟨rfl, .of_keep fun b o e => ?_, os, bare⟩
    rcases only b with z | ⟨og, _, z⟩
    · exact un.keep b o e z (fun y => nomatch (show b ∈ ([] : List Addr) from y)) (by simp)
    · have still := (fine2 b _ (un.frzs b og _ z)).1
      cases e.symm.trans (fine b _ z).1
      exact still
end
theorem walk_g {l : PySem.W.OpenLaw} {k : Nat} {q : Program} {loose : List Str} {XP : (Str → Option Value) → Heap → Prop} {YP : World → Heap → Prop} {d : DefRec} {K : Params → PySem.W.Frag} {x : Str} (most : l.most = some 63) (plain : d.params.defaults = [])
    (room : Room k callerA) (inK : ∀ w h, YP w h → (K w.params).In h)
    (law : ∀ w mg fa h, (K w.params).In h → h.Ns mainGlobals mg → mg d.name = some (.ref fa) → ∃ fd : FuncData, (∀ (s : Shared) (v : Value), BindsTo s fd ⟨[v], []⟩ [(x, v)]) ∧ ∀ B : Heap, (K w.params).In B → B.Ns mainGlobals mg → FnG l.prog w (K w.params) mg B CX0 k fa fd [x] (spScript (K w.params))) :
    PySem.W.WalkO q loose XP YP l.row.toRowW d [] (fun f zs => PySem.call f zs) := by
  refine Att.attach_call most plain fun w _ s1 mg mb fa _ _ _ _ a vs ns G Y _ _ _ at_law script these few nogens => ?_
  have KX := inK w _ Y
  obtain ⟨fd, bind, F⟩ := law w mg fa _ KX G.T.g at_law
  have rel := vals_ints these
  have line : ns.length ≤ sizeLine := Nat.le_trans few (by decide)
  have go := law_from (ns := ns) KX G.T.g G.T.b G.T.builtins G.T.nolimit nogens script room F bind
  cases look : (K w.params).lookup a with
  | some o =>
    cases script.symm.trans (KX a o look)
    refine go (fun _ => none) (fun _ => .inl rfl) (.inr ⟨_, vs.toArray, _, look, rfl, rfl, rfl, ?_, ?_⟩) few (fun b u z => ((nomatch z : (none : Option HO) = some u → False) z).elim) (fun b z => absurd rfl z)
    · rw [List.size_toArray, these.length]
      exact line
    · rw [List.toList_toArray]
      exact rel
  | none =>
    obtain ⟨o, eo⟩ : ∃ o : HO, o = .frz { cls := .type "list", data := .seq vs.toArray } (.lst (ns.map V.int)) := ⟨_, rfl⟩
    have at_a : ∀ b, (if b = a then some o else none) = none ∨ (b = a ∧ (if b = a then some o else none) = some o) := fun b => by
      by_cases z : b = a
      · exact .inr ⟨z, if_pos z⟩
      · exact .inl (if_neg z)
    refine go (fun b => if b = a then some o else none) (fun b => ?_) (.inl (.inr ⟨_, (if_pos rfl).trans (congrArg some eo)⟩)) few (fun b u z => ?_) (fun b z => ?_)
    · rcases at_a b with z | ⟨_, z⟩
      · exact .inl z
      · exact .inr ⟨_, _, z.trans (congrArg some eo)⟩
    · rcases at_a b with y | ⟨e, y⟩
      · exact nomatch y.symm.trans z
      · cases y.symm.trans z
        subst e
        rw [eo]
        exact ⟨script, by rw [List.length_map]; exact line, vs, _, rel, script⟩
    · rcases at_a b with y | ⟨e, _⟩
      · exact absurd y z
      · exact ⟨e, look⟩
end Tg

/-! repr of own objects by their own __repr__, and {x!r} of data, where no repr is under way -/
namespace Tg
open PySem PySem.Spec PyProof.Rows L2
section
variable {prog : Program} {w : World} {A : Around} {E : Value → Shared → Prop} {s : Shared} {K : PySem.W.Frag} {x C f : Addr} {ox : Obj} {dx : Option Obj}
theorem repr_in {Q : Value → Shared → Prop} (room : A.in1.units < cLine) (inK : K.In s.heap) (I : PySem.W.InstAt s.heap x ox C dx) (at_ : PySem.W.findIn K (.ref C) "__repr__" = some (some (.ref f))) (fn : PySem.W.isFn K (.ref f) = true)
    (h : wpAny (model prog w) A.in1 (call (.ref f) [.ref x]) (fun r s' => ∃ y t, r = .str y t ∧ Q r s') E s) : wpAny (model prog w) A (call (.builtin "repr") [.ref x]) Q E s := by
  refine Calls.call_function_entry (id := "repr") PySem.F.kind_repr PySem.F.plain_repr PySem.F.entry_repr (PySem.F.args_repr1 (.ref x)) ?_
  unfold Builtin.«repr»
  refine wpAny_bind (m := oneArg "repr" _) (wpAny_pure (wpAny_bind (wpAny_cRoomFor room (wpAny_bind (wpAny_bind (I.type.here ((PySem.W.looks_findIn inK at_).here ?_)))))))
  show wpAny _ A.in1 (if (some (Value.ref f)).isNone = true then _ else _) _ E s
  rw [if_neg (fun z => nomatch z)]
  refine wpAny_bind (m := callSpecialIfBound? (.ref x) (Str.ofString "__repr__") _) (PySem.W.ifBound_K inK I at_ fn (wpAny_mono h (fun r s' told => ?_) fun _ _ y => y))
  obtain ⟨y, t, rfl, q⟩ := told
  refine wpAny_bind (m := isInstance (.str y t) (.type "str")) (wpAny_isInstance (T := "str") (typeIs_str _ y t) isSubtype_str_str ?_)
  first
    | exact wpAny_pure ⟨_, rfl, q⟩
    | (rw [if_pos rfl]; exact wpAny_pure ⟨_, rfl, q⟩)
    | (simp only [if_true]; exact wpAny_pure ⟨_, rfl, q⟩)
end
section
variable {X : Cx} {n : Nat}
def rReprO (C : Addr) (sp : Sp) (E : XK) : List V → Hp → VK → Prop := fun vs H Q => ∃ a dx fs, vs = [.ref a] ∧ H a = some (.ins C dx fs) ∧ sp [.ref a] H (fun v H' => ∃ y : Str, v = .str y ∧ Q v H') E
theorem cr_reprO {CX : CXT} {C f : Addr} {fd : FuncData} {sp : Sp} {E : XK} (F : FnG X.prog X.w X.K X.mg X.base CX n f fd ["self"] sp) (at_ : PySem.W.findIn X.K (.ref C) "__repr__" = some (some (.ref f))) (fn : PySem.W.isFn X.K (.ref f) = true) (hb : Binds X.K fd ["self"] []) (hx : Passes CX X E) (hr : Room (n + 1) X.A) (quiet : X.A.guards = some []) :
    CallR X (.builtin "repr") (rReprO C sp E) := by
  rintro pins s σ H vs us Q I r ⟨a, dx, fs, rfl, ha, told⟩
  obtain rfl : us = [.ref a] := by
    cases r with
    | cons p t => cases t; cases p; rfl
  obtain ⟨atA, J, _⟩ := ins_get I.hok ha
  obtain ⟨od, J, _⟩ := J.look
  have sb : Sub X n X.A.in1 := Sub.in1 ⟨hr, rfl⟩
  refine repr_in (by have := hr.units; show X.A.units + 1 < cLine; omega) I.kIn J at_ fn ?_
  have e0 : Env0 X.prog X.w X.K X.mg X.base X.A.in1 X.stack s H := by
    have env := I.env0
    exact ⟨sb.fr.symm ▸ env.frames, env.mod, env.bs, env.bsz, env.funs, env.frf, env.hok, env.bare⟩
  refine wpAny_call (codeAny_mono (F.runs (A := X.A.in1) (outer := X.stack) (s := s) (given := ⟨[.ref a], []⟩) (us := [.ref a]) (zs := [.ref a]) quiet sb.room e0 (by
    have z := hb s [.ref a] I.kIn rfl
    simpa using z) (.cons rfl .nil) told) fun r s' done => ?_)
  cases r with
  | error e => exact hx pins σ H s e s' I done
  | ok fl =>
    cases fl with
    | ret w =>
      obtain ⟨z, H', I', rz, y, ez, q⟩ := I.after done
      subst ez
      obtain ⟨t, rfl⟩ := rz
      exact ⟨y, t, rfl, .str y, H', I', ⟨t, rfl⟩, q⟩
    | next => exact False.elim done
    | brk => exact False.elim done
    | cont => exact False.elim done
/-- f'..' of two parts or more, by a name -/
def tJn (ts : List TE) : TE := fun σ H Q => tJs ts Str.empty σ H fun out H1 => Q (.str out) H1
theorem pe_jn {v1 v2 : Expr} {rest : List Expr} {ts : List TE} {pos : Pos} (h : PJ X (v1 :: v2 :: rest) ts) : PE X (.JoinedStr (v1 :: v2 :: rest) pos) (tJn ts) := pe_joined h
/-! ### {x!r} of data -/
def tFmtRD (K : PySem.W.Frag) (te : TE) : TE := fun σ H Q => te σ H fun x H1 => ∃ d : PyData, Dp K H1 x d ∧ d.showable = true ∧ d.hasDict = false ∧ d.depth ≤ 60 ∧ d.shown.length ≤ sizeLine ∧ Q (.str d.shown) H1
theorem pe_fmtRD {e : Expr} {te : TE} {pos : Pos} (deep : X.A.units + 64 < cLine) (quiet : X.A.guards = some []) (he : PE X e te) : PE X (.FormattedValue e 114 none pos) (tFmtRD X.K te) := by
  refine ⟨fun pins s σ H Q I h => ?_⟩
  refine wpAny_FormattedValue_repr (thn (he.run pins s σ H _ I h) fun v s1 ⟨x, H1, I1, r1, d, dp, h1, h2, h3, h4, q⟩ => ?_)
  obtain ⟨as, rd⟩ := Dp.reads I1 d x v dp r1
  cases dp with
  | non =>
    cases r1
    exact pyReprObj_none (wpAny_formatField_str ⟨.str "None", H1, I1.tok _, ⟨_, rfl⟩, q⟩ ⟨.str "None", H1, I1.tok _, ⟨_, rfl⟩, q⟩ h4)
  | bl b =>
    cases r1
    exact pyReprObj_bool (wpAny_formatField_str ⟨.str _, H1, I1.tok _, ⟨_, rfl⟩, q⟩ ⟨.str _, H1, I1.tok _, ⟨_, rfl⟩, q⟩ h4)
  | int i =>
    obtain ⟨t, rfl⟩ := r1
    exact pyReprObj_int (of_decide_eq_true h1) (wpAny_formatField_str ⟨.str _, H1, I1.tok _, ⟨_, rfl⟩, q⟩ ⟨.str _, H1, I1.tok _, ⟨_, rfl⟩, q⟩ h4)
  | str y =>
    obtain ⟨t, rfl⟩ := r1
    exact pyReprObj_str (wpAny_formatField_str ⟨.str _, H1, I1.tok _, ⟨_, rfl⟩, q⟩ ⟨.str _, H1, I1.tok _, ⟨_, rfl⟩, q⟩ h4) h4
  | lst _ _ =>
    cases r1
    exact pyReprObj_of_reads rd h1 (fun z => absurd (h2.symm.trans z) (by decide)) quiet (by omega) (fun _ _ z => z) (fun hx u tk kp => wpAny_formatField_str ⟨.str _, H1, I1.kept kp, ⟨_, rfl⟩, q⟩ ⟨.str _, H1, (I1.kept (t' := tk) kp).tok _, ⟨_, rfl⟩, q⟩ h4) h4
  | tup _ _ =>
    cases r1
    exact pyReprObj_of_reads rd h1 (fun z => absurd (h2.symm.trans z) (by decide)) quiet (by omega) (fun _ _ z => z) (fun hx u tk kp => wpAny_formatField_str ⟨.str _, H1, I1.kept kp, ⟨_, rfl⟩, q⟩ ⟨.str _, H1, (I1.kept (t' := tk) kp).tok _, ⟨_, rfl⟩, q⟩ h4) h4
end
theorem pe_fmtRDK {X : Cx} {e : Expr} {te : TE} {pos : Pos} (K : PySem.W.Frag) (deep : X.A.units + 64 < cLine) (quiet : X.A.guards = some []) (he : PE X e te) (hK : X.K = K := by rfl) : PE X (.FormattedValue e 114 none pos) (tFmtRD K te) := by
  subst hK
  exact pe_fmtRD deep quiet he
section
variable {P : Program} {w : World} {K : PySem.W.Frag} {mg : Str → Option Value} {base : Heap}
/-- a def that is called where no repr is under way -/
def CalG (P : Program) (w : World) (K : PySem.W.Frag) (mg : Str → Option Value) (base : Heap) (k : Nat) (x : Str) (ps : List Str) (sp : Sp) : Prop := ∃ f fd, FnG P w K mg base CX0 k f fd ps sp ∧ mg x = some (.ref f) ∧ PySem.W.keepIn K (.ref f) = true ∧ Binds K fd ps []
theorem pe_calG {X : Cx} {k : Nat} {x : Str} {ps : List Str} {sp : Sp} {e : Expr} {es : List Expr} {t : TA} {p pos : Pos} (c : CalG X.prog X.w X.K X.mg X.base k x ps sp) (quiet : X.A.guards = some []) (hr : Room k X.A) (gl : Gl X x) (ha : PA X (e :: es) t) (nodebug : (x == ("__debug__" : Str)) = false := by decide)
    (one : starEach (e :: es) X.env = (false, eval e X.env) :: starEach es X.env := by rfl) (nostar : (backTo pos (starEach es X.env)).any (·.1) = false := by rfl) : PE X (.Call (.Name x p) (e :: es) [] pos) (tCallG sp E0 t) := by
  obtain ⟨f, fd, F, hm, hk, hb⟩ := c
  exact pe_callG F quiet hr gl hm hk hb pass0 ha nodebug one nostar
end
end Tg

namespace Tg
open PySem PySem.Spec PyProof.Rows L2
/-! ### enumerate(t), t a tuple -/
set_option maxHeartbeats 1000000 in
theorem enum1_new {v : Value} {o : Obj} {Ok : Heap → Prop} (B : Begins v o Ok) :
    Meets (Builtin.«enumerate.__new__» ⟨[.type "enumerate", v], []⟩) (fun _ R s => Ok s.heap ∧ R (.ok (.ret (.ref (s.heap.push o).objs.size))) { s with heap := (s.heap.push o).push { cls := .type "enumerate", data := .fields #[.none, .bool false, .ref s.heap.objs.size, rawInt 0, .none, .none] } }) :=
  .of_wp fun prog w A R s want => by
    obtain ⟨hp, g, d, tk, os⟩ := s; obtain ⟨ok, want⟩ := want
    have isub := sub_enumerate
    have it0 : ∀ {A' : Around} {E : Value → Shared → Prop} {Q : Value → Shared → Prop}, Q (.ref hp.objs.size) ⟨hp.push o, g, d, tk, os⟩ → wpAny (model prog w) A' (pyIter v) Q E ⟨hp, g, d, tk, os⟩ := fun q => B.iter prog w _ _ ⟨hp, g, d, tk, os⟩ _ ok q
    wp_walk using it0
    apply wpAny_stack_any; intro fr; apply wpAny_pure
    split
    · rename_i c _ _ _ _ _
      cases (c == Value.type "enumerate") <;> (wp_walk using it0; exact ⟨_, rfl, want⟩)
    · wp_walk using it0; exact ⟨_, rfl, want⟩
theorem enum1_made {prog : Program} {w : World} {A : Around} {E : Value → Shared → Prop} {s : Shared} {v : Value} {o : Obj} {Ok : Heap → Prop} {Q : Value → Shared → Prop} (B : Begins v o Ok) (ok : Ok s.heap)
    (h : ∀ h', IsEnum h' (s.heap.objs.size + 1) s.heap.objs.size 0 .none → h'.get? s.heap.objs.size = some o → (∀ b o, s.heap.get? b = some o → h'.get? b = some o) → Q (.ref (s.heap.objs.size + 1)) { s with heap := h' }) :
    wpAny (model prog w) A (call (.type "enumerate") [v]) Q E s := by
  refine callType_new F.called_enumerate (by decide) (F.typeCall_enumerate_1 _) (F.newCall_enumerate_1 _) (fun obj => F.args_object_init_2 obj _) F.entry_enumerate_new (enum1_new B) ⟨ok, ?_⟩
  have more : (s.heap.push o).objs.size = s.heap.objs.size + 1 := by rw [Heap.size_push]
  show _ ∧ _
  rw [more]
  have he : IsEnum ((s.heap.push o).push { cls := .type "enumerate", data := .fields #[.none, .bool false, .ref s.heap.objs.size, rawInt 0, .none, .none] }) (s.heap.objs.size + 1) s.heap.objs.size 0 .none := by
    have z := Heap.get?_push_size (s.heap.push o) (o := { cls := .type "enumerate", data := .fields #[.none, .bool false, .ref s.heap.objs.size, rawInt 0, .none, .none] }) rfl
    rw [more] at z
    exact z
  exact ⟨⟨_, he, rfl⟩, h _ he (Heap.get?_push_of_some _ (Heap.get?_push_size _ B.free)) fun b o x => Heap.get?_push_of_some _ (Heap.get?_push_of_some _ x)⟩
/-- the tuple at a, each item with its place in a new pair -/
def IteT (K : PySem.W.Frag) (a : Addr) : It :=
  ⟨fun i H => ∃ (xs : List V) (x : V), SqT K H a xs ∧ xs[i]? = some x,
    fun i H v H' => ∃ T x, v = .ref T ∧ H T = none ∧ H' = upd H T (.tup [.int (i : Nat), x]) ∧ ∀ xs, SqT K H a xs → xs[i]? = some x,
    fun i H => ∃ xs : List V, SqT K H a xs ∧ xs.length = i⟩
theorem apart_ti {h : Heap} {a it : Addr} {items : Array Value} {i : Nat} (h1 : h.IsTuple a items) (h2 : h.IsTupleIter it a i) : a ≠ it := fun z => by
  obtain ⟨o, e, c, _⟩ := h1
  obtain ⟨o2, e2, c2, _⟩ := h2
  rw [z, e2] at e
  cases e
  rw [c2] at c
  exact absurd c (by decide)
theorem apart_te {h : Heap} {a e it : Addr} {items : Array Value} {k : Int} {old : Value} (h1 : h.IsTuple a items) (h2 : IsEnum h e it k old) : e ≠ a := fun z => by
  obtain ⟨o, e1, c, _⟩ := h1
  have h3 : h.get? a = _ := z ▸ h2
  rw [h3] at e1
  cases e1
  have c' : Value.type "enumerate" = Value.type "tuple" := c
  exact absurd c' (by decide)
theorem turn_enumT {P : Program} {w : World} {K : PySem.W.Frag} {elts : List Expr} {kk : Nat} {tpos : Pos} (a e it : Addr) :
    Turn P w K (.Tuple elts kk tpos) (IteT K a) [e, it] e (fun i h => (∃ old, IsEnum h e it (0 + (i : Int)) old) ∧ h.IsTupleIter it a i ∧ e ≠ it) where
  mem := List.mem_cons_self
  obj := fun i h st b hb => by
    obtain ⟨⟨old, he⟩, ⟨o, ho, _, hd⟩, _⟩ := st
    rw [List.mem_cons, List.mem_singleton] at hb
    rcases hb with rfl | rfl
    · exact ⟨_, he, fun v q => nomatch q⟩
    · exact ⟨o, ho, fun v q => by rw [hd] at q; cases q⟩
  keep := fun i h h' st k => ⟨st.1.imp fun old he => k e List.mem_cons_self _ he, st.2.1.at fun o q => k it (List.mem_cons_of_mem _ List.mem_cons_self) o q, st.2.2⟩
  item := by
    rintro X rfl rfl rfl hc i pins s σ H E I hf ⟨⟨old, he⟩, hit, hne⟩ ⟨xs, x, hq, hx⟩
    obtain ⟨its, rv, ist, _⟩ := I.tuple hq
    obtain ⟨u, hu, ru⟩ := Vals.get rv hx
    have isT : s.heap.IsTuple a its.toArray := ist
    have n1 := apart_ti isT hit
    have n2 := apart_te isT he
    have hil : i < its.toArray.size := by
      have := (List.getElem?_eq_some_iff.mp hu).1
      simpa using this
    have calm : X.A.in1.handled = none := by
      have := I.ok.hd hc
      simp [this]
    have G := GoesN.enumFrom (prog := X.prog) (w := X.w) (A := X.A) (elts := elts) (x1 := kk) (pos := tpos) 0 (Draws.tuple (prog := X.prog) (w := X.w) calm it a n1 its.toArray) e hne (by simp [hne, n2]) List.mem_cons_self
    refine G.goes i s _ E hil ⟨⟨old, he⟩, hit, isT⟩ fun v h' tk hy st' hk _ => ?_
    obtain ⟨T, t, u', ev, hT, hp, isp⟩ := hy
    obtain rfl : u' = u := by
      have z : its.toArray[i]? = some u' := hp
      rw [List.getElem?_toArray, hu] at z
      exact (Option.some.inj z).symm
    have new : ObjOk X.prog X.w (upd H T (.tup [.int (i : Nat), x])) h' T (.tup [.int (i : Nat), x]) := by
      refine ⟨by show 2 ≤ sizeLine; decide, [.int (0 + (i : Int)) t, u'], .cons ⟨_, by rw [Int.zero_add]⟩ (.cons ru .nil), isp⟩
    have J : Inv X pins σ (upd H T (.tup [.int (i : Nat), x])) { s with heap := h', toks := tk } := I.turnedNew (ch := [e, it]) (fun b ob hb q => hk b ob hb q) hf hT new
    refine ⟨.ref T, _, J, by rw [ev]; rfl, ⟨T, x, rfl, I.hok.fresh hT, rfl, fun ys hy => by rw [I.tuple_inj hy hq]; exact hx⟩, ⟨?_, st'.2.1, hne⟩, fun b hb => ?_⟩
    · obtain ⟨old2, he2⟩ := st'.1
      exact ⟨old2, he2⟩
    · have lt : b < s.heap.objs.size := by
        rw [List.mem_cons, List.mem_singleton] at hb
        rcases hb with rfl | rfl
        · exact Heap.lt_size he
        · obtain ⟨_, q, _⟩ := hit
          exact Heap.lt_size q
      rw [upd_ne (Nat.ne_of_lt (Nat.lt_of_lt_of_le lt hT))]
      exact (hf b hb).1
  done := by
    rintro X rfl rfl rfl hc i pins s σ H E I hf ⟨⟨old, he⟩, hit, hne⟩ ⟨xs, hq, hx⟩
    obtain ⟨its, rv, ist, _⟩ := I.tuple hq
    have isT : s.heap.IsTuple a its.toArray := ist
    have n1 := apart_ti isT hit
    have n2 := apart_te isT he
    have calm : X.A.in1.handled = none := by
      have := I.ok.hd hc
      simp [this]
    have ei : its.toArray.size = i := by
      rw [← hx, rv.length]
      simp
    have G := GoesN.enumFrom (prog := X.prog) (w := X.w) (A := X.A) (elts := elts) (x1 := kk) (pos := tpos) 0 (Draws.tuple (prog := X.prog) (w := X.w) calm it a n1 its.toArray) e hne (by simp [hne, n2]) List.mem_cons_self
    refine G.stops s _ E (by rw [ei]; exact ⟨⟨old, he⟩, hit, isT⟩) fun h' tk hk _ => ?_
    exact I.turnedL (t' := tk) (ch := [e, it]) (fun b ob hb q => hk b ob hb q) hf
  self := fun A i s Q E st q => by
    obtain ⟨⟨old, he⟩, _⟩ := st
    exact wpAny_pyIter_enum he q
end Tg

/-! enumerate(t) and enumerate(t, start=k), t a text -/
namespace Tg
open PySem PySem.Spec PyProof.Rows L2
/-- each sign of the text z in a new pair with its place, counted from c on -/
def ItS (z : Str) (c : Int) : It :=
  ⟨fun i _ => i < z.cps.size, fun i H v H' => ∃ T n, v = .ref T ∧ H T = none ∧ H' = upd H T (.tup [.int (c + (i : Int)), .str ⟨#[n]⟩]) ∧ z.cps[i]? = some n, fun i _ => z.cps.size = i⟩
theorem turn_enumS {P : Program} {w : World} {K : PySem.W.Frag} {elts : List Expr} {kk : Nat} {tpos : Pos} (z : Str) (tz : Tok) (c : Int) (e it : Addr) :
    Turn P w K (.Tuple elts kk tpos) (ItS z c) [e, it] e (fun i h => (∃ old, IsEnum h e it (c + (i : Int)) old) ∧ h.IsStrIter it (strIterType z) z tz i ∧ e ≠ it) where
  mem := List.mem_cons_self
  obj := fun i h st b hb => by
    obtain ⟨⟨old, he⟩, ⟨o, ho, _, hd⟩, _⟩ := st
    rw [List.mem_cons, List.mem_singleton] at hb
    rcases hb with rfl | rfl
    · exact ⟨_, he, fun _ q => nomatch q⟩
    · exact ⟨o, ho, fun _ q => by rw [hd] at q; cases q⟩
  keep := fun i h h' st k => by
    obtain ⟨⟨old, he⟩, ⟨o, ho, r⟩, ne⟩ := st
    exact ⟨⟨old, k e List.mem_cons_self _ he⟩, ⟨o, k it (List.mem_cons_of_mem _ List.mem_cons_self) _ ho, r⟩, ne⟩
  item := by
    rintro X rfl rfl rfl hc i pins s σ H E I hf ⟨⟨old, he⟩, hit, hne⟩ lt
    have calm : X.A.in1.handled = none := by
      have := I.ok.hd hc
      simp [this]
    have G := GoesN.enumFrom (prog := X.prog) (w := X.w) (A := X.A) (elts := elts) (x1 := kk) (pos := tpos) c (Draws.text (prog := X.prog) (w := X.w) calm it z tz) e hne (by simp [hne]) List.mem_cons_self
    refine G.goes i s _ E lt ⟨⟨old, he⟩, hit⟩ fun v h' tk hy st' hk _ => ?_
    obtain ⟨T, t, u, ev, hT, ⟨n, tn, hn, rfl⟩, isp⟩ := hy
    have new : ObjOk X.prog X.w (upd H T (.tup [.int (c + (i : Int)), .str ⟨#[n]⟩])) h' T (.tup [.int (c + (i : Int)), .str ⟨#[n]⟩]) :=
      ⟨Nat.le_trans (show 2 ≤ 1000 by decide) (by decide), [.int (c + (i : Int)) t, .str ⟨#[n]⟩ tn], .cons ⟨_, rfl⟩ (.cons ⟨_, rfl⟩ .nil), isp⟩
    have J : Inv X pins σ (upd H T (.tup [.int (c + (i : Int)), .str ⟨#[n]⟩])) { s with heap := h', toks := tk } := I.turnedNew (ch := [e, it]) (fun b ob hb q => hk b ob hb q) hf hT new
    refine ⟨.ref T, _, J, by rw [ev]; rfl, ⟨T, n, rfl, I.hok.fresh hT, rfl, hn⟩, ⟨st'.1, st'.2, hne⟩, fun b hb => ?_⟩
    have low : b < s.heap.objs.size := by
      rw [List.mem_cons, List.mem_singleton] at hb
      rcases hb with rfl | rfl
      · exact Heap.lt_size he
      · obtain ⟨_, q, _⟩ := hit
        exact Heap.lt_size q
    rw [upd_ne (Nat.ne_of_lt (Nat.lt_of_lt_of_le low hT))]
    exact (hf b hb).1
  done := by
    rintro X rfl rfl rfl hc i pins s σ H E I hf ⟨⟨old, he⟩, hit, hne⟩ ei
    have calm : X.A.in1.handled = none := by
      have := I.ok.hd hc
      simp [this]
    have G := GoesN.enumFrom (prog := X.prog) (w := X.w) (A := X.A) (elts := elts) (x1 := kk) (pos := tpos) c (Draws.text (prog := X.prog) (w := X.w) calm it z tz) e hne (by simp [hne]) List.mem_cons_self
    have ei' : z.cps.size = i := ei
    refine G.stops s _ E (by rw [ei']; exact ⟨⟨old, he⟩, hit⟩) fun h' tk hk _ => ?_
    exact I.turnedL (t' := tk) (ch := [e, it]) (fun b ob hb q => hk b ob hb q) hf
  self := fun A i s Q E st q => by
    obtain ⟨⟨old, he⟩, _⟩ := st
    exact wpAny_pyIter_enum he q
theorem walk_enumS {z : Str} {c : Int} : Walk (ItS z c) z.cps.size (fun _ => True) (fun i H v H' => ∃ T n, v = .ref T ∧ H T = none ∧ H' = upd H T (.tup [.int (c + (i : Int)), .str ⟨#[n]⟩]) ∧ z.cps[i]? = some n) :=
  ⟨fun _ _ hi _ => hi, fun _ _ => rfl, fun _ _ _ _ _ _ y => y⟩
def iEnumS (ta : TA) : TI := fun σ H R => ta σ H fun vs H1 => ∃ z, vs = [.str z] ∧ R (ItS z 0) H1
theorem pi_enumS {X : Cx} {e : Expr} {ta : TA} {p pos tpos : Pos} {elts : List Expr} {kk : Nat} (hg : Gl X "enumerate") (hm : X.mg "enumerate" = none) (ha : PA X [e] ta) (one : starEach [e] X.env = [(false, eval e X.env)] := by rfl) :
    PI X (.Tuple elts kk tpos) (.Call (.Name "enumerate" p) [e] [] pos) (iEnumS ta) := by
  constructor
  intro pins s σ H R I told
  refine Call_ (ld_blt I hg hm boot_enumerate (callWith_type1 (thn (ha.run pos pins s σ H _ I told) fun us s1 come => ?_) one rfl))
  obtain ⟨_, H1, I1, r1, z, rfl, q⟩ := come
  obtain ⟨u, rfl, tz, rfl⟩ := vals1 r1
  refine enum1_made (begins_text z tz) trivial fun h' he hit hk => wpAny_pyIter_enum he ?_
  have I2 := I1.kept (t' := s1.toks) hk
  refine ⟨s1.heap.objs.size + 1, [s1.heap.objs.size + 1, s1.heap.objs.size], _, _, H1, rfl, I2, turn_enumS z tz 0 (s1.heap.objs.size + 1) s1.heap.objs.size, ⟨⟨.none, he⟩, ⟨_, hit, rfl, rfl⟩, Nat.succ_ne_self _⟩, fun b hb => ?_, q⟩
  have late : s1.heap.objs.size ≤ b := by
    rw [List.mem_cons, List.mem_singleton] at hb
    rcases hb with rfl | rfl
    · exact Nat.le_succ _
    · exact Nat.le_refl _
  exact I1.fpOk late (I1.hok.fresh late)
/-- a built-in class called with keywords -/
theorem type_kw {M : Model} {A : Around} {E : Value → Shared → Prop} {s : Shared} {env : Env} {pos : Pos} {T : String} {e : Expr} {kws : List Keyword} {Q : Value → Shared → Prop}
    (h : wpAny M A (spliced (backTo pos (starEach [e] env))) (fun vs s1 => wpAny M A (evalAll ((backToKw pos (keywordEach kws env)).map (·.2))) (fun ks s2 => wpAny M A (call (.type T) vs (((backToKw pos (keywordEach kws env)).filterMap (·.1)).zip ks)) Q E s2) E s1) E s)
    (one : backTo pos (starEach [e] env) = (false, eval e env) :: backTo pos (starEach [] env)) (plain : (backTo pos (starEach [e] env)).any (·.1) = false) (named : (backToKw pos (keywordEach kws env)).all (·.1.isSome) = true) (nostar : (backToKw pos (keywordEach kws env)).any (·.1.isNone) = false) :
    wpAny M A (callWith pos (.type T) [] (backTo pos (starEach [e] env)) (backToKw pos (keywordEach kws env))) Q E s := by
  have args : wpAny M A (evalArgs (.type T) true (backTo pos (starEach [e] env)) (backToKw pos (keywordEach kws env))) (fun a s1 => wpAny M A (call (.type T) ([] ++ a.pos) a.kw) Q E s1) E s := by
    rw [one] at h ⊢
    exact evalArgs_kwB named h
  unfold callWith
  refine wpAny_bind (wpAny_holding (wpAny_mono args (fun a s1 told => wpAny_bind (wpAny_standAt ?_)) fun _ _ z => z))
  simp only [plain, nostar, Bool.or_false]
  exact wpAny_bind (wpAny_pure (wpAny_bind (wpAny_mono told (fun r s2 hr => wpAny_bind (wpAny_holding (wpAny_point (wpAny_pure hr)))) fun _ _ z => z)))
def iEnumSK (te tk : TE) : TI := fun σ H R => te σ H fun x H1 => tk σ H1 fun c H2 => ∃ (z : Str) (k : Int), x = .str z ∧ c = .int k ∧ -(2 ^ 63) ≤ k ∧ k < 2 ^ 63 ∧ R (ItS z k) H2
theorem pi_enumSK {X : Cx} {e ke : Expr} {te tk : TE} {p pos tpos kpos : Pos} {elts : List Expr} {kk : Nat} (hg : Gl X "enumerate") (hm : X.mg "enumerate" = none) (he : PE X e te) (hk : PE X ke tk) (one : starEach [e] X.env = (false, eval e X.env) :: starEach [] X.env := by rfl) :
    PI X (.Tuple elts kk tpos) (.Call (.Name "enumerate" p) [e] [⟨some "start", ke, kpos⟩] pos) (iEnumSK te tk) := by
  constructor
  intro pins s σ H R I told
  have first := (pa_cons he pa_nil one).run pos pins s σ H (fun vs H1 => ∃ x, vs = [x] ∧ tk σ H1 fun c H2 => ∃ (z : Str) (k : Int), x = .str z ∧ c = .int k ∧ -(2 ^ 63) ≤ k ∧ k < 2 ^ 63 ∧ R (ItS z k) H2) I (by
    show te σ H (fun x H1 => tNil σ H1 _)
    have ext : (fun x H1 => tk σ H1 fun c H2 => ∃ (z : Str) (k : Int), x = V.str z ∧ c = .int k ∧ -(2 ^ 63) ≤ k ∧ k < 2 ^ 63 ∧ R (ItS z k) H2) = fun x H1 => tNil σ H1 (fun xs H2 => ∃ y, x :: xs = [y] ∧ tk σ H2 fun c H3 => ∃ (z : Str) (k : Int), y = .str z ∧ c = .int k ∧ -(2 ^ 63) ≤ k ∧ k < 2 ^ 63 ∧ R (ItS z k) H3) := by
      funext x H1
      refine propext ⟨fun h => ⟨x, rfl, h⟩, fun h => ?_⟩
      obtain ⟨y, ey, h⟩ := h
      cases ey
      exact h
    rw [← ext]
    exact told)
  refine wpAny_Call_Name_kw (ld_blt I hg hm boot_enumerate (type_kw (thn first fun us s1 come => ?_) (by rw [one]; rfl) (by rw [one]; rfl) rfl rfl))
  obtain ⟨_, H1, I1, r1, x, rfl, q⟩ := come
  refine kws_cons (thn (hk.run pins s1 σ H1 _ I1 q) fun v s2 more => kws_nil ?_)
  obtain ⟨c, H2, I2, rc, z, k, rfl, rfl, k0, k1, q⟩ := more
  obtain ⟨u, rfl, tz, rfl⟩ := vals1 r1
  obtain ⟨tc, rfl⟩ := (show ∃ t, v = Value.int k t from rc)
  refine enum_begins_start (begins_text z tz) trivial k0 k1 fun h' he hit _ hk => wpAny_pyIter_enum he ?_
  have I3 := I2.kept (t' := s2.toks) hk
  refine ⟨s2.heap.objs.size + 1, [s2.heap.objs.size + 1, s2.heap.objs.size], _, _, H2, rfl, I3, turn_enumS z tz k (s2.heap.objs.size + 1) s2.heap.objs.size, ⟨⟨.none, by show IsEnum h' _ _ (k + ((0 : Nat) : Int)) _; rw [show k + ((0 : Nat) : Int) = k by omega]; exact he⟩, ⟨_, hit, rfl, rfl⟩, Nat.succ_ne_self _⟩, fun b hb => ?_, q⟩
  have late : s2.heap.objs.size ≤ b := by
    rw [List.mem_cons, List.mem_singleton] at hb
    rcases hb with rfl | rfl
    · exact Nat.le_succ _
    · exact Nat.le_refl _
  exact I2.fpOk late (I2.hok.fresh late)
end Tg

/-! x.rpartition(sign), where the sign is in x -/
namespace Tg
open PySem PySem.Spec PyProof.Rows L2
open Builtin.Str (lastOccurrence strSub)
section
variable {X : Cx}
theorem mt_rpart : MtR X "str.rpartition" (fun x xs H Q => ∃ (a b : Str) (i : Nat), x = .str a ∧ xs = [.str b] ∧ (b.length == 0) = false ∧ a.length ≤ sizeLine ∧ lastOccurrence a b 0 a.length = some i ∧
    ∀ p, H p = none → Q (.ref p) (upd H p (.tup [.str (strSub a 0 i), .str b, .str (strSub a (i + b.length) a.length)]))) := by
  rintro pins s σ H x xs v us Q I rx rs ⟨a, b, i, rfl, rfl, ne, small, last, q⟩
  obtain ⟨t, rfl⟩ := rx
  obtain ⟨u, rfl, tu, rfl⟩ := vals1 rs
  refine call_meets PySem.F.slot_str_rpartition (typeIs_str _ _ _) PySem.F.entry_str_rpartition (PySem.F.args_str_rpartition_2 _ _) (meets_str_rpartition a b t tu ne small) ?_
  rw [last]
  exact laid_parts I q
end
/-- the last c is where no c comes behind -/
theorem last_at {p q : List Nat} {c : Nat} (no : c ∉ q) : lastOccurrence ⟨(p ++ c :: q).toArray⟩ ⟨#[c]⟩ 0 (⟨(p ++ c :: q).toArray⟩ : Str).length = some p.length := by
  have at_p : StrLaws.At ⟨(p ++ c :: q).toArray⟩ ⟨#[c]⟩ (⟨(p ++ c :: q).toArray⟩ : Str).length p.length := (StrLaws.subAt_one _ c p.length).mpr (by
    show (p ++ c :: q).toArray.toList[p.length]? = some c
    rw [List.getElem?_append_right (Nat.le_refl _), Nat.sub_self]
    rfl)
  rcases StrLaws.last_spec ⟨(p ++ c :: q).toArray⟩ ⟨#[c]⟩ with ⟨_, none_at⟩ | ⟨i, e, at_i, later⟩
  · exact absurd at_p (none_at _)
  · rw [e]
    rcases Nat.lt_trichotomy i p.length with lt | eq | gt
    · exact absurd at_p (later _ lt)
    · rw [eq]
    · have got : (p ++ c :: q).toArray.toList[i]? = some c := (StrLaws.subAt_one _ c i).mp at_i
      have got' : (p ++ c :: q)[i]? = some c := got
      obtain ⟨d, rfl⟩ : ∃ d, i = p.length + 1 + d := ⟨i - (p.length + 1), by omega⟩
      rw [List.getElem?_append_right (by omega), show p.length + 1 + d - p.length = d + 1 by omega, List.getElem?_cons_succ] at got'
      exact absurd (List.mem_of_getElem? got') no
theorem sub_left (p q : List Nat) : strSub ⟨(p ++ q).toArray⟩ 0 p.length = ⟨p.toArray⟩ := by
  unfold strSub
  congr 1
  apply Array.toList_inj.mp
  simp
theorem sub_right (p q : List Nat) : strSub ⟨(p ++ q).toArray⟩ p.length (⟨(p ++ q).toArray⟩ : Str).length = ⟨q.toArray⟩ := by
  unfold strSub
  congr 1
  apply Array.toList_inj.mp
  simp [Str.length]
end Tg

/-! x.partition(" ") and x.rpartition(" ") of any text -/
namespace Tg
open PySem PySem.Spec PyProof.Rows L2
open Builtin.Str (lastOccurrence strSub)
open SX (S)
section
variable {X : Cx}
theorem mt_rpartA : MtR X "str.rpartition" (fun x xs H Q => ∃ a b : Str, x = .str a ∧ xs = [.str b] ∧ (b.length == 0) = false ∧ a.length ≤ sizeLine ∧
    ∀ p, H p = none → (∀ i, lastOccurrence a b 0 a.length = some i → Q (.ref p) (upd H p (.tup [.str (strSub a 0 i), .str b, .str (strSub a (i + b.length) a.length)]))) ∧
      (lastOccurrence a b 0 a.length = none → Q (.ref p) (upd H p (.tup [.str Str.empty, .str Str.empty, .str a])))) := by
  rintro pins s σ H x xs v us Q I rx rs ⟨a, b, rfl, rfl, ne, small, q⟩
  obtain ⟨t, rfl⟩ := rx
  obtain ⟨u, rfl, tu, rfl⟩ := vals1 rs
  refine call_meets PySem.F.slot_str_rpartition (typeIs_str _ _ _) PySem.F.entry_str_rpartition (PySem.F.args_str_rpartition_2 _ _) (meets_str_rpartition a b t tu ne small) ?_
  cases last : lastOccurrence a b 0 a.length with
  | some i => exact laid_parts I fun p np => (q p np).1 i last
  | none => exact laid_parts I fun p np => (q p np).2 last
theorem sub_take (l : List Nat) (i : Nat) : strSub (S l) 0 i = S (l.take i) := by
  unfold strSub
  congr 1
  apply Array.toList_inj.mp
  simp
theorem sub_drop (l : List Nat) (i : Nat) : strSub (S l) i (S l).length = S (l.drop i) := by
  unfold strSub
  congr 1
  apply Array.toList_inj.mp
  simp [Str.length]
  exact List.take_of_length_le (Nat.le_of_eq List.length_drop)
/-- what stands ahead of the last blank and behind it -/
theorem mt_rpartL : MtR X "str.rpartition" (fun x xs H Q => ∃ y : List Nat, x = .str (S y) ∧ xs = [.str " "] ∧ (S y).length ≤ sizeLine ∧
    ∀ (t : Addr) (p q r : List Nat), p.length ≤ y.length → (∀ u v, 32 ∉ v → y = u ++ 32 :: v → p = u) → H t = none → Q (.ref t) (upd H t (.tup [.str (S p), .str (S q), .str (S r)]))) := by
  rintro pins s σ H x xs v us Q I rx rs ⟨y, rfl, rfl, small, q⟩
  refine mt_rpartA pins s σ H _ _ v us Q I rx rs ⟨S y, " ", rfl, rfl, rfl, small, fun t nt => ⟨fun i hi => ?_, fun no => ?_⟩⟩
  · have e1 := sub_take y i
    have e2 := sub_drop y (i + (Str.ofString " ").length)
    rw [e1, e2]
    refine q t _ _ _ (List.length_take_le' _ _) (fun u v hv e => ?_) nt
    have la := last_at (p := u) (c := 32) hv
    rw [← e] at la
    have hi' : lastOccurrence ⟨y.toArray⟩ ⟨#[32]⟩ 0 (⟨y.toArray⟩ : Str).length = some i := hi
    rw [la] at hi'
    cases hi'
    rw [e]
    exact List.take_left
  · refine q t [] [] y (Nat.zero_le _) (fun u v hv e => ?_) nt
    have la := last_at (p := u) (c := 32) hv
    rw [← e] at la
    have no' : lastOccurrence ⟨y.toArray⟩ ⟨#[32]⟩ 0 (⟨y.toArray⟩ : Str).length = none := no
    rw [la] at no'
    cases no'
theorem has_blank : ∀ {y : List Nat}, 32 ∈ y → ∃ u v, 32 ∉ u ∧ y = u ++ 32 :: v
  | [], h => nomatch h
  | c :: y, h => by
    by_cases z : c = 32
    · exact ⟨[], y, (fun m => nomatch m), by rw [z]; rfl⟩
    · obtain ⟨u, v, hu, e⟩ := has_blank (y := y) ((List.mem_cons.mp h).resolve_left fun x => z x.symm)
      refine ⟨c :: u, v, fun m => ?_, by rw [e]; rfl⟩
      rcases List.mem_cons.mp m with m | m
      · exact z m.symm
      · exact hu m
theorem first_blank {u1 u2 r1 r2 : List Nat} (h1 : 32 ∉ u1) (h2 : 32 ∉ u2) (e : u1 ++ 32 :: r1 = u2 ++ 32 :: r2) : u1 = u2 ∧ r1 = r2 := by
  induction u1 generalizing u2 with
  | nil => cases u2 with
    | nil => exact ⟨rfl, (List.cons.inj e).2⟩
    | cons a u2 => exact absurd (List.mem_cons.mpr (.inl (List.cons.inj e).1)) h2
  | cons a u1 ih => cases u2 with
    | nil => exact absurd (List.mem_cons.mpr (.inl (List.cons.inj e).1.symm)) h1
    | cons b u2 =>
      obtain ⟨e1, e2⟩ := List.cons.inj e
      obtain ⟨a1, a2⟩ := ih (fun z => h1 (List.mem_cons_of_mem _ z)) (fun z => h2 (List.mem_cons_of_mem _ z)) e2
      exact ⟨by rw [e1, a1], a2⟩
/-- what stands ahead of the first blank and behind it -/
theorem mt_partL : MtR X "str.partition" (fun x xs H Q => ∃ y : List Nat, x = .str (S y) ∧ xs = [.str " "] ∧ (S y).length ≤ sizeLine ∧
    ∀ (t : Addr) (p q r : List Nat), p.length ≤ y.length → r.length ≤ y.length → (∀ u v, 32 ∉ u → y = u ++ 32 :: v → p = u ∧ r = v) → H t = none → Q (.ref t) (upd H t (.tup [.str (S p), .str (S q), .str (S r)]))) := by
  rintro pins s σ H x xs v us Q I rx rs ⟨y, rfl, rfl, small, q⟩
  refine mt_partition pins s σ H _ _ v us Q I rx rs ⟨S y, " ", rfl, rfl, rfl, small, fun t nt => ?_⟩
  by_cases h : 32 ∈ y
  · obtain ⟨u, v, hu, e⟩ := has_blank h
    have e2 : Txt.partition (S y) (Str.ofString " ") = (S u, S [32], S v) := by
      have e3 : S y = S u ++ S [32] ++ S v := by
        rw [SX.S_cat, SX.S_cat, e, List.append_assoc]
        rfl
      rw [e3]
      exact TL.partition_app (s := 32) (S := []) rfl hu
    rw [e2]
    refine q t _ _ _ (by rw [e, List.length_append]; omega) (by rw [e, List.length_append, List.length_cons]; omega) (fun u' v' hu' e' => first_blank hu hu' (e.symm.trans e')) nt
  · have e2 : Txt.partition (S y) (Str.ofString " ") = (S y, S [], S []) := TL.partition_none (s := 32) (S := []) rfl h
    rw [e2]
    refine q t _ _ _ (Nat.le_refl _) (Nat.zero_le _) (fun u v hu e => absurd ?_ h) nt
    rw [e]
    exact List.mem_append.mpr (.inr (List.mem_cons_self ..))
end
end Tg

/-! lines as lists of signs -/
namespace Tg
open PySem PySem.Spec PyProof.Rows L2
open SX (S)
open TL (numL)
/-- the sum of places times signs, from the place k on -/
def wsum (k : Nat) : List Nat → Nat
  | [] => 0
  | c :: r => k * c + wsum (k + 1) r
theorem wsum_snoc (c : Nat) : ∀ (k : Nat) (l : List Nat), wsum k (l ++ [c]) = wsum k l + (k + l.length) * c
  | k, [] => by show k * c + 0 = 0 + (k + 0) * c; rw [Nat.add_zero, Nat.add_zero, Nat.zero_add]
  | k, a :: l => by
    show k * a + wsum (k + 1) (l ++ [c]) = k * a + wsum (k + 1) l + (k + (l.length + 1)) * c
    rw [wsum_snoc c (k + 1) l, show k + 1 + l.length = k + (l.length + 1) by omega]
    omega
def chk (l : List Nat) : Nat := wsum 1 l % 999983
theorem num_S (n : Nat) : Str.ofString (toString ((n : Nat) : Int)) = S (numL n) := by
  rw [← TL.tl_num n]
/-- what stands ahead of the check -/
def ahead (n sg : Nat) (b : List Nat) : List Nat := numL n ++ [sg] ++ [32] ++ numL ((numL n).length + b.length) ++ [32] ++ b
def line (n sg : Nat) (b : List Nat) : List Nat := ahead n sg b ++ [32] ++ numL (chk (ahead n sg b))
/-- a sign that a body may have -/
def sok (c : Nat) : Bool := decide (32 ≤ c) && decide (c ≤ 126)
def bok (b : List Nat) : Bool := b.all sok
theorem lt_one (a c : Nat) : decide (([a] : List Nat) < [c]) = decide (a < c) := by
  by_cases h : a < c
  · rw [decide_eq_true h]
    exact decide_eq_true (List.Lex.rel h)
  · rw [decide_eq_false h]
    refine decide_eq_false fun z => h ?_
    cases z with
    | rel r => exact r
    | cons r => cases r
theorem no_blank_num (n : Nat) : 32 ∉ numL n := TL.numL_free (.inl (by decide))
/-- the head: the number and the sign -/
theorem head_no {n sg : Nat} (h : sg ≠ 32) : 32 ∉ numL n ++ [sg] := fun z => by
  rcases List.mem_append.mp z with z | z
  · exact no_blank_num n z
  · exact h (List.mem_singleton.mp z).symm
theorem part_1 {n sg : Nat} {b : List Nat} (h : sg ≠ 32) : Txt.partition (S (line n sg b)) (S [32]) = (S (numL n ++ [sg]), S [32], S (numL ((numL n).length + b.length) ++ [32] ++ (b ++ [32] ++ numL (chk (ahead n sg b))))) := by
  have e : S (line n sg b) = S (numL n ++ [sg]) ++ S [32] ++ S (numL ((numL n).length + b.length) ++ [32] ++ (b ++ [32] ++ numL (chk (ahead n sg b)))) := by
    rw [SX.S_cat, SX.S_cat]
    refine congrArg S ?_
    show ahead n sg b ++ [32] ++ numL (chk (ahead n sg b)) = _
    obtain ⟨d, ed⟩ : ∃ d, chk (ahead n sg b) = d := ⟨_, rfl⟩
    rw [ed]
    unfold ahead
    simp only [List.append_assoc]
  rw [e]
  exact TL.partition_app (s := 32) (S := []) rfl (by
    show 32 ∉ (numL n ++ [sg])
    exact head_no h)
theorem part_2 (m : Nat) (r : List Nat) : Txt.partition (S (numL m ++ [32] ++ r)) (S [32]) = (S (numL m), S [32], S r) := by
  have e : S (numL m ++ [32] ++ r) = S (numL m) ++ S [32] ++ S r := by rw [SX.S_cat, SX.S_cat]
  rw [e]
  exact TL.partition_app (s := 32) (S := []) rfl (no_blank_num m)
theorem last_3 (b : List Nat) (c : Nat) : Builtin.Str.lastOccurrence (S (b ++ [32] ++ numL c)) (S [32]) 0 (S (b ++ [32] ++ numL c)).length = some b.length := by
  have e : b ++ [32] ++ numL c = b ++ 32 :: numL c := by rw [List.append_assoc]; rfl
  rw [e]
  exact last_at (no_blank_num c)
theorem sub_3a (b : List Nat) (c : Nat) : Builtin.Str.strSub (S (b ++ [32] ++ numL c)) 0 b.length = S b := by
  rw [List.append_assoc]
  exact sub_left b _
theorem sub_3b (b : List Nat) (c : Nat) : Builtin.Str.strSub (S (b ++ [32] ++ numL c)) (b.length + (S [32]).length) (S (b ++ [32] ++ numL c)).length = S (numL c) := by
  have z := sub_right (b ++ [32]) (numL c)
  rw [List.length_append] at z
  exact z
/-- no number but 0 begins with 0 -/
theorem num_head {n : Nat} (h : 0 < n) : ∃ c r, numL n = c :: r ∧ c ≠ 48 := by
  refine Nat.strongRecOn (motive := fun n => 0 < n → ∃ c r, numL n = c :: r ∧ c ≠ 48) n (fun n ih h => ?_) h
  by_cases lt : n < 10
  · exact ⟨48 + n, [], TL.numL_lt lt, by omega⟩
  · obtain ⟨c, r, e, ne⟩ := ih (n / 10) (by omega) (by omega)
    exact ⟨c, r ++ [48 + n % 10], by rw [TL.numL_step (by omega), e]; rfl, ne⟩
theorem num_len {n k : Nat} (hk : 0 < k) (h : n < 10 ^ k) : (numL n).length ≤ k := TL.numL_len hk h
theorem num_pos (n : Nat) : 0 < (numL n).length := List.length_pos_iff.mpr (TL.numL_ne n)
theorem num_all (n : Nat) : ∀ c, c ∈ numL n → 48 ≤ c ∧ c ≤ 57 := fun c h => TL.numL_digits n c h
theorem chk_lt (l : List Nat) : chk l < 999983 := Nat.mod_lt _ (by decide)
end Tg

/-! texts as lists of signs: + , str(n), len, slices, signs -/
namespace Tg
open PySem PySem.Spec PyProof.Rows L2
open SX (S)
open TL (numL)
section
variable {X : Cx}
theorem lenSL (l : List Nat) : (S l).length = l.length := SX.S_len l
theorem size3000 {n : Nat} (h : n ≤ 3000) : n ≤ sizeLine := Nat.le_trans h (by decide)
theorem op_addL : OpR X (binaryOp .Add) (fun x y H Q => ∃ a b : List Nat, x = .str (S a) ∧ y = .str (S b) ∧ a.length + b.length ≤ 3000 ∧ Q (.str (S (a ++ b))) H) := by
  rintro pins s σ H x y v u Q I rx ry ⟨a, b, rfl, rfl, hz, q⟩
  refine op_add_str pins s σ H _ _ v u Q I rx ry ⟨S a, S b, rfl, rfl, ?_, ?_⟩
  · rw [lenSL, lenSL]
    exact size3000 hz
  · rw [SX.S_cat]
    exact q
theorem call_strL : CallR X (.type "str") (fun xs H Q => ∃ n : Nat, xs = [.int (n : Int)] ∧ n < 2 ^ 60 ∧ Q (.str (S (numL n))) H) := by
  rintro pins s σ H xs us Q I r ⟨n, rfl, hz, q⟩
  refine call_str_int pins s σ H _ us Q I r ⟨(n : Int), rfl, ?_, ?_⟩
  · rw [Int.natAbs_natCast]
    by_cases z : n = 0
    · subst z
      decide
    · exact Nat.lt_trans ((Nat.log2_lt z).mpr hz) (by decide)
  · have e : Str.ofString (toString ((n : Nat) : Int)) = S (numL n) := num_S n
    rw [e]
    exact q
theorem call_lenL : CallR X (.builtin "len") (fun xs H Q => ∃ a : List Nat, xs = [.str (S a)] ∧ a.length ≤ 3000 ∧ Q (.int (a.length : Int)) H) := by
  rintro pins s σ H xs us Q I r ⟨a, rfl, hz, q⟩
  refine call_len_str pins s σ H _ us Q I r ⟨S a, rfl, ?_, ?_⟩
  · rw [lenSL]
    exact size3000 hz
  · rw [lenSL]
    exact q
/-- a part of a list of signs -/
def cutL (l : List Nat) (lo hi : Option Int) : List Nat := (l.drop (HT.sIx l.length 0 lo)).take (HT.sIx l.length l.length hi - HT.sIx l.length 0 lo)
theorem cutS_L (l : List Nat) (lo hi : Option Int) : cutS (S l) lo hi = S (cutL l lo hi) := by
  unfold cutS cutL
  rw [lenSL]
theorem cutL_len (l : List Nat) (lo hi : Option Int) : (cutL l lo hi).length ≤ l.length := by
  unfold cutL
  simp only [List.length_drop, List.length_take]
  omega
theorem cutL_to (l : List Nat) (m : Nat) : cutL l none (some (m : Int)) = l.take m := by
  unfold cutL
  rw [HT.sIx_nat]
  show (l.drop 0).take (min m l.length - 0) = _
  rw [List.drop_zero, Nat.sub_zero]
  by_cases h : m ≤ l.length
  · rw [Nat.min_eq_left h]
  · rw [Nat.min_eq_right (by omega), List.take_length, List.take_of_length_le (by omega)]
theorem cutL_from (l : List Nat) (m : Nat) : cutL l (some (m : Int)) none = l.drop m := by
  unfold cutL
  rw [HT.sIx_nat]
  show (l.drop (min m l.length)).take (l.length - min m l.length) = _
  by_cases h : m ≤ l.length
  · rw [Nat.min_eq_left h, List.take_of_length_le (by rw [List.length_drop]; omega)]
  · rw [Nat.min_eq_right (by omega), List.drop_of_length_le (by omega : l.length ≤ m), List.drop_length, List.take_nil]
theorem cutL_mid (l : List Nat) (m k : Nat) : cutL l (some (m : Int)) (some ((m + k : Nat) : Int)) = (l.drop m).take k := by
  unfold cutL
  rw [HT.sIx_nat, HT.sIx_nat]
  by_cases h : m ≤ l.length
  · rw [Nat.min_eq_left h]
    by_cases h2 : m + k ≤ l.length
    · rw [Nat.min_eq_left h2, show m + k - m = k by omega]
    · rw [Nat.min_eq_right (by omega : l.length ≤ m + k), List.take_of_length_le (by rw [List.length_drop]; omega), List.take_of_length_le (by rw [List.length_drop]; omega)]
  · rw [Nat.min_eq_right (by omega : l.length ≤ m), Nat.min_eq_right (by omega : l.length ≤ m + k), List.drop_of_length_le (by omega : l.length ≤ m), List.drop_length, List.take_nil, List.take_nil]
def rSlL : V → Option Int → Option Int → Hp → VK → Prop := fun x lo hi H Q => ∃ l : List Nat, x = .str (S l) ∧ l.length ≤ 3000 ∧ Q (.str (S (cutL l lo hi))) H
theorem sl_strL : SlR X rSlL := by
  rintro pins s σ H x v vl vu lo hi sl Q I rx hs pl pu ⟨l, rfl, hz, q⟩
  refine sl_str pins s σ H _ v vl vu lo hi sl Q I rx hs pl pu ⟨S l, rfl, ?_, ?_⟩
  · rw [lenSL]
    exact size3000 hz
  · rw [cutS_L]
    exact q
end
end Tg

/-! len(x) of an own object by its own __len__ -/
namespace Tg
open PySem PySem.Spec PyProof.Rows L2
section
variable {prog : Program} {w : World} {A : Around} {E : Value → Shared → Prop} {s : Shared} {K : PySem.W.Frag} {x C f : Addr} {ox : Obj} {dx : Option Obj}
theorem len_in {Q : Value → Shared → Prop} (inK : K.In s.heap) (I : PySem.W.InstAt s.heap x ox C dx) (at_ : PySem.W.findIn K (.ref C) "__len__" = some (some (.ref f))) (fn : PySem.W.isFn K (.ref f) = true)
    (h : wpAny (model prog w) A.in1 (call (.ref f) [.ref x]) (fun r s' => ∃ n u, r = .int n u ∧ 0 ≤ n ∧ n < 2 ^ 63 ∧ Q (.int n s'.toks) { s' with toks := s'.toks + 1 }) E s) : wpAny (model prog w) A (call (.builtin "len") [.ref x]) Q E s := by
  refine Calls.call_function_entry (id := "len") kind_len plain_len entry_len (args_len1 (.ref x)) ?_
  unfold Builtin.«len»
  refine wpAny_bind (m := oneArg "len" _) (wpAny_pure (wpAny_bind (m := callSpecial? (.ref x) (Str.ofString "__len__")) ?_))
  unfold callSpecial?
  refine wpAny_bind (wpAny_bind (I.type.here ((PySem.W.looks_findIn inK at_).here ?_)))
  refine wpAny_holding (wpAny_bind ((PySem.W.bind_fn inK _ (beq_iff_eq.mp fn)).here ?_))
  refine wpAny_bind (wpAny_mono h (fun r s' told => ?_) fun _ _ y => y)
  obtain ⟨n, u, rfl, n0, n1, q⟩ := told
  refine wpAny_pure ?_
  refine wpAny_bind (wpAny_holding (wpAny_pure (wpAny_bind (wpAny_letGo ?_))))
  have lo : ¬ n < 0 := by omega
  have hi : ¬ n ≥ 2 ^ 63 := by omega
  change wpAny (model prog w) A.in1 (ite (n < 0) _ (ite (n ≥ 2 ^ 63) _ _)) _ E _
  rw [if_neg lo, if_neg hi]
  exact wpAny_bind (wpAny_mkInt (wpAny_pure ⟨_, rfl, q⟩))
end
section
variable {X : Cx} {n : Nat}
def rLenO (C : Addr) (sp : Sp) (E : XK) : List V → Hp → VK → Prop := fun vs H Q => ∃ a dx fs, vs = [.ref a] ∧ H a = some (.ins C dx fs) ∧ sp [.ref a] H (fun v H' => ∃ m : Nat, v = .int (m : Int) ∧ m < 2 ^ 60 ∧ Q v H') E
theorem cr_lenO {CX : CXT} {C f : Addr} {fd : FuncData} {sp : Sp} {E : XK} (F : FnOk X.prog X.w X.K X.mg X.base CX n f fd ["self"] sp) (at_ : PySem.W.findIn X.K (.ref C) "__len__" = some (some (.ref f))) (fn : PySem.W.isFn X.K (.ref f) = true) (hb : Binds X.K fd ["self"] []) (hx : Passes CX X E) (hr : Room (n + 1) X.A) :
    CallR X (.builtin "len") (rLenO C sp E) := by
  rintro pins s σ H vs us Q I r ⟨a, dx, fs, rfl, ha, told⟩
  obtain rfl : us = [.ref a] := by
    cases r with
    | cons p t => cases t; cases p; rfl
  obtain ⟨atA, J, _⟩ := ins_get I.hok ha
  obtain ⟨od, J, _⟩ := J.look
  have sb : Sub X n X.A.in1 := Sub.in1 ⟨hr, rfl⟩
  refine len_in I.kIn J at_ fn ?_
  have e0 : Env0 X.prog X.w X.K X.mg X.base X.A.in1 X.stack s H := by
    have env := I.env0
    exact ⟨sb.fr.symm ▸ env.frames, env.mod, env.bs, env.bsz, env.funs, env.frf, env.hok, env.bare⟩
  refine wpAny_call (codeAny_mono (F.run X.A.in1 X.stack s H ⟨[.ref a], []⟩ [.ref a] [.ref a] _ E sb.room e0 (by
    have z := hb s [.ref a] I.kIn rfl
    simpa using z) (.cons rfl .nil) told) fun r s' done => ?_)
  cases r with
  | error e => exact hx pins σ H s e s' I done
  | ok fl =>
    cases fl with
    | ret w =>
      obtain ⟨z, H', I', rz, m, ez, m60, q⟩ := I.after done
      subst ez
      obtain ⟨t, rfl⟩ := rz
      exact ⟨(m : Int), t, rfl, by omega, by omega, .int (m : Int), H', I'.tok _, ⟨_, rfl⟩, q⟩
    | next => exact False.elim done
    | brk => exact False.elim done
    | cont => exact False.elim done
end
end Tg

/-! texts that are lines, and texts near them that are none -/
namespace Tg
open PySem PySem.Spec PyProof.Rows L2
open TL (numL)
/-- signs of lines -/
def sgn (sg : Nat) : Prop := sg = 46 ∨ sg = 43 ∨ sg = 61
theorem sgn_ne {sg : Nat} (h : sgn sg) : sg ≠ 32 := by rcases h with rfl | rfl | rfl <;> decide
theorem sgn_dig {sg : Nat} (h : sgn sg) : ¬ (48 ≤ sg ∧ sg ≤ 57) := by rcases h with rfl | rfl | rfl <;> decide
/-- a text that is a line -/
def IsL (x : List Nat) : Prop := ∃ (n sg : Nat) (b : List Nat), n < 10 ^ 12 ∧ sgn sg ∧ bok b = true ∧ x = line n sg b
theorem cut1 {u1 u2 r1 r2 : List Nat} (h1 : 32 ∉ u1) (h2 : 32 ∉ u2) (e : u1 ++ 32 :: r1 = u2 ++ 32 :: r2) : u1 = u2 ∧ r1 = r2 := by
  induction u1 generalizing u2 with
  | nil => cases u2 with
    | nil => exact ⟨rfl, (List.cons.inj e).2⟩
    | cons a u2 => exact absurd (List.mem_cons.mpr (.inl (List.cons.inj e).1)) h2
  | cons a u1 ih => cases u2 with
    | nil => exact absurd (List.mem_cons.mpr (.inl (List.cons.inj e).1.symm)) h1
    | cons b u2 =>
      obtain ⟨e1, e2⟩ := List.cons.inj e
      obtain ⟨a1, a2⟩ := ih (fun z => h1 (List.mem_cons_of_mem _ z)) (fun z => h2 (List.mem_cons_of_mem _ z)) e2
      exact ⟨by rw [e1, a1], a2⟩
theorem cut9 {u1 u2 r1 r2 : List Nat} (h1 : 32 ∉ u1) (h2 : 32 ∉ u2) (e : r1 ++ 32 :: u1 = r2 ++ 32 :: u2) : r1 = r2 ∧ u1 = u2 := by
  have e' := congrArg List.reverse e
  simp only [List.reverse_append, List.reverse_cons, List.append_assoc, List.singleton_append] at e'
  obtain ⟨a, b⟩ := cut1 (by simpa using h1) (by simpa using h2) e'
  exact ⟨List.reverse_inj.mp b, List.reverse_inj.mp a⟩
theorem ahead_eq (n sg : Nat) (b : List Nat) : ahead n sg b = (numL n ++ [sg]) ++ 32 :: (numL ((numL n).length + b.length) ++ 32 :: b) := by
  unfold ahead
  simp only [List.cons_append, List.nil_append, List.append_assoc]
theorem line_tail (n sg : Nat) (b : List Nat) : line n sg b = ahead n sg b ++ 32 :: numL (chk (ahead n sg b)) := by
  unfold line
  rw [List.append_assoc]
  rfl
theorem line_eq (n sg : Nat) (b : List Nat) : line n sg b = (numL n ++ [sg]) ++ 32 :: (numL ((numL n).length + b.length) ++ 32 :: (b ++ 32 :: numL (chk (ahead n sg b)))) := by
  rw [line_tail]
  obtain ⟨d, ed⟩ : ∃ d, chk (ahead n sg b) = d := ⟨_, rfl⟩
  rw [ed, ahead_eq]
  simp only [List.cons_append, List.append_assoc, List.nil_append]
theorem snoc_inj {a b : List Nat} {x y : Nat} (h : a ++ [x] = b ++ [y]) : a = b ∧ x = y := by
  obtain ⟨h1, h2⟩ := List.append_inj' h rfl
  exact ⟨h1, (List.cons.inj h2).1⟩
/-- what stands ahead of the first blank, and behind it -/
theorem isl_1 {u r : List Nat} (hu : 32 ∉ u) (h : IsL (u ++ 32 :: r)) : ∃ (n sg : Nat) (b : List Nat), n < 10 ^ 12 ∧ sgn sg ∧ bok b = true ∧ u = numL n ++ [sg] ∧ r = numL ((numL n).length + b.length) ++ 32 :: (b ++ 32 :: numL (chk (ahead n sg b))) := by
  obtain ⟨n, sg, b, n12, hs, hb, e⟩ := h
  rw [line_eq] at e
  obtain ⟨e1, e2⟩ := cut1 hu (head_no (sgn_ne hs)) e
  exact ⟨n, sg, b, n12, hs, hb, e1, e2⟩
theorem isl_2 {u c t : List Nat} (hu : 32 ∉ u) (hc : 32 ∉ c) (h : IsL (u ++ 32 :: (c ++ 32 :: t))) : ∃ (n sg : Nat) (b : List Nat), n < 10 ^ 12 ∧ sgn sg ∧ bok b = true ∧ u = numL n ++ [sg] ∧ c = numL ((numL n).length + b.length) ∧ t = b ++ 32 :: numL (chk (ahead n sg b)) := by
  obtain ⟨n, sg, b, n12, hs, hb, e1, e2⟩ := isl_1 hu h
  obtain ⟨e3, e4⟩ := cut1 hc (no_blank_num _) e2
  exact ⟨n, sg, b, n12, hs, hb, e1, e3, e4⟩
/-- the head and the count stand: the body is as long -/
theorem isl_3 {n sg m : Nat} {t : List Nat} (hs : sg ≠ 32) (h : IsL ((numL n ++ [sg]) ++ 32 :: (numL m ++ 32 :: t))) : n < 10 ^ 12 ∧ sgn sg ∧ ∃ b, bok b = true ∧ m = (numL n).length + b.length ∧ t = b ++ 32 :: numL (chk (ahead n sg b)) := by
  obtain ⟨n', sg', b, n12, hs', hb, e1, e2, e3⟩ := isl_2 (head_no hs) (no_blank_num m) h
  obtain ⟨e4, e5⟩ := snoc_inj e1
  have e6 := TL.numL_inj e4
  subst e5
  subst e6
  exact ⟨n12, hs', b, hb, TL.numL_inj e2, e3⟩
theorem isl_body {n sg : Nat} {b v : List Nat} (hs : sg ≠ 32) (h : IsL ((numL n ++ [sg]) ++ 32 :: (numL ((numL n).length + b.length) ++ 32 :: v))) : ∃ b', b'.length = b.length ∧ v = b' ++ 32 :: numL (chk (ahead n sg b')) := by
  obtain ⟨_, _, b', _, e, e'⟩ := isl_3 hs h
  exact ⟨b', by omega, e'⟩
/-- all but the check stands -/
theorem isl_tail {n sg : Nat} {b v : List Nat} (hs : sg ≠ 32) (h : IsL (ahead n sg b ++ 32 :: v)) : v = numL (chk (ahead n sg b)) := by
  have e : ahead n sg b ++ 32 :: v = (numL n ++ [sg]) ++ 32 :: (numL ((numL n).length + b.length) ++ 32 :: (b ++ 32 :: v)) := by
    rw [ahead_eq]
    simp only [List.cons_append, List.append_assoc, List.nil_append]
  rw [e] at h
  obtain ⟨b', l, e'⟩ := isl_body hs h
  obtain ⟨e1, e2⟩ := List.append_inj e' l.symm
  rw [← e1] at e2
  exact (List.cons.inj e2).2
/-- the check is the check of all ahead of it -/
theorem isl_last {a : List Nat} {c : Nat} (h : IsL (a ++ 32 :: numL c)) : c = chk a := by
  obtain ⟨n, sg, b, n12, hs, hb, e⟩ := h
  rw [line_tail] at e
  obtain ⟨e1, e2⟩ := cut9 (no_blank_num c) (no_blank_num _) e
  rw [e1]
  exact TL.numL_inj e2
/-- what is cut off a line is none -/
theorem isl_cut {n sg : Nat} {b y z : List Nat} (hs : sg ≠ 32) (h : IsL y) (e : y ++ z = line n sg b) : z = [] := by
  obtain ⟨n', sg', b', n12, hs', hb, rfl⟩ := h
  have e0 : line n' sg' b' ++ z = (numL n' ++ [sg']) ++ 32 :: (numL ((numL n').length + b'.length) ++ 32 :: (b' ++ 32 :: (numL (chk (ahead n' sg' b')) ++ z))) := by
    rw [line_eq]
    obtain ⟨d, ed⟩ : ∃ d, chk (ahead n' sg' b') = d := ⟨_, rfl⟩
    rw [ed]
    simp only [List.cons_append, List.append_assoc, List.nil_append]
  rw [e0, line_eq n sg b] at e
  obtain ⟨e1, e2⟩ := cut1 (head_no (sgn_ne hs')) (head_no hs) e
  obtain ⟨e3, e4⟩ := snoc_inj e1
  have e3' := TL.numL_inj e3
  subst e4
  subst e3'
  obtain ⟨e5, e6⟩ := cut1 (no_blank_num _) (no_blank_num _) e2
  have e7 := TL.numL_inj e5
  obtain ⟨e8, e9⟩ := List.append_inj e6 (by omega)
  subst e8
  have e10 := congrArg List.length (List.cons.inj e9).2
  rw [List.length_append] at e10
  exact List.eq_nil_of_length_eq_zero (by omega)
/-! ### sums -/
theorem wsum_app : ∀ (k : Nat) (u v : List Nat), wsum k (u ++ v) = wsum k u + wsum (k + u.length) v
  | k, [], v => by show wsum k v = 0 + wsum (k + 0) v; rw [Nat.zero_add, Nat.add_zero]
  | k, a :: u, v => by
    show k * a + wsum (k + 1) (u ++ v) = k * a + wsum (k + 1) u + wsum (k + (u.length + 1)) v
    rw [wsum_app (k + 1) u v, show k + 1 + u.length = k + (u.length + 1) by omega]
    omega
theorem wsum_up : ∀ (k : Nat) (v : List Nat), wsum (k + 1) v = wsum k v + v.sum
  | _, [] => rfl
  | k, a :: v => by
    show (k + 1) * a + wsum (k + 1 + 1) v = k * a + wsum (k + 1) v + (a :: v).sum
    rw [wsum_up (k + 1) v, List.sum_cons, Nat.add_mul]
    omega
theorem wsum_le (M : Nat) : ∀ (k : Nat) (l : List Nat), k + l.length ≤ M → (∀ c, c ∈ l → c ≤ 126) → wsum k l ≤ l.length * (M * 126)
  | _, [], _, _ => Nat.zero_le _
  | k, a :: l, h, hc => by
    have h' : k + (l.length + 1) ≤ M := h
    have ih := wsum_le M (k + 1) l (by omega) (fun c z => hc c (List.mem_cons_of_mem _ z))
    have h1 : k * a ≤ M * 126 := Nat.mul_le_mul (by omega) (hc a (List.mem_cons_self ..))
    show k * a + wsum (k + 1) l ≤ (l.length + 1) * (M * 126)
    rw [Nat.add_mul]
    omega
theorem chk_small {l : List Nat} (h : l.length ≤ 60) (hc : ∀ c, c ∈ l → c ≤ 126) : chk l = wsum 1 l := by
  have z := wsum_le 61 1 l (by omega) hc
  unfold chk
  exact Nat.mod_eq_of_lt (by omega)
theorem bok_le {b : List Nat} (h : bok b = true) : ∀ c, c ∈ b → 32 ≤ c ∧ c ≤ 126 := fun c hc => by
  have z := List.all_eq_true.mp h c hc
  unfold sok at z
  simp only [Bool.and_eq_true, decide_eq_true_eq] at z
  exact z
theorem ahead_signs {n sg : Nat} {b : List Nat} (hs : sgn sg) (hb : bok b = true) : ∀ c, c ∈ ahead n sg b → 32 ≤ c ∧ c ≤ 126 := fun c hc => by
  unfold ahead at hc
  simp only [List.mem_append, List.mem_singleton] at hc
  rcases hc with ((((h | h) | h) | h) | h) | h
  · have := num_all _ c h
    omega
  · subst h
    rcases hs with rfl | rfl | rfl <;> decide
  · omega
  · have := num_all _ c h
    omega
  · omega
  · exact bok_le hb c h
theorem ahead_33 {n sg : Nat} {b : List Nat} (h : n < 10 ^ 12) (hb : b.length ≤ 16) : (ahead n sg b).length ≤ 33 := by
  have h1 : (numL n).length ≤ 12 := num_len (by decide) h
  have h2 : (numL ((numL n).length + b.length)).length ≤ 2 := num_len (by decide) (by omega)
  unfold ahead
  simp only [List.length_singleton, List.length_append]
  omega
/-- two texts with the same check, short ones -/
theorem same_sum {a a' : List Nat} (h : a.length ≤ 60) (h' : a'.length ≤ 60) (hc : ∀ c, c ∈ a → c ≤ 126) (hc' : ∀ c, c ∈ a' → c ≤ 126) (e : chk a = chk a') : wsum 1 a = wsum 1 a' := by
  rw [← chk_small h hc, ← chk_small h' hc']
  exact e
theorem sum_pos {v : List Nat} (h : ∀ c, c ∈ v → 32 ≤ c) (ne : v ≠ []) : 0 < v.sum := by
  cases v with
  | nil => exact absurd rfl ne
  | cons a r =>
    have := h a (List.mem_cons_self ..)
    rw [List.sum_cons]
    omega
/-! ### one sign more, fewer, another; two exchanged -/
section
variable {n sg : Nat} {b : List Nat}
/-- what lies near a line: the line itself or none -/
def Nr (n sg : Nat) (b x : List Nat) : Prop := x = line n sg b ∨ ¬ IsL x
theorem mem_mid {u v : List Nat} {c : Nat} {p : Nat → Prop} (hu : ∀ x, x ∈ u ++ v → p x) (hc : p c) : ∀ x, x ∈ u ++ c :: v → p x := fun x hx => by
  rcases List.mem_append.mp hx with h | h
  · exact hu x (List.mem_append.mpr (.inl h))
  · obtain rfl | h := List.mem_cons.mp h
    · exact hc
    · exact hu x (List.mem_append.mpr (.inr h))
theorem nr_ins (n12 : n < 10 ^ 12) (hs : sgn sg) (hb : bok b = true) (b16 : b.length ≤ 16) {u w : List Nat} {c : Nat} (c0 : 0 < c) (c1 : c ≤ 126) (e : u ++ w = line n sg b) : ¬ IsL (u ++ c :: w) := fun h => by
  have al := ahead_33 (sg := sg) n12 b16
  have as := ahead_signs (n := n) hs hb
  rw [line_tail] at e
  rcases List.append_eq_append_iff.mp e with ⟨s, e1, e2⟩ | ⟨s, e1, e2⟩
  · rw [e2] at h
    have h' : IsL ((u ++ c :: s) ++ 32 :: numL (chk (ahead n sg b))) := by
      rw [List.append_assoc]
      exact h
    have z := isl_last h'
    rw [e1, List.length_append] at al
    rw [e1] at as z
    have q := same_sum (by rw [List.length_append]; omega) (by rw [List.length_append, List.length_cons]; omega) (fun x hx => (as x hx).2) (mem_mid (p := fun x => x ≤ 126) (fun x hx => (as x hx).2) c1) z
    rw [wsum_app, wsum_app] at q
    have q2 : wsum (1 + u.length) (c :: s) = (1 + u.length) * c + wsum (1 + u.length + 1) s := rfl
    rw [q2, wsum_up (1 + u.length) s] at q
    have q3 : 0 < (1 + u.length) * c := Nat.mul_pos (by omega) c0
    omega
  · cases s with
    | nil =>
      rw [List.append_nil] at e1
      rw [List.nil_append] at e2
      rw [e1, ← e2] at h
      have h' : IsL ((ahead n sg b ++ [c]) ++ 32 :: numL (chk (ahead n sg b))) := by
        rw [List.append_assoc]
        exact h
      have z := isl_last h'
      have q := same_sum (by omega) (by rw [List.length_append, List.length_singleton]; omega) (fun x hx => (as x hx).2) (fun x hx => by
        obtain hx | hx := List.mem_append.mp hx
        · exact (as x hx).2
        · rw [List.mem_singleton.mp hx]
          exact c1) z
      rw [wsum_snoc] at q
      have q3 : 0 < (1 + (ahead n sg b).length) * c := Nat.mul_pos (by omega) c0
      omega
    | cons a s =>
      obtain ⟨ea, e3⟩ := List.cons.inj e2
      subst ea
      rw [e1] at h
      have h' : IsL (ahead n sg b ++ 32 :: (s ++ c :: w)) := by
        exact Eq.mp (congrArg IsL (List.append_assoc _ _ _)) h
      have z := congrArg List.length (isl_tail (sgn_ne hs) h')
      rw [show numL (chk (ahead n sg b)) = s ++ _ from e3, List.length_append, List.length_append, List.length_cons] at z
      omega
theorem dig_head {c : Nat} : ∃ d r, numL c = d :: r ∧ d ≠ 32 := by
  cases e : numL c with
  | nil => exact absurd e (TL.numL_ne c)
  | cons d r =>
    refine ⟨d, r, rfl, ?_⟩
    have := num_all c d (by rw [e]; exact List.mem_cons_self ..)
    omega
/-- the check's blank is at its place -/
theorem isl_blank (hs : sgn sg) {v : List Nat} {a : Nat} (h : IsL (ahead n sg b ++ a :: v)) : a = 32 := by
  have e : ahead n sg b ++ a :: v = (numL n ++ [sg]) ++ 32 :: (numL ((numL n).length + b.length) ++ 32 :: (b ++ a :: v)) := by
    rw [ahead_eq]
    simp only [List.cons_append, List.append_assoc, List.nil_append]
  rw [e] at h
  obtain ⟨b', l, e'⟩ := isl_body (sgn_ne hs) h
  obtain ⟨e1, e2⟩ := List.append_inj e' l.symm
  exact (List.cons.inj e2).1
theorem nr_del (n12 : n < 10 ^ 12) (hs : sgn sg) (hb : bok b = true) (b16 : b.length ≤ 16) {u w : List Nat} {a : Nat} (e : u ++ a :: w = line n sg b) : ¬ IsL (u ++ w) := fun h => by
  have al := ahead_33 (sg := sg) n12 b16
  have as := ahead_signs (n := n) hs hb
  rw [line_tail] at e
  rcases List.append_eq_append_iff.mp e with ⟨s, e1, e2⟩ | ⟨s, e1, e2⟩
  · cases s with
    | nil =>
      obtain ⟨ea, e3⟩ := List.cons.inj e2
      rw [List.append_nil] at e1
      rw [← e1, e3] at h
      obtain ⟨d, r, ed, ne⟩ := dig_head (c := chk (ahead n sg b))
      rw [ed] at h
      exact ne (isl_blank hs h)
    | cons x s =>
      obtain ⟨ea, e3⟩ := List.cons.inj e2
      subst ea
      rw [e3] at h
      have h' : IsL ((u ++ s) ++ 32 :: numL (chk (ahead n sg b))) := by
        rw [List.append_assoc]
        exact h
      have z := isl_last h'
      rw [e1, List.length_append, List.length_cons] at al
      rw [e1] at as z
      have q := same_sum (by rw [List.length_append, List.length_cons]; omega) (by rw [List.length_append]; omega) (fun x hx => (as x hx).2) (fun x hx => (as x (by
        obtain hx | hx := List.mem_append.mp hx
        · exact List.mem_append.mpr (.inl hx)
        · exact List.mem_append.mpr (.inr (List.mem_cons_of_mem _ hx)))).2) z
      rw [wsum_app, wsum_app] at q
      have q2 : wsum (1 + u.length) (a :: s) = (1 + u.length) * a + wsum (1 + u.length + 1) s := rfl
      rw [q2, wsum_up (1 + u.length) s] at q
      have a0 := (as a (List.mem_append.mpr (.inr (List.mem_cons_self ..)))).1
      have q3 : 0 < (1 + u.length) * a := Nat.mul_pos (by omega) (by omega)
      omega
  · cases s with
    | nil =>
      rw [List.append_nil] at e1
      obtain ⟨ea, e3⟩ := List.cons.inj e2
      rw [e1, ← e3] at h
      obtain ⟨d, r, ed, ne⟩ := dig_head (c := chk (ahead n sg b))
      rw [ed] at h
      exact ne (isl_blank hs h)
    | cons x s =>
      obtain ⟨ea, e3⟩ := List.cons.inj e2
      subst ea
      rw [e1] at h
      have h' : IsL (ahead n sg b ++ 32 :: (s ++ w)) := by
        exact Eq.mp (congrArg IsL (List.append_assoc _ _ _)) h
      have z := congrArg List.length (isl_tail (sgn_ne hs) h')
      rw [show numL (chk (ahead n sg b)) = s ++ _ from e3, List.length_append, List.length_append, List.length_cons] at z
      omega
theorem nr_rep (n12 : n < 10 ^ 12) (hs : sgn sg) (hb : bok b = true) (b16 : b.length ≤ 16) {u w : List Nat} {a c : Nat} (c1 : c ≤ 126) (e : u ++ a :: w = line n sg b) (h : IsL (u ++ c :: w)) : c = a := by
  have al := ahead_33 (sg := sg) n12 b16
  have as := ahead_signs (n := n) hs hb
  rw [line_tail] at e
  rcases List.append_eq_append_iff.mp e with ⟨s, e1, e2⟩ | ⟨s, e1, e2⟩
  · cases s with
    | nil =>
      obtain ⟨ea, e3⟩ := List.cons.inj e2
      rw [List.append_nil] at e1
      rw [← e1] at h
      rw [ea]
      exact isl_blank hs h
    | cons x s =>
      obtain ⟨ea, e3⟩ := List.cons.inj e2
      subst ea
      rw [e3] at h
      have h' : IsL ((u ++ c :: s) ++ 32 :: numL (chk (ahead n sg b))) := by
        rw [List.append_assoc]
        exact h
      have z := isl_last h'
      rw [e1, List.length_append, List.length_cons] at al
      rw [e1] at as z
      have q := same_sum (by rw [List.length_append, List.length_cons]; omega) (by rw [List.length_append, List.length_cons]; omega) (fun x hx => (as x hx).2) (mem_mid (p := fun x => x ≤ 126) (fun x hx => (as x (by
        obtain hx | hx := List.mem_append.mp hx
        · exact List.mem_append.mpr (.inl hx)
        · exact List.mem_append.mpr (.inr (List.mem_cons_of_mem _ hx)))).2) c1) z
      rw [wsum_app, wsum_app] at q
      have q2 : wsum (1 + u.length) (a :: s) = (1 + u.length) * a + wsum (1 + u.length + 1) s := rfl
      have q4 : wsum (1 + u.length) (c :: s) = (1 + u.length) * c + wsum (1 + u.length + 1) s := rfl
      rw [q2, q4] at q
      exact (Nat.eq_of_mul_eq_mul_left (show 0 < 1 + u.length by omega) (show (1 + u.length) * a = (1 + u.length) * c by omega)).symm
  · cases s with
    | nil =>
      rw [List.append_nil] at e1
      obtain ⟨ea, e3⟩ := List.cons.inj e2
      rw [e1] at h
      rw [← ea]
      exact isl_blank hs h
    | cons x s =>
      obtain ⟨ea, e3⟩ := List.cons.inj e2
      subst ea
      rw [e1] at h
      have h' : IsL (ahead n sg b ++ 32 :: (s ++ c :: w)) := by
        exact Eq.mp (congrArg IsL (List.append_assoc _ _ _)) h
      have z := isl_tail (sgn_ne hs) h'
      rw [e3] at z
      exact (List.cons.inj (List.append_cancel_left z)).1
/-- two neighbours exchanged -/
theorem nr_swap (n12 : n < 10 ^ 12) (hs : sgn sg) (hb : bok b = true) (b16 : b.length ≤ 16) {u w : List Nat} {a c : Nat} (e : u ++ a :: c :: w = line n sg b) (h : IsL (u ++ c :: a :: w)) : c = a := by
  have al := ahead_33 (sg := sg) n12 b16
  have as := ahead_signs (n := n) hs hb
  rw [line_tail] at e
  rcases List.append_eq_append_iff.mp e with ⟨s, e1, e2⟩ | ⟨s, e1, e2⟩
  · cases s with
    | nil =>
      obtain ⟨ea, e3⟩ := List.cons.inj e2
      rw [List.append_nil] at e1
      rw [← e1] at h
      rw [ea]
      exact isl_blank hs h
    | cons x s =>
      obtain ⟨ea, e3⟩ := List.cons.inj e2
      subst ea
      cases s with
      | nil =>
        obtain ⟨ec, e4⟩ := List.cons.inj e3
        subst ec
        -- the last sign ahead of the check's blank
        have h' : IsL ((u ++ [32]) ++ a :: w) := by
          rw [List.append_assoc]
          exact h
        by_cases bn : b = []
        · subst bn
          have e5 : ahead n sg [] = ((numL n ++ [sg]) ++ 32 :: numL ((numL n).length + 0)) ++ [32] := by
            rw [ahead_eq]
            simp only [List.append_assoc, List.cons_append, List.length_nil]
          rw [e5] at e1
          exact ((snoc_inj e1.symm).2).symm
        · obtain ⟨b0, x, eb⟩ : ∃ b0 x, b = b0 ++ [x] := ⟨b.dropLast, b.getLast bn, (List.dropLast_concat_getLast bn).symm⟩
          have e5 : ahead n sg b = ((numL n ++ [sg]) ++ 32 :: (numL ((numL n).length + b.length) ++ 32 :: b0)) ++ [x] := by
            rw [ahead_eq]
            obtain ⟨mm, em⟩ : ∃ mm, (numL n).length + b.length = mm := ⟨_, rfl⟩
            rw [em, eb]
            simp only [List.cons_append, List.append_assoc, List.nil_append]
          rw [e5] at e1
          obtain ⟨e6, e7⟩ := snoc_inj e1
          rw [← e6] at h
          have h2 : IsL ((numL n ++ [sg]) ++ 32 :: (numL ((numL n).length + b.length) ++ 32 :: (b0 ++ 32 :: a :: w))) := by
            have := h
            simp only [List.append_assoc, List.cons_append] at this ⊢
            exact this
          obtain ⟨b', l, e8⟩ := isl_body (sgn_ne hs) h2
          have e9 : (b0 ++ [32]) ++ a :: w = b' ++ 32 :: numL (chk (ahead n sg b')) := by
            rw [← e8]
            simp only [List.cons_append, List.nil_append, List.append_assoc]
          have l2 : (b0 ++ [32]).length = b'.length := by
            rw [l, eb, List.length_append, List.length_append]
            rfl
          exact ((List.cons.inj (List.append_inj e9 l2).2).1).symm
      | cons y s =>
        obtain ⟨ec, e4⟩ := List.cons.inj e3
        subst ec
        rw [e4] at h
        have h' : IsL ((u ++ c :: a :: s) ++ 32 :: numL (chk (ahead n sg b))) := by
          rw [List.append_assoc]
          exact h
        have z := isl_last h'
        rw [e1, List.length_append, List.length_cons, List.length_cons] at al
        rw [e1] at as z
        have q := same_sum (by rw [List.length_append, List.length_cons, List.length_cons]; omega) (by rw [List.length_append, List.length_cons, List.length_cons]; omega) (fun x hx => (as x hx).2) (fun x hx => (as x (by
          simp only [List.mem_append, List.mem_cons] at hx ⊢
          rcases hx with hx | hx | hx | hx
          · exact .inl hx
          · exact .inr (.inr (.inl hx))
          · exact .inr (.inl hx)
          · exact .inr (.inr (.inr hx)))).2) z
        rw [wsum_app, wsum_app] at q
        have q2 : wsum (1 + u.length) (a :: c :: s) = (1 + u.length) * a + ((1 + u.length + 1) * c + wsum (1 + u.length + 1 + 1) s) := rfl
        have q4 : wsum (1 + u.length) (c :: a :: s) = (1 + u.length) * c + ((1 + u.length + 1) * a + wsum (1 + u.length + 1 + 1) s) := rfl
        rw [q2, q4, Nat.add_mul (1 + u.length) 1 c, Nat.add_mul (1 + u.length) 1 a] at q
        omega
  · cases s with
    | nil =>
      rw [List.append_nil] at e1
      obtain ⟨ea, e3⟩ := List.cons.inj e2
      rw [e1] at h
      rw [← ea]
      exact isl_blank hs h
    | cons x s =>
      obtain ⟨ea, e3⟩ := List.cons.inj e2
      subst ea
      rw [e1] at h
      have h' : IsL (ahead n sg b ++ 32 :: (s ++ c :: a :: w)) := by
        exact Eq.mp (congrArg IsL (List.append_assoc _ _ _)) h
      have z := isl_tail (sgn_ne hs) h'
      rw [e3] at z
      exact (List.cons.inj (List.append_cancel_left z)).1
end
end Tg

/-! enumerate(zip(a, b)) and enumerate(zip(a, b), start=k), a and b lists -/
namespace Tg
open PySem PySem.Spec PyProof.Rows L2
/-- a zip, by the two fields of the tuple that it gave out -/
abbrev ZRec (h : Heap) (z TI TO : Addr) (f0 : Value) (f1 : Bool) : Prop := h.get? z = some { cls := .type "zip", dict := none, data := .fields #[f0, .bool f1, .bool false, .ref TI, .ref TO], slots := #[] }
/-- its tuple may stand, be gone, or never have been -/
def ZAny (h : Heap) (z TI TO : Addr) : Prop := ∃ f0 f1, ZRec h z TI TO f0 f1 ∧ (f0 = .none ∨ ∃ T : Addr, f0 = rawInt T)
/-- what next of a zip, and of an enumerate, runs; a value given back -/
abbrev runZ (z : Addr) := Builtin.«zip.__next__» ⟨[.ref z], []⟩
abbrev runE (e : Addr) := Builtin.«enumerate.__next__» ⟨[.ref e], []⟩
abbrev Back (Q : Value → Shared → Prop) : Fin → Shared → Prop := fun f s2 => ∃ v, f = .done (.ret v) ∧ Q v s2
section
variable {prog : Program} {w : World} {A : Around} {E : Value → Shared → Prop} {s : Shared} {z TI TO i1 i2 a b : Addr} {f0 : Value} {f1 : Bool}
/-- a field of a record, as the first step -/
theorem fstep {β : Type} {q : Addr} {i : Nat} {o : Obj} {fs : Array Value} {x : Value} {go : Value → Sem β} {Q : β → Shared → Prop} (h : s.heap.get? q = some o) (hd : o.data = .fields fs) (hx : fs[i]? = some x) (k : wpAny (model prog w) A (go x) Q E s) : wpAny (model prog w) A (field (.ref q) i >>= go) Q E s := wpAny_bind (wpAny_field h hd hx k)
theorem dead_load {T : Addr} {Q : Option Obj → Shared → Prop} (hT : s.heap.get? T = none) (q : Q none s) : wpAny (model prog w) A (loadIfAlive T) Q E s := by
  have q' : Q (s.heap.get? T) s := by
    rw [hT]
    exact q
  exact fun _ _ _ => q'
theorem z_free {Q : Bool → Shared → Prop} (hz : ZRec s.heap z TI TO f0 f1) (hf : f0 = .none ∨ ∃ T : Addr, f0 = rawInt T ∧ s.heap.get? T = none) (q : Q true s) : wpAny (model prog w) A (Builtin.SmallTypes.ownedTupleIsFree (.ref z)) Q E s := by
  rcases hf with rfl | ⟨T, rfl, hT⟩
  · exact fstep (q := z) (i := 0) (x := .none) hz rfl rfl (wpAny_pure q)
  · refine fstep (q := z) (i := 0) (x := rawInt T) hz rfl rfl (wpAny_bind (m := loadIfAlive (T : Int).toNat) ?_)
    rw [Int.toNat_natCast]
    exact dead_load hT (wpAny_pure q)
theorem z_item0 {j : Nat} {xs ys : Array Value} {x y u v : Value} {Q : Value → Shared → Prop} (P : ZipApart z TI TO i1 i2 a b) (hz : ZRec s.heap z TI TO f0 f1) (hf : f0 = .none ∨ ∃ T : Addr, f0 = rawInt T ∧ s.heap.get? T = none)
    (pI : IsPair s.heap TI (.ref i1) (.ref i2)) (pO : IsPair s.heap TO u v) (t1 : s.heap.IsListIter i1 a j) (t2 : s.heap.IsListIter i2 b j) (l1 : s.heap.IsList a xs) (l2 : s.heap.IsList b ys) (gx : xs[j]? = some x) (gy : ys[j]? = some y)
    (told : ∀ h', ZAny h' z TI TO → (∃ u v, IsPair h' TO u v) → h'.IsListIter i1 a (j + 1) → h'.IsListIter i2 b (j + 1) → IsPair h' s.heap.objs.size x y → h'.objs.size = s.heap.objs.size + 1 → (∀ c o, c ≠ z → c ≠ TO → c ≠ i1 → c ≠ i2 → s.heap.get? c = some o → h'.get? c = some o) → Q (.ref s.heap.objs.size) { s with heap := h' }) :
    wpAny (model prog w) A (runZ z) (Back Q) E s := by
  refine fstep (q := z) (i := 2) (x := .bool false) hz rfl rfl ?_
  refine fstep (q := z) (i := 3) (x := .ref TI) hz rfl rfl (wpAny_bind (wpAny_seqItems pI rfl ?_))
  refine wpAny_bind (m := Builtin.SmallTypes.ownedTupleIsFree (.ref z)) (z_free hz hf ?_)
  simp only [if_true]
  refine wpAny_bind (wpAny_rule (wpAny_bind (wpAny_field hz rfl (x := .ref TO) rfl (wpAny_bind (wpAny_setField_rec hz (by simp) fun g1 z1 b1 => ?_)))))
  replace z1 : ZRec g1 z TI TO .ellipsis f1 := z1
  refine wpAny_bind ?_
  simp only [List.forIn_nil, List.forIn_cons, List.zipIdx_nil, List.zipIdx_cons]
  refine wpAny_bind (wpAny_bind (wpAny_onRaise (wpAny_bind (m := Builtin.SmallTypes.nextOf (.ref i1)) ?_)))
  refine (wpAny_nextOf_list_item (t1.extBut b1.extBut P.i1z) (l1.extBut b1.extBut P.l1z) gx fun g2 t1' b2 => wpAny_pure ?_)
  have o2 : IsPair g2 TO u v := b2.extBut _ _ P.TOi1 (b1.extBut _ _ P.TOz pO)
  refine wpAny_bind (wpAny_seqItems o2 rfl (wpAny_bind (wpAny_updateSeq_pair o2 fun g3 o3 b3 => ?_)))
  replace o3 : IsPair g3 TO x v := o3
  refine wpAny_bind (wpAny_letGo (wpAny_pure (wpAny_bind (wpAny_bind (wpAny_onRaise (wpAny_bind (m := Builtin.SmallTypes.nextOf (.ref i2)) ?_))))))
  have t2' := ((t2.extBut b1.extBut P.i2z).extBut b2.extBut P.i12.symm).extBut b3.extBut P.TOi2.symm
  have l2' := ((l2.extBut b1.extBut P.l2z).extBut b2.extBut P.l2i1).extBut b3.extBut P.l2TO
  refine (wpAny_nextOf_list_item t2' l2' gy fun g4 t2'' b4 => wpAny_pure ?_)
  have o4 : IsPair g4 TO x v := b4.extBut _ _ P.TOi2 o3
  refine wpAny_bind (wpAny_seqItems o4 rfl (wpAny_bind (wpAny_updateSeq_pair o4 fun g5 o5 b5 => ?_)))
  replace o5 : IsPair g5 TO x y := o5
  refine wpAny_bind (wpAny_letGo (wpAny_pure (wpAny_pure (wpAny_bind (wpAny_seqItems o5 rfl (wpAny_bind (wpAny_newTuple ?_)))))))
  have size5 : g5.objs.size = s.heap.objs.size := by rw [b5.1, b4.1, b3.1, b2.1, b1.1]
  have z5 : ZRec g5 z TI TO .ellipsis f1 := b5.extBut _ _ P.TOz.symm (b4.extBut _ _ P.i2z.symm (b3.extBut _ _ P.TOz.symm (b2.extBut _ _ P.i1z.symm z1)))
  have zl : z < g5.objs.size := Heap.lt_size z5
  show wpAny _ _ (Builtin.SmallTypes.ownedTupleHandOut (.ref z) (.ref g5.objs.size) >>= _) _ _ _
  refine wpAny_bind ?_
  delta Builtin.SmallTypes.ownedTupleHandOut
  have z6 : ZRec (g5.push { cls := .type "tuple", data := .seq #[x, y] }) z TI TO .ellipsis f1 := Heap.get?_push_of_some _ z5
  refine wpAny_bind (wpAny_setField_rec z6 (by simp) fun g7 z7 b7 => ?_)
  replace z7 : ZRec g7 z TI TO (rawInt g5.objs.size) f1 := z7
  refine wpAny_setField_rec z7 (by simp) fun g8 z8 b8 => wpAny_pure ⟨_, rfl, ?_⟩
  replace z8 : ZRec g8 z TI TO (rawInt g5.objs.size) false := z8
  have up : ∀ c o, c ≠ z → g5.get? c = some o → g8.get? c = some o := fun c o ne q => b8.extBut _ _ ne (b7.extBut _ _ ne (Heap.get?_push_of_some _ q))
  have new : IsPair g8 g5.objs.size x y := b8.extBut _ _ (Nat.ne_of_gt zl) (b7.extBut _ _ (Nat.ne_of_gt zl) (Heap.get?_push_size _ rfl))
  have size8 : g8.objs.size = g5.objs.size + 1 := by rw [b8.1, b7.1, Heap.size_push]
  show Q (.ref g5.objs.size) _
  rw [size5] at new size8 ⊢
  exact told g8 ⟨_, _, z8, .inr ⟨_, rfl⟩⟩ ⟨_, _, up _ _ P.TOz o5⟩ ((((t1'.extBut b3.extBut P.TOi1.symm).extBut b4.extBut P.i12).extBut b5.extBut P.TOi1.symm).at fun o q => up _ o P.i1z q) ((t2''.extBut b5.extBut P.TOi2.symm).at fun o q => up _ o P.i2z q) new size8
    fun c o n1 n2 n3 n4 q => up c o n1 (b5.extBut _ _ n2 (b4.extBut _ _ n4 (b3.extBut _ _ n2 (b2.extBut _ _ n3 (b1.extBut _ _ n1 q)))))
theorem z_item {j : Nat} {xs ys : Array Value} {x y u v : Value} {Q : Value → Shared → Prop} (P : ZipApart z TI TO i1 i2 a b) (hz : ZAny s.heap z TI TO)
    (pI : IsPair s.heap TI (.ref i1) (.ref i2)) (pO : IsPair s.heap TO u v) (t1 : s.heap.IsListIter i1 a j) (t2 : s.heap.IsListIter i2 b j) (l1 : s.heap.IsList a xs) (l2 : s.heap.IsList b ys) (gx : xs[j]? = some x) (gy : ys[j]? = some y)
    (told : ∀ h', ZAny h' z TI TO → (∃ u v, IsPair h' TO u v) → h'.IsListIter i1 a (j + 1) → h'.IsListIter i2 b (j + 1) → IsPair h' s.heap.objs.size x y → h'.objs.size = s.heap.objs.size + 1 → (∀ c o, c ≠ z → c ≠ TO → c ≠ i1 → c ≠ i2 → s.heap.get? c = some o → h'.get? c = some o) → Q (.ref s.heap.objs.size) { s with heap := h' }) :
    wpAny (model prog w) A (runZ z) (Back Q) E s := by
  obtain ⟨f0, f1, hr, hf⟩ := hz
  rcases hf with rfl | ⟨T, rfl⟩
  · exact z_item0 P hr (.inl rfl) pI pO t1 t2 l1 l2 gx gy told
  · cases hT : s.heap.get? T with
    | none => exact z_item0 P hr (.inr ⟨T, rfl, hT⟩) pI pO t1 t2 l1 l2 gx gy told
    | some oT => exact zip_next_item_held P hr hT pI t1 t2 l1 l2 gx gy fun h' k1 k2 k3 k4 k5 k6 => told h' ⟨_, _, k1, .inr ⟨T, rfl⟩⟩ ⟨u, v, k6 _ _ P.TOz P.TOi1 P.TOi2 pO⟩ k2 k3 k4 k5 fun c o n1 _ n3 n4 q => k6 c o n1 n3 n4 q
theorem z_end0 {j : Nat} {xs ys : Array Value} {u v : Value} {Q : Fin → Shared → Prop} (hh : A.handled = none) (P : ZipApart z TI TO i1 i2 a b) (hz : ZRec s.heap z TI TO f0 f1) (hf : f0 = .none ∨ ∃ T : Addr, f0 = rawInt T ∧ s.heap.get? T = none)
    (pI : IsPair s.heap TI (.ref i1) (.ref i2)) (pO : IsPair s.heap TO u v) (t1 : s.heap.IsListIter i1 a j) (t2 : s.heap.IsListIter i2 b j) (l1 : s.heap.IsList a xs) (l2 : s.heap.IsList b ys) (over : xs[j]? = none ∨ ys[j]? = none)
    (told : ∀ h' e, (∀ c o, c ≠ z → c ≠ TO → c ≠ i1 → c ≠ i2 → s.heap.get? c = some o → h'.get? c = some o) → (∃ o, h'.get? e = some o ∧ o.cls = .type "StopIteration") → E (.ref e) { s with heap := h' }) :
    wpAny (model prog w) A (runZ z) Q E s := by
  refine fstep (q := z) (i := 2) (x := .bool false) hz rfl rfl ?_
  refine fstep (q := z) (i := 3) (x := .ref TI) hz rfl rfl (wpAny_bind (wpAny_seqItems pI rfl ?_))
  refine wpAny_bind (m := Builtin.SmallTypes.ownedTupleIsFree (.ref z)) (z_free hz hf ?_)
  simp only [if_true]
  refine wpAny_bind (wpAny_rule (wpAny_bind (wpAny_field hz rfl (x := .ref TO) rfl (wpAny_bind (wpAny_setField_rec hz (by simp) fun g1 z1 b1 => ?_)))))
  replace z1 : ZRec g1 z TI TO .ellipsis f1 := z1
  refine wpAny_bind ?_
  simp only [List.forIn_nil, List.forIn_cons, List.zipIdx_nil, List.zipIdx_cons]
  refine wpAny_bind (wpAny_bind (wpAny_onRaise (wpAny_bind (m := Builtin.SmallTypes.nextOf (.ref i1)) ?_)))
  have fin : ∀ (g : Heap) (e : Addr), (∀ c o, c ≠ TO → c ≠ i1 → c ≠ i2 → g1.get? c = some o → g.get? c = some o) → (∃ o, g.get? e = some o ∧ o.cls = .type "StopIteration") → wpAny (model prog w) A (setField (.ref z) 0 .none) (fun _ s2 => E (.ref e) s2) E { s with heap := g } := fun g e hg he => by
    have zg : ZRec g z TI TO .ellipsis f1 := hg _ _ P.TOz.symm P.i1z.symm P.i2z.symm z1
    obtain ⟨oe, hoe, hce⟩ := he
    have ez : e ≠ z := fun q => by
      subst q
      rw [zg] at hoe
      cases hoe
      simp at hce
    refine wpAny_setField_rec zg (by simp) fun g' _ b' => told g' e (fun c o n1 n2 n3 n4 q => b'.extBut _ _ n1 (hg c o n2 n3 n4 (b1.extBut _ _ n1 q))) ⟨oe, b'.extBut _ _ ez hoe, hce⟩
  cases gx : xs[j]? with
  | none =>
    refine (wpAny_nextOf_list_end hh (t1.extBut b1.extBut P.i1z) (l1.extBut b1.extBut P.l1z) gx fun g2 e b2 he => ?_)
    exact fin g2 e (fun c o _ n3 _ q => b2 _ _ n3 q) he
  | some x =>
    have gy : ys[j]? = none := over.resolve_left (by rw [gx]; exact fun q => nomatch q)
    refine (wpAny_nextOf_list_item (t1.extBut b1.extBut P.i1z) (l1.extBut b1.extBut P.l1z) gx fun g2 t1' b2 => wpAny_pure ?_)
    have o2 : IsPair g2 TO u v := b2.extBut _ _ P.TOi1 (b1.extBut _ _ P.TOz pO)
    refine wpAny_bind (wpAny_seqItems o2 rfl (wpAny_bind (wpAny_updateSeq_pair o2 fun g3 o3 b3 => ?_)))
    refine wpAny_bind (wpAny_letGo (wpAny_pure (wpAny_bind (wpAny_bind (wpAny_onRaise (wpAny_bind (m := Builtin.SmallTypes.nextOf (.ref i2)) ?_))))))
    have t2' := ((t2.extBut b1.extBut P.i2z).extBut b2.extBut P.i12.symm).extBut b3.extBut P.TOi2.symm
    have l2' := ((l2.extBut b1.extBut P.l2z).extBut b2.extBut P.l2i1).extBut b3.extBut P.l2TO
    refine (wpAny_nextOf_list_end hh t2' l2' gy fun g4 e b4 he => ?_)
    exact fin g4 e (fun c o n2 n3 n4 q => b4 _ _ n4 (b3.extBut _ _ n2 (b2.extBut _ _ n3 q))) he
theorem z_end {j : Nat} {xs ys : Array Value} {u v : Value} {Q : Fin → Shared → Prop} (hh : A.handled = none) (P : ZipApart z TI TO i1 i2 a b) (hz : ZAny s.heap z TI TO)
    (pI : IsPair s.heap TI (.ref i1) (.ref i2)) (pO : IsPair s.heap TO u v) (t1 : s.heap.IsListIter i1 a j) (t2 : s.heap.IsListIter i2 b j) (l1 : s.heap.IsList a xs) (l2 : s.heap.IsList b ys) (over : xs[j]? = none ∨ ys[j]? = none)
    (told : ∀ h' e, (∀ c o, c ≠ z → c ≠ TO → c ≠ i1 → c ≠ i2 → s.heap.get? c = some o → h'.get? c = some o) → (∃ o, h'.get? e = some o ∧ o.cls = .type "StopIteration") → E (.ref e) { s with heap := h' }) :
    wpAny (model prog w) A (runZ z) Q E s := by
  obtain ⟨f0, f1, hr, hf⟩ := hz
  rcases hf with rfl | ⟨T, rfl⟩
  · exact z_end0 hh P hr (.inl rfl) pI pO t1 t2 l1 l2 over told
  · cases hT : s.heap.get? T with
    | none => exact z_end0 hh P hr (.inr ⟨T, rfl, hT⟩) pI pO t1 t2 l1 l2 over told
    | some oT => exact zip_next_end_held hh P hr hT pI t1 t2 l1 l2 over fun h' e k1 k2 => told h' e (fun c o n1 _ n3 n4 q => k1 c o n1 n3 n4 q) k2
/-- a turn of enumerate over any iterator, whose own turn is told -/
theorem en_item {e it : Addr} {c : Int} {old : Value} {Mid : Value → Heap → Prop} {Q : Value → Shared → Prop} (he : IsEnum s.heap e it c old)
    (inner : ∀ Q1 : Value → Shared → Prop, (∀ x g, Mid x g → IsEnum g e it c old → Q1 x { s with heap := g }) → wpAny (model prog w) A (Builtin.SmallTypes.nextOf (.ref it)) Q1 E s)
    (told : ∀ x g h', Mid x g → IsEnumOut h' e it (c + 1) x g.objs.size → h'.get? g.objs.size = some { cls := .type "tuple", data := .seq #[.int c s.toks, x] } → h'.objs.size = g.objs.size + 1 → (∀ b o, b ≠ e → g.get? b = some o → h'.get? b = some o) → Q (.ref g.objs.size) { s with heap := h', toks := s.toks + 1 }) :
    wpAny (model prog w) A (runE e) (Back Q) E s := by
  obtain ⟨hp, gn, dr, tk, os⟩ := s
  refine fstep (q := e) (i := 2) (x := .ref it) he rfl rfl (wpAny_bind (inner _ fun x g mid e1 => ?_))
  show wpAny _ _ (field (.ref e) 3 >>= _) _ _ ⟨g, gn, dr, tk, os⟩
  refine wpAny_bind (wpAny_field e1 rfl (x := rawInt c) rfl ?_)
  show wpAny _ _ (field (.ref e) 4 >>= _) _ _ ⟨g, gn, dr, tk, os⟩
  refine wpAny_bind (wpAny_field e1 rfl (x := .none) rfl ?_)
  show wpAny _ _ (mkInt c >>= _) _ _ ⟨g, gn, dr, tk, os⟩
  refine wpAny_bind (wpAny_mkInt (wpAny_bind (m := setField (.ref e) 3 (rawInt (c + 1))) ?_))
  refine (wpAny_setField_rec (s := ⟨g, gn, dr, tk + 1, os⟩) e1 (by simp) fun g2 e2 b2 => ?_)
  replace e2 : IsEnum g2 e it (c + 1) old := e2
  show wpAny _ _ (setField (.ref e) 4 .none >>= _) _ _ ⟨g2, gn, dr, tk + 1, os⟩
  refine wpAny_bind (wpAny_setField_rec e2 (by simp) fun g3 e3 b3 => ?_)
  replace e3 : IsEnum g3 e it (c + 1) old := e3
  refine wpAny_bind (m := newTuple [.int c tk, x]) (wpAny_newTuple (s := ⟨g3, gn, dr, tk + 1, os⟩) ?_)
  have same3 : g3.objs.size = g.objs.size := (b3.1).trans b2.1
  obtain ⟨g4, eg4⟩ : ∃ g4, g3.push { cls := .type "tuple", data := .seq #[.int c tk, x] } = g4 := ⟨_, rfl⟩
  have keep4 : ∀ q o, g3.get? q = some o → g4.get? q = some o := fun q o h => by
    rw [← eg4]
    exact Heap.get?_push_of_some _ h
  have tup4 : g4.get? g.objs.size = some { cls := .type "tuple", data := .seq #[.int c tk, x] } := by
    rw [← eg4, ← same3]
    exact Heap.get?_push_size g3 rfl
  have size4 : g4.objs.size = g.objs.size + 1 := by rw [← eg4, Heap.size_push, same3]
  have e4 : IsEnum g4 e it (c + 1) old := keep4 _ _ e3
  have el : e < g.objs.size := Heap.lt_size e1
  show wpAny _ _ (Builtin.SmallTypes.ownedTupleIsFree (.ref e) >>= _) _ _ ⟨g3.push _, gn, dr, tk + 1, os⟩
  rw [eg4, same3]
  refine wpAny_bind (fstep (q := e) (i := 0) (x := .none) e4 rfl rfl (wpAny_pure ?_))
  simp only [if_true]
  refine wpAny_bind (wpAny_rule (wpAny_bind (wpAny_field e4 rfl (x := old) rfl (wpAny_bind (wpAny_setField_rec e4 (by simp) fun g5 e5 b5 => ?_)))))
  replace e5 : IsEnum g5 e it (c + 1) x := e5
  show wpAny _ _ (Builtin.SmallTypes.ownedTupleHandOut (.ref e) (.ref g.objs.size) >>= _) _ _ ⟨g5, gn, dr, tk + 1, os⟩
  refine wpAny_bind ?_
  delta Builtin.SmallTypes.ownedTupleHandOut
  refine wpAny_bind (wpAny_setField_rec e5 (by simp) fun g6 e6 b6 => ?_)
  replace e6 : IsEnumOut g6 e it (c + 1) x g.objs.size := e6
  refine wpAny_setField_rec e6 (by simp) fun g7 e7 b7 => wpAny_bind (wpAny_letGo (wpAny_pure ⟨_, rfl, ?_⟩))
  replace e7 : IsEnumOut g7 e it (c + 1) x g.objs.size := e7
  have out : ∀ q o, q ≠ e → g4.get? q = some o → g7.get? q = some o := fun q o ne h => b7.extBut _ _ ne (b6.extBut _ _ ne (b5.extBut _ _ ne h))
  exact told x g g7 mid e7 (out _ _ (Nat.ne_of_gt el) tup4) (by rw [b7.1, b6.1, b5.1, size4]) fun q o ne h => out q o ne (keep4 q o (b3.extBut _ _ ne (b2.extBut _ _ ne h)))
end
end Tg

namespace Tg
open PySem PySem.Spec PyProof.Rows L2
/-- both lists stand -/
abbrev Two (K : PySem.W.Frag) (H : Hp) (a b : Addr) (xs ys : List V) : Prop := SqL K H a xs ∧ SqL K H b ys
/-- the lists at a and b as they stand, each two in a new pair, that with its place, counted from c on, in another -/
def ItEz (K : PySem.W.Frag) (a b : Addr) (c : Int) : It :=
  ⟨fun i H => ∃ (xs ys : List V) (x y : V), Two K H a b xs ys ∧ xs[i]? = some x ∧ ys[i]? = some y,
    fun i H v H' => ∃ (U T : Addr) (x y : V), v = .ref T ∧ H U = none ∧ H T = none ∧ U ≠ T ∧ H' = upd (upd H U (.tup [x, y])) T (.tup [.int (c + (i : Int)), .ref U]) ∧ (∀ xs, SqL K H a xs → xs[i]? = some x) ∧ ∀ ys, SqL K H b ys → ys[i]? = some y,
    fun i H => ∃ xs ys : List V, Two K H a b xs ys ∧ (xs.length ≤ i ∨ ys.length ≤ i)⟩
def ZT (a b e z TI TO i1 i2 : Addr) (c : Int) (i : Nat) (h : Heap) : Prop := (∃ old, IsEnum h e z (c + (i : Int)) old) ∧ ZAny h z TI TO ∧ IsPair h TI (.ref i1) (.ref i2) ∧ (∃ u v, IsPair h TO u v) ∧ h.IsListIter i1 a i ∧ h.IsListIter i2 b i
theorem z_next {prog : Program} {w : World} {A : Around} {E : Value → Shared → Prop} {s : Shared} {z TI TO i1 i2 a b : Addr} {j : Nat} {xs ys : Array Value} {x y u v : Value} {Q : Value → Shared → Prop} (P : ZipApart z TI TO i1 i2 a b) (hz : ZAny s.heap z TI TO)
    (pI : IsPair s.heap TI (.ref i1) (.ref i2)) (pO : IsPair s.heap TO u v) (t1 : s.heap.IsListIter i1 a j) (t2 : s.heap.IsListIter i2 b j) (l1 : s.heap.IsList a xs) (l2 : s.heap.IsList b ys) (gx : xs[j]? = some x) (gy : ys[j]? = some y)
    (told : ∀ h', ZAny h' z TI TO → (∃ u v, IsPair h' TO u v) → h'.IsListIter i1 a (j + 1) → h'.IsListIter i2 b (j + 1) → IsPair h' s.heap.objs.size x y → h'.objs.size = s.heap.objs.size + 1 → (∀ c o, c ≠ z → c ≠ TO → c ≠ i1 → c ≠ i2 → s.heap.get? c = some o → h'.get? c = some o) → Q (.ref s.heap.objs.size) { s with heap := h' }) :
    wpAny (model prog w) A (Builtin.SmallTypes.nextOf (.ref z)) Q E s := by
  have ty : s.TypeIs (.ref z) "zip" := by
    obtain ⟨f0, f1, hr, _⟩ := hz
    exact ⟨_, hr, rfl⟩
  delta Builtin.SmallTypes.nextOf
  refine wpAny_bind (wpAny_callSpecial?_slot (name := Str.ofString "__next__") ty F.slot_zip_next (wpAny_call_entry F.slot_zip_next ty F.entry_zip_next ?_ (F.args_zip_next_1 _)))
  exact z_item P hz pI pO t1 t2 l1 l2 gx gy fun h' k1 k2 k3 k4 k5 k6 k7 => wpAny_pure (told h' k1 k2 k3 k4 k5 k6 k7)
theorem z_over {prog : Program} {w : World} {A : Around} {E : Value → Shared → Prop} {s : Shared} {z TI TO i1 i2 a b : Addr} {j : Nat} {xs ys : Array Value} {u v : Value} {Q : Value → Shared → Prop} (hh : A.handled = none) (P : ZipApart z TI TO i1 i2 a b) (hz : ZAny s.heap z TI TO)
    (pI : IsPair s.heap TI (.ref i1) (.ref i2)) (pO : IsPair s.heap TO u v) (t1 : s.heap.IsListIter i1 a j) (t2 : s.heap.IsListIter i2 b j) (l1 : s.heap.IsList a xs) (l2 : s.heap.IsList b ys) (over : xs[j]? = none ∨ ys[j]? = none)
    (told : ∀ h' e, (∀ c o, c ≠ z → c ≠ TO → c ≠ i1 → c ≠ i2 → s.heap.get? c = some o → h'.get? c = some o) → (∃ o, h'.get? e = some o ∧ o.cls = .type "StopIteration") → E (.ref e) { s with heap := h' }) :
    wpAny (model prog w) A (Builtin.SmallTypes.nextOf (.ref z)) Q E s := by
  have ty : s.TypeIs (.ref z) "zip" := by
    obtain ⟨f0, f1, hr, _⟩ := hz
    exact ⟨_, hr, rfl⟩
  delta Builtin.SmallTypes.nextOf
  refine wpAny_bind (wpAny_callSpecial?_slot (name := Str.ofString "__next__") ty F.slot_zip_next (wpAny_call_entry F.slot_zip_next ty F.entry_zip_next ?_ (F.args_zip_next_1 _)))
  exact z_end (A := A.in1) (by first | exact hh | (show A.in1.handled = none; exact hh)) P hz pI pO t1 t2 l1 l2 over told
theorem mem6 {q e z TI TO i1 i2 : Addr} (h : q ∈ [e, z, TI, TO, i1, i2]) : q = e ∨ q = z ∨ q = TI ∨ q = TO ∨ q = i1 ∨ q = i2 := by simpa using h
theorem mem46 {q e z TI TO i1 i2 : Addr} (h : q ∈ [z, TO, i1, i2]) : q ∈ [e, z, TI, TO, i1, i2] := by
  have h' : q = z ∨ q = TO ∨ q = i1 ∨ q = i2 := by simpa using h
  rcases h' with rfl | rfl | rfl | rfl <;> simp
theorem gt_ne {a b : Nat} (h : b < a) : (a : Addr) ≠ b := Nat.ne_of_gt h
theorem turn_enumZ {P : Program} {w : World} {K : PySem.W.Frag} {elts : List Expr} {kk : Nat} {tpos : Pos} {a b e z TI TO i1 i2 : Addr} (c : Int) (D : ZipApart z TI TO i1 i2 a b) (ez : e ≠ z) (eI : e ≠ TI) (eO : e ≠ TO) (e1 : e ≠ i1) (e2 : e ≠ i2) :
    Turn P w K (.Tuple elts kk tpos) (ItEz K a b c) [e, z, TI, TO, i1, i2] e (ZT a b e z TI TO i1 i2 c) where
  mem := List.mem_cons_self
  obj := fun i h st q hq => by
    obtain ⟨⟨old, he⟩, ⟨f0, f1, hz, _⟩, hI, ⟨u, v, hO⟩, ⟨o1, g1, _, d1⟩, ⟨o2, g2, _, d2⟩⟩ := st
    rcases mem6 hq with rfl | rfl | rfl | rfl | rfl | rfl
    · exact ⟨_, he, fun _ z => nomatch z⟩
    · exact ⟨_, hz, fun _ z => nomatch z⟩
    · exact ⟨_, hI, fun _ z => nomatch z⟩
    · exact ⟨_, hO, fun _ z => nomatch z⟩
    · exact ⟨o1, g1, fun _ z => by rw [d1] at z; cases z⟩
    · exact ⟨o2, g2, fun _ z => by rw [d2] at z; cases z⟩
  keep := fun i h h' st k => by
    obtain ⟨⟨old, he⟩, ⟨f0, f1, hz, hf⟩, hI, ⟨u, v, hO⟩, t1, t2⟩ := st
    exact ⟨⟨old, k e (by simp) _ he⟩, ⟨f0, f1, k z (by simp) _ hz, hf⟩, k TI (by simp) _ hI, ⟨u, v, k TO (by simp) _ hO⟩, t1.at fun _ q => k i1 (by simp) _ q, t2.at fun _ q => k i2 (by simp) _ q⟩
  item := by
    rintro X rfl rfl rfl hc i pins s σ H E I hf ⟨⟨old, he⟩, hz, hI, ⟨u0, v0, hO⟩, t1, t2⟩ ⟨xs, ys, x, y, ⟨hqx, hqy⟩, hx, hy⟩
    obtain ⟨m1, rv1, p1, _⟩ := I.list hqx
    obtain ⟨m2, rv2, p2, _⟩ := I.list hqy
    obtain ⟨⟨u1, hu1, ru1⟩, ⟨u2, hu2, ru2⟩⟩ := And.intro (rv1.get hx) (rv2.get hy)
    have ty : s.TypeIs (.ref e) "enumerate" := ⟨_, he, rfl⟩
    have el : e < s.heap.objs.size := Heap.lt_size he
    have cells : ∀ q, q ∈ [e, z, TI, TO, i1, i2] → q < s.heap.objs.size := fun q hq => by
      obtain ⟨f0, f1, hz, _⟩ := hz
      rcases mem6 hq with rfl | rfl | rfl | rfl | rfl | rfl
      · exact el
      · exact Heap.lt_size hz
      · exact Heap.lt_size hI
      · exact Heap.lt_size hO
      · obtain ⟨_, g1, _⟩ := t1
        exact Heap.lt_size g1
      · obtain ⟨_, g2, _⟩ := t2
        exact Heap.lt_size g2
    unfold pyNext
    refine wpAny_bind (wpAny_attempt (wpAny_callSpecial?_slot (name := Str.ofString "__next__") ty F.slot_enumerate_next (wpAny_call_entry F.slot_enumerate_next ty F.entry_enumerate_next
      (en_item (Mid := fun v g => v = .ref s.heap.objs.size ∧ ZAny g z TI TO ∧ (∃ u v, IsPair g TO u v) ∧ g.IsListIter i1 a (i + 1) ∧ g.IsListIter i2 b (i + 1) ∧ IsPair g s.heap.objs.size u1 u2 ∧ g.objs.size = s.heap.objs.size + 1 ∧ ∀ c o, c ≠ z → c ≠ TO → c ≠ i1 → c ≠ i2 → s.heap.get? c = some o → g.get? c = some o) he
        (fun Q1 told => z_next D hz hI hO t1 t2 p1.isList p2.isList (x := u1) (y := u2) (by simpa using hu1) (by simpa using hu2) fun g k1 k2 k3 k4 k5 k6 k7 => told _ g ⟨rfl, k1, k2, k3, k4, k5, k6, k7⟩ (k7 _ _ ez eO e1 e2 he))
        fun v g h' mid out hT hsz hk => wpAny_pure ?_) (F.args_enumerate_next_1 _))))
    obtain ⟨rfl, k1, k2, k3, k4, k5, k6, k7⟩ := mid
    rw [k6] at hT hsz out
    refine ⟨_, rfl, wpAny_letOwnedTupleGo_enum (s := { s with heap := h', toks := s.toks + 1 }) (by rw [k6]; exact out) fun h2 he2 sb => ?_⟩
    have up : ∀ q o, q ≠ e → g.get? q = some o → h2.get? q = some o := fun q o ne h => sb.extBut _ _ ne (hk q o ne h)
    have ne1 : s.heap.objs.size ≠ e := Nat.ne_of_gt el
    have ne2 : s.heap.objs.size + 1 ≠ e := Nat.ne_of_gt (Nat.lt_succ_of_lt el)
    have n1 : ObjOk X.prog X.w (upd H s.heap.objs.size (.tup [x, y])) g s.heap.objs.size (.tup [x, y]) := ⟨by show 2 ≤ sizeLine; decide, [u1, u2], .cons ru1 (.cons ru2 .nil), ⟨_, k5, rfl, _, rfl⟩⟩
    have I1 : Inv X pins σ (upd H s.heap.objs.size (.tup [x, y])) { s with heap := g } := I.turnedNew (t' := s.toks) (ch := [z, TO, i1, i2]) (fun q o hb h => k7 q o (fun y => hb (by simp [y])) (fun y => hb (by simp [y])) (fun y => hb (by simp [y])) (fun y => hb (by simp [y])) h) (fun q hq => hf q (mem46 hq)) (Nat.le_refl _) n1
    have hT2 : h2.get? (s.heap.objs.size + 1) = some { cls := .type "tuple", data := .seq #[.int (c + (i : Int)) s.toks, .ref s.heap.objs.size] } := sb.extBut _ _ ne2 hT
    have n2 : ObjOk X.prog X.w (upd (upd H s.heap.objs.size (.tup [x, y])) (s.heap.objs.size + 1) (.tup [.int (c + (i : Int)), .ref s.heap.objs.size])) h2 (s.heap.objs.size + 1) (.tup [.int (c + (i : Int)), .ref s.heap.objs.size]) :=
      ⟨by show 2 ≤ sizeLine; decide, [.int (c + (i : Int)) s.toks, .ref s.heap.objs.size], .cons ⟨_, rfl⟩ (.cons rfl .nil), ⟨_, hT2, rfl, _, rfl⟩⟩
    have fe : FpOk X pins (upd H s.heap.objs.size (.tup [x, y])) e := ⟨by rw [upd_ne ne1.symm]; exact (hf e (by simp)).1, (hf e (by simp)).2⟩
    have I2 : Inv X pins σ (upd (upd H s.heap.objs.size (.tup [x, y])) (s.heap.objs.size + 1) (.tup [.int (c + (i : Int)), .ref s.heap.objs.size])) { s with heap := h2, toks := s.toks + 1 } :=
      I1.turnedNew (t' := s.toks + 1) (ch := [e]) (fun q o hb h => up q o (fun y => hb (by simp [y])) h) (fun q hq => by rw [List.mem_singleton.mp hq]; exact fe) (by show g.objs.size ≤ _; omega) n2
    refine ⟨.ref (s.heap.objs.size + 1), _, I2, by rw [k6]; rfl, ⟨s.heap.objs.size, s.heap.objs.size + 1, x, y, rfl, I.hok.fresh (Nat.le_refl _), I.hok.fresh (Nat.le_succ _), Nat.ne_of_lt (Nat.lt_succ_self _), rfl, fun l hl => by rw [I.list_inj hl hqx]; exact hx, fun l hl => by rw [I.list_inj hl hqy]; exact hy⟩, ⟨⟨.ref s.heap.objs.size, ?_⟩, ?_, ?_, ?_, ?_, ?_⟩, fun q hq => ?_⟩
    · have e0 : c + ((i + 1 : Nat) : Int) = c + (i : Int) + 1 := by omega
      rw [e0]
      exact he2
    · obtain ⟨f0, f1, hr, hf0⟩ := k1
      exact ⟨f0, f1, up _ _ ez.symm hr, hf0⟩
    · exact up _ _ eI.symm (k7 _ _ D.TIz D.TITO D.TIi1 D.TIi2 hI)
    · obtain ⟨u, v, hp⟩ := k2
      exact ⟨u, v, up _ _ eO.symm hp⟩
    · exact k3.at fun _ h => up _ _ e1.symm h
    · exact k4.at fun _ h => up _ _ e2.symm h
    · have lt := cells q hq
      rw [upd_ne (Nat.ne_of_lt (Nat.lt_succ_of_lt lt)), upd_ne (Nat.ne_of_lt lt)]
      exact (hf q hq).1
  done := by
    rintro X rfl rfl rfl hc i pins s σ H E I hf ⟨⟨old, he⟩, hz, hI, ⟨u0, v0, hO⟩, t1, t2⟩ ⟨xs, ys, ⟨hqx, hqy⟩, over⟩
    obtain ⟨m1, rv1, p1, _⟩ := I.list hqx
    obtain ⟨m2, rv2, p2, _⟩ := I.list hqy
    have ty : s.TypeIs (.ref e) "enumerate" := ⟨_, he, rfl⟩
    have ll1 := rv1.length
    have ll2 := rv2.length
    have no : m1.toArray[i]? = none ∨ m2.toArray[i]? = none := over.imp (fun q => by simp; omega) (fun q => by simp; omega)
    unfold pyNext
    refine wpAny_bind (wpAny_attempt (wpAny_callSpecial?_slot (name := Str.ofString "__next__") ty F.slot_enumerate_next (wpAny_call_entry F.slot_enumerate_next ty F.entry_enumerate_next ?_ (F.args_enumerate_next_1 _))))
    refine fstep (q := e) (i := 2) (x := .ref z) he rfl rfl (wpAny_bind (z_over (A := X.A.in1) (I.ok.hd hc) D hz hI hO t1 t2 p1.isList p2.isList no fun h' x keeps stop => ?_))
    obtain ⟨o, ho, hcl⟩ := stop
    refine wpAny_bind (wpAny_isInstance (T := "StopIteration") (b := true) ⟨o, ho, hcl⟩ isSubtype_stop (wpAny_pure ⟨rfl, ?_⟩))
    exact I.turnedL (t' := s.toks) (ch := [z, TO, i1, i2]) (fun q o hb h => keeps q o (fun y => hb (by simp [y])) (fun y => hb (by simp [y])) (fun y => hb (by simp [y])) (fun y => hb (by simp [y])) h) (fun q hq => hf q (mem46 hq))
  self := fun A i s Q E st q => by
    obtain ⟨⟨_, he⟩, _⟩ := st
    exact wpAny_pyIter_enum he q
theorem walk_enumZ {K : PySem.W.Frag} {a b : Addr} {c : Int} {xs ys : List V} {n : Nat} (hn : n = min xs.length ys.length) : Walk (ItEz K a b c) n (fun H => SqL K H a xs ∧ SqL K H b ys) (fun i H v H' => ∃ (U T : Addr) (x y : V), v = .ref T ∧ H U = none ∧ H T = none ∧ U ≠ T ∧ H' = upd (upd H U (.tup [x, y])) T (.tup [.int (c + (i : Int)), .ref U]) ∧ xs[i]? = some x ∧ ys[i]? = some y) := by
  subst hn
  refine ⟨fun i _ hi q => ?_, fun _ q => ⟨xs, ys, q, by omega⟩, fun i H v H' _ q y => ?_⟩
  · have g1 : i < xs.length := by omega
    have g2 : i < ys.length := by omega
    exact ⟨xs, ys, _, _, q, List.getElem?_eq_getElem g1, List.getElem?_eq_getElem g2⟩
  · obtain ⟨U, T, x, z, h1, h2, h3, h4, h5, h6, h7⟩ := y
    exact ⟨U, T, x, z, h1, h2, h3, h4, h5, h6 xs q.1, h7 ys q.2⟩
section
set_option maxHeartbeats 1000000
theorem enz_new (z TI TO : Addr) :
    Meets (Builtin.«enumerate.__new__» ⟨[.type "enumerate", .ref z], []⟩) (fun _ R s => IsZip s.heap z TI TO .none ∧ R (.ok (.ret (.ref s.heap.objs.size))) { s with heap := s.heap.push { cls := .type "enumerate", data := .fields #[.none, .bool false, .ref z, rawInt 0, .none, .none] } }) :=
  .of_wp fun prog w A R s want => by
    obtain ⟨hp, g, d, tk, os⟩ := s; obtain ⟨hz, want⟩ := want
    have isub := sub_enumerate
    have it0 : ∀ {A' : Around} {E : Value → Shared → Prop} {Q : Value → Shared → Prop}, Q (.ref z) ⟨hp, g, d, tk, os⟩ → wpAny (model prog w) A' (pyIter (.ref z)) Q E ⟨hp, g, d, tk, os⟩ := fun q => wpAny_pyIter_zip hz q
    wp_walk using it0
    apply wpAny_stack_any; intro fr; apply wpAny_pure
    split
    · rename_i c _ _ _ _ _
      cases (c == Value.type "enumerate") <;> (wp_walk using it0; exact ⟨_, rfl, want⟩)
    · wp_walk using it0; exact ⟨_, rfl, want⟩
theorem enz_newK (z TI TO : Addr) (k : Int) (t : Tok) (fits : Builtin.SmallTypes.fitsIndex k = true) :
    Meets (Builtin.«enumerate.__new__» ⟨[.type "enumerate", .ref z], [(Str.ofString "start", .int k t)]⟩) (fun _ R s => IsZip s.heap z TI TO .none ∧ R (.ok (.ret (.ref s.heap.objs.size))) { s with heap := s.heap.push { cls := .type "enumerate", data := .fields #[.none, .bool false, .ref z, rawInt k, .none, .none] } }) :=
  .of_wp fun prog w A R s want => by
    obtain ⟨hp, g, d, tk, os⟩ := s; obtain ⟨hz, want⟩ := want
    have isub := sub_enumerate
    have nf : (!Builtin.SmallTypes.fitsIndex k) = false := by rw [fits]; rfl
    have it0 : ∀ {A' : Around} {E : Value → Shared → Prop} {Q : Value → Shared → Prop}, Q (.ref z) ⟨hp, g, d, tk, os⟩ → wpAny (model prog w) A' (pyIter (.ref z)) Q E ⟨hp, g, d, tk, os⟩ := fun q => wpAny_pyIter_zip hz q
    have w1 : (Str.ofString "start" == ("start" : Str)) = true := by decide +kernel
    have w2 : (Str.ofString "start" != ("start" : Str)) = false := by decide +kernel
    have w3 : (Str.ofString "start" != ("iterable" : Str)) = true := by decide +kernel
    have w4 : (("start" : Str) == Str.ofString "start") = true := by decide +kernel
    have w5 : (("iterable" : Str) == Str.ofString "start") = false := by decide +kernel
    wp_walk using it0
    apply wpAny_stack_any; intro fr; apply wpAny_pure
    split
    · rename_i c _ _ _ _ _
      cases (c == Value.type "enumerate") <;> (wp_walk using it0; exact ⟨_, rfl, want⟩)
    · wp_walk using it0; exact ⟨_, rfl, want⟩
end
section
variable {prog : Program} {w : World} {A : Around} {E : Value → Shared → Prop} {s : Shared}
theorem enz_made {z TI TO : Addr} {Q : Value → Shared → Prop} (hz : IsZip s.heap z TI TO .none)
    (h : ∀ h', IsEnum h' s.heap.objs.size z 0 .none → (∀ b o, s.heap.get? b = some o → h'.get? b = some o) → Q (.ref s.heap.objs.size) { s with heap := h' }) : wpAny (model prog w) A (call (.type "enumerate") [.ref z]) Q E s := by
  refine callType_new F.called_enumerate (by decide) (F.typeCall_enumerate_1 _) (F.newCall_enumerate_1 _) (fun obj => F.args_object_init_2 obj _) F.entry_enumerate_new (enz_new z TI TO) ⟨hz, ?_⟩
  have he : IsEnum (s.heap.push { cls := .type "enumerate", data := .fields #[.none, .bool false, .ref z, rawInt 0, .none, .none] }) s.heap.objs.size z 0 .none := Heap.get?_push_size _ rfl
  exact ⟨⟨_, he, rfl⟩, h _ he fun b o x => Heap.get?_push_of_some _ x⟩
theorem enz_madeK {z TI TO : Addr} {k : Int} {t : Tok} {Q : Value → Shared → Prop} (hz : IsZip s.heap z TI TO .none) (k0 : -(2 ^ 63) ≤ k) (k1 : k < 2 ^ 63)
    (h : ∀ h', IsEnum h' s.heap.objs.size z k .none → (∀ b o, s.heap.get? b = some o → h'.get? b = some o) → Q (.ref s.heap.objs.size) { s with heap := h' }) : wpAny (model prog w) A (call (.type "enumerate") [.ref z] [(Str.ofString "start", .int k t)]) Q E s := by
  refine callType_newKw F.called_enumerate (by decide) (F.typeCall_enumerate_start _ _) (F.newCall_enumerate_start _ _) (fun obj => F.args_object_init_start obj _ _) F.entry_enumerate_new (enz_newK z TI TO k t (fits_start k0 k1)) ⟨hz, ?_⟩
  have he : IsEnum (s.heap.push { cls := .type "enumerate", data := .fields #[.none, .bool false, .ref z, rawInt k, .none, .none] }) s.heap.objs.size z k .none := Heap.get?_push_size _ rfl
  exact ⟨⟨_, he, rfl⟩, h _ he fun b o x => Heap.get?_push_of_some _ x⟩
end
def iEnumZ (K : PySem.W.Frag) (ta : TA) : TI := fun σ H R => ta σ H fun vs H1 => ∃ a b xs ys, vs = [.ref a, .ref b] ∧ SqL K H1 a xs ∧ SqL K H1 b ys ∧ R (ItEz K a b 0) H1
def iEnumZK (K : PySem.W.Frag) (ta : TA) (tk : TE) : TI := fun σ H R => ta σ H fun vs H1 => ∃ a b xs ys, vs = [.ref a, .ref b] ∧ SqL K H1 a xs ∧ SqL K H1 b ys ∧ tk σ H1 fun c H2 => ∃ k : Int, c = .int k ∧ -(2 ^ 63) ≤ k ∧ k < 2 ^ 63 ∧ R (ItEz K a b k) H2
section
variable {X : Cx} {e e2 ke : Expr} {ta : TA} {tk : TE} {p p2 pos pos2 tpos kpos : Pos} {elts : List Expr} {kk : Nat}
theorem pi_enumZ (gl : Gl X "enumerate") (nl : X.mg "enumerate" = none) (gz : Gl X "zip") (nz : X.mg "zip" = none) (args : PA X [e, e2] ta)
    (star : starEach [e, e2] X.env = (false, eval e X.env) :: starEach [e2] X.env := by rfl) (plain : (backTo pos2 (starEach [e2] X.env)).any (·.1) = false := by rfl)
    (whole : starEach [.Call (.Name "zip" p2) [e, e2] [] pos2] X.env = (false, eval (.Call (.Name "zip" p2) [e, e2] [] pos2) X.env) :: starEach [] X.env := by rfl) :
    PI X (.Tuple elts kk tpos) (.Call (.Name "enumerate" p) [.Call (.Name "zip" p2) [e, e2] [] pos2] [] pos) (iEnumZ X.K ta) := by
  constructor
  intro pins s σ H R I told
  refine Call_ (ld_blt I gl nl boot_enumerate (PyProof.Rows.callWith_type1 (args_cons (Call_ (ld_blt I gz nz boot_zip (PyProof.Rows.callWith_type1 (thn (args.run pos2 pins s σ H _ I told) fun us s1 come => ?_) star plain))) whole) whole))
  obtain ⟨_, H1, I1, r1, a, b, xs, ys, rfl, hqx, hqy, q⟩ := come
  obtain ⟨u1, u2, rfl, ra, rb⟩ := vals2 r1
  cases ra
  cases rb
  obtain ⟨l1, rv1, p1, _⟩ := I1.list hqx
  obtain ⟨l2, rv2, p2, _⟩ := I1.list hqy
  have la := p1.lt
  have lb := p2.lt
  refine call_zip_2 p1.isList p2.isList fun h' hz hTI hTO t1 t2 hsz hk => args_nil (enz_made (s := { s1 with heap := h' }) hz fun h2 he hk2 => wpAny_pyIter_enum he ?_)
  have sz : ({ s1 with heap := h' } : Shared).heap.objs.size = s1.heap.objs.size + 5 := hsz
  rw [sz] at he ⊢
  have I2 : Inv X pins σ H1 { s1 with heap := h2 } := I1.kept (t' := s1.toks) fun b u x => hk2 b u (hk b u x)
  refine ⟨s1.heap.objs.size + 5, [s1.heap.objs.size + 5, s1.heap.objs.size + 4, s1.heap.objs.size + 2, s1.heap.objs.size + 3, s1.heap.objs.size, s1.heap.objs.size + 1], _, _, H1, rfl, I2,
    turn_enumZ 0 (PySem.W.ktu_apart s1.heap.objs.size a b la lb) (gt_ne (by omega)) (gt_ne (by omega)) (gt_ne (by omega)) (gt_ne (by omega)) (gt_ne (by omega)), ⟨⟨.none, he⟩, ⟨.none, false, hk2 _ _ hz, .inl rfl⟩, hk2 _ _ hTI, ⟨_, _, hk2 _ _ hTO⟩, t1.at fun _ x => hk2 _ _ x, t2.at fun _ x => hk2 _ _ x⟩, fun d hd => ?_, q⟩
  have late : s1.heap.objs.size ≤ d := by
    rcases mem6 hd with rfl | rfl | rfl | rfl | rfl | rfl <;> omega
  exact I1.fpOk late (I1.hok.fresh late)
theorem pi_enumZK (gl : Gl X "enumerate") (nl : X.mg "enumerate" = none) (gz : Gl X "zip") (nz : X.mg "zip" = none) (args : PA X [e, e2] ta) (hk : PE X ke tk)
    (star : starEach [e, e2] X.env = (false, eval e X.env) :: starEach [e2] X.env := by rfl) (plain : (backTo pos2 (starEach [e2] X.env)).any (·.1) = false := by rfl)
    (whole : starEach [.Call (.Name "zip" p2) [e, e2] [] pos2] X.env = (false, eval (.Call (.Name "zip" p2) [e, e2] [] pos2) X.env) :: starEach [] X.env := by rfl) :
    PI X (.Tuple elts kk tpos) (.Call (.Name "enumerate" p) [.Call (.Name "zip" p2) [e, e2] [] pos2] [⟨some "start", ke, kpos⟩] pos) (iEnumZK X.K ta tk) := by
  constructor
  intro pins s σ H R I told
  refine wpAny_Call_Name_kw (ld_blt I gl nl boot_enumerate (type_kw (args_cons (Call_ (ld_blt I gz nz boot_zip (PyProof.Rows.callWith_type1 (thn (args.run pos2 pins s σ H _ I told) fun us s1 come => ?_) star plain))) whole) (by rw [whole]; rfl) (by rw [whole]; rfl) rfl rfl))
  obtain ⟨_, H1, I1, r1, a, b, xs, ys, rfl, hqx, hqy, q⟩ := come
  obtain ⟨u1, u2, rfl, ra, rb⟩ := vals2 r1
  cases ra
  cases rb
  obtain ⟨l1, rv1, p1, _⟩ := I1.list hqx
  obtain ⟨l2, rv2, p2, _⟩ := I1.list hqy
  have la := p1.lt
  have lb := p2.lt
  refine call_zip_2 p1.isList p2.isList fun h' hz hTI hTO t1 t2 hsz hk1 => args_nil ?_
  have I2 : Inv X pins σ H1 { s1 with heap := h' } := I1.kept (t' := s1.toks) hk1
  obtain ⟨N, eN⟩ : ∃ N, s1.heap.objs.size = N := ⟨_, rfl⟩
  have fps : ∀ d ∈ [N + 4, N + 2, N + 3, N, N + 1], FpOk X pins H1 d := fun d hd => by
    have late : s1.heap.objs.size ≤ d := by
      have hd' : d = N + 4 ∨ d = N + 2 ∨ d = N + 3 ∨ d = N ∨ d = N + 1 := by simpa using hd
      omega
    exact I1.fpOk late (I1.hok.fresh late)
  rw [eN] at hz hTI hTO t1 t2 la lb ⊢
  have objs : ∀ d ∈ [N + 4, N + 2, N + 3, N, N + 1], ∃ o, h'.get? d = some o ∧ ∀ v, o.data ≠ .cell v := fun d hd => by
    obtain ⟨o1, g1, _, d1⟩ := t1
    obtain ⟨o2, g2, _, d2⟩ := t2
    have hd' : d = N + 4 ∨ d = N + 2 ∨ d = N + 3 ∨ d = N ∨ d = N + 1 := by simpa using hd
    rcases hd' with rfl | rfl | rfl | rfl | rfl
    · exact ⟨_, hz, fun _ z => nomatch z⟩
    · exact ⟨_, hTI, fun _ z => nomatch z⟩
    · exact ⟨_, hTO, fun _ z => nomatch z⟩
    · exact ⟨o1, g1, fun _ z => by rw [d1] at z; cases z⟩
    · exact ⟨o2, g2, fun _ z => by rw [d2] at z; cases z⟩
  have I3 := I2.pinned fps objs
  refine kws_cons (thn (hk.run _ _ σ H1 _ I3 q) fun v s2 more => kws_nil ?_)
  obtain ⟨c, H2, I4, rc, k, rfl, k0, k1, q2⟩ := more
  obtain ⟨tc, rfl⟩ := (show ∃ t, v = Value.int k t from rc)
  have same : ∀ d o, d ∈ [N + 4, N + 2, N + 3, N, N + 1] → h'.get? d = some o → s2.heap.get? d = some o ∧ H2 d = none := fun d o hd g => by
    have z := I4.pin (d, o) (List.mem_append_right _ (List.mem_append_right _ (mem_pinsAt hd g)))
    exact ⟨z.1, z.2.1⟩
  have hz2 : IsZip s2.heap (N + 4) (N + 2) (N + 3) .none := (same _ _ (by simp) hz).1
  refine enz_madeK hz2 k0 k1 fun h2 he hk2 => wpAny_pyIter_enum he ?_
  have I5 : Inv X pins σ H2 { s2 with heap := h2 } := (Inv.unpinned I4).kept (t' := s2.toks) hk2
  have big : N + 4 < s2.heap.objs.size := Heap.lt_size hz2
  have old : ∀ d ∈ [N + 4, N + 2, N + 3, N, N + 1], FpOk X pins H2 d := fun d hd => by
    obtain ⟨o, g, _⟩ := objs d hd
    exact ⟨(same d o hd g).2, (fps d hd).2⟩
  refine ⟨s2.heap.objs.size, [s2.heap.objs.size, N + 4, N + 2, N + 3, N, N + 1], _, _, H2, rfl, I5,
    turn_enumZ k (PySem.W.ktu_apart N a b la lb) (gt_ne (by omega)) (gt_ne (by omega)) (gt_ne (by omega)) (gt_ne (by omega)) (gt_ne (by omega)), ⟨⟨.none, ?_⟩, ⟨.none, false, hk2 _ _ hz2, .inl rfl⟩, hk2 _ _ (same _ _ (by simp) hTI).1, ⟨_, _, hk2 _ _ (same _ _ (by simp) hTO).1⟩, t1.at fun _ x => hk2 _ _ (same _ _ (by simp) x).1, t2.at fun _ x => hk2 _ _ (same _ _ (by simp) x).1⟩, fun d hd => ?_, q2⟩
  · show IsEnum h2 _ _ (k + ((0 : Nat) : Int)) _
    rw [show k + ((0 : Nat) : Int) = k by omega]
    exact he
  · obtain rfl | hd := List.mem_cons.mp hd
    · have I6 := Inv.unpinned I4
      exact I6.fpOk (Nat.le_refl _) (I6.hok.fresh (Nat.le_refl _))
    · exact old d hd
end
end Tg

namespace Tg
open PySem PySem.Spec PyProof.Rows L2
/-! ### the text -/
def topS (i : Nat) : Stmt := PySem.Challenge.pw_timegranary_k44_whole_logs_spoilt.main.body.getD i (.Pass ⟨0, 0, 0, 0⟩)
abbrev sMixed : Stmt := topS 32
abbrev sPurse : Stmt := topS 33
abbrev sDraw : Stmt := topS 34
theorem scMixed : FnScope ["_law_cell", "_law_k", "_law_number"] ["_law_cell", "_law_k"] (defScope sMixed) := ⟨rfl, rfl, rfl, by decide +kernel, rfl, by decide +kernel, by decide +kernel⟩
theorem scPurse : FnScope ["_law_script", "_law_at", "_law_cell", "_law_cut", "_law_k"] ["_law_script", "_law_at"] (defScope sPurse) := ⟨rfl, rfl, rfl, by decide +kernel, rfl, by decide +kernel, by decide +kernel⟩
theorem scDraw : FnScope ["_law_purse_here", "_law_out_of", "_law_drawn", "_law_number", "_law_k"] ["_law_purse_here", "_law_out_of"] (defScope sDraw) := ⟨rfl, rfl, rfl, by decide +kernel, rfl, by decide +kernel, by decide +kernel⟩
/-! ### purses: what is drawn from -/
/-- a purse at p, from which at most n were drawn -/
def Pu (H : Hp) (p : Addr) (n : Nat) : Prop := ∃ a c k : Int, H p = some (.lst [.int a, .int c, .int k]) ∧ 0 ≤ k ∧ k ≤ n
theorem Pu.same {H H' : Hp} {p : Addr} {n : Nat} (s : Same H H') (h : Pu H p n) : Pu H' p n := by
  obtain ⟨a, c, k, e, r⟩ := h
  exact ⟨a, c, k, s _ _ e, r⟩
theorem Pu.ne {H : Hp} {p l : Addr} {n : Nat} (d : Pu H p n) (h : H l = none) : l ≠ p := fun z => by
  obtain ⟨_, _, _, z2, _⟩ := d
  rw [z, z2] at h
  cases h
theorem Pu.kt {H H' : Hp} {p : Addr} {n : Nat} (d : Pu H p n) (k : Kp p H H') : KT H H' := by
  obtain ⟨_, _, _, z2, _⟩ := d
  exact KT.kp k z2 nfix_lst
theorem Pu.mono {H : Hp} {p : Addr} {n m : Nat} (d : Pu H p n) (h : n ≤ m) : Pu H p m := by
  obtain ⟨a, c, k, e, r0, r1⟩ := d
  exact ⟨a, c, k, e, r0, by omega⟩
section
variable {P : Program} {w : World} {K : PySem.W.Frag} {mg : Str → Option Value} {base : Heap}
def spMixed : Sp := fun vs H Q _ => ∃ c k : Int, vs = [.int c, .int k] ∧ 0 ≤ k ∧ k < 2 ^ 40 ∧ ∀ v : Int, Q (.int v) H
theorem ok_mixed {f : Addr} {fd : FuncData} {k : Nat} (F : Fun K "_law_mixed" "_law_mixed" sMixed f fd) : FnOk P w K mg base CX0 (k + 1) f fd ["_law_cell", "_law_k"] spMixed := by
  refine F.ok scMixed (fun vs H Q E h => ?_) (fun cdv A outer s H vs Q E hr h => ?_)
  · obtain ⟨c, k, rfl, _⟩ := h
    rfl
  · obtain ⟨c, k, rfl, k0, k1, q⟩ := h
    refine ⟨_, pss_cons (ps_set (i := 2) scMixed.nd rfl (.inl rfl) (pe_op op_mod (pe_op op_add (pe_op op_add (pe_op op_add (pe_op op_mul (pv 0) pe_int) (pe_op op_mul (pe_op op_mul pe_int (pv 1)) (pv 1))) (pv 1)) pe_int) pe_int))
      (pss_cons (ps_set (i := 2) scMixed.nd rfl (.inl rfl) (pe_op op_mod (pe_op op_add (pe_op op_mul (pv 2) (pv 2)) pe_int) pe_int))
      (pss_one (ps_ret (pe_op op_mod (pe_op op_mul (pv 2) pe_int) pe_int)))), ?_⟩
    refine ⟨_, rfl, _, _, rfl, rfl, .inr ⟨by decide, by decide⟩, _, rfl, _, _, rfl, rfl, .inl ⟨by decide, by decide⟩, _, rfl, _, _, rfl, rfl, .inr ⟨by omega, by omega⟩, _, _, rfl, rfl, _, rfl, _, _, rfl, rfl, _, _, rfl, rfl, _, _, rfl, rfl, (by show (0 : Int) < 2147483647; decide), ?_⟩
    generalize (c * 1103515245 + 7919 * k * k + k + 1) = y
    have y0 := Int.emod_nonneg y (show (2147483647 : Int) ≠ 0 by decide)
    have y1 := Int.emod_lt_of_pos y (show (0 : Int) < 2147483647 by decide)
    refine ⟨_, rfl, _, rfl, _, _, rfl, rfl, .inl ⟨by omega, by omega⟩, _, _, rfl, rfl, _, _, rfl, rfl, (by show (0 : Int) < 2147483629; decide), ?_⟩
    exact ⟨_, rfl, _, _, rfl, rfl, .inr ⟨by decide, by decide⟩, _, _, rfl, rfl, (by show (0 : Int) < 2147483587; decide), q _⟩
def spDraw : Sp := fun vs H Q _ => ∃ (p : Addr) (n : Nat) (m : Int), vs = [.ref p, .int m] ∧ Pu H p n ∧ n < 2 ^ 38 ∧ 0 < m ∧ m < 2 ^ 50 ∧
  ∀ (v : Int) (H' : Hp), Kp p H H' → Pu H' p (n + 2) → 0 ≤ v → v < m → Q (.int v) H'
theorem ok_draw {f : Addr} {fd : FuncData} {k : Nat} (F : Fun K "_law_draw" "_law_draw" sDraw f fd) (C_mixed : Cal P w K mg base k "_law_mixed" ["_law_cell", "_law_k"] spMixed) (m_range : mg "range" = none) :
    FnOk P w K mg base CX0 (k + 1) f fd ["_law_purse_here", "_law_out_of"] spDraw := by
  refine F.ok scDraw (fun vs H Q E h => ?_) (fun cdv A outer s H vs Q E hr h => ?_)
  · obtain ⟨p, n, m, rfl, _⟩ := h
    rfl
  · obtain ⟨p, n, m, rfl, ⟨a, c, k, hp, k0, k1⟩, hn, m0, m1, q⟩ := h
    refine ⟨_, pss_cons (ps_if (pt_cmpR op_gt (pe_ix ix_list (pv 0) pe_int (fun _ _ => rfl)) pe_int (nomark _))
        (pss_cons (ps_set (i := 2) scDraw.nd rfl (.inl rfl) (pe_op op_mod (pe_ix ix_list (pv 0) pe_int (fun _ _ => rfl)) (pv 1)))
        (pss_cons (ps_asg (pe_op op_fdivW (pe_ix ix_list (pv 0) pe_int (fun _ _ => rfl)) (pv 1)) (pg_sub (pv 0) pe_int set_list))
        (pss_one (ps_ret (pv 2)))))
        pss_nil)
      (pss_cons (ps_set (i := 3) scDraw.nd rfl (.inl rfl) pe_int)
      (pss_cons (ps_for PassesOwn.never rfl (pi_range1 (by rfl) m_range (pa_cons (pe_op op_add pe_int (pe_op op_fdiv (pe_bits (pv 1)) pe_int)) pa_nil)) (pg_name (i := 4) scDraw.nd rfl (.inl rfl))
        (pss_cons (ps_asg (pe_op op_add (pe_ix ix_list (pv 0) pe_int (fun _ _ => rfl)) pe_int) (pg_sub (pv 0) pe_int set_list))
        (pss_one (ps_set (i := 3) scDraw.nd rfl (.inl rfl) (pe_op op_add (pe_op op_mul (pv 3) pe_int) (pe_cal C_mixed (hr.mono (by omega)) (by rfl) (pa_cons (pe_ix ix_list (pv 0) pe_int (fun _ _ => rfl)) (pa_cons (pe_ix ix_list (pv 0) pe_int (fun _ _ => rfl)) pa_nil))))))))
      (pss_one (ps_ret (pe_op op_mod (pv 3) (pv 1)))))), ?_⟩
    have e0 := Int.emod_nonneg a (show m ≠ 0 by omega)
    have e1 := Int.emod_lt_of_pos a m0
    refine ⟨_, rfl, p, _, 0, .int a, rfl, rfl, SqL.of hp, rfl, _, _, rfl, rfl, _, rfl, ite2 (fun g => ?_) (fun g => ?_)⟩
    · refine ⟨_, rfl, p, _, 0, .int a, rfl, rfl, SqL.of hp, rfl, _, rfl, _, _, rfl, rfl, m0, ?_⟩
      refine ⟨_, rfl, p, _, 0, .int a, rfl, rfl, SqL.of hp, rfl, _, rfl, _, _, rfl, rfl, wide_div (b := 50) m0 (by omega) (by decide) (by decide), _, rfl, p, _, 0, 0, rfl, rfl, hp, rfl, _, rfl, ?_⟩
      exact q _ _ Kp.put ⟨_, _, _, upd_same, k0, by omega⟩ e0 e1
    · have b0 : Builtin.Int.intBits m ≤ 50 := intBits_le_iff.mpr (by omega)
      refine ⟨_, rfl, _, rfl, _, _, rfl, rfl, ⟨by decide, by decide⟩, _, _, rfl, rfl, _, rfl, ?_, ?_, ?_⟩
      · omega
      · omega
      · obtain ⟨cn, ec⟩ : ∃ cn : Nat, (1 + ((Builtin.Int.intBits m : Nat) : Int) / 30).toNat = cn := ⟨_, rfl⟩
        have c2 : cn ≤ 2 := by omega
        rw [ec]
        refine for_range (n := cn) (fun i σ H2 => ∃ (num k' : Int) (z : Option V), σ = [some (.ref p), some (.int m), none, some (.int num), z] ∧ Kp p H H2 ∧ H2 p = some (.lst [.int a, .int c, .int k']) ∧ 0 ≤ k' ∧ k' ≤ n + i) ?_ ?_ ?_
        · exact ⟨0, k, none, rfl, Kp.refl _ _, hp, k0, by omega⟩
        · rintro i σ H2 hi ⟨num, k', z, rfl, kp, h2, k0', k1'⟩
          refine ⟨_, rfl, p, _, 2, .int k', rfl, rfl, SqL.of h2, rfl, _, _, rfl, rfl, _, rfl, p, _, 2, 2, rfl, rfl, h2, rfl, ?_⟩
          have h3 : (upd H2 p (.lst [.int a, .int c, .int (k' + 1)])) p = some (.lst [.int a, .int c, .int (k' + 1)]) := upd_same
          refine ⟨_, rfl, _, _, rfl, rfl, .inr ⟨by decide, by decide⟩, _, rfl, p, _, 1, .int c, rfl, rfl, SqL.of h3, rfl, _, rfl, p, _, 2, .int (k' + 1), rfl, rfl, SqL.of h3, rfl, c, k' + 1, rfl, by omega, by omega, fun v => ?_⟩
          exact ⟨_, _, rfl, rfl, _, _, _, rfl, kp.trans Kp.put, h3, by omega, by omega⟩
        · rintro σ H2 ⟨num, k', z, rfl, kp, h2, k0', k1'⟩
          refine ⟨_, rfl, _, rfl, _, _, rfl, rfl, m0, ?_⟩
          exact q _ _ kp ⟨_, _, _, h2, k0', by omega⟩ (Int.emod_nonneg _ (by omega)) (Int.emod_lt_of_pos _ m0)
def spPurse (K : PySem.W.Frag) : Sp := fun vs H Q _ => ∃ (sa : Addr) (ns : List Int) (at_ : Int), vs = [.ref sa, .int at_] ∧ SqL K H sa (ns.map V.int) ∧ ns.length ≤ 63 ∧ 0 ≤ at_ ∧ at_ ≤ 1000 ∧
  ∀ (p : Addr) (H' : Hp), Same H H' → H p = none → Pu H' p 1000000 → Q (.ref p) H'
theorem cut_ints (ns : List Int) (lo hi : Option Int) : ∃ ms : List Int, cutV (ns.map V.int) lo hi = ms.map V.int ∧ ms.length ≤ ns.length := by
  unfold cutV
  refine ⟨(ns.drop (HT.sIx (ns.map V.int).length 0 lo)).take (HT.sIx (ns.map V.int).length (ns.map V.int).length hi - HT.sIx (ns.map V.int).length 0 lo), ?_, ?_⟩
  · rw [List.map_take, List.map_drop]
  · rw [List.length_take, List.length_drop]
    omega
theorem ok_purse {f : Addr} {fd : FuncData} {k : Nat} (F : Fun K "_law_purse" "_law_purse" sPurse f fd) (m_range : mg "range" = none) (m_max : mg "max" = none) :
    FnOk P w K mg base CX0 (k + 1) f fd ["_law_script", "_law_at"] (spPurse K) := by
  refine F.ok scPurse (fun vs H Q E h => ?_) (fun cdv A outer s H vs Q E hr h => ?_)
  · obtain ⟨sa, ns, at_, rfl, _⟩ := h
    rfl
  · obtain ⟨sa, ns, at_, rfl, hS, hl, a0, a1, q⟩ := h
    refine ⟨_, pss_cons (ps_set (i := 2) scPurse.nd rfl (.inl rfl) (pe_ix ix_list (pe_op op_cat (pe_slice sl_list (pv 0) (po_some (pv 1)) (po_some (pe_op op_add (pv 1) pe_int))) (pe_lst (pa_cons pe_int pa_nil))) pe_int (fun _ _ => rfl)))
      (pss_cons (ps_set (i := 3) scPurse.nd rfl (.inl rfl) (pe_op op_pow pe_int pe_int))
      (pss_cons (ps_for PassesOwn.never rfl (pi_range1 (by rfl) m_range (pa_cons pe_int pa_nil)) (pg_name (i := 4) scPurse.nd rfl (.inl rfl))
        (pss_one (ps_set (i := 3) scPurse.nd rfl (.inl rfl) (pe_op op_mulW (pv 3) (pv 3)))))
      (pss_one (ps_ret (pe_lst (pa_cons (pe_op op_mod (pe_callB (call_max2 rfl) (by rfl) m_max boot_max (pa_cons (pe_op op_sub (pv 2) (pe_op op_pow pe_int pe_int)) (pa_cons pe_int pa_nil))) (pv 3)) (pa_cons (pe_op op_mod (pv 2) pe_int) (pa_cons (pe_op op_mul pe_int (pv 1)) pa_nil)))))))), ?_⟩
    obtain ⟨ms, em, lm⟩ := cut_ints ns (some at_) (some (at_ + 1))
    refine ⟨_, rfl, _, rfl, at_, rfl, _, rfl, _, _, rfl, rfl, at_ + 1, rfl, sa, _, rfl, hS, fun l1 n1 => ?_⟩
    rw [em]
    refine ⟨by show 1 ≤ sizeLine; decide, fun l2 n2 => ?_⟩
    have s1 : Same H (upd H l1 (.lst (ms.map V.int))) := same_new n1
    have s2 := same_new (o := .lst [.int 0]) n2
    have m1 : (upd (upd H l1 (.lst (ms.map V.int))) l2 (.lst [.int 0])) l1 = some (.lst (ms.map V.int)) := s2 _ _ upd_same
    refine ⟨l1, l2, _, _, rfl, rfl, m1, upd_same, ?_, fun l3 n3 => ?_⟩
    · rw [List.length_map]
      exact Nat.le_of_lt (small1000 (by show ms.length + 1 ≤ 1000; omega))
    · have s3 := same_new (o := .lst (ms.map V.int ++ [.int 0])) n3
      obtain ⟨c, ec⟩ : ∃ c : Int, atI (ms.map V.int ++ [.int 0]) 0 = some (.int c) := by
        cases ms with
        | nil => exact ⟨0, rfl⟩
        | cons x r =>
          refine ⟨x, ?_⟩
          show atI _ ((0 : Nat) : Int) = _
          exact atI_nat rfl
      have s4 : Same H (upd (upd (upd H l1 (.lst (ms.map V.int))) l2 (.lst [.int 0])) l3 (.lst (ms.map V.int ++ [.int 0]))) := (s1.trans s2).trans s3
      refine ⟨l3, _, 0, .int c, rfl, rfl, SqL.of upd_same, ec, ?_⟩
      refine ⟨10, 60, rfl, rfl, ⟨by decide, by decide, by decide⟩, ?_⟩
      revert s4
      generalize upd (upd (upd H l1 (.lst (ms.map V.int))) l2 (.lst [.int 0])) l3 (.lst (ms.map V.int ++ [.int 0])) = H4
      intro s4
      refine ⟨5, rfl, by decide, by decide, for_range (n := 5) (fun i σ H2 => ∃ (x : Int) (y : Option V), σ = [some (.ref sa), some (.int at_), some (.int c), some (.int x), y] ∧ H2 = H4 ∧ 0 < x ∧ x.natAbs < 2 ^ (200 * 2 ^ i)) ?_ ?_ ?_⟩
      · exact ⟨_, none, rfl, rfl, by decide, by decide⟩
      · rintro i σ H2 hi ⟨x, y, rfl, rfl, hx, hb⟩
        refine ⟨_, rfl, _, rfl, x, x, rfl, rfl, ?_, x * x, _, rfl, rfl, Int.mul_pos hx hx, ?_⟩
        · have h7 : 2 ^ i ≤ 2 ^ 6 := Nat.pow_le_pow_right (by decide) (by omega)
          have h0 : 0 < 2 ^ i := Nat.pow_pos (by decide)
          exact wide_mul hb hb (by omega) (by omega) (by omega)
        · have e := wide_lt hb hb
          rw [show 200 * 2 ^ (i + 1) = 200 * 2 ^ i + 200 * 2 ^ i by rw [Nat.pow_succ]; omega]
          exact e
      · rintro σ H2 ⟨x, y, rfl, rfl, hx, _⟩
        refine ⟨_, rfl, 10, 18, rfl, rfl, ⟨by decide, by decide, by decide⟩, _, _, rfl, rfl, _, _, rfl, _, rfl, _, _, rfl, rfl, hx, _, rfl, _, _, rfl, rfl, (by show (0 : Int) < 2147483647; decide), _, rfl, _, _, rfl, rfl, .inl ⟨by decide, by decide⟩, by show 3 ≤ sizeLine; decide, fun p np => ?_⟩
        exact q p _ (s4.trans (same_new np)) (s4.free np) ⟨_, _, _, upd_same, by omega, by omega⟩
end
theorem if_n {c : Bool} {A B : Prop} (h : c = false) (b : B) : if c = true then A else B := by
  subst h
  exact if_f b
theorem if_y {c : Bool} {A B : Prop} (h : c = true) (a : A) : if c = true then A else B := by
  subst h
  exact if_t a
theorem vi_ne {i j : Int} (h : i ≠ j) : decide (V.int i = V.int j) = false := decide_eq_false fun z => h (V.int.inj z)
theorem at_pred {xs : List V} {i : Nat} {v : V} (h : xs[i]? = some v) : atI xs (((i + 1 : Nat) : Int) - 1) = some v := by
  rw [show (((i + 1 : Nat) : Int) - 1) = ((i : Nat) : Int) by omega]
  exact atI_nat h
/-! ### numbers or None -/
section
variable {P : Program} {w : World} {K : PySem.W.Frag} {mg : Str → Option Value} {base : Heap}
end
set_option maxHeartbeats 1000000
abbrev sClass : Stmt := topS 35
abbrev NCl : List Str := ["_law_caught", "_law_some", "_law_words", "_law_found", "_law_word", "_law_truth"]
theorem scClass : FnScope NCl ["_law_caught"] (defScope sClass) := ⟨rfl, rfl, rfl, by decide +kernel, rfl, by decide +kernel, by decide +kernel⟩
/-- what the top has of the nine classes -/
structure Nine (K : PySem.W.Frag) (mg : Str → Option Value) (CB CD CG CK CL CO CN CP CT : Addr) : Prop where
  mB : mg "NoBody" = some (.ref CB)
  mD : mg "NoDeed" = some (.ref CD)
  mG : mg "NoGrain" = some (.ref CG)
  mK : mg "NoKeep" = some (.ref CK)
  mL : mg "NoLog" = some (.ref CL)
  mO : mg "NoOrder" = some (.ref CO)
  mN : mg "NoNumber" = some (.ref CN)
  mP : mg "NoPlace" = some (.ref CP)
  mT : mg "NoText" = some (.ref CT)
  mi : mg "isinstance" = none
  mV : mg "ValueError" = none
  kB : PySem.W.kitOne K (.ref CL) (.ref CB) = some false
  kD : PySem.W.kitOne K (.ref CL) (.ref CD) = some false
  kG : PySem.W.kitOne K (.ref CL) (.ref CG) = some false
  kK : PySem.W.kitOne K (.ref CL) (.ref CK) = some false
  kL : PySem.W.kitOne K (.ref CL) (.ref CL) = some true
  kO : PySem.W.kitOne K (.ref CL) (.ref CO) = some false
  kN : PySem.W.kitOne K (.ref CL) (.ref CN) = some false
  kP : PySem.W.kitOne K (.ref CL) (.ref CP) = some false
  kT : PySem.W.kitOne K (.ref CL) (.ref CT) = some false
  kV : PySem.W.kitOne K (.ref CL) (.type "ValueError") = some true
  xc : ExcC K CL
  xf : XfC K CL
  no : PySem.W.findIn K (.ref CL) "at" = some none
  ex : PySem.W.exmOne K (.ref CL) (.ref CL) = some true
/-- the words whose truth is one -/
def pick : List Str → List Bool → List Str
  | x :: xs, true :: bs => x :: pick xs bs
  | _ :: xs, false :: bs => pick xs bs
  | _, _ => []
theorem pick_take : ∀ {xs : List Str} {bs : List Bool} {i : Nat} {x : Str} {b : Bool}, xs[i]? = some x → bs[i]? = some b → pick (xs.take (i + 1)) (bs.take (i + 1)) = pick (xs.take i) (bs.take i) ++ (if b = true then [x] else [])
  | [], _, i, x, b, h, _ => by simp at h
  | _ :: _, [], i, x, b, _, h => by simp at h
  | y :: xs, c :: bs, 0, x, b, h1, h2 => by
    simp only [List.getElem?_cons_zero, Option.some.injEq] at h1 h2
    subst h1
    subst h2
    cases c <;> rfl
  | y :: xs, c :: bs, i + 1, x, b, h1, h2 => by
    rw [List.getElem?_cons_succ] at h1 h2
    have ih := pick_take (xs := xs) (bs := bs) h1 h2
    rw [List.take_succ_cons, List.take_succ_cons, List.take_succ_cons, List.take_succ_cons]
    cases c with
    | false => exact ih
    | true =>
      show y :: pick _ _ = y :: (pick _ _ ++ _)
      rw [ih]
theorem pick_len : ∀ (xs : List Str) (bs : List Bool), (pick xs bs).length ≤ xs.length
  | [], _ => Nat.zero_le _
  | _ :: _, [] => Nat.zero_le _
  | x :: xs, true :: bs => Nat.succ_le_succ (pick_len xs bs)
  | x :: xs, false :: bs => Nat.le_succ_of_le (pick_len xs bs)
def nineW : List Str := ["body", "deed", "grain", "keep", "log", "order", "number", "place", "text"]
def nineT : List Bool := [false, false, false, false, true, false, false, false, false]
section
variable {P : Program} {w : World} {K : PySem.W.Frag} {mg : Str → Option Value} {base : Heap} {C CB CD CG CK CL CO CN CP CT : Addr}
def spClass (CL : Addr) : Sp := fun vs H Q _ => ∃ (a d : Addr) (fs : List (Str × V)), vs = [.ref a] ∧ H a = some (ExV (.ref CL) (some d) a) ∧ H d = some (.xd fs) ∧ ∀ H', Same H H' → Q (.str "log") H'
theorem ok_class {f : Addr} {fd : FuncData} {k : Nat} (F : Fun K "_law_class" "_law_class" sClass f fd) (N9 : Nine K mg CB CD CG CK CL CO CN CP CT) (m_zip : mg "zip" = none) (m_len : mg "len" = none) : FnOk P w K mg base CX0 (k + 1) f fd ["_law_caught"] (spClass CL) := by
  refine F.ok scClass (fun vs H Q E h => ?_) (fun cdv A outer s H vs Q E hr h => ?_)
  · obtain ⟨a, d, fs, rfl, _⟩ := h
    rfl
  · obtain ⟨a, d, fs, rfl, ha, hd, q⟩ := h
    refine ⟨_, pss_cons (ps_if (pt_cmpR op_isN (pv 0) pe_non (nomark _))
        (pss_one (ps_ret pe_str))
        pss_nil)
      (pss_cons (ps_set (i := 1) scClass.nd rfl (.inl rfl) (pe_lst (pa_cons (pe_callB call_isV (by rfl) N9.mi PyProof.Rows.boot_isinstance (pa_cons (pv 0) (pa_cons (pe_glob (v := .ref CB) (by rfl) N9.mB rfl) pa_nil))) (pa_cons (pe_callB call_isV (by rfl) N9.mi PyProof.Rows.boot_isinstance (pa_cons (pv 0) (pa_cons (pe_glob (v := .ref CD) (by rfl) N9.mD rfl) pa_nil))) (pa_cons (pe_callB call_isV (by rfl) N9.mi PyProof.Rows.boot_isinstance (pa_cons (pv 0) (pa_cons (pe_glob (v := .ref CG) (by rfl) N9.mG rfl) pa_nil))) pa_nil)))))
      (pss_cons (ps_set (i := 1) scClass.nd rfl (.inl rfl) (pe_op op_cat (pv 1) (pe_lst (pa_cons (pe_callB call_isV (by rfl) N9.mi PyProof.Rows.boot_isinstance (pa_cons (pv 0) (pa_cons (pe_glob (v := .ref CK) (by rfl) N9.mK rfl) pa_nil))) (pa_cons (pe_callB call_isV (by rfl) N9.mi PyProof.Rows.boot_isinstance (pa_cons (pv 0) (pa_cons (pe_glob (v := .ref CL) (by rfl) N9.mL rfl) pa_nil))) (pa_cons (pe_callB call_isV (by rfl) N9.mi PyProof.Rows.boot_isinstance (pa_cons (pv 0) (pa_cons (pe_glob (v := .ref CO) (by rfl) N9.mO rfl) pa_nil))) pa_nil))))))
      (pss_cons (ps_set (i := 1) scClass.nd rfl (.inl rfl) (pe_op op_cat (pv 1) (pe_lst (pa_cons (pe_callB call_isV (by rfl) N9.mi PyProof.Rows.boot_isinstance (pa_cons (pv 0) (pa_cons (pe_glob (v := .ref CN) (by rfl) N9.mN rfl) pa_nil))) (pa_cons (pe_callB call_isV (by rfl) N9.mi PyProof.Rows.boot_isinstance (pa_cons (pv 0) (pa_cons (pe_glob (v := .ref CP) (by rfl) N9.mP rfl) pa_nil))) (pa_cons (pe_callB call_isV (by rfl) N9.mi PyProof.Rows.boot_isinstance (pa_cons (pv 0) (pa_cons (pe_glob (v := .ref CT) (by rfl) N9.mT rfl) pa_nil))) pa_nil))))))
      (pss_cons (ps_set (i := 2) scClass.nd rfl (.inl rfl) (pe_lst (pa_cons pe_str (pa_cons pe_str (pa_cons pe_str (pa_cons pe_str (pa_cons pe_str (pa_cons pe_str (pa_cons pe_str (pa_cons pe_str (pa_cons pe_str pa_nil)))))))))))
      (pss_cons (ps_setLc (i := 3) (own := [("_law_word", 4), ("_law_truth", 5)]) (g := gTup K 2 _) rfl scClass.nd rfl rfl (sw_true rfl rfl rfl (by decide +kernel)) (pi_zip (by rfl) m_zip (pa_cons (pv 2) (pa_cons (pv 1) pa_nil))) (blkOk_by (own := [("_law_word", 4), ("_law_truth", 5)]) (N := NCl) (sc := defScope sClass) (by decide +kernel)) (fun _ _ _ _ _ => (pg_tup rfl (pgs_cons (pg_name (i := 4) scClass.nd rfl (.inl rfl)) (pgs_cons (pg_name (i := 5) scClass.nd rfl (.inl rfl)) pgs_nil)))) (fun _ _ _ _ _ => pts_one (pt_val (pv 5))) (fun _ _ _ _ _ => (pv 4)))
      (pss_cons (ps_if (pt_cmpR op_ne (pe_callB call_len_seq (by rfl) m_len (by decide +kernel) (pa_cons (pv 3) pa_nil)) pe_int (nomark _))
        (pss_one (ps_ret pe_str))
        pss_nil)
      (pss_one (ps_ret (pe_ix ix_list (pv 3) pe_int (fun _ _ => rfl)))))))))), ?_⟩
    refine ⟨_, rfl, rfl, _, rfl, if_n (decide_eq_false (fun z => nomatch z)) ?_⟩
    refine ⟨_, rfl, a, CL, d, fs, .ref CB, .ref CB, false, rfl, ha, hd, N9.xc, .own _, N9.kB, _, rfl, a, CL, d, fs, .ref CD, .ref CD, false, rfl, ha, hd, N9.xc, .own _, N9.kD, _, rfl, a, CL, d, fs, .ref CG, .ref CG, false, rfl, ha, hd, N9.xc, .own _, N9.kG, by show 3 ≤ sizeLine; decide, fun l1 n1 => ?_⟩
    have s1 := same_new (o := .lst [.bl false, .bl false, .bl false]) n1
    have ha1 := s1 _ _ ha
    have hd1 := s1 _ _ hd
    refine ⟨_, rfl, _, rfl, a, CL, d, fs, .ref CK, .ref CK, false, rfl, ha1, hd1, N9.xc, .own _, N9.kK, _, rfl, a, CL, d, fs, .ref CL, .ref CL, true, rfl, ha1, hd1, N9.xc, .own _, N9.kL, _, rfl, a, CL, d, fs, .ref CO, .ref CO, false, rfl, ha1, hd1, N9.xc, .own _, N9.kO, by show 3 ≤ sizeLine; decide, fun l2 n2 => ?_⟩
    have s2 := same_new (o := .lst [.bl false, .bl true, .bl false]) n2
    refine ⟨l1, l2, _, _, rfl, rfl, s2 _ _ upd_same, upd_same, (by show 3 + 3 ≤ sizeLine; decide), fun l3 n3 => ?_⟩
    have s3 := same_new (o := .lst ([.bl false, .bl false, .bl false] ++ [.bl false, .bl true, .bl false])) n3
    have s13 := (s1.trans s2).trans s3
    have ha3 := s13 _ _ ha
    have hd3 := s13 _ _ hd
    refine ⟨_, rfl, _, rfl, a, CL, d, fs, .ref CN, .ref CN, false, rfl, ha3, hd3, N9.xc, .own _, N9.kN, _, rfl, a, CL, d, fs, .ref CP, .ref CP, false, rfl, ha3, hd3, N9.xc, .own _, N9.kP, _, rfl, a, CL, d, fs, .ref CT, .ref CT, false, rfl, ha3, hd3, N9.xc, .own _, N9.kT, by show 3 ≤ sizeLine; decide, fun l4 n4 => ?_⟩
    have s4 := same_new (o := .lst [.bl false, .bl false, .bl false]) n4
    refine ⟨l3, l4, _, _, rfl, rfl, s4 _ _ upd_same, upd_same, (by show 6 + 3 ≤ sizeLine; decide), fun l5 n5 => ?_⟩
    have s5 := same_new (o := .lst (nineT.map V.bl)) n5
    have s15 := (s13.trans s4).trans s5
    obtain ⟨H5, e5⟩ : ∃ H5, upd (upd (upd (upd (upd H l1 (.lst [.bl false, .bl false, .bl false])) l2 (.lst [.bl false, .bl true, .bl false])) l3 (.lst ([.bl false, .bl false, .bl false] ++ [.bl false, .bl true, .bl false]))) l4 (.lst [.bl false, .bl false, .bl false])) l5 (.lst (nineT.map V.bl)) = H5 := ⟨_, rfl⟩
    have h5 : H5 l5 = some (.lst (nineT.map V.bl)) := by
      rw [← e5]
      exact upd_same
    have sH5 : Same H H5 := by
      rw [← e5]
      exact s15
    refine ⟨by show 9 ≤ sizeLine; decide, fun l6 n60 => ?_⟩
    have n6 : H5 l6 = none := by
      rw [← e5]
      exact n60
    have s6 : Same H5 (upd (upd (upd (upd (upd (upd H l1 (.lst [.bl false, .bl false, .bl false])) l2 (.lst [.bl false, .bl true, .bl false])) l3 (.lst ([.bl false, .bl false, .bl false] ++ [.bl false, .bl true, .bl false]))) l4 (.lst [.bl false, .bl false, .bl false])) l5 (.lst (nineT.map V.bl))) l6 (.lst (nineW.map V.str))) := by
      rw [e5]
      exact same_new n6
    have h6 : (upd (upd (upd (upd (upd (upd H l1 (.lst [.bl false, .bl false, .bl false])) l2 (.lst [.bl false, .bl true, .bl false])) l3 (.lst ([.bl false, .bl false, .bl false] ++ [.bl false, .bl true, .bl false]))) l4 (.lst [.bl false, .bl false, .bl false])) l5 (.lst (nineT.map V.bl))) l6 (.lst (nineW.map V.str))) l6 = some (.lst (nineW.map V.str)) := upd_same
    obtain ⟨H6, e6⟩ : ∃ H6, upd (upd (upd (upd (upd (upd H l1 (.lst [.bl false, .bl false, .bl false])) l2 (.lst [.bl false, .bl true, .bl false])) l3 (.lst ([.bl false, .bl false, .bl false] ++ [.bl false, .bl true, .bl false]))) l4 (.lst [.bl false, .bl false, .bl false])) l5 (.lst (nineT.map V.bl))) l6 (.lst (nineW.map V.str)) = H6 := ⟨_, rfl⟩
    have g6 : H6 l6 = some (.lst (nineW.map V.str)) := by
      rw [← e6]
      exact h6
    have g5 : H6 l5 = some (.lst (nineT.map V.bl)) := by
      rw [← e6]
      exact s6 _ _ h5
    have sH6 : Same H H6 := by
      rw [← e6]
      exact sH5.trans s6
    refine ⟨_, rfl, _, rfl, l6, l5, nineW.map V.str, nineT.map V.bl, rfl, SqL.of h6, SqL.of (s6 _ _ h5), fun D nD0 => ?_⟩
    have nD : H6 D = none := by
      rw [← e6]
      exact nD0
    refine lc_it (walk_zip (K := K) (a := l6) (b := l5) (xs := nineW.map V.str) (ys := nineT.map V.bl) (n := 9) rfl) (fun j Hc => Same H6 Hc ∧ Hc D = some (.lst ((pick (nineW.take j) (nineT.take j)).map V.str))) ?_ ?_ ?_ ?_
    · rw [← e6]
      exact ⟨same_new nD0, upd_same⟩
    · rintro j Hc _ ⟨sc, _⟩
      exact ⟨SqL.of (sc _ _ g6), SqL.of (sc _ _ g5)⟩
    · rintro j x Hc Hd hj ⟨sc, hD⟩ ⟨t, x1, x2, rfl, nt, rfl, f1, f2⟩
      replace f1 : (nineW.map V.str)[j]? = some x1 := f1
      replace f2 : (nineT.map V.bl)[j]? = some x2 := f2
      rw [List.getElem?_map] at f1 f2
      obtain ⟨z, hz, rfl⟩ := Option.map_eq_some_iff.mp f1
      obtain ⟨b, hb, rfl⟩ := Option.map_eq_some_iff.mp f2
      have st := same_new (o := .tup [V.str z, V.bl b]) nt
      refine ⟨t, _, rfl, SqT.of upd_same, rfl, _, _, rfl, _, _, rfl, rfl, rfl, _, rfl, b, rfl, ?_⟩
      have pt := pick_take hz hb
      cases b with
      | false =>
        refine if_f ⟨sc.trans st, ?_⟩
        rw [pt, if_neg (by decide), List.append_nil]
        exact st _ _ hD
      | true =>
        refine if_t ⟨_, rfl, _, st _ _ hD, ?_, same_put nD (sc.trans st), ?_⟩
        · rw [List.length_map]
          have := pick_len (nineW.take j) (nineT.take j)
          rw [List.length_take] at this
          exact small1000 (by omega)
        · rw [upd_same, pt, List.map_append]
          rfl
    · rintro Hc ⟨sc, hD⟩
      have hD1 : Hc D = some (.lst [.str "log"]) := hD
      refine ⟨_, rfl, D, _, rfl, .inl (SqL.of hD1), rfl, _, rfl, if_n (by show (!decide (V.int 1 = V.int 1)) = false; decide) ?_⟩
      exact ⟨_, rfl, D, _, 0, .str "log", rfl, rfl, SqL.of hD1, rfl, q _ (sH6.trans sc)⟩
end
end Tg

namespace Tg
open PySem PySem.Spec PyProof.Rows L2
open SX (S)
open TL (numL)
abbrev sCheck : Stmt := topS 2
abbrev sWC : Stmt := topS 3
abbrev sBody : Stmt := topS 22
abbrev NCheck : List Str := ["line", "place", "sign"]
abbrev NBody : List Str := ["text", "sign"]
theorem scCheck : FnScope NCheck ["line"] (defScope sCheck) := ⟨rfl, rfl, rfl, by decide +kernel, rfl, by decide +kernel, by decide +kernel⟩
theorem scWC : FnScope ["line"] ["line"] (defScope sWC) := ⟨rfl, rfl, rfl, by decide +kernel, rfl, by decide +kernel, by decide +kernel⟩
theorem scBody : FnScope NBody ["text"] (defScope sBody) := ⟨rfl, rfl, rfl, by decide +kernel, rfl, by decide +kernel, by decide +kernel⟩
/-- places times signs -/
def prods (k : Nat) : List Nat → List Int
  | [] => []
  | c :: r => ((k : Int) * (c : Int)) :: prods (k + 1) r
theorem prods_len : ∀ (k : Nat) (l : List Nat), (prods k l).length = l.length
  | _, [] => rfl
  | k, _ :: r => congrArg (· + 1) (prods_len (k + 1) r)
theorem prods_at : ∀ {k : Nat} {l : List Nat} {j c : Nat}, l[j]? = some c → (prods k l)[j]? = some (((k + j : Nat) : Int) * (c : Int))
  | _, [], _, _, h => nomatch h
  | k, a :: r, 0, c, h => by
    cases h
    rfl
  | k, a :: r, j + 1, c, h => by
    have z := prods_at (k := k + 1) (l := r) h
    rw [show k + 1 + j = k + (j + 1) by omega] at z
    exact z
theorem prods_sum : ∀ (k : Nat) (l : List Nat), (prods k l).sum = ((wsum k l : Nat) : Int)
  | _, [] => rfl
  | k, c :: r => by
    show (k : Int) * (c : Int) + (prods (k + 1) r).sum = ((k * c + wsum (k + 1) r : Nat) : Int)
    rw [prods_sum (k + 1) r, Int.natCast_add, Int.natCast_mul]
theorem z1000 {n : Nat} (h : n ≤ 1000) : n ≤ sizeLine := Nat.le_trans h (by decide)
theorem log_nat {n : Nat} (h : n < 2 ^ 60) : ((n : Nat) : Int).natAbs.log2 < 1920 := by
  rw [Int.natAbs_natCast]
  by_cases z : n = 0
  · subst z
    decide
  · exact Nat.lt_trans ((Nat.log2_lt z).mpr h) (by decide)
section
variable {P : Program} {w : World} {K : PySem.W.Frag} {mg : Str → Option Value} {base : Heap} {f : Addr} {fd : FuncData} {k : Nat}
def spCheck : Sp := fun vs H Q _ => ∃ l : List Nat, vs = [.str (S l)] ∧ l.length ≤ 400 ∧ ∀ H', Same H H' → Q (.int ((chk l : Nat) : Int)) H'
theorem ok_check {t1 : Tok} (F : Fun K "check" "check" sCheck f fd) (m_sum : mg "sum" = none) (m_enumerate : mg "enumerate" = none) (m_ord : mg "ord" = none) (g_CHECK_REST : mg "CHECK_REST" = some (.int 999983 t1)) : FnOk P w K mg base CX0 (k + 1) f fd ["line"] spCheck := by
  refine F.ok scCheck (fun vs H Q E h => ?_) (fun cdv A outer s H vs Q E hr h => ?_)
  · obtain ⟨l, rfl, _⟩ := h
    rfl
  · obtain ⟨l, rfl, l400, q⟩ := h
    refine ⟨_, pss_one (ps_ret (pe_op op_mod (pe_callB (cr_sum rfl) (by rfl) m_sum (by decide +kernel) (pa_cons (pe_lc (own := [("place", 1), ("sign", 2)]) (g := gTup K 2 _) (tt := tYes) rfl scCheck.nd (pi_enumSK (by rfl) m_enumerate (pv 0) pe_int) (blkOk_by (own := [("place", 1), ("sign", 2)]) (N := NCheck) (sc := defScope sCheck) (by decide +kernel)) (fun _ _ _ _ _ => (pg_tup rfl (pgs_cons (pg_name (i := 1) scCheck.nd rfl (.inl rfl)) (pgs_cons (pg_name (i := 2) scCheck.nd rfl (.inl rfl)) pgs_nil)))) (fun _ _ _ _ _ => pts_nil) (fun _ _ _ _ _ => (pe_op op_mul (pv 1) (pe_callB call_ord (by rfl) m_ord (by decide +kernel) (pa_cons (pv 2) pa_nil))))) pa_nil)) (pe_glob (v := .int 999983) rfl g_CHECK_REST ⟨_, rfl⟩))), ?_⟩
    have sz : (S l).cps.size = l.length := by simp
    refine ⟨_, rfl, S l, 1, rfl, rfl, by decide, by decide, fun D nD => lc_it walk_enumS (fun j Hc => Same H Hc ∧ Hc D = some (.lst (((prods 1 l).take j).map V.int))) ⟨same_new nD, upd_same⟩ (fun _ _ _ _ => trivial) ?_ ?_⟩
    · rintro j v Hc Hc' hj ⟨sc, hD⟩ ⟨T, n, rfl, nT, rfl, en⟩
      have en' : l[j]? = some n := by
        rw [← Array.getElem?_toList] at en
        exact en
      have jl : j < l.length := (List.getElem?_eq_some_iff.mp en').1
      have sT : Same Hc (upd Hc T (.tup [.int (1 + (j : Int)), .str ⟨#[n]⟩])) := same_new nT
      refine ⟨T, _, rfl, SqT.of upd_same, rfl, _, _, rfl, _, [], rfl, rfl, rfl, ?_⟩
      unfold tYes
      dsimp only
      rw [if_pos rfl]
      refine ⟨_, rfl, _, rfl, _, rfl, rfl, _, _, rfl, rfl, .inl ⟨by omega, by omega⟩, _, sT _ _ hD, ?_, same_put nD (sc.trans sT), ?_⟩
      · rw [List.length_map, List.length_take, prods_len]
        exact small1000 (by omega)
      · rw [upd_same, take_snoc (prods_at (k := 1) en'), List.map_append]
        show some (HO.lst (_ ++ [V.int ((1 + (j : Int)) * ((n : Nat) : Int))])) = some (HO.lst (_ ++ [V.int (((1 + j : Nat) : Int) * (n : Int))]))
        rw [show (1 + (j : Int)) = ((1 + j : Nat) : Int) by omega]
    · rintro H2 ⟨s2, hD⟩
      rw [sz, ← prods_len 1 l, List.take_length] at hD
      refine ⟨D, _, rfl, SqL.of hD, _, _, rfl, rfl, (by show (0 : Int) < 999983; decide), ?_⟩
      rw [prods_sum]
      exact q H2 s2
end
theorem yes_b {σ : L2.St} {H : Hp} {Q : Bool → Hp → Prop} (h : Q true H) : tYes σ H Q := h
theorem z3000 {n : Nat} (h : n ≤ 3000) : n ≤ sizeLine := Nat.le_trans h (by decide)
theorem len_S (l : List Nat) : (S l).length = l.length := SX.S_len l
theorem chk_len (l : List Nat) : (numL (chk l)).length ≤ 6 := num_len (by decide) (Nat.lt_trans (chk_lt l) (by decide))
section
variable {P : Program} {w : World} {K : PySem.W.Frag} {mg : Str → Option Value} {base : Heap} {f : Addr} {fd : FuncData} {k : Nat}
def spWC : Sp := fun vs H Q _ => ∃ l : List Nat, vs = [.str (S l)] ∧ l.length ≤ 400 ∧ ∀ H', Same H H' → Q (.str (S (l ++ [32] ++ numL (chk l)))) H'
theorem ok_wc (F : Fun K "with_check" "with_check" sWC f fd) (C_check : Cal P w K mg base k "check" ["line"] spCheck) : FnOk P w K mg base CX0 (k + 1) f fd ["line"] spWC := by
  refine F.ok scWC (fun vs H Q E h => ?_) (fun cdv A outer s H vs Q E hr h => ?_)
  · obtain ⟨l, rfl, _⟩ := h
    rfl
  · obtain ⟨l, rfl, l400, q⟩ := h
    have cl := chk_len l
    refine ⟨_, pss_one (ps_ret (pe_jn (.cons (pe_fmt (pv 0)) (.cons pe_str (.cons (pe_fmt (pe_cal C_check (hr.mono (by omega)) (by rfl) (pa_cons (pv 0) pa_nil))) .nil))))), ?_⟩
    have e1 : (Str.empty ++ S l) = S l := Str.empty_append _
    have e2 : (S l ++ Str.ofString " ") = S (l ++ [32]) := SX.S_cat l [32]
    refine ⟨_, rfl, .inl ⟨S l, rfl, z3000 (by rw [len_S]; omega), _, rfl, z3000 (by rw [e1, len_S]; omega), _, rfl, z3000 (by rw [e1, e2, len_S, List.length_append]; show _ + 1 ≤ _; omega), ?_⟩⟩
    refine ⟨_, rfl, l, rfl, l400, fun H1 s1 => .inr ⟨_, rfl, log_nat (Nat.lt_trans (chk_lt l) (by decide)), _, rfl, ?_, ?_⟩⟩
    · rw [e1, e2, num_S, SX.S_cat, len_S, List.length_append, List.length_append]
      exact z3000 (by show _ + 1 + _ ≤ _; omega)
    · rw [e1, e2, num_S, SX.S_cat]
      exact q H1 s1
def spBody : Sp := fun vs H Q _ => ∃ b : List Nat, vs = [.str (S b)] ∧ b.length ≤ 400 ∧ ∀ H', Same H H' → Q (.bl (bok b)) H'
theorem ok_body (F : Fun K "is_body" "is_body" sBody f fd) (m_all : mg "all" = none) : FnOk P w K mg base CX0 (k + 1) f fd ["text"] spBody := by
  refine F.ok scBody (fun vs H Q E h => ?_) (fun cdv A outer s H vs Q E hr h => ?_)
  · obtain ⟨b, rfl, _⟩ := h
    rfl
  · obtain ⟨b, rfl, l400, q⟩ := h
    refine ⟨_, pss_one (ps_ret (pe_callB (cr_all rfl) (by rfl) m_all PyProof.Rows.boot_all (pa_cons (pe_lc (own := [("sign", 1)]) (g := gName 1) (tt := tYes) rfl scBody.nd (pi_str (pv 0)) (blkOk_by (N := NBody) (sc := defScope sBody) (by decide +kernel))
        (fun _ _ _ _ _ => pg_name (i := 1) scBody.nd rfl (Or.inl rfl)) (fun _ _ _ _ _ => pts_nil) (fun _ _ _ _ _ => pe_chain op_le_str op_le_str pe_str (pv 1) pe_str)) pa_nil))), ?_⟩
    have sz : (S b).cps.size = b.length := by simp
    refine ⟨_, rfl, S b, rfl, fun D nD => lc_it walk_str (fun j Hc => Same H Hc ∧ Hc D = some (.lst (((b.take j).map sok).map V.bl))) ⟨same_new nD, upd_same⟩ (fun _ _ _ _ => trivial) ?_ ?_⟩
    · rintro j v Hp0 Hc hj ⟨sc, hD⟩ ⟨rfl, c, ec, rfl⟩
      have ec' : b[j]? = some c := by
        rw [← Array.getElem?_toList] at ec
        exact ec
      have jl : j < b.length := (List.getElem?_eq_some_iff.mp ec').1
      refine ⟨rfl, yes_b (if_t ?_)⟩
      have fin : ∀ x : Bool, x = sok c → ∃ acc, Hc D = some (.lst acc) ∧ acc.length < sizeLine ∧ Same H (upd Hc D (.lst (acc ++ [V.bl x]))) ∧ (upd Hc D (.lst (acc ++ [V.bl x]))) D = some (.lst (((b.take (j + 1)).map sok).map V.bl)) := fun x ex => by
        refine ⟨_, hD, ?_, same_put nD sc, ?_⟩
        · rw [List.length_map, List.length_map, List.length_take]
          exact small1000 (by omega)
        · rw [upd_same, take_snoc ec', List.map_append, List.map_append, ex]
          rfl
      refine ⟨_, rfl, _, _, rfl, rfl, !decide (c < 32), congrArg (fun z => V.bl (!z)) (lt_one c 32), ?_⟩
      by_cases g : c < 32
      · rw [decide_eq_true g]
        exact fin _ (by unfold sok; rw [decide_eq_false (by omega : ¬ 32 ≤ c)]; rfl)
      · rw [decide_eq_false g]
        refine ⟨_, _, rfl, rfl, ?_⟩
        have e : (!decide ((S [126]).cps.toList < (⟨#[c]⟩ : Str).cps.toList)) = !decide (126 < c) := congrArg (fun z => !z) (lt_one 126 c)
        refine fin _ (e.trans ?_)
        unfold sok
        rw [decide_eq_true (by omega : 32 ≤ c)]
        by_cases g2 : c ≤ 126
        · rw [decide_eq_true g2, decide_eq_false (by omega)]
          rfl
        · rw [decide_eq_false g2, decide_eq_true (by omega)]
          rfl
    · rintro H2 ⟨s2, hD⟩
      rw [sz, List.take_length] at hD
      refine ⟨D, b.map sok, rfl, SqL.of hD, ?_⟩
      rw [List.all_map]
      exact q H2 s2
end
abbrev sErB : Stmt := inCls (topS 8) 0
abbrev sErL : Stmt := inCls (topS 7) 0
abbrev sLine : Stmt := topS 23
theorem scErB : FnScope ["self", "body"] ["self", "body"] (defScope sErB) := ⟨rfl, rfl, rfl, by decide +kernel, rfl, by decide +kernel, by decide +kernel⟩
theorem scLine : FnScope ["number", "body", "sign"] ["number", "body", "sign"] (defScope sLine) := ⟨rfl, rfl, rfl, by decide +kernel, rfl, by decide +kernel, by decide +kernel⟩
theorem pss_dead {X : Cx} {b : List Stmt} : PSs X b (fun _ _ _ => False) := ⟨fun _ _ _ _ _ _ h => h.elim⟩
theorem num12 {n : Nat} (h : n < 10 ^ 12) : (numL n).length ≤ 12 := num_len (by decide) h
theorem ahead_len {n sg : Nat} {b : List Nat} (h : n < 10 ^ 12) (hb : b.length ≤ 300) : (ahead n sg b).length ≤ 330 := by
  have h1 := num12 h
  have h2 : (numL ((numL n).length + b.length)).length ≤ 6 := num_len (by decide) (by omega)
  unfold ahead
  simp only [List.length_singleton, List.length_append]
  omega
section
variable {P : Program} {w : World} {K : PySem.W.Frag} {mg : Str → Option Value} {base : Heap} {f : Addr} {fd : FuncData} {k : Nat} {CB : Addr}
theorem ok_errB (F : Fun K "__init__" "NoBody.__init__" sErB f fd) (T : OexC K CB) (hno : PySem.W.findIn K (.ref CB) "body" = some none) (mV : mg "ValueError" = none)
    (vV : PySem.W.findCls K (.type "ValueError") (.type "type") "__init__" = some (.val (.builtin "ValueError.__init__"))) : FnOk P w K mg base CX0 (k + 1) f fd ["self", "body"] (spErr CB "body") := by
  refine F.ok scErB (fun vs H Q E h => ?_) (fun cdv A outer s H vs Q E hr h => ?_)
  · obtain ⟨a, v, rfl, _⟩ := h
    rfl
  · obtain ⟨a, v, rfl, ha, q⟩ := h
    refine ⟨_, pss_cons (ps_expr (pe_veinit (by rfl) mV vV (pa_cons (pv 0) (pa_cons pe_str pa_nil)))) (pss_one (ps_ost (pv 0) (pv 1))), ?_⟩
    exact ⟨_, rfl, a, CB, _, rfl, by show 1 ≤ 1000; decide, T, ha, _, rfl, _, rfl, a, CB, rfl, T, hno, .inl ⟨ha, fun dx nd da => q dx nd da⟩⟩
abbrev FLine (K : PySem.W.Frag) (f : Addr) (fd : FuncData) : Prop := FunD K "line_of" "line_of" (defArgs sLine) (defBody sLine) (defScope sLine) [] [("sign", .str ".")] f fd
/-- what line_of is asked of -/
def spLine : Sp := fun vs H Q _ => ∃ (n sg : Nat) (b : List Nat), vs = [.int (n : Int), .str (S b), .str (S [sg])] ∧ n < 10 ^ 12 ∧ b.length ≤ 300 ∧ bok b = true ∧ ∀ H', Same H H' → Q (.str (S (line n sg b))) H'
theorem ok_line (F : FLine K f fd) (C_is_body : Cal P w K mg base k "is_body" ["text"] spBody) (C_with_check : Cal P w K mg base k "with_check" ["line"] spWC) (m_len : mg "len" = none) (m_str : mg "str" = none) : FnOk P w K mg base CX0 (k + 1) f fd ["number", "body", "sign"] spLine := by
  refine F.ok scLine (fun vs H Q E h => ?_) (fun cdv A outer s H vs Q E hr h => ?_)
  · obtain ⟨n, sg, b, rfl, _⟩ := h
    rfl
  · obtain ⟨n, sg, b, rfl, n12, b300, hb, q⟩ := h
    refine ⟨_, pss_cons (ps_if (pt_not (pt_val (pe_cal C_is_body (hr.mono (by omega)) (by rfl) (pa_cons (pv 1) pa_nil))))
        (pss_one ps_dead)
        pss_nil)
      (pss_one (ps_ret (pe_cal C_with_check (hr.mono (by omega)) (by rfl) (pa_cons (pe_jn (.cons (pe_fmt (pv 0)) (.cons (pe_fmt (pv 2)) (.cons pe_str (.cons (pe_fmt (pe_op op_add (pe_callB call_len_str (by rfl) m_len (by decide +kernel) (pa_cons (pe_callTy call_str_int (by rfl) m_str (by decide +kernel) (pa_cons (pv 0) pa_nil)) pa_nil)) (pe_callB call_len_str (by rfl) m_len (by decide +kernel) (pa_cons (pv 1) pa_nil)))) (.cons pe_str (.cons (pe_fmt (pv 1)) .nil))))))) pa_nil)))), ?_⟩
    have h1 := num12 n12
    have h2 : (numL ((numL n).length + b.length)).length ≤ 6 := num_len (by decide) (by omega)
    have ln : (Str.ofString (toString ((n : Nat) : Int))).length = (numL n).length := by rw [num_S, len_S]
    have em : (((Str.ofString (toString ((n : Nat) : Int))).length : Nat) : Int) + (((S b).length : Nat) : Int) = (((numL n).length + b.length : Nat) : Int) := by
      rw [ln, len_S]
      omega
    have e0 : (Str.empty ++ Str.ofString (toString ((n : Nat) : Int))) = S (numL n) := by rw [Str.empty_append, num_S]
    have e1 : S (numL n) ++ S [sg] = S (numL n ++ [sg]) := SX.S_cat _ _
    have e2 : S (numL n ++ [sg]) ++ Str.ofString " " = S (numL n ++ [sg] ++ [32]) := SX.S_cat _ [32]
    have e3 : S (numL n ++ [sg] ++ [32]) ++ Str.ofString (toString ((((Str.ofString (toString ((n : Nat) : Int))).length : Nat) : Int) + (((S b).length : Nat) : Int))) = S (numL n ++ [sg] ++ [32] ++ numL ((numL n).length + b.length)) := by rw [em, num_S, SX.S_cat]
    have e4 : S (numL n ++ [sg] ++ [32] ++ numL ((numL n).length + b.length)) ++ Str.ofString " " = S (numL n ++ [sg] ++ [32] ++ numL ((numL n).length + b.length) ++ [32]) := SX.S_cat _ [32]
    have e5 : S (numL n ++ [sg] ++ [32] ++ numL ((numL n).length + b.length) ++ [32]) ++ S b = S (ahead n sg b) := SX.S_cat _ _
    have al := ahead_len (sg := sg) n12 b300
    have small : ∀ l : List Nat, l.length ≤ 3000 → (S l).length ≤ sizeLine := fun l h => by
      rw [len_S]
      exact z3000 h
    have lg : ((n : Nat) : Int).natAbs.log2 < 1920 := log_nat (Nat.lt_trans n12 (by decide))
    refine ⟨_, rfl, b, rfl, by omega, fun H1 s1 => ⟨true, congrArg V.bl hb, if_f ?_⟩⟩
    refine ⟨_, rfl, .inr ⟨_, rfl, lg, _, rfl, by rw [e0]; exact small _ (by omega), ?_⟩⟩
    refine ⟨_, rfl, .inl ⟨S [sg], rfl, small _ (by show 1 ≤ 3000; decide), _, rfl, by rw [e0, e1]; exact small _ (by rw [List.length_append]; show _ + 1 ≤ _; omega), ?_⟩⟩
    refine ⟨_, rfl, by rw [e0, e1, e2]; exact small _ (by simp only [List.length_append, List.length_singleton]; omega), ?_⟩
    refine ⟨_, rfl, _, rfl, lg, _, rfl, z3000 (by rw [ln]; omega), _, rfl, _, rfl, small _ (by omega), _, _, rfl, rfl, .inr ⟨_, rfl, ?_, _, rfl, ?_, ?_⟩⟩
    · rw [em]
      exact log_nat (Nat.lt_of_le_of_lt (show _ ≤ 400 by omega) (by decide))
    · rw [e0, e1, e2, e3]
      exact small _ (by simp only [List.length_append, List.length_singleton]; omega)
    · refine ⟨_, rfl, by rw [e0, e1, e2, e3, e4]; exact small _ (by simp only [List.length_append, List.length_singleton]; omega), ?_⟩
      refine ⟨_, rfl, .inl ⟨S b, rfl, small _ (by omega), _, rfl, by rw [e0, e1, e2, e3, e4, e5]; exact small _ (by omega), ?_⟩⟩
      rw [e0, e1, e2, e3, e4, e5]
      exact ⟨ahead n sg b, rfl, by omega, fun H2 s2 => q H2 (s1.trans s2)⟩
def spLineN (CB : Addr) : Sp := fun vs H _ E => ∃ (v : V) (b : List Nat) (u : V), vs = [v, .str (S b), u] ∧ b.length ≤ 400 ∧ bok b = false ∧ ∀ (d : Addr) (H' : Hp), Same H H' → H d = none → H' d = some (.xd [("body", .str (S b))]) → E (.ref CB) (some d) H'
theorem ok_lineN (F : FLine K f fd) (C_is_body : Cal P w K mg base k "is_body" ["text"] spBody) (C_err : CalE P w K mg base k "NoBody" CB "body") : FnOk P w K mg base (L2.CX P w) (k + 2) f fd ["number", "body", "sign"] (spLineN CB) := by
  refine F.ok (CX := L2.CX P w) scLine (fun vs H Q E h => ?_) (fun cdv A outer s H vs Q E hr h => ?_)
  · obtain ⟨v, b, u, rfl, _⟩ := h
    rfl
  · obtain ⟨v, b, u, rfl, b400, hb, q⟩ := h
    refine ⟨_, pss_cons (ps_if (pt_not (pt_val (pe_cal C_is_body (hr.mono (by omega)) (by rfl) (pa_cons (pv 1) pa_nil)))) (pss_one (ps_raise rfl (takes_of rfl rfl rfl rfl) (pm_err C_err hr (by rfl) (pv 1)))) pss_nil) pss_dead, ?_⟩
    exact ⟨_, rfl, b, rfl, b400, fun H1 s1 => ⟨false, congrArg V.bl hb, if_t (err_read ⟨_, rfl, fun d H' s' nd hd => q d H' (s1.trans s') (s1.free nd) hd⟩ fun {Q Q'} hq ⟨v, e, q⟩ => ⟨v, e, hq _ _ q⟩)⟩⟩
end
end Tg

namespace Tg
open PySem PySem.Spec PyProof.Rows L2
open SX (S)
open TL (numL)
theorem cut_head (l : List Nat) (c : Nat) : cutS (S (l ++ [c])) none (some (-1)) = S l := by
  unfold cutS
  rw [len_S, List.length_append]
  show (⟨((l ++ [c]).drop 0 |>.take (((-1 : Int) + ((l.length + 1 : Nat) : Int)).toNat - 0)).toArray⟩ : Str) = _
  rw [show ((-1 : Int) + ((l.length + 1 : Nat) : Int)).toNat - 0 = l.length by omega, List.drop_zero, List.take_left']
  rfl
theorem cut_last (l : List Nat) (c : Nat) : cutS (S (l ++ [c])) (some (-1)) none = S [c] := by
  unfold cutS
  rw [len_S, List.length_append]
  show (⟨(((l ++ [c]).drop ((-1 : Int) + ((l.length + 1 : Nat) : Int)).toNat).take (l.length + 1 - ((-1 : Int) + ((l.length + 1 : Nat) : Int)).toNat)).toArray⟩ : Str) = _
  rw [show ((-1 : Int) + ((l.length + 1 : Nat) : Int)).toNat = l.length by omega, List.drop_left', show l.length + 1 - l.length = 1 by omega]
  · rfl
  · rfl
theorem str_ne {a b : Str} (h : a ≠ b) : decide (V.str a = V.str b) = false := decide_eq_false fun z => h (V.str.inj z)
section
variable {P : Program} {w : World} {K : PySem.W.Frag} {mg : Str → Option Value} {base : Heap} {f : Addr} {fd : FuncData} {k : Nat} {CB : Addr}
end
abbrev sSign : Stmt := topS 36
theorem scSign : FnScope ["_law_purse_here", "_law_signs", "_law_few"] ["_law_purse_here"] (defScope sSign) := ⟨rfl, rfl, rfl, by decide +kernel, rfl, by decide +kernel, by decide +kernel⟩
theorem at_is {α : Type} {l : List α} {v : Int} (h0 : 0 ≤ v) (h1 : v < (l.length : Int)) : ∃ c, c ∈ l ∧ atI l v = some c := by
  obtain ⟨i, rfl⟩ : ∃ i : Nat, v = (i : Int) := ⟨v.toNat, by omega⟩
  have il : i < l.length := by omega
  exact ⟨l[i], List.getElem_mem il, atI_nat (List.getElem?_eq_getElem il)⟩
section
variable {P : Program} {w : World} {K : PySem.W.Frag} {mg : Str → Option Value} {base : Heap} {f : Addr} {fd : FuncData} {k : Nat}
def few : Str := " 0123456789.+= ="
def many : Str := " !\"#$&'()*+,-./0123456789:;<=>?@ABCDEFGHIJKLMNOPQRSTUVWXYZ[\\]^`abcdefghijklmnopqrstuvwxyz{|}~"
theorem few_ok : few.cps.toList.all sok = true := by decide +kernel
theorem many_ok : many.cps.toList.all sok = true := by decide +kernel
def spSign : Sp := fun vs H Q _ => ∃ (p : Addr) (n : Nat), vs = [.ref p] ∧ Pu H p n ∧ n < 2 ^ 37 ∧ ∀ (c : Nat) (H' : Hp), Kp p H H' → Pu H' p (n + 4) → sok c = true → Q (.str (S [c])) H'
theorem ok_sign (F : Fun K "_law_sign" "_law_sign" sSign f fd) (L_draw : Cal P w K mg base k "_law_draw" ["_law_purse_here", "_law_out_of"] spDraw) (m_len : mg "len" = none) : FnOk P w K mg base CX0 (k + 1) f fd ["_law_purse_here"] spSign := by
  refine F.ok scSign (fun vs H Q E h => ?_) (fun cdv A outer s H vs Q E hr h => ?_)
  · obtain ⟨p, n, rfl, _⟩ := h
    rfl
  · obtain ⟨p, n, rfl, pu, n37, q⟩ := h
    refine ⟨_, pss_cons (ps_set (i := 1) scSign.nd rfl (.inl rfl) pe_str)
      (pss_cons (ps_set (i := 2) scSign.nd rfl (.inl rfl) pe_str)
      (pss_cons (ps_if (pt_cmpR op_eq (pe_cal L_draw (hr.mono (by omega)) (by rfl) (pa_cons (pv 0) (pa_cons pe_int pa_nil))) pe_int (nomark _))
        (pss_one (ps_ret (pe_ix ix_str (pv 2) (pe_cal L_draw (hr.mono (by omega)) (by rfl) (pa_cons (pv 0) (pa_cons (pe_callB call_len_str (by rfl) m_len (by decide +kernel) (pa_cons (pv 2) pa_nil)) pa_nil))) (fun _ _ => rfl))))
        pss_nil)
      (pss_one (ps_ret (pe_ix ix_str (pv 1) (pe_cal L_draw (hr.mono (by omega)) (by rfl) (pa_cons (pv 0) (pa_cons (pe_callB call_len_str (by rfl) m_len (by decide +kernel) (pa_cons (pv 1) pa_nil)) pa_nil))) (fun _ _ => rfl)))))), ?_⟩
    have l1 : few.length = 16 := by decide +kernel
    have l2 : many.length ≤ 100 ∧ 0 < many.length := by decide +kernel
    have z1 : few.length ≤ sizeLine := by rw [l1]; decide
    have z2 : many.length ≤ sizeLine := Nat.le_trans l2.1 (by decide)
    refine ⟨_, rfl, p, n, 2, rfl, pu, by omega, by decide, by decide, fun w2 H1 k1 p1 _ _ => ⟨rfl, _, rfl, ite2 (fun g => ?_) (fun g => ?_)⟩⟩
    · refine ⟨_, rfl, _, rfl, _, rfl, few, rfl, z1, p, n + 2, _, rfl, p1, by omega, by rw [l1]; decide, by rw [l1]; decide, fun v H2 k2 p2 v0 v1 => ?_⟩
      obtain ⟨c, cm, ce⟩ := at_is (l := few.cps.toList) v0 (by
        have e : few.cps.toList.length = few.length := rfl
        rw [e]
        exact v1)
      exact ⟨few, v, c, rfl, rfl, z1, ce, q c H2 (k1.trans k2) p2 (List.all_eq_true.mp few_ok c cm)⟩
    · refine ⟨_, rfl, _, rfl, _, rfl, many, rfl, z2, p, n + 2, _, rfl, p1, by omega, by omega, by omega, fun v H2 k2 p2 v0 v1 => ?_⟩
      obtain ⟨c, cm, ce⟩ := at_is (l := many.cps.toList) v0 (by
        have e : many.cps.toList.length = many.length := rfl
        rw [e]
        exact v1)
      exact ⟨many, v, c, rfl, rfl, z2, ce, q c H2 (k1.trans k2) p2 (List.all_eq_true.mp many_ok c cm)⟩
end
abbrev sLB : Stmt := topS 37
abbrev NLB : List Str := ["_law_purse_here", "_law_most", "_law_way", "_law_many", "_law_k"]
theorem scLB : FnScope NLB ["_law_purse_here", "_law_most"] (defScope sLB) := ⟨rfl, rfl, rfl, by decide +kernel, rfl, by decide +kernel, by decide +kernel⟩
theorem join_ones : ∀ b : List Nat, TL.joinL [] (b.map fun c => [c]) = b
  | [] => rfl
  | [c] => rfl
  | c :: d :: r => by
    show [c] ++ ([] ++ TL.joinL [] ((d :: r).map fun c => [c])) = c :: d :: r
    rw [join_ones (d :: r)]
    rfl
theorem ones_sum : ∀ b : List Nat, ((b.map fun c => S [c]).map (·.length)).sum = b.length
  | [] => rfl
  | c :: r => by
    show (S [c]).length + ((r.map fun c => S [c]).map (·.length)).sum = r.length + 1
    rw [ones_sum r, show (S [c]).length = 1 from rfl]
    omega
theorem bok_take {l : List Nat} (h : bok l = true) (n : Nat) : bok (l.take n) = true := List.all_eq_true.mpr fun c hc => List.all_eq_true.mp h c (List.mem_of_mem_take hc)
theorem cut_take (l : List Nat) (m : Nat) : cutS (S l) none (some (m : Int)) = S (l.take m) := by
  unfold cutS
  rw [len_S, HT.sIx_nat]
  show (⟨((l.drop 0).take (min m l.length - 0)).toArray⟩ : Str) = _
  rw [List.drop_zero, Nat.sub_zero]
  congr 2
  by_cases h : m ≤ l.length
  · rw [Nat.min_eq_left h]
  · rw [Nat.min_eq_right (by omega), List.take_length, List.take_of_length_le (by omega)]
/-- the bodies that are written out -/
def eight : List Str := ["", " ", "0", "1. 4 abc 77", " 3", "7 ", "put a=b 5 6", "12"]
theorem eight_ok : ∀ z, z ∈ eight → bok z.cps.toList = true ∧ z.length ≤ 20 := by
  intro z hz
  have all : eight.all (fun z => bok z.cps.toList && decide (z.length ≤ 20)) = true := by decide +kernel
  have := List.all_eq_true.mp all z hz
  rw [Bool.and_eq_true] at this
  exact ⟨this.1, of_decide_eq_true this.2⟩
section
variable {P : Program} {w : World} {K : PySem.W.Frag} {mg : Str → Option Value} {base : Heap} {f : Addr} {fd : FuncData} {k : Nat}
def spLB : Sp := fun vs H Q _ => ∃ (p : Addr) (n m : Nat), vs = [.ref p, .int (m : Int)] ∧ Pu H p n ∧ n < 2 ^ 36 ∧ m ≤ 200 ∧ ∀ (b : List Nat) (H' : Hp), Kp p H H' → Pu H' p (n + 1000) → b.length ≤ m → bok b = true → Q (.str (S b)) H'
theorem ok_lb (F : Fun K "_law_body" "_law_body" sLB f fd) (L_draw : Cal P w K mg base k "_law_draw" ["_law_purse_here", "_law_out_of"] spDraw) (L_sign : Cal P w K mg base k "_law_sign" ["_law_purse_here"] spSign) (m_range : mg "range" = none) : FnOk P w K mg base CX0 (k + 1) f fd ["_law_purse_here", "_law_most"] spLB := by
  refine F.ok scLB (fun vs H Q E h => ?_) (fun cdv A outer s H vs Q E hr h => ?_)
  · obtain ⟨p, n, m, rfl, _⟩ := h
    rfl
  · obtain ⟨p, n, m, rfl, pu, n36, m200, q⟩ := h
    refine ⟨_, pss_cons (ps_set (i := 2) scLB.nd rfl (.inl rfl) (pe_cal L_draw (hr.mono (by omega)) (by rfl) (pa_cons (pv 0) (pa_cons pe_int pa_nil))))
      (pss_cons (ps_if (pt_cmpR op_eq (pv 2) pe_int (nomark _))
        (pss_one (ps_ret (pe_slice sl_str (pe_ix ix_list (pe_lst (pa_cons pe_str (pa_cons pe_str (pa_cons pe_str (pa_cons pe_str (pa_cons pe_str (pa_cons pe_str (pa_cons pe_str (pa_cons pe_str pa_nil))))))))) (pe_cal L_draw (hr.mono (by omega)) (by rfl) (pa_cons (pv 0) (pa_cons pe_int pa_nil))) (fun _ _ => rfl)) po_none (po_some (pv 1)))))
        pss_nil)
      (pss_cons (ps_set (i := 3) scLB.nd rfl (.inl rfl) (pe_cal L_draw (hr.mono (by omega)) (by rfl) (pa_cons (pv 0) (pa_cons (pe_op op_add (pv 1) pe_int) pa_nil))))
      (pss_one (ps_ret (pe_bm PySem.F.plainAttrs_str PySem.F.slot_str_join PySem.F.type_str_join mt_join pe_str (pa_cons (pe_lc (own := [("_law_k", 4)]) (g := (gName 4)) (tt := tYes) rfl scLB.nd (pi_range1 (by rfl) m_range (pa_cons (pv 3) pa_nil)) (blkOk_by (own := [("_law_k", 4)]) (N := NLB) (sc := defScope sLB) (by decide +kernel)) (fun _ _ _ _ _ => (pg_name (i := 4) scLB.nd rfl (.inl rfl))) (fun _ _ _ _ _ => pts_nil) (fun _ _ _ _ _ => (pe_cal L_sign (hr.mono (by omega)) (by rfl) (pa_cons (pv 0) pa_nil)))) pa_nil)))))), ?_⟩
    refine ⟨_, rfl, p, n, 4, rfl, pu, by omega, by decide, by decide, fun wy H1 k1 p1 _ _ => ?_⟩
    refine ⟨_, rfl, rfl, _, rfl, ite2 (fun g => ?_) (fun g => ?_)⟩
    · refine ⟨(by show 8 ≤ sizeLine; decide), fun l nl => ?_⟩
      have sl := same_new (o := .lst (eight.map V.str)) nl
      have lp : l ≠ p := p1.ne nl
      refine ⟨_, rfl, p, n + 2, 8, rfl, p1.same sl, by omega, by decide, by decide, fun v H2 k2 p2 v0 v1 => ?_⟩
      obtain ⟨c, cm, ce⟩ := at_is (l := eight.map V.str) v0 v1
      obtain ⟨z, hz, rfl⟩ := List.mem_map.mp cm
      obtain ⟨z1, z2⟩ := eight_ok z hz
      refine ⟨l, _, _, .str z, rfl, rfl, SqL.of (k2 _ _ lp upd_same), ce, _, rfl, _, rfl, z, rfl, z3000 (by omega), ?_⟩
      have e : cutS z none (some (m : Int)) = S (z.cps.toList.take m) := cut_take z.cps.toList m
      rw [e]
      have zl : z.cps.toList.length ≤ 20 := z2
      exact q _ H2 (k1.trans ((Kp.of sl).trans k2)) (p2.mono (by omega)) (Nat.le_trans (List.length_take_le _ _) (by omega)) (bok_take z1 m)
    · refine ⟨_, rfl, _, rfl, _, _, rfl, rfl, p, n + 2, _, rfl, p1, by omega, by omega, by omega, fun v H2 k2 p2 v0 v1 => ?_⟩
      obtain ⟨u, rfl⟩ : ∃ u : Nat, v = (u : Int) := ⟨v.toNat, by omega⟩
      have um : u ≤ m := by omega
      refine ⟨rfl, _, rfl, _, rfl, by omega, by omega, fun D nD => ?_⟩
      have Dp : D ≠ p := p2.ne nD
      refine lc_range (lo := 0) (n := u) (fun j Hc => ∃ b : List Nat, b.length = j ∧ bok b = true ∧ Kp p H2 Hc ∧ Pu Hc p (n + 4 + 4 * j) ∧ Hc D = some (.lst ((b.map fun c => S [c]).map V.str))) ⟨[], rfl, rfl, Kp.of (same_new nD), p2.same (same_new nD), upd_same⟩ ?_ ?_
      · rintro j Hc hj ⟨b, bl, bo, kc, pc, hD⟩
        refine ⟨rfl, yes_b (if_t ?_)⟩
        refine ⟨_, rfl, p, _, rfl, pc, by omega, fun c H3 k3 p3 sc => ⟨_, k3 _ _ Dp hD, ?_, b ++ [c], ?_, ?_, ?_, ?_, ?_⟩⟩
        · rw [List.length_map, List.length_map]
          exact small1000 (by omega)
        · rw [List.length_append, bl]
          rfl
        · show (b ++ [c]).all sok = true
          rw [List.all_append, show b.all sok = true from bo]
          simp [sc]
        · exact fun y o hy h => by
            rw [upd_ne (ne_of_none h nD)]
            exact (kc.trans k3) y o hy h
        · obtain ⟨x1, x2, x3, hp, y1, y2⟩ := p3
          exact ⟨x1, x2, x3, by rw [upd_ne (Ne.symm Dp)]; exact hp, y1, by omega⟩
        · rw [upd_same, List.map_append, List.map_append]
          rfl
      · rintro H3 ⟨b, bl, bo, kc, pc, hD⟩
        refine ⟨_, D, b.map fun c => S [c], rfl, rfl, .inl (SqL.of hD), ?_, ?_⟩
        · rw [ones_sum, List.length_map]
          show _ + _ * 0 ≤ _
          omega
        · have e : Txt.join (S []) (b.map fun c => S [c]) = S b := by
            have z := SX.join_S [] (b.map fun c => [c])
            rw [List.map_map, join_ones] at z
            exact z
          have e' : Txt.join (Str.ofString "") (b.map fun c => S [c]) = S b := e
          rw [e']
          exact q b H3 (k1.trans (k2.trans kc)) (pc.mono (by omega)) (by omega) bo
end
theorem cut_rest (l : List Nat) (m : Nat) : cutS (S l) (some (m : Int)) none = S (l.drop m) := by
  unfold cutS
  rw [len_S, HT.sIx_nat]
  show (⟨((l.drop (min m l.length)).take (l.length - min m l.length)).toArray⟩ : Str) = _
  congr 2
  by_cases h : m ≤ l.length
  · rw [Nat.min_eq_left h, List.take_of_length_le (by rw [List.length_drop]; omega)]
  · rw [Nat.min_eq_right (by omega), List.drop_of_length_le (by omega : l.length ≤ m), List.drop_length, List.take_nil]
section
variable {P : Program} {w : World} {K : PySem.W.Frag} {mg : Str → Option Value} {base : Heap} {f : Addr} {fd : FuncData} {k : Nat}
end
theorem str_S {l : List Nat} (h : ∀ c, c ∈ l → c < 0x110000) : PyData.strOk (S l) = true := by
  show ((S l).cps.all fun c => decide (c < 0x110000)) = true
  rw [← Array.all_toList]
  exact List.all_eq_true.mpr fun c hc => decide_eq_true (h c hc)
/-- what a line tells, as data -/
def told3 (n sg : Nat) (b : List Nat) : PyData := .tuple [.int (n : Int), .str (S [sg]), .str (S b)]
theorem told_form {n sg : Nat} {b : List Nat} (hs : sgn sg) (hb : bok b = true) : SeqAt.shaped (told3 n sg b) = true ∧ PyData.eqv (told3 n sg b) (told3 n sg b) = true := by
  have h1 : PyData.strOk (S [sg]) = true := str_S fun c hc => by
    rw [List.mem_singleton.mp hc]
    rcases hs with rfl | rfl | rfl <;> decide
  have h2 : PyData.strOk (S b) = true := str_S fun c hc => by
    have z := List.all_eq_true.mp hb c hc
    unfold sok at z
    simp only [Bool.and_eq_true, decide_eq_true_eq] at z
    omega
  constructor
  · refine shaped_of ?_ (by show 1 ≤ 64; decide)
    show (true && (PyData.strOk (S [sg]) && (PyData.strOk (S b) && true))) = true
    rw [h1, h2]
    rfl
  · show (((n : Int) == (n : Int)) && ((S [sg] == S [sg]) && ((S b == S b) && true))) = true
    rw [beq_self_eq_true, beq_self_eq_true, beq_self_eq_true]
    rfl
section
variable {P : Program} {w : World} {K : PySem.W.Frag} {mg : Str → Option Value} {base : Heap} {f : Addr} {fd : FuncData} {k : Nat} {cdv : Value} {A : Around} {outer : List Env} {s : Shared} {H0 : Hp} {E : XK}
end
theorem at_of {CX : CXT} {X : Cx} {E : XK} (h : Passes CX X E) (σ : L2.St) : PassesAt CX X σ E := fun pins H s e s' I z => h pins σ H s e s' I z
section
variable {P : Program} {w : World} {K : PySem.W.Frag} {mg : Str → Option Value} {base : Heap} {f : Addr} {fd : FuncData} {k : Nat} {CB : Addr} {fl : Addr} {fdl : FuncData} {g1 g2 g3 : List Value → List Value → List Value}
end
end Tg

namespace Tg
open PySem PySem.Spec PyProof.Rows L2
open SX (S)
open TL (numL)
abbrev sRF : Stmt := topS 16
abbrev sParts : Stmt := topS 24
abbrev NRF : List Str := ["text", "most", "sign"]
abbrev NPa : List Str := ["line", "head", "blank", "behind", "count", "tail", "body", "told", "number", "sign"]
theorem scRF : FnScope NRF ["text", "most"] (defScope sRF) := ⟨rfl, rfl, rfl, by decide +kernel, rfl, by decide +kernel, by decide +kernel⟩
theorem scParts : FnScope NPa ["line"] (defScope sParts) := ⟨rfl, rfl, rfl, by decide +kernel, rfl, by decide +kernel, by decide +kernel⟩
/-- figures without a needless nought are a number's -/
theorem num_of : ∀ (k : Nat) (y : List Nat), y.length = k → y ≠ [] → (∀ c, c ∈ y → 48 ≤ c ∧ c ≤ 57) → (∀ r, y = 48 :: r → r = []) → ∃ n, y = numL n ∧ n < 10 ^ y.length := by
  intro k
  induction k with
  | zero => exact fun y e ne _ _ => absurd (List.length_eq_zero_iff.mp e) ne
  | succ k ih =>
    intro y e ne dig z0
    obtain ⟨z, c, rfl⟩ : ∃ z c, y = z ++ [c] := ⟨y.dropLast, y.getLast ne, (List.dropLast_concat_getLast ne).symm⟩
    obtain ⟨c0, c1⟩ := dig c (List.mem_append.mpr (.inr (List.mem_singleton.mpr rfl)))
    by_cases zn : z = []
    · subst zn
      refine ⟨c - 48, ?_, ?_⟩
      · rw [TL.numL_lt (by omega)]
        exact congrArg (fun z => [z]) (show c = 48 + (c - 48) by omega)
      · show c - 48 < 10 ^ 1
        omega
    · have no0 : ∀ r, z = 48 :: r → False := fun r er => by
        have := z0 (r ++ [c]) (by rw [er]; rfl)
        simp at this
      obtain ⟨m, em, hm⟩ := ih z (by rw [List.length_append, List.length_singleton] at e; omega) zn (fun x hx => dig x (List.mem_append.mpr (.inl hx))) (fun r er => (no0 r er).elim)
      have m0 : 0 < m := by
        rcases Nat.eq_zero_or_pos m with h | h
        · subst h
          exact (no0 [] em).elim
        · exact h
      refine ⟨10 * m + (c - 48), ?_, ?_⟩
      · rw [TL.numL_step (by omega), show (10 * m + (c - 48)) / 10 = m by omega, show (10 * m + (c - 48)) % 10 = c - 48 by omega, ← em, show 48 + (c - 48) = c by omega]
      · rw [List.length_append, List.length_singleton, Nat.pow_succ]
        omega
theorem cut_dl (h : List Nat) : cutS (S h) none (some (-1)) = S h.dropLast := by
  by_cases e : h = []
  · subst e
    rfl
  · obtain ⟨z, c, rfl⟩ : ∃ z c, h = z ++ [c] := ⟨h.dropLast, h.getLast e, (List.dropLast_concat_getLast e).symm⟩
    rw [cut_head, List.dropLast_concat]
/-- the last sign alone -/
def lst1 (h : List Nat) : List Nat := h.drop (h.length - 1)
theorem lst1_snoc (z : List Nat) (c : Nat) : lst1 (z ++ [c]) = [c] := by
  unfold lst1
  rw [List.length_append, List.length_singleton, show z.length + 1 - 1 = z.length by omega, List.drop_left]
theorem cut_l1 (h : List Nat) : cutS (S h) (some (-1)) none = S (lst1 h) := by
  by_cases e : h = []
  · subst e
    rfl
  · obtain ⟨z, c, rfl⟩ : ∃ z c, h = z ++ [c] := ⟨h.dropLast, h.getLast e, (List.dropLast_concat_getLast e).symm⟩
    rw [cut_last, lst1_snoc]
def dg (c : Nat) : Bool := decide (c ∈ (Str.ofString "0123456789").cps.toList)
theorem dg_iff (c : Nat) : dg c = true ↔ 48 ≤ c ∧ c ≤ 57 := by
  have e : (Str.ofString "0123456789").cps.toList = [48, 49, 50, 51, 52, 53, 54, 55, 56, 57] := by decide +kernel
  unfold dg
  rw [e, decide_eq_true_iff]
  simp only [List.mem_cons, List.not_mem_nil, or_false]
  omega
section
variable {P : Program} {w : World} {K : PySem.W.Frag} {mg : Str → Option Value} {base : Heap} {f : Addr} {fd : FuncData} {k : Nat} {CB : Addr}
/-- the number of a text of figures, None of another -/
def spRF : Sp := fun vs H Q _ => ∃ y : List Nat, vs = [.str (S y), .int 12] ∧ y.length ≤ 400 ∧ (∀ n H', n < 10 ^ 12 → y = numL n → Same H H' → Q (.int (n : Int)) H') ∧ ((∀ n, n < 10 ^ 12 → y ≠ numL n) → ∀ H', Same H H' → Q .non H')
theorem ok_rf {t1 : Tok} (F : Fun K "read_figures" "read_figures" sRF f fd) (m_len : mg "len" = none) (m_all : mg "all" = none) (m_int : mg "int" = none) (g_FIGURES : mg "FIGURES" = some (.str "0123456789" t1)) : FnOk P w K mg base CX0 (k + 1) f fd ["text", "most"] spRF := by
  refine F.ok scRF (fun vs H Q E h => ?_) (fun cdv A outer s H vs Q E hr h => ?_)
  · obtain ⟨y, rfl, _⟩ := h
    rfl
  · obtain ⟨y, rfl, y400, q, q0⟩ := h
    refine ⟨_, pss_cons (ps_if (PW.pt (pw_or (pt_not (pt_chain op_lt op_le pe_int (pe_callB call_len_str (by rfl) m_len PySem.boot_len (pa_cons (pv 0) pa_nil)) (pv 1)))
        (pw_or1 (pt_not (pt_val (pe_callB (cr_all rfl) (by rfl) m_all PyProof.Rows.boot_all (pa_cons (pe_lc (own := [("sign", 2)]) (g := gName 2) (tt := tYes) rfl scRF.nd (pi_str (pv 0)) (blkOk_by (N := NRF) (sc := defScope sRF) (by decide +kernel))
          (fun _ _ _ _ _ => pg_name (i := 2) scRF.nd rfl (Or.inl rfl)) (fun _ _ _ _ _ => pts_nil) (fun _ _ _ _ _ => pe_cmpR op_in_sign (pv 2) (pe_glob (v := .str "0123456789") (by rfl) g_FIGURES ⟨_, rfl⟩) (by with_unfolding_all rfl))) pa_nil)))))))
        (pss_one (ps_ret pe_non)) pss_nil)
      (pss_cons (ps_if (PW.pt (pw_and (pt_cmpR op_eq (pe_ix ix_str (pv 0) pe_int (fun _ _ => rfl)) pe_str (nomark _)) (pw_and1 (pt_cmpR op_ne (pv 0) pe_str (nomark _)))))
        (pss_one (ps_ret pe_non)) pss_nil)
      (pss_one (ps_ret (pe_callTy call_int_str (by rfl) m_int (by decide +kernel) (pa_cons (pv 0) pa_nil))))), ?_⟩
    have sz : (S y).cps.size = y.length := by simp
    have ln := len_S y
    have small : (S y).length ≤ sizeLine := by
      rw [ln]
      exact z3000 (by omega)
    have no : (y.length = 0 ∨ 12 < y.length) → ∀ n, n < 10 ^ 12 → y ≠ numL n := fun h n hn e => by
      have h1 := num12 hn
      have h0 := num_pos n
      rw [← e] at h1 h0
      omega
    refine ⟨_, rfl, S y, rfl, small, 0, _, rfl, rfl, ?_⟩
    by_cases y0 : y.length = 0
    · exact ⟨false, congrArg V.bl (decide_eq_false (by rw [ln]; omega)), if_f ⟨false, rfl, if_t (q0 (no (.inl y0)) H (Same.refl _))⟩⟩
    refine ⟨true, congrArg V.bl (decide_eq_true (by rw [ln]; omega)), if_t ⟨_, rfl, _, 12, rfl, rfl, ?_⟩⟩
    by_cases y12 : 12 < y.length
    · exact ⟨false, congrArg V.bl (decide_eq_false (by rw [ln]; omega)), if_t (q0 (no (.inr y12)) H (Same.refl _))⟩
    refine ⟨true, congrArg V.bl (decide_eq_true (by rw [ln]; omega)), if_f ?_⟩
    refine ⟨_, rfl, S y, rfl, fun D nD => lc_it walk_str (fun j Hc => Same H Hc ∧ Hc D = some (.lst (((y.take j).map dg).map V.bl))) ⟨same_new nD, upd_same⟩ (fun _ _ _ _ => trivial) ?_ ?_⟩
    · rintro j v Hp0 Hc hj ⟨sc, hD⟩ ⟨rfl, c, ec, rfl⟩
      have ec' : y[j]? = some c := by
        rw [← Array.getElem?_toList] at ec
        exact ec
      have jl : j < y.length := (List.getElem?_eq_some_iff.mp ec').1
      refine ⟨rfl, yes_b (if_t ?_)⟩
      refine ⟨_, rfl, c, _, rfl, rfl, _, hD, ?_, same_put nD sc, ?_⟩
      · rw [List.length_map, List.length_map, List.length_take]
        exact small1000 (by omega)
      · rw [upd_same, take_snoc ec', List.map_append, List.map_append]
        rfl
    · rintro H2 ⟨s2, hD⟩
      rw [sz, List.take_length] at hD
      refine ⟨D, y.map dg, rfl, SqL.of hD, ?_⟩
      by_cases al : (y.map dg).all id = true
      · refine ⟨true, congrArg V.bl al, if_f ?_⟩
        have dig : ∀ c, c ∈ y → 48 ≤ c ∧ c ≤ 57 := fun c hc => (dg_iff c).mp (by
          rw [List.all_map] at al
          exact List.all_eq_true.mp al c hc)
        cases ey : y with
        | nil =>
          rw [ey] at y0
          exact (y0 rfl).elim
        | cons c r =>
          rw [← ey]
          have at0 : atI (S y).cps.toList 0 = some c := by
            show atI y 0 = some c
            rw [ey]
            show atI (c :: r) ((0 : Nat) : Int) = some c
            exact atI_nat rfl
          have isn : (∀ r', y = 48 :: r' → r' = []) → (∃ a n', ([V.str (S y)] : List V) = [.str a] ∧ PySem.intText? a = some n' ∧ a.length ≤ 640 ∧ Q (.int n') H2) := fun h0 => by
            obtain ⟨n, en, hn⟩ := num_of _ y rfl (by rw [ey]; exact fun z => nomatch z) dig h0
            have hn12 : n < 10 ^ 12 := Nat.lt_of_lt_of_le hn (Nat.pow_le_pow_right (by decide) (by omega))
            refine ⟨S y, (n : Int), rfl, ?_, by rw [ln]; omega, q n H2 hn12 en s2⟩
            rw [en, ← num_S]
            exact TL.int_num (by have := num12 hn12; omega)
          refine ⟨_, rfl, S y, 0, c, rfl, rfl, small, at0, rfl, ?_⟩
          by_cases c48 : c = 48
          · refine ⟨true, congrArg V.bl (decide_eq_true (by rw [c48]; rfl)), if_t ?_⟩
            by_cases r0 : r = []
            · refine ⟨_, rfl, rfl, false, congrArg V.bl ?_, if_f ⟨_, rfl, isn fun r' er => by rw [ey, r0] at er; exact (List.cons.inj er).2.symm⟩⟩
              have e1 : V.str (S y) = V.str (Str.ofString "0") := by
                rw [ey, c48, r0]
                rfl
              rw [decide_eq_true e1]
              rfl
            · refine ⟨_, rfl, rfl, true, congrArg V.bl ?_, if_t ?_⟩
              · rw [decide_eq_false]
                · rfl
                · intro z
                  have z' : S y = S [48] := V.str.inj z
                  have z2 := SX.S_inj z'
                  rw [ey] at z2
                  exact r0 (List.cons.inj z2).2
              · refine q0 (fun n hn e => ?_) H2 s2
                rcases Nat.eq_zero_or_pos n with h | h
                · subst h
                  rw [ey, show numL 0 = [48] from rfl] at e
                  exact r0 (List.cons.inj e).2
                · obtain ⟨d, r', ed, ne⟩ := num_head h
                  rw [ed, ey] at e
                  exact ne ((List.cons.inj e).1.symm.trans c48)
          · refine ⟨false, congrArg V.bl (str_ne fun z => c48 ?_), if_f ⟨_, rfl, isn fun r' er => ?_⟩⟩
            · have z' : S [c] = S [48] := z
              exact (List.cons.inj (SX.S_inj z')).1
            · rw [ey] at er
              exact (c48 (List.cons.inj er).1).elim
      · refine ⟨false, congrArg V.bl (Bool.eq_false_iff.mpr al), if_t (q0 (fun n hn e => al ?_) H2 s2)⟩
        rw [List.all_map]
        exact List.all_eq_true.mpr fun c hc => (dg_iff c).mpr (num_all n c (by rw [← e]; exact hc))
end
theorem scErL : FnScope ["self", "at"] ["self", "at"] (defScope sErL) := ⟨rfl, rfl, rfl, by decide +kernel, rfl, by decide +kernel, by decide +kernel⟩
theorem inV_3 (s a b c : List Nat) : inV (.str (S s)) [.str (S a), .str (S b), .str (S c)] = decide (s = a ∨ s = b ∨ s = c) := by
  have e : ∀ x : List Nat, eqV (.str (S x)) (.str (S s)) = decide (s = x) := fun x => by
    by_cases h : s = x
    · rw [decide_eq_true h, h]
      show (S x == S x) = true
      exact beq_self_eq_true _
    · rw [decide_eq_false h]
      show (S x == S s) = false
      exact beq_eq_false_iff_ne.mpr fun z => h (SX.S_inj z).symm
  show (eqV (.str (S a)) (.str (S s)) || (eqV (.str (S b)) (.str (S s)) || (eqV (.str (S c)) (.str (S s)) || false))) = _
  rw [e, e, e]
  by_cases h1 : s = a <;> by_cases h2 : s = b <;> by_cases h3 : s = c <;> simp [h1, h2, h3]
section
variable {P : Program} {w : World} {K : PySem.W.Frag} {mg : Str → Option Value} {base : Heap} {f : Addr} {fd : FuncData} {k : Nat} {CB CL : Addr}
/-- the parts of a line, None of a text that is none -/
def spParts : Sp := fun vs H Q _ => ∃ x : List Nat, vs = [.str (S x)] ∧ x.length ≤ 300 ∧
  (∀ (n sg : Nat) (b : List Nat), n < 10 ^ 12 → sgn sg → bok b = true → x = line n sg b → ∀ (t : Addr) (H' : Hp), Same H H' → H' t = some (.tup [.int (n : Int), .str (S [sg]), .str (S b)]) → Q (.ref t) H') ∧
  (¬ IsL x → ∀ H', Same H H' → Q .non H')
/-- line_of with the sign by its name -/
def CalLK (P : Program) (w : World) (K : PySem.W.Frag) (mg : Str → Option Value) (base : Heap) (k : Nat) : Prop := ∃ f fd g, FnOk P w K mg base CX0 k f fd ["number", "body", "sign"] spLine ∧ mg "line_of" = some (.ref f) ∧ PySem.W.keepIn K (.ref f) = true ∧ KBn K fd ["number", "body", "sign"] 2 ["sign"] g (fun vs zs => vs ++ zs)
def RPa : TS := fun D σ H => ∃ (v1 v2 v3 v4 v5 v7 : Option V) (x h p : List Nat) (nv : V), σ = [some (.str (S x)), v1, v2, v3, v4, v5, some (.str (S p)), v7, some nv, some (.str (S (lst1 h)))] ∧ p.length ≤ 300 ∧
  ((∃ n : Nat, n < 10 ^ 12 ∧ h.dropLast = numL n ∧ nv = .int (n : Int)) ∨ (nv = .non ∧ ∀ n, n < 10 ^ 12 → h.dropLast ≠ numL n)) ∧ (∀ n sg b, sgn sg → x = line n sg b → h = numL n ++ [sg] ∧ p = b) ∧
  (∀ (n sg : Nat) (b : List Nat), n < 10 ^ 12 → sgn sg → bok b = true → x = line n sg b → ∀ (t : Addr) (H' : Hp), Same H H' → H' t = some (.tup [.int (n : Int), .str (S [sg]), .str (S b)]) → D.rt (.ref t) H') ∧
  (¬ IsL x → ∀ H', Same H H' → D.rt .non H')
theorem pa_5 {t1 t2 t3 : Tok} {cdv : Value} {A : Around} {outer : List Env} {s : Shared} {H0 : Hp} {E : XK} (hr : Room k (A.deeper (envOfC "parts_of_line" (defScope sParts) s.heap.objs.size f cdv))) (C_is_body : Cal P w K mg base k "is_body" ["text"] spBody) (C_line : CalLK P w K mg base k)
    (g_ENDS : mg "ENDS" = some (.str "." t1)) (g_GOES : mg "GOES" = some (.str "+" t2)) (g_MARKS : mg "MARKS" = some (.str "=" t3)) :
    PSs (cxOf CX0 P w K mg base NPa "parts_of_line" (defScope sParts) f cdv A outer s H0 E).nox ((defBody sParts).drop 5) RPa := by
  obtain ⟨fl, fdl, gl, FL, mL, kL, bL⟩ := C_line
  refine pss_by (pss_cons (ps_if (PW.pt (pw_or (pt_cmpR op_isN (pv 8) pe_non (nomark _)) (pw_or (pt_cmpR op_notIn_seq (pv 9) (pe_tup (pa_cons (pe_glob (v := .str ".") rfl g_ENDS ⟨_, rfl⟩) (pa_cons (pe_glob (v := .str "+") rfl g_GOES ⟨_, rfl⟩) (pa_cons (pe_glob (v := .str "=") rfl g_MARKS ⟨_, rfl⟩) pa_nil)))) (by with_unfolding_all rfl)) (pw_or1 (pt_not (pt_val (pe_cal C_is_body (hr.mono (by omega)) (by rfl) (pa_cons (pv 6) pa_nil))))))))
        (pss_one (ps_ret pe_non))
        pss_nil)
      (pss_cons (ps_if (pt_cmpR op_ne (pv 0) (pe_callN FL (hr.mono (by omega)) (by rfl) mL kL bL pass0 (pa_cons (pv 8) (pa_cons (pv 6) pa_nil)) (pk_cons (pv 9) pk_nil)) (nomark _))
        (pss_one (ps_ret pe_non))
        pss_nil)
      (pss_one (ps_ret (pe_tup (pa_cons (pv 8) (pa_cons (pv 9) (pa_cons (pv 6) pa_nil)))))))) ?_
  rintro D σ H ⟨v1, v2, v3, v4, v5, v7, x, h, p, nv, rfl, p300, hn, lk, q, q0⟩
  rcases hn with ⟨n, n12, en, rfl⟩ | ⟨rfl, no⟩
  · refine ⟨_, rfl, rfl, false, rfl, if_f ?_⟩
    refine ⟨_, rfl, (by show 3 ≤ sizeLine; decide), fun tp ntp => ⟨tp, _, rfl, .inr (SqT.of upd_same), rfl, rfl, ?_⟩⟩
    have s5 := same_new (o := .tup [.str ".", .str "+", .str "="]) ntp
    have e3 : (!inV (.str (S (lst1 h))) [.str ".", .str "+", .str "="]) = !decide (lst1 h = [46] ∨ lst1 h = [43] ∨ lst1 h = [61]) := congrArg (fun z => !z) (inV_3 (lst1 h) [46] [43] [61])
    by_cases hs : lst1 h = [46] ∨ lst1 h = [43] ∨ lst1 h = [61]
    · obtain ⟨sg, sgs, es⟩ : ∃ sg, sgn sg ∧ lst1 h = [sg] := by
        rcases hs with e | e | e
        · exact ⟨46, .inl rfl, e⟩
        · exact ⟨43, .inr (.inl rfl), e⟩
        · exact ⟨61, .inr (.inr rfl), e⟩
      refine ⟨false, congrArg V.bl (e3.trans (by rw [decide_eq_true hs]; rfl)), if_f ?_⟩
      rw [es]
      refine ⟨_, rfl, p, rfl, by omega, fun H6 s6 => ?_⟩
      by_cases hb : bok p = true
      · refine ⟨true, congrArg V.bl hb, if_f ?_⟩
        refine ⟨_, rfl, _, rfl, _, rfl, _, rfl, rfl, rfl, n, sg, p, rfl, n12, p300, hb, fun H7 s7 => ⟨rfl, ?_⟩⟩
        by_cases ex : x = line n sg p
        · refine ⟨false, congrArg V.bl (by rw [decide_eq_true (by rw [ex])]; rfl), if_f ?_⟩
          refine ⟨_, rfl, _, rfl, _, rfl, (by show 3 ≤ sizeLine; decide), fun t nt => ?_⟩
          exact q n sg p n12 sgs hb ex t _ ((s5.trans s6).trans (s7.trans (same_new nt))) upd_same
        · refine ⟨true, congrArg V.bl (by rw [decide_eq_false (fun z => ex (SX.S_inj (V.str.inj z)))]; rfl), if_t (q0 ?_ _ ((s5.trans s6).trans s7))⟩
          rintro ⟨n', sg', b', n12', hs', hb', e'⟩
          obtain ⟨e1, e2⟩ := lk n' sg' b' hs' e'
          rw [e1, lst1_snoc] at es
          rw [e1, List.dropLast_concat] at en
          obtain rfl := (List.cons.inj es).1
          obtain rfl := TL.numL_inj en
          rw [e2] at ex
          exact ex e'
      · refine ⟨false, congrArg V.bl (Bool.eq_false_iff.mpr hb), if_t (q0 ?_ _ (s5.trans s6))⟩
        rintro ⟨n', sg', b', n12', hs', hb', e'⟩
        rw [(lk n' sg' b' hs' e').2] at hb
        exact hb hb'
    · refine ⟨true, congrArg V.bl (e3.trans (by rw [decide_eq_false hs]; rfl)), if_t (q0 ?_ _ s5)⟩
      rintro ⟨n', sg', b', n12', hs', hb', e'⟩
      rw [(lk n' sg' b' hs' e').1, lst1_snoc] at hs
      rcases hs' with rfl | rfl | rfl <;> simp at hs
  · refine ⟨_, rfl, rfl, true, rfl, if_t (q0 ?_ _ (Same.refl _))⟩
    rintro ⟨n', sg', b', n12', hs', hb', e'⟩
    refine no n' n12' ?_
    rw [(lk n' sg' b' hs' e').1, List.dropLast_concat]
theorem ok_parts {t1 t2 t3 t4 : Tok} (F : Fun K "parts_of_line" "parts_of_line" sParts f fd) (C_read_figures : Cal P w K mg base k "read_figures" ["text", "most"] spRF) (C_is_body : Cal P w K mg base k "is_body" ["text"] spBody) (C_line : CalLK P w K mg base k)
    (g_ENDS : mg "ENDS" = some (.str "." t1)) (g_GOES : mg "GOES" = some (.str "+" t2)) (g_MARKS : mg "MARKS" = some (.str "=" t3)) (g_MOST_FIGURES : mg "MOST_FIGURES" = some (.int 12 t4)) : FnOk P w K mg base CX0 (k + 1) f fd ["line"] spParts := by
  refine F.ok scParts (fun vs H Q E h => ?_) (fun cdv A outer s H vs Q E hr h => ?_)
  · obtain ⟨x, rfl, _⟩ := h
    rfl
  · obtain ⟨x, rfl, x300, q, q0⟩ := h
    have tail := pa_5 (t1 := t1) (t2 := t2) (t3 := t3) (cdv := cdv) (outer := outer) (H0 := H) (E := E) hr C_is_body C_line g_ENDS g_GOES g_MARKS
    refine ⟨_, pss_cons (ps_asg (pe_bm PySem.F.plainAttrs_str PySem.F.slot_str_partition PySem.F.type_str_partition mt_partL (pv 0) (pa_cons pe_str pa_nil)) (pg_tup rfl (pgs_cons (pg_name (i := 1) scParts.nd rfl (.inl rfl)) (pgs_cons (pg_name (i := 2) scParts.nd rfl (.inl rfl)) (pgs_cons (pg_name (i := 3) scParts.nd rfl (.inl rfl)) pgs_nil)))))
      (pss_cons (ps_asg (pe_bm PySem.F.plainAttrs_str PySem.F.slot_str_partition PySem.F.type_str_partition mt_partL (pv 3) (pa_cons pe_str pa_nil)) (pg_tup rfl (pgs_cons (pg_name (i := 4) scParts.nd rfl (.inl rfl)) (pgs_cons (pg_name (i := 2) scParts.nd rfl (.inl rfl)) (pgs_cons (pg_name (i := 5) scParts.nd rfl (.inl rfl)) pgs_nil)))))
      (pss_cons (ps_asg (pe_bm PySem.F.plainAttrs_str PySem.F.slot_str_rpartition PySem.F.type_str_rpartition mt_rpartL (pv 5) (pa_cons pe_str pa_nil)) (pg_tup rfl (pgs_cons (pg_name (i := 6) scParts.nd rfl (.inl rfl)) (pgs_cons (pg_name (i := 2) scParts.nd rfl (.inl rfl)) (pgs_cons (pg_name (i := 7) scParts.nd rfl (.inl rfl)) pgs_nil)))))
      (pss_cons (ps_set (i := 8) scParts.nd rfl (.inl rfl) (pe_cal C_read_figures (hr.mono (by omega)) (by rfl) (pa_cons (pe_slice sl_str (pv 1) po_none (po_some (pe_un un_neg pe_int))) (pa_cons (pe_glob (v := .int 12) rfl g_MOST_FIGURES ⟨_, rfl⟩) pa_nil))))
      (pss_cons (ps_set (i := 9) scParts.nd rfl (.inl rfl) (pe_slice sl_str (pv 1) (po_some (pe_un un_neg pe_int)) po_none))
      tail)))), ?_⟩
    have small : ∀ l : List Nat, l.length ≤ 3000 → (S l).length ≤ sizeLine := fun l h => by
      rw [len_S]
      exact z3000 h
    refine ⟨_, rfl, rfl, x, rfl, rfl, small _ (by omega), fun t1 h c1 r h1 r1 k1 n1 => ?_⟩
    have s1 := same_new (o := .tup [.str (S h), .str (S c1), .str (S r)]) n1
    refine ⟨t1, _, rfl, SqT.of upd_same, rfl, _, _, rfl, _, _, rfl, _, _, rfl, rfl, ?_⟩
    refine ⟨_, rfl, rfl, r, rfl, rfl, small _ (by omega), fun t2 m c2 r' h2 r2 k2 n2 => ?_⟩
    have s2 := same_new (o := .tup [.str (S m), .str (S c2), .str (S r')]) n2
    refine ⟨t2, _, rfl, SqT.of upd_same, rfl, _, _, rfl, _, _, rfl, _, _, rfl, rfl, ?_⟩
    refine ⟨_, rfl, rfl, r', rfl, rfl, small _ (by omega), fun t3 p c3 o h3 k3 n3 => ?_⟩
    have s3 := same_new (o := .tup [.str (S p), .str (S c3), .str (S o)]) n3
    refine ⟨t3, _, rfl, SqT.of upd_same, rfl, _, _, rfl, _, _, rfl, _, _, rfl, rfl, ?_⟩
    have s13 := (s1.trans s2).trans s3
    have hl : (S h).length ≤ sizeLine := small _ (by omega)
    have lk : ∀ n sg b, sgn sg → x = line n sg b → h = numL n ++ [sg] ∧ p = b := fun n sg b hs e => by
      rw [line_eq] at e
      obtain ⟨e1, e2⟩ := k1 _ _ (head_no (sgn_ne hs)) e
      obtain ⟨_, e4⟩ := k2 _ _ (no_blank_num _) e2
      exact ⟨e1, k3 _ _ (no_blank_num _) e4⟩
    have dl : h.dropLast.length ≤ h.length := by
      rw [List.length_dropLast]
      omega
    refine ⟨_, rfl, 1, rfl, _, rfl, S h, rfl, hl, ?_⟩
    refine ⟨h.dropLast, by rw [cut_dl]; rfl, by omega, fun n H4 n12 en s4 => ?_, fun no H4 s4 => ?_⟩
    · refine ⟨_, rfl, 1, rfl, _, rfl, S h, rfl, hl, ?_⟩
      rw [cut_l1]
      exact ⟨_, _, _, _, _, _, x, h, p, _, rfl, by omega, .inl ⟨n, n12, en, rfl⟩, lk, fun n sg b a1 a2 a3 a4 t H' s' ht => q n sg b a1 a2 a3 a4 t H' ((s13.trans s4).trans s') ht, fun a H' s' => q0 a H' ((s13.trans s4).trans s')⟩
    · refine ⟨_, rfl, 1, rfl, _, rfl, S h, rfl, hl, ?_⟩
      rw [cut_l1]
      exact ⟨_, _, _, _, _, _, x, h, p, _, rfl, by omega, .inr ⟨rfl, no⟩, lk, fun n sg b a1 a2 a3 a4 t H' s' ht => q n sg b a1 a2 a3 a4 t H' ((s13.trans s4).trans s') ht, fun a H' s' => q0 a H' ((s13.trans s4).trans s')⟩
theorem line_inj {n n' sg sg' : Nat} {b b' : List Nat} (hs : sgn sg) (hs' : sgn sg') (h : line n sg b = line n' sg' b') : n = n' ∧ sg = sg' ∧ b = b' := by
  rw [line_eq, line_eq n'] at h
  obtain ⟨e1, e2⟩ := cut1 (head_no (sgn_ne hs)) (head_no (sgn_ne hs')) h
  obtain ⟨e3, e4⟩ := snoc_inj e1
  obtain ⟨_, e5⟩ := cut1 (no_blank_num _) (no_blank_num _) e2
  exact ⟨TL.numL_inj e3, e4, (cut9 (no_blank_num _) (no_blank_num _) e5).1⟩
theorem ok_errL (F : Fun K "__init__" "NoLog.__init__" sErL f fd) (T : OexC K CL) (hno : PySem.W.findIn K (.ref CL) "at" = some none) (mV : mg "ValueError" = none)
    (vV : PySem.W.findCls K (.type "ValueError") (.type "type") "__init__" = some (.val (.builtin "ValueError.__init__"))) : FnOk P w K mg base CX0 (k + 1) f fd ["self", "at"] (spErr CL "at") := by
  refine F.ok scErL (fun vs H Q E h => ?_) (fun cdv A outer s H vs Q E hr h => ?_)
  · obtain ⟨a, v, rfl, _⟩ := h
    rfl
  · obtain ⟨a, v, rfl, ha, q⟩ := h
    refine ⟨_, pss_cons (ps_expr (pe_veinit (by rfl) mV vV (pa_cons (pv 0) (pa_cons pe_str pa_nil)))) (pss_one (ps_ost (pv 0) (pv 1))), ?_⟩
    exact ⟨_, rfl, a, CL, _, rfl, by show 1 ≤ 1000; decide, T, ha, _, rfl, _, rfl, a, CL, rfl, T, hno, .inl ⟨ha, fun dx nd da => q dx nd da⟩⟩
end
/-- texts as values -/
def txts (ys : List (List Nat)) : List V := ys.map fun y => V.str (S y)
theorem txts_len (ys : List (List Nat)) : (txts ys).length = ys.length := List.length_map ..
theorem txts_snoc (ys : List (List Nat)) (y : List Nat) : txts ys ++ [V.str (S y)] = txts (ys ++ [y]) := by
  unfold txts
  rw [List.map_append]
  rfl
theorem kp_put {p l : Addr} {H Hc : Hp} {o : HO} (k : Kp p H Hc) (n : H l = none) : Kp p H (upd Hc l o) := fun y o' hy h => by
  rw [upd_ne (ne_of_none h n)]
  exact k y o' hy h
theorem pu_put {p l : Addr} {H : Hp} {o : HO} {n : Nat} (h : Pu H p n) (lp : l ≠ p) : Pu (upd H l o) p n := by
  obtain ⟨x1, x2, x3, hp, y1, y2⟩ := h
  exact ⟨x1, x2, x3, by rw [upd_ne (Ne.symm lp)]; exact hp, y1, y2⟩
section
variable {P : Program} {w : World} {K : PySem.W.Frag} {mg : Str → Option Value} {base : Heap} {f : Addr} {fd : FuncData} {k : Nat} {CL : Addr}
end
theorem txts_cat (xs ys : List (List Nat)) : txts xs ++ txts ys = txts (xs ++ ys) := by
  unfold txts
  rw [List.map_append]
section
variable {P : Program} {w : World} {K : PySem.W.Frag} {mg : Str → Option Value} {base : Heap} {f : Addr} {fd : FuncData} {k : Nat} {cdv : Value} {A : Around} {outer : List Env} {s : Shared} {H0 : Hp} {E : XK}
end
end Tg

namespace Tg
open PySem PySem.Spec PyProof.Rows L2
open SX (S)
open TL (numL)
abbrev sMay : Stmt := topS 27
abbrev sPL : Stmt := topS 28
abbrev sWL : Stmt := topS 29
theorem scMay : FnScope ["parts", "ahead", "number", "sign", "body"] ["parts", "ahead"] (defScope sMay) := ⟨rfl, rfl, rfl, by decide +kernel, rfl, by decide +kernel, by decide +kernel⟩
theorem scPL : FnScope ["lines", "told", "ahead", "at", "line", "parts"] ["lines"] (defScope sPL) := ⟨rfl, rfl, rfl, by decide +kernel, rfl, by decide +kernel, by decide +kernel⟩
theorem scWL : FnScope ["told", "length"] ["told"] (defScope sWL) := ⟨rfl, rfl, rfl, by decide +kernel, rfl, by decide +kernel, by decide +kernel⟩
/-- a row: number, sign, body -/
abbrev Rec3 := Nat × Nat × List Nat
def ROk (r : Rec3) : Prop := r.1 < 10 ^ 12 ∧ sgn r.2.1 ∧ bok r.2.2 = true ∧ r.2.2.length ≤ 16
def rln (r : Rec3) : List Nat := line r.1 r.2.1 r.2.2
def rtup (r : Rec3) : HO := .tup [.int (r.1 : Int), .str (S [r.2.1]), .str (S r.2.2)]
theorem rln_len {r : Rec3} (h : ROk r) : (rln r).length ≤ 40 := by
  have h1 := ahead_33 (sg := r.2.1) h.1 h.2.2.2
  have h2 := chk_len (ahead r.1 r.2.1 r.2.2)
  unfold rln
  rw [line_tail, List.length_append, List.length_cons]
  omega
/-- whether a row may stand behind another -/
def may : Option Rec3 → Rec3 → Bool
  | none, r => decide (r.2.1 = 61) || decide (r.1 = 1)
  | some a, r => if r.2.1 = 61 then decide (r.1 = a.1) && decide (a.2.1 ≠ 43) else decide (r.1 = a.1 + 1)
/-- rows that follow one another, from a on -/
def Fol : Option Rec3 → List Rec3 → Prop
  | _, [] => True
  | a, r :: rs => may a r = true ∧ Fol (some r) rs
/-- the row ahead of place i -/
def prev (rs : List Rec3) (i : Nat) : Option Rec3 := if i = 0 then none else rs[i - 1]?
theorem fol_at : ∀ {a : Option Rec3} {rs : List Rec3} {i : Nat} {r : Rec3}, Fol a rs → rs[i]? = some r → may (if i = 0 then a else rs[i - 1]?) r = true
  | _, [], i, r, _, h => by simp at h
  | a, x :: rs, 0, r, h, e => by
    cases e
    exact h.1
  | a, x :: rs, i + 1, r, h, e => by
    have z := fol_at (i := i) h.2 e
    rw [if_neg (by omega), show i + 1 - 1 = i by omega]
    by_cases i0 : i = 0
    · subst i0
      exact z
    · rw [if_neg i0] at z
      obtain ⟨j, rfl⟩ : ∃ j, i = j + 1 := ⟨i - 1, by omega⟩
      exact z
theorem sg_eq (a c : Nat) : decide (V.str (S [a]) = V.str (S [c])) = decide (a = c) := by
  by_cases h : a = c
  · rw [decide_eq_true h, h]
    exact decide_eq_true rfl
  · rw [decide_eq_false h]
    exact decide_eq_false fun z => h (List.cons.inj (SX.S_inj (V.str.inj z))).1
theorem int_eq (a c : Nat) : decide (V.int (a : Int) = V.int (c : Int)) = decide (a = c) := by
  by_cases h : a = c
  · rw [decide_eq_true h, h]
    exact decide_eq_true rfl
  · rw [decide_eq_false h]
    exact decide_eq_false fun z => h (by have := V.int.inj z; omega)
/-- a list of tuples of rows -/
def RwL (H : Hp) (xs : List V) (rs : List Rec3) : Prop := xs.length = rs.length ∧ ∀ (i : Nat) (r : Rec3), rs[i]? = some r → ∃ t : Addr, xs[i]? = some (V.ref t) ∧ H t = some (rtup r)
theorem RwL.same {H H' : Hp} {xs : List V} {rs : List Rec3} (h : RwL H xs rs) (s : Same H H') : RwL H' xs rs := ⟨h.1, fun i r e => by
  obtain ⟨t, e1, e2⟩ := h.2 i r e
  exact ⟨t, e1, s _ _ e2⟩⟩
theorem RwL.nil {H : Hp} : RwL H [] [] := ⟨rfl, fun i r e => by simp at e⟩
theorem RwL.snoc {H : Hp} {xs : List V} {rs : List Rec3} {t : Addr} {r : Rec3} (h : RwL H xs rs) (ht : H t = some (rtup r)) : RwL H (xs ++ [V.ref t]) (rs ++ [r]) := by
  refine ⟨by rw [List.length_append, List.length_append, h.1]; rfl, fun i r' e => ?_⟩
  by_cases lt : i < rs.length
  · rw [List.getElem?_append_left lt] at e
    obtain ⟨t', e1, e2⟩ := h.2 i r' e
    exact ⟨t', by rw [List.getElem?_append_left (by rw [h.1]; exact lt)]; exact e1, e2⟩
  · rw [List.getElem?_append_right (by omega)] at e
    have i0 : i - rs.length = 0 := by
      have := (List.getElem?_eq_some_iff.mp e).1
      rw [List.length_singleton] at this
      omega
    rw [i0] at e
    cases e
    exact ⟨t, by rw [List.getElem?_append_right (by rw [h.1]; omega), h.1, i0]; rfl, ht⟩
theorem RwL.put {Hc : Hp} {xs : List V} {rs : List Rec3} {D : Addr} {o : HO} (h : RwL Hc xs rs) (no : ∀ us, Hc D ≠ some (.tup us)) : RwL (upd Hc D o) xs rs := ⟨h.1, fun i r e => by
  obtain ⟨t, e1, e2⟩ := h.2 i r e
  refine ⟨t, e1, ?_⟩
  rw [upd_ne fun z => no _ (by rw [← z, e2]; rfl)]
  exact e2⟩
section
variable {P : Program} {w : World} {K : PySem.W.Frag} {mg : Str → Option Value} {base : Heap} {f : Addr} {fd : FuncData} {k : Nat} {CL : Addr}
/-- the row ahead, as a value -/
def AhV (H : Hp) (v : V) : Option Rec3 → Prop
  | none => v = .non
  | some a => ∃ u, v = .ref u ∧ H u = some (rtup a)
theorem AhV.same {H H' : Hp} {v : V} {a : Option Rec3} (s : Same H H') (h : AhV H v a) : AhV H' v a := by
  cases a with
  | none => exact h
  | some a =>
    obtain ⟨u, e, hu⟩ := h
    exact ⟨u, e, s _ _ hu⟩
def spMay : Sp := fun vs H Q _ => ∃ (t : Addr) (r : Rec3) (v : V) (a : Option Rec3), vs = [.ref t, v] ∧ H t = some (rtup r) ∧ AhV H v a ∧ Q (.bl (may a r)) H
theorem ok_may {t1 t2 : Tok} (F : Fun K "may_follow" "may_follow" sMay f fd) (g_GOES : mg "GOES" = some (.str "+" t1)) (g_MARKS : mg "MARKS" = some (.str "=" t2)) : FnOk P w K mg base CX0 (k + 1) f fd ["parts", "ahead"] spMay := by
  refine F.ok scMay (fun vs H Q E h => ?_) (fun cdv A outer s H vs Q E hr h => ?_)
  · obtain ⟨t, r, v, a, rfl, _⟩ := h
    rfl
  · obtain ⟨t, r, v, a, rfl, ht, ha, q⟩ := h
    obtain ⟨n, sg, b⟩ := r
    refine ⟨_, pss_cons (ps_asg (pv 0) (pg_tup rfl (pgs_cons (pg_name (i := 2) scMay.nd rfl (.inl rfl)) (pgs_cons (pg_name (i := 3) scMay.nd rfl (.inl rfl)) (pgs_cons (pg_name (i := 4) scMay.nd rfl (.inl rfl)) pgs_nil)))))
      (pss_cons (ps_if (pt_cmpR op_eq (pv 3) (pe_glob (v := .str "=") rfl g_MARKS ⟨_, rfl⟩) (nomark _))
        (pss_one (ps_ret (pe_or (pe_cmpR op_isN (pv 1) pe_non (nomark _)) (pe_one (pe_and (pe_cmpR op_eq (pv 2) (pe_ix ix_tup (pv 1) pe_int (fun _ _ => rfl)) (nomark _)) (pe_one (pe_cmpR op_ne (pe_ix ix_tup (pv 1) pe_int (fun _ _ => rfl)) (pe_glob (v := .str "+") rfl g_GOES ⟨_, rfl⟩) (nomark _))))))))
        pss_nil)
      (pss_one (ps_ret (pe_cmpR op_eq (pv 2) (pe_ifExp (pt_cmpR op_isN (pv 1) pe_non (nomark _)) pe_int (pe_op op_add (pe_ix ix_tup (pv 1) pe_int (fun _ _ => rfl)) pe_int)) (nomark _))))), ?_⟩
    refine ⟨_, rfl, t, _, rfl, SqT.of ht, rfl, _, _, rfl, _, _, rfl, _, _, rfl, rfl, ?_⟩
    have e1 : decide (V.str (S [sg]) = V.str (Str.ofString "=")) = decide (sg = 61) := sg_eq sg 61
    refine ⟨_, rfl, rfl, _, rfl, ?_⟩
    dsimp only
    rw [e1]
    by_cases h1 : sg = 61
    · subst h1
      refine if_t ?_
      cases a with
      | none =>
        obtain rfl : v = .non := ha
        refine ⟨_, rfl, rfl, true, congrArg V.bl (decide_eq_true rfl), if_t ?_⟩
        exact q
      | some a =>
        obtain ⟨u, rfl, hu⟩ := ha
        refine ⟨_, rfl, rfl, false, congrArg V.bl (decide_eq_false (fun z => nomatch z)), if_f ?_⟩
        have e3 : decide (V.int (n : Int) = V.int (a.1 : Int)) = decide (n = a.1) := int_eq n a.1
        have em : may (some a) (n, 61, b) = (decide (n = a.1) && decide (a.2.1 ≠ 43)) := rfl
        refine ⟨_, rfl, _, rfl, u, _, 0, _, rfl, rfl, SqT.of hu, rfl, rfl, decide (n = a.1), congrArg V.bl e3, ?_⟩
        by_cases h2 : n = a.1
        · rw [decide_eq_true h2]
          refine if_t ?_
          refine ⟨_, rfl, u, _, 1, _, rfl, rfl, SqT.of hu, rfl, rfl, ?_⟩
          have e4 : (!decide (V.str (S [a.2.1]) = V.str (Str.ofString "+"))) = may (some a) (n, 61, b) := by
            rw [em, decide_eq_true h2, show decide (V.str (S [a.2.1]) = V.str (Str.ofString "+")) = decide (a.2.1 = 43) from sg_eq a.2.1 43]
            by_cases h3 : a.2.1 = 43
            · rw [decide_eq_true h3, decide_eq_false (not_not_intro h3)]
              rfl
            · rw [decide_eq_false h3, decide_eq_true h3]
              rfl
          rw [e4]
          exact q
        · rw [decide_eq_false h2]
          refine if_f ?_
          have e5 : may (some a) (n, 61, b) = false := by
            rw [em, decide_eq_false h2]
            rfl
          rw [e5] at q
          exact q
    · rw [decide_eq_false h1]
      refine if_f ⟨_, rfl, _, rfl, rfl, ?_⟩
      cases a with
      | none =>
        obtain rfl : v = .non := ha
        refine ⟨true, congrArg V.bl (decide_eq_true rfl), if_t ⟨rfl, ?_⟩⟩
        have e6 : V.bl (decide (V.int (n : Int) = V.int 1)) = V.bl (may none (n, sg, b)) := by
          rw [show decide (V.int (n : Int) = V.int 1) = decide (n = 1) from int_eq n 1]
          show _ = V.bl (decide (sg = 61) || decide (n = 1))
          rw [decide_eq_false h1, Bool.false_or]
        rw [e6]
        exact q
      | some a =>
        obtain ⟨u, rfl, hu⟩ := ha
        refine ⟨false, congrArg V.bl (decide_eq_false (fun z => nomatch z)), if_f ⟨_, rfl, u, _, 0, _, rfl, rfl, SqT.of hu, rfl, _, _, rfl, rfl, rfl, ?_⟩⟩
        have e7 : V.bl (decide (V.int (n : Int) = V.int ((a.1 : Int) + 1))) = V.bl (may (some a) (n, sg, b)) := by
          rw [show decide (V.int (n : Int) = V.int ((a.1 : Int) + 1)) = decide (n = a.1 + 1) from int_eq n (a.1 + 1)]
          show _ = V.bl (if sg = 61 then _ else _)
          rw [if_neg h1]
        rw [e7]
        exact q
/-- the parts of lines that follow one another -/
def spPL : Sp := fun vs H Q _ => ∃ (l : Addr) (rs : List Rec3), vs = [.ref l] ∧ H l = some (.lst (txts (rs.map rln))) ∧ rs.length ≤ 60 ∧ (∀ r, r ∈ rs → ROk r) ∧ Fol none rs ∧ ∀ (D : Addr) (ys : List V) (H' : Hp), Same H H' → H' D = some (.lst ys) → RwL H' ys rs → Q (.ref D) H'
theorem txts_at {rs : List Rec3} {j : Nat} {x : V} (h : (txts (rs.map rln))[j]? = some x) : ∃ r, rs[j]? = some r ∧ x = .str (S (rln r)) := by
  unfold txts at h
  rw [List.map_map, List.getElem?_map] at h
  obtain ⟨r, hr, rfl⟩ := Option.map_eq_some_iff.mp h
  exact ⟨r, hr, rfl⟩
theorem ok_pl (F : Fun K "parts_of_lines" "parts_of_lines" sPL f fd) (C_parts_of_line : Cal P w K mg base k "parts_of_line" ["line"] spParts) (C_may_follow : Cal P w K mg base k "may_follow" ["parts", "ahead"] spMay) (m_enumerate : mg "enumerate" = none) : FnOk P w K mg base CX0 (k + 1) f fd ["lines"] spPL := by
  refine F.ok scPL (fun vs H Q E h => ?_) (fun cdv A outer s H vs Q E hr h => ?_)
  · obtain ⟨l, rs, rfl, _⟩ := h
    rfl
  · obtain ⟨l, rs, rfl, hl, r20, ok, fol, q⟩ := h
    refine ⟨_, pss_cons (ps_set (i := 1) scPL.nd rfl (.inl rfl) (pe_lst pa_nil))
      (pss_cons (ps_set (i := 2) scPL.nd rfl (.inl rfl) pe_non)
      (pss_cons (ps_for PassesOwn.never rfl (pi_enum (by rfl) m_enumerate (pa_cons (pv 0) pa_nil)) (pg_tup rfl (pgs_cons (pg_name (i := 3) scPL.nd rfl (.inl rfl)) (pgs_cons (pg_name (i := 4) scPL.nd rfl (.inl rfl)) pgs_nil)))
        (pss_cons (ps_set (i := 5) scPL.nd rfl (.inl rfl) (pe_cal C_parts_of_line (hr.mono (by omega)) (by rfl) (pa_cons (pv 4) pa_nil)))
        (pss_cons (ps_if (PW.pt (pw_or (pt_cmpR op_isN (pv 5) pe_non (nomark _)) (pw_or1 (pt_not (pt_val (pe_cal C_may_follow (hr.mono (by omega)) (by rfl) (pa_cons (pv 5) (pa_cons (pv 2) pa_nil))))))))
          (pss_one ps_dead)
          pss_nil)
        (pss_cons (ps_expr (pe_bm PySem.F.plainAttrs_list PySem.F.slot_list_append PySem.F.type_list_append mt_append (pv 1) (pa_cons (pv 5) pa_nil)))
        (pss_one (ps_set (i := 2) scPL.nd rfl (.inl rfl) (pv 5)))))))
      (pss_one (ps_ret (pv 1))))), ?_⟩
    refine ⟨Nat.zero_le _, fun D nD => ?_⟩
    have s0 := same_new (o := .lst []) nD
    refine ⟨_, rfl, l, _, rfl, SqL.of (s0 _ _ hl), for_it (walk_enum (K := K) (a := l) (xs := txts (rs.map rln))) (fun j σ Hc => ∃ (v : V) (z3 z4 z5 : Option V) (ys : List V), σ = [some (.ref l), some (.ref D), some v, z3, z4, z5] ∧ Same H Hc ∧ Hc D = some (.lst ys) ∧ RwL Hc ys (rs.take j) ∧ AhV Hc v (prev rs j)) ⟨.non, none, none, none, [], rfl, s0, upd_same, RwL.nil, rfl⟩ (fun j σ Hc _ h => by obtain ⟨_, _, _, _, _, _, sc, _⟩ := h; exact SqL.of (sc _ _ hl)) ?_ ?_⟩
    · rintro j x σ Hc Hc' hj ⟨v, z3, z4, z5, ys, rfl, sc, hD, rl, av⟩ ⟨T, i0, x0, rfl, nT, rfl, e1, e2⟩
      cases e1
      obtain ⟨r, hr3, rfl⟩ := txts_at e2
      have jl : j < rs.length := (List.getElem?_eq_some_iff.mp hr3).1
      have sT := same_new (o := .tup [.int (j : Nat), .str (S (rln r))]) nT
      have rok := ok r (List.mem_of_getElem? hr3)
      have r40 := rln_len rok
      refine ⟨T, _, rfl, SqT.of upd_same, rfl, _, _, rfl, _, _, rfl, rfl, ?_⟩
      refine ⟨_, rfl, rln r, rfl, by omega, fun n sg b a1 a2 a3 a4 t H1 s1 ht => ?_, fun no => (no ⟨_, _, _, rok.1, rok.2.1, rok.2.2.1, rfl⟩).elim⟩
      obtain ⟨rfl, rfl, rfl⟩ := line_inj rok.2.1 a2 a4
      have ht' : H1 t = some (rtup r) := ht
      have c1 := (sT.trans s1)
      refine ⟨_, rfl, rfl, false, rfl, if_f ?_⟩
      have fm := fol_at fol hr3
      refine ⟨_, rfl, _, rfl, t, r, v, prev rs j, rfl, ht', av.same c1, true, congrArg V.bl fm, if_f ?_⟩
      have hD1 := c1 _ _ hD
      refine ⟨_, rfl, .inl ⟨rfl, _, SqL.of hD1⟩, _, rfl, D, _, _, rfl, rfl, hD1, ?_, ?_⟩
      · rw [rl.1, List.length_take]
        exact small1000 (by omega)
      · have nt : ∀ us, H1 D ≠ some (.tup us) := fun us z => by
          rw [hD1] at z
          cases z
        have rl1 := (rl.same c1).put (o := .lst (ys ++ [.ref t])) nt
        have tD : t ≠ D := fun z => nt _ (by rw [← z]; exact ht')
        refine ⟨_, rfl, .ref t, _, _, _, _, rfl, ?_, upd_same, ?_, ?_⟩
        · exact same_put nD (sc.trans c1)
        · rw [take_snoc hr3]
          exact RwL.snoc rl1 (by rw [upd_ne tD]; exact ht')
        · show AhV _ _ (if j + 1 = 0 then none else rs[j + 1 - 1]?)
          rw [if_neg (by omega), show j + 1 - 1 = j by omega, hr3]
          exact ⟨t, rfl, by rw [upd_ne tD]; exact ht'⟩
    · rintro σ Hc ⟨v, z3, z4, z5, ys, rfl, sc, hD, rl, av⟩
      rw [txts_len, List.length_map, List.take_length] at rl
      exact ⟨_, rfl, q D ys Hc sc hD rl⟩
/-- refused at the first that is none or may not stand there -/
def spPLN (CL : Addr) : Sp := fun vs H _ E => ∃ (l : Addr) (rs : List Rec3) (x : List Nat) (rest : List (List Nat)), vs = [.ref l] ∧ H l = some (.lst (txts (rs.map rln ++ x :: rest))) ∧ rs.length ≤ 60 ∧ (∀ r, r ∈ rs → ROk r) ∧ Fol none rs ∧ x.length ≤ 300 ∧ (¬ IsL x ∨ ∃ r, ROk r ∧ x = rln r ∧ may (prev rs rs.length) r = false) ∧
  ∀ (d : Addr) (H' : Hp), Same H H' → H' d = some (.xd [("at", .int (rs.length : Int))]) → E (.ref CL) (some d) H'
theorem txts_at2 {rs : List Rec3} {x : List Nat} {rest : List (List Nat)} {j : Nat} {v : V} (h : (txts (rs.map rln ++ x :: rest))[j]? = some v) (lt : j < rs.length) : ∃ r, rs[j]? = some r ∧ v = .str (S (rln r)) := by
  rw [← txts_cat, List.getElem?_append_left (by rw [txts_len, List.length_map]; exact lt)] at h
  exact txts_at h
theorem txts_at3 {rs : List Rec3} {x : List Nat} {rest : List (List Nat)} {v : V} (h : (txts (rs.map rln ++ x :: rest))[rs.length]? = some v) : v = .str (S x) := by
  rw [← txts_cat, List.getElem?_append_right (by rw [txts_len, List.length_map]; exact Nat.le_refl _), txts_len, List.length_map, Nat.sub_self] at h
  cases h
  rfl
theorem ok_plN (F : Fun K "parts_of_lines" "parts_of_lines" sPL f fd) (C_parts_of_line : Cal P w K mg base (k + 1) "parts_of_line" ["line"] spParts) (C_may_follow : Cal P w K mg base (k + 1) "may_follow" ["parts", "ahead"] spMay) (C_err : CalE P w K mg base k "NoLog" CL "at") (m_enumerate : mg "enumerate" = none) : FnOk P w K mg base (L2.CX P w) (k + 2) f fd ["lines"] (spPLN CL) := by
  refine F.okX scPL (fun vs H Q E h => ?_) (fun cdv A outer s H vs Q E hr h => ?_)
  · obtain ⟨l, rs, x, rest, rfl, _⟩ := h
    rfl
  · obtain ⟨l, rs, x, rest, rfl, hl, r20, ok, fol, x300, bad, q⟩ := h
    refine ⟨_, pss_cons (ps_set (i := 1) scPL.nd rfl (.inl rfl) (pe_lst pa_nil))
      (pss_cons (ps_set (i := 2) scPL.nd rfl (.inl rfl) pe_non)
      (pss_cons (ps_for (passes_of rfl) rfl (pi_enum (by rfl) m_enumerate (pa_cons (pv 0) pa_nil)) (pg_tup rfl (pgs_cons (pg_name (i := 3) scPL.nd rfl (.inl rfl)) (pgs_cons (pg_name (i := 4) scPL.nd rfl (.inl rfl)) pgs_nil)))
        (pss_cons (ps_set (i := 5) scPL.nd rfl (.inl rfl) (pe_cal C_parts_of_line (hr.mono (by omega)) (by rfl) (pa_cons (pv 4) pa_nil)))
        (pss_cons (ps_if (PW.pt (pw_or (pt_cmpR op_isN (pv 5) pe_non (nomark _)) (pw_or1 (pt_not (pt_val (pe_cal C_may_follow (hr.mono (by omega)) (by rfl) (pa_cons (pv 5) (pa_cons (pv 2) pa_nil))))))))
          (pss_one (ps_raise rfl (takes_of rfl rfl rfl rfl) (pm_err C_err hr (by rfl) (pv 3))))
          pss_nil)
        (pss_cons (ps_expr (pe_bm PySem.F.plainAttrs_list PySem.F.slot_list_append PySem.F.type_list_append mt_append (pv 1) (pa_cons (pv 5) pa_nil)))
        (pss_one (ps_set (i := 2) scPL.nd rfl (.inl rfl) (pv 5)))))))
      (pss_one (ps_ret (pv 1))))), ?_⟩
    refine ⟨Nat.zero_le _, fun D nD => ?_⟩
    have s0 := same_new (o := .lst []) nD
    refine ⟨_, rfl, l, _, rfl, SqL.of (s0 _ _ hl), for_it (walk_enum (K := K) (a := l) (xs := txts (rs.map rln ++ x :: rest))) (fun j σ Hc => ∃ (v : V) (z3 z4 z5 : Option V) (ys : List V), σ = [some (.ref l), some (.ref D), some v, z3, z4, z5] ∧ Same H Hc ∧ Hc D = some (.lst ys) ∧ ys.length = j ∧ j ≤ rs.length ∧ AhV Hc v (prev rs j)) ⟨.non, none, none, none, [], rfl, s0, upd_same, rfl, Nat.zero_le _, rfl⟩ (fun j σ Hc _ h => by obtain ⟨_, _, _, _, _, _, sc, _⟩ := h; exact SqL.of (sc _ _ hl)) ?_ ?_⟩
    · rintro j v0 σ Hc Hc' hj ⟨v, z3, z4, z5, ys, rfl, sc, hD, yl, jr, av⟩ ⟨T, i0, x0, rfl, nT, rfl, e1, e2⟩
      cases e1
      by_cases lt : j < rs.length
      · obtain ⟨r, hr3, rfl⟩ := txts_at2 e2 lt
        have sT := same_new (o := .tup [.int (j : Nat), .str (S (rln r))]) nT
        have rok := ok r (List.mem_of_getElem? hr3)
        have r40 := rln_len rok
        refine ⟨T, _, rfl, SqT.of upd_same, rfl, _, _, rfl, _, _, rfl, rfl, ?_⟩
        refine ⟨_, rfl, rln r, rfl, by omega, fun n sg b a1 a2 a3 a4 t H1 s1 ht => ?_, fun no => (no ⟨_, _, _, rok.1, rok.2.1, rok.2.2.1, rfl⟩).elim⟩
        obtain ⟨rfl, rfl, rfl⟩ := line_inj rok.2.1 a2 a4
        have ht' : H1 t = some (rtup r) := ht
        have c1 := (sT.trans s1)
        refine ⟨_, rfl, rfl, false, rfl, if_f ?_⟩
        have fm := fol_at fol hr3
        refine ⟨_, rfl, _, rfl, t, r, v, prev rs j, rfl, ht', av.same c1, true, congrArg V.bl fm, if_f ?_⟩
        have hD1 := c1 _ _ hD
        refine ⟨_, rfl, .inl ⟨rfl, _, SqL.of hD1⟩, _, rfl, D, _, _, rfl, rfl, hD1, ?_, ?_⟩
        · rw [yl]
          exact small1000 (by omega)
        · have tD : t ≠ D := fun z => by
            rw [z, hD1] at ht'
            cases ht'
          refine ⟨_, rfl, .ref t, _, _, _, _, rfl, same_put nD (sc.trans c1), upd_same, by rw [List.length_append, yl]; rfl, by omega, ?_⟩
          show AhV _ _ (if j + 1 = 0 then none else rs[j + 1 - 1]?)
          rw [if_neg (by omega), show j + 1 - 1 = j by omega, hr3]
          exact ⟨t, rfl, by rw [upd_ne tD]; exact ht'⟩
      · obtain rfl : j = rs.length := by omega
        obtain rfl := txts_at3 e2
        have sT := same_new (o := .tup [.int (rs.length : Nat), .str (S x)]) nT
        refine ⟨T, _, rfl, SqT.of upd_same, rfl, _, _, rfl, _, _, rfl, rfl, ?_⟩
        refine ⟨_, rfl, x, rfl, x300, fun n sg b a1 a2 a3 a4 t H1 s1 ht => ?_, fun no H1 s1 => ⟨_, rfl, rfl, true, rfl, if_t (err_read ⟨_, rfl, fun d H' s' nd hd => q d H' ((sc.trans (sT.trans s1)).trans s') hd⟩ fun {Q Q'} hq ⟨v, e, q⟩ => ⟨v, e, hq _ _ q⟩)⟩⟩
        rcases bad with no | ⟨r, rok, ex, nm⟩
        · exact (no ⟨n, sg, b, a1, a2, a3, a4⟩).elim
        · rw [ex] at a4
          obtain ⟨rfl, rfl, rfl⟩ := line_inj rok.2.1 a2 a4
          have ht' : H1 t = some (rtup r) := ht
          have c1 := (sT.trans s1)
          refine ⟨_, rfl, rfl, false, rfl, if_f ?_⟩
          refine ⟨_, rfl, _, rfl, t, r, v, prev rs rs.length, rfl, ht', av.same c1, false, congrArg V.bl nm, if_t ?_⟩
          exact err_read ⟨_, rfl, fun d H' s' nd hd => q d H' ((sc.trans c1).trans s') hd⟩ fun {Q Q'} hq ⟨v, e, q⟩ => ⟨v, e, hq _ _ q⟩
    · rintro σ Hc ⟨v, z3, z4, z5, ys, rfl, sc, hD, yl, jr, av⟩
      rw [txts_len, List.length_append, List.length_map, List.length_cons] at jr
      omega
/-- how many rows belong to whole deeds -/
def whole (rs : List Rec3) : Nat → Nat
  | 0 => 0
  | m + 1 => match rs[m]? with
    | some r => if r.2.1 = 43 then whole rs m else m + 1
    | none => m + 1
theorem whole_le (rs : List Rec3) : ∀ m, whole rs m ≤ m
  | 0 => Nat.le_refl _
  | m + 1 => by
    unfold whole
    split
    · split
      · exact Nat.le_succ_of_le (whole_le rs m)
      · exact Nat.le_refl _
    · exact Nat.le_refl _
/-- the second name's number -/
def cnt1 (σ : List (Option V)) : Nat := match σ with
  | _ :: some (V.int i) :: _ => i.toNat
  | _ => 0
def spWL : Sp := fun vs H Q _ => ∃ (l : Addr) (ys : List V) (rs : List Rec3), vs = [.ref l] ∧ H l = some (.lst ys) ∧ RwL H ys rs ∧ rs.length ≤ 60 ∧ Q (.int (whole rs rs.length : Int)) H
theorem ok_wl {t1 : Tok} (F : Fun K "whole_length" "whole_length" sWL f fd) (g_GOES : mg "GOES" = some (.str "+" t1)) (m_len : mg "len" = none) : FnOk P w K mg base CX0 (k + 1) f fd ["told"] spWL := by
  refine F.ok scWL (fun vs H Q E h => ?_) (fun cdv A outer s H vs Q E hr h => ?_)
  · obtain ⟨l, ys, rs, rfl, _⟩ := h
    rfl
  · obtain ⟨l, ys, rs, rfl, hl, rl, r20, q⟩ := h
    refine ⟨_, pss_cons (ps_set (i := 1) scWL.nd rfl (.inl rfl) (pe_callB call_len_seq (by rfl) m_len (by decide +kernel) (pa_cons (pv 0) pa_nil)))
      (pss_cons (ps_while PassesOwn.never (PW.pt (pw_and (pt_cmpR op_gt (pv 1) pe_int (nomark _)) (pw_and1 (pt_cmpR op_eq (pe_ix ix_tup (pe_ix ix_list (pv 0) (pe_op op_sub (pv 1) pe_int) (fun _ _ => rfl)) pe_int (fun _ _ => rfl)) (pe_glob (v := .str "+") rfl g_GOES ⟨_, rfl⟩) (nomark _)))))
        (pss_one (ps_aug (i := 1) scWL.nd rfl (.inl rfl) pe_int ip_sub)))
      (pss_one (ps_ret (pv 1)))), ?_⟩
    refine ⟨_, rfl, l, ys, rfl, .inl (SqL.of hl), ?_⟩
    rw [rl.1]
    refine while_by (fun σ H2 => ∃ m : Nat, σ = [some (.ref l), some (.int (m : Int))] ∧ H2 = H ∧ m ≤ rs.length ∧ whole rs m = whole rs rs.length) (fun σ _ => cnt1 σ) ⟨rs.length, rfl, rfl, Nat.le_refl _, rfl⟩ ?_ ?_
    · rintro σ H2 ⟨m, rfl, rfl, mr, ew⟩
      refine ⟨_, rfl, (m : Int), 0, rfl, rfl, _, rfl, ite2 (fun g => ?_) (fun g => ?_)⟩
      · obtain ⟨j, rfl⟩ : ∃ j, m = j + 1 := ⟨m - 1, by have : (0 : Int) < m := of_decide_eq_true g; omega⟩
        obtain ⟨r, hr3⟩ : ∃ r, rs[j]? = some r := ⟨_, List.getElem?_eq_getElem (by omega)⟩
        obtain ⟨t, e1, ht⟩ := rl.2 j r hr3
        have e2 : decide (V.str (S [r.2.1]) = V.str (Str.ofString "+")) = decide (r.2.1 = 43) := sg_eq r.2.1 43
        have wj : whole rs (j + 1) = if r.2.1 = 43 then whole rs j else j + 1 := by
          show (match rs[j]? with | some r => if r.2.1 = 43 then whole rs j else j + 1 | none => j + 1) = _
          rw [hr3]
        refine ⟨_, rfl, _, rfl, _, _, rfl, rfl, l, ys, _, .ref t, rfl, rfl, SqL.of hl, at_pred e1, t, _, 1, _, rfl, rfl, SqT.of ht, rfl, rfl, decide (r.2.1 = 43), congrArg V.bl e2, ?_⟩
        by_cases h3 : r.2.1 = 43
        · rw [decide_eq_true h3]
          rw [if_pos h3] at wj
          refine if_t ?_
          refine ⟨_, rfl, _, _, rfl, rfl, ⟨j, ?_, rfl, by omega, by omega⟩, ?_⟩
          · show [some (V.ref l), some (V.int (((j + 1 : Nat) : Int) - 1))] = _
            rw [show (((j + 1 : Nat) : Int) - 1) = (j : Int) by omega]
          · show ((((j + 1 : Nat) : Int) - 1)).toNat < (((j + 1 : Nat) : Int)).toNat
            omega
        · rw [decide_eq_false h3]
          rw [if_neg h3] at wj
          refine if_f ⟨_, rfl, ?_⟩
          rw [← ew, wj] at q
          exact q
      · obtain rfl : m = 0 := by
          have : ¬ (0 : Int) < m := fun z => g (decide_eq_true z)
          omega
        refine ⟨_, rfl, ?_⟩
        rw [← ew] at q
        exact q
    · rintro σ H2 Q1 Q2 hq ⟨v1, e1, i1, j1, r1, r2, b1, eb, h⟩
      refine ⟨v1, e1, i1, j1, r1, r2, b1, eb, ?_⟩
      cases b1 with
      | false => exact if_f (hq _ _ (by simpa using h))
      | true =>
        obtain ⟨a1, a2, a3, a4, a5, a6, a7, a8, b1, b2, b3, b4, b5, b6, b7, b8, c1, c2, c3, c4, c5, c6, c7, c8, d1, d2, d3, hh⟩ := (if_pos rfl).mp h
        exact if_t ⟨a1, a2, a3, a4, a5, a6, a7, a8, b1, b2, b3, b4, b5, b6, b7, b8, c1, c2, c3, c4, c5, c6, c7, c8, d1, d2, d3, hq _ _ hh⟩
end
end Tg

namespace Tg
open PySem PySem.Spec PyProof.Rows L2
open SX (S)
open TL (numL)
/-! marks, and what stands behind the last one -/
open SX (S)
open TL (numL)
def isM (rs : List Rec3) (i : Nat) : Bool := match rs[i]? with
  | some r => decide (r.2.1 = 61)
  | none => false
/-- the places of marks -/
def mks (rs : List Rec3) (m : Nat) : List Nat := (List.range m).filter (isM rs)
theorem mks_succ (rs : List Rec3) (m : Nat) : mks rs (m + 1) = mks rs m ++ (if isM rs m = true then [m] else []) := by
  unfold mks
  rw [List.range_succ, List.filter_append]
  congr 1
  by_cases h : isM rs m = true
  · rw [if_pos h, List.filter_cons, if_pos h, List.filter_nil]
  · rw [if_neg h, List.filter_cons, if_neg h, List.filter_nil]
theorem mks_len (rs : List Rec3) (m : Nat) : (mks rs m).length ≤ m := by
  have := List.length_filter_le (isM rs) (List.range m)
  rw [List.length_range] at this
  exact this
theorem mks_mem {rs : List Rec3} {m i : Nat} (h : i ∈ mks rs m) : i < m ∧ isM rs i = true := by
  obtain ⟨h1, h2⟩ := List.mem_filter.mp h
  exact ⟨List.mem_range.mp h1, h2⟩
/-- the last mark: none ahead of m, or the one at i and none behind it -/
theorem mks_last (rs : List Rec3) : ∀ m, (mks rs m = [] ∧ ∀ i, i < m → isM rs i = false) ∨ ∃ ks i, mks rs m = ks ++ [i] ∧ i < m ∧ isM rs i = true ∧ ∀ j, i < j → j < m → isM rs j = false
  | 0 => .inl ⟨rfl, fun i h => by omega⟩
  | m + 1 => by
    rw [mks_succ]
    by_cases h : isM rs m = true
    · rw [if_pos h]
      exact .inr ⟨_, m, rfl, by omega, h, fun j h1 h2 => by omega⟩
    · rw [if_neg h, List.append_nil]
      have h' : isM rs m = false := Bool.eq_false_iff.mpr h
      rcases mks_last rs m with ⟨e, no⟩ | ⟨ks, i, e, lt, hi, no⟩
      · refine .inl ⟨e, fun i hi => ?_⟩
        rcases Nat.lt_or_ge i m with z | z
        · exact no i z
        · rw [show i = m by omega]
          exact h'
      · refine .inr ⟨ks, i, e, by omega, hi, fun j h1 h2 => ?_⟩
        rcases Nat.lt_or_ge j m with z | z
        · exact no j h1 z
        · rw [show j = m by omega]
          exact h'
/-- where the program begins, and where the law does; the mark's body -/
def begP (rs : List Rec3) (m : Nat) : Nat := (mks rs m).getLast?.getD 0
def begL (rs : List Rec3) (m : Nat) : Nat := match (mks rs m).getLast? with
  | some i => i + 1
  | none => 0
def mkB (rs : List Rec3) (m : Nat) : Option (List Nat) := match (mks rs m).getLast? with
  | some i => (rs[i]?).map (·.2.2)
  | none => none
theorem filter_all {l : List Rec3} {p : Rec3 → Bool} (h : ∀ r, r ∈ l → p r = true) : l.filter p = l := List.filter_eq_self.mpr h
theorem take_mem {rs : List Rec3} {m : Nat} {r : Rec3} {b : Nat} (h : r ∈ (rs.take m).drop b) : ∃ i, b ≤ i ∧ i < m ∧ rs[i]? = some r := by
  obtain ⟨j, hj⟩ := List.mem_iff_getElem?.mp h
  rw [List.getElem?_drop] at hj
  have lt := (List.getElem?_eq_some_iff.mp hj).1
  rw [List.length_take] at lt
  rw [List.getElem?_take_of_lt (by omega)] at hj
  exact ⟨b + j, by omega, by omega, hj⟩
/-- the bodies behind the last mark -/
theorem bodies_eq (rs : List Rec3) {m : Nat} (hm : m ≤ rs.length) : ((rs.take m).drop (begP rs m)).filter (fun r => decide (r.2.1 ≠ 61)) = (rs.take m).drop (begL rs m) := by
  have no61 : ∀ {b : Nat}, (∀ i, b ≤ i → i < m → isM rs i = false) → ((rs.take m).drop b).filter (fun r => decide (r.2.1 ≠ 61)) = (rs.take m).drop b := fun {b} no => filter_all fun r hr => by
    obtain ⟨i, h1, h2, h3⟩ := take_mem hr
    have z := no i h1 h2
    unfold isM at z
    rw [h3] at z
    exact decide_eq_true (of_decide_eq_false z)
  rcases mks_last rs m with ⟨e, no⟩ | ⟨ks, i, e, lt, hi, no⟩
  · unfold begP begL
    rw [e]
    exact no61 fun i _ h => no i h
  · unfold begP begL
    rw [e, List.getLast?_append, List.getLast?_singleton]
    show ((rs.take m).drop i).filter _ = (rs.take m).drop (i + 1)
    have il : i < (rs.take m).length := by rw [List.length_take]; omega
    rw [List.drop_eq_getElem_cons il, List.filter_cons, no61 fun j h1 h2 => no j (by omega) h2]
    have gi : rs[i]? = some (rs.take m)[i] := by
      rw [← List.getElem?_eq_getElem il, List.getElem?_take_of_lt lt]
    unfold isM at hi
    rw [gi] at hi
    have hi' := of_decide_eq_true hi
    rw [if_neg (by simpa using hi')]
theorem cutV_to (l : List V) (m : Nat) : cutV l none (some (m : Int)) = l.take m := by
  unfold cutV
  rw [HT.sIx_nat]
  show (l.drop 0).take (min m l.length - 0) = _
  rw [List.drop_zero, Nat.sub_zero]
  by_cases h : m ≤ l.length
  · rw [Nat.min_eq_left h]
  · rw [Nat.min_eq_right (by omega), List.take_length, List.take_of_length_le (by omega)]
theorem cutV_from (l : List V) {m : Nat} (h : m ≤ l.length) : cutV l (some (m : Int)) none = l.drop m := by
  unfold cutV
  rw [HT.sIx_nat, Nat.min_eq_left h]
  exact List.take_of_length_le (by rw [List.length_drop]; exact Nat.le_refl _)
theorem cutV_mid (l : List V) {a m : Nat} (h : a ≤ l.length) (h2 : m ≤ l.length) : cutV l (some (a : Int)) (some (m : Int)) = (l.take m).drop a := by
  unfold cutV
  rw [HT.sIx_nat, HT.sIx_nat, Nat.min_eq_left h, Nat.min_eq_left h2, List.drop_take]
theorem cutV_init (l : List V) (x : V) : cutV (l ++ [x]) none (some (-1)) = l := by
  unfold cutV
  simp only [List.length_singleton, List.length_append]
  show ((l ++ [x]).drop 0).take (((-1 : Int) + ((l.length + 1 : Nat) : Int)).toNat - 0) = _
  rw [show ((-1 : Int) + ((l.length + 1 : Nat) : Int)).toNat - 0 = l.length by omega, List.drop_zero, List.take_left']
  rfl
theorem txts_map (zs : List (List Nat)) : txts zs = (zs.map S).map V.str := by
  unfold txts
  rw [List.map_map]
  rfl
theorem txts_take (zs : List (List Nat)) (m : Nat) : (txts zs).take m = txts (zs.take m) := by
  unfold txts
  rw [List.map_take]
theorem txts_drop (zs : List (List Nat)) (m : Nat) : (txts zs).drop m = txts (zs.drop m) := by
  unfold txts
  rw [List.map_drop]
theorem sum_le : ∀ {zs : List (List Nat)}, (∀ z, z ∈ zs → z.length ≤ 100) → ((zs.map S).map (·.length)).sum ≤ zs.length * 100
  | [], _ => Nat.zero_le _
  | z :: zs, h => by
    have ih := sum_le (zs := zs) fun y hy => h y (List.mem_cons_of_mem _ hy)
    have h0 := h z (List.mem_cons_self ..)
    show (S z).length + ((zs.map S).map (·.length)).sum ≤ (zs.length + 1) * 100
    rw [SX.S_len, Nat.add_mul]
    omega
theorem split_nl {ps : List (List Nat)} (ne : ps ≠ []) (no : ∀ p, p ∈ ps → 10 ∉ p) : Txt.split (S (TL.joinL [10] ps)) (Str.ofString "\n") = ps.map S := by
  have e := SX.split_S (a := TL.joinL [10] ps) (b := [10]) (by decide) (by decide)
  rw [TL.spl_join (s := 10) (S := []) ne no] at e
  exact e
theorem joinL_len : ∀ (ps : List (List Nat)), (∀ p, p ∈ ps → p.length ≤ 100) → (TL.joinL [10] ps).length ≤ ps.length * 101
  | [], _ => Nat.zero_le _
  | [p], h => by
    have := h p (List.mem_cons_self ..)
    show p.length ≤ 1 * 101
    omega
  | p :: q :: r, h => by
    have ih := joinL_len (q :: r) fun y hy => h y (List.mem_cons_of_mem _ hy)
    have h0 := h p (List.mem_cons_self ..)
    show (p ++ ([10] ++ TL.joinL [10] (q :: r))).length ≤ (r.length + 1 + 1) * 101
    rw [List.length_append, List.length_append, List.length_singleton]
    rw [List.length_cons] at ih
    omega
theorem rln_no {r : Rec3} (h : ROk r) : 10 ∉ rln r := fun z => by
  unfold rln at z
  rw [line_tail] at z
  obtain z | z := List.mem_append.mp z
  · have := (ahead_signs h.2.1 h.2.2.1 10 z).1
    omega
  · obtain z | z := List.mem_cons.mp z
    · omega
    · have := num_all _ 10 z
      omega
theorem RwL.take {H : Hp} {xs : List V} {rs : List Rec3} (h : RwL H xs rs) (m : Nat) : RwL H (xs.take m) (rs.take m) := by
  refine ⟨by rw [List.length_take, List.length_take, h.1], fun i r e => ?_⟩
  have lt := (List.getElem?_eq_some_iff.mp e).1
  rw [List.length_take] at lt
  rw [List.getElem?_take_of_lt (by omega)] at e ⊢
  exact h.2 i r e
theorem RwL.drop {H : Hp} {xs : List V} {rs : List Rec3} (h : RwL H xs rs) (m : Nat) : RwL H (xs.drop m) (rs.drop m) := by
  refine ⟨by rw [List.length_drop, List.length_drop, h.1], fun i r e => ?_⟩
  rw [List.getElem?_drop] at e ⊢
  exact h.2 _ r e
end Tg

namespace Tg
open PySem PySem.Spec PyProof.Rows L2
open SX (S)
open TL (numL)
abbrev sLI : Stmt := inCls (topS 25) 0
abbrev sLN : Stmt := inCls (topS 25) 2
abbrev sWr : Stmt := inCls (topS 25) 3
abbrev sBu : Stmt := inCls (topS 25) 4
abbrev sMk : Stmt := inCls (topS 25) 5
abbrev sLS : Stmt := inCls (topS 25) 6
abbrev sTx : Stmt := inCls (topS 25) 7
abbrev sTr : Stmt := inCls (topS 25) 8
abbrev sLW : Stmt := topS 26
abbrev NBu : List Str := ["self", "bodies", "told", "signs", "lines", "number", "body", "sign"]
abbrev NTx : List Str := ["self", "line"]
theorem scLI : FnScope ["self"] ["self"] (defScope sLI) := ⟨rfl, rfl, rfl, by decide +kernel, rfl, by decide +kernel, by decide +kernel⟩
theorem scLN : FnScope ["self"] ["self"] (defScope sLN) := ⟨rfl, rfl, rfl, by decide +kernel, rfl, by decide +kernel, by decide +kernel⟩
theorem scWr : FnScope ["self", "body", "line"] ["self", "body"] (defScope sWr) := ⟨rfl, rfl, rfl, by decide +kernel, rfl, by decide +kernel, by decide +kernel⟩
theorem scBu : FnScope NBu ["self", "bodies"] (defScope sBu) := ⟨rfl, rfl, rfl, by decide +kernel, rfl, by decide +kernel, by decide +kernel⟩
theorem scMk : FnScope ["self", "body", "line"] ["self", "body"] (defScope sMk) := ⟨rfl, rfl, rfl, by decide +kernel, rfl, by decide +kernel, by decide +kernel⟩
theorem scLS : FnScope ["self"] ["self"] (defScope sLS) := ⟨rfl, rfl, rfl, by decide +kernel, rfl, by decide +kernel, by decide +kernel⟩
theorem scTx : FnScope NTx ["self"] (defScope sTx) := ⟨rfl, rfl, rfl, by decide +kernel, rfl, by decide +kernel, by decide +kernel⟩
theorem scTr : FnScope ["self"] ["self"] (defScope sTr) := ⟨rfl, rfl, rfl, by decide +kernel, rfl, by decide +kernel, by decide +kernel⟩
theorem scLW : FnScope ["lines", "number", "begin", "log"] ["lines", "number", "begin"] (defScope sLW) := ⟨rfl, rfl, rfl, by decide +kernel, rfl, by decide +kernel, by decide +kernel⟩
/-- what the class Log is by the top -/
structure TLog (K : PySem.W.Frag) (C : Addr) : Prop where
  cl : Cls K C
  nn : NoAttr K C "number"
  nk : NoAttr K C "kept"
  nb : NoAttr K C "begin"
/-- line_of, as it is called here -/
structure CLine (P : Program) (w : World) (K : PySem.W.Frag) (mg : Str → Option Value) (base : Heap) (k : Nat) (f : Addr) (fd : FuncData) (g1 g3 : List Value → List Value → List Value) : Prop where
  F : FnOk P w K mg base CX0 k f fd ["number", "body", "sign"] spLine
  m : mg "line_of" = some (.ref f)
  kpt : PySem.W.keepIn K (.ref f) = true
  b1 : KBn K fd ["number", "body", "sign"] 2 [] g1 (fun vs _ => vs ++ [.str "."])
  b3 : KBn K fd ["number", "body", "sign"] 2 ["sign"] g3 (fun vs zs => vs ++ zs)
/-- a log: its own object and its list, its lines, its number, where its last mark is -/
def LgO (C : Addr) (H : Hp) (a l : Addr) (xs : List V) (n b : Nat) : Prop := (∃ dx, H a = some (.ins C dx [("number", .int (n : Int)), ("kept", .ref l), ("begin", .int (b : Int))])) ∧ H l = some (.lst xs)
theorem LgO.same {C : Addr} {H H' : Hp} {a l : Addr} {xs : List V} {n b : Nat} (h : LgO C H a l xs n b) (s : Same H H') : LgO C H' a l xs n b := by
  obtain ⟨⟨dx, e1⟩, e2⟩ := h
  exact ⟨⟨dx, s _ _ e1⟩, s _ _ e2⟩
theorem LgO.ne {C : Addr} {H : Hp} {a l : Addr} {xs : List V} {n b : Nat} (h : LgO C H a l xs n b) : a ≠ l := fun z => by
  obtain ⟨⟨dx, e1⟩, e2⟩ := h
  rw [z, e2] at e1
  cases e1
/-- all but a log stands -/
def Kl (a l : Addr) (H H' : Hp) : Prop := ∀ b o, b ≠ a → b ≠ l → H b = some o → H' b = some o
theorem Kl.trans {a l : Addr} {H H1 H2 : Hp} (h : Kl a l H H1) (h' : Kl a l H1 H2) : Kl a l H H2 := fun b o n1 n2 e => h' b o n1 n2 (h b o n1 n2 e)
theorem Kl.of {a l : Addr} {H H1 : Hp} (h : Same H H1) : Kl a l H H1 := fun b o _ _ e => h b o e
theorem Kl.a {a l : Addr} {H : Hp} {o : HO} : Kl a l H (upd H a o) := fun b u n1 _ e => by
  rw [upd_ne n1]
  exact e
theorem Kl.l {a l : Addr} {H : Hp} {o : HO} : Kl a l H (upd H l o) := fun b u _ n2 e => by
  rw [upd_ne n2]
  exact e
/-- what was not there ahead -/
theorem Kl.same {a l : Addr} {H0 H H1 : Hp} (h : Kl a l H H1) (s : Same H0 H) (na : H0 a = none) (nl : H0 l = none) : Same H0 H1 := fun b o e => h b o (ne_of_none e na) (ne_of_none e nl) (s b o e)
theorem none_of {H H1 : Hp} {b : Addr} (s : Same H H1) (n : H1 b = none) : H b = none := by
  cases hx : H b with
  | none => rfl
  | some o =>
    rw [s _ _ hx] at n
    cases n
/-- the lines of a deed of several bodies -/
def brows (n : Nat) (bs : List (List Nat)) : List Rec3 := bs.mapIdx fun i b => (n + 1 + i, (if i + 1 = bs.length then 46 else 43), b)
theorem brows_len (n : Nat) (bs : List (List Nat)) : (brows n bs).length = bs.length := List.length_mapIdx
theorem brows_at {n : Nat} {bs : List (List Nat)} {i : Nat} {b : List Nat} (h : bs[i]? = some b) : (brows n bs)[i]? = some (n + 1 + i, (if i + 1 = bs.length then 46 else 43), b) := by
  unfold brows
  rw [List.getElem?_mapIdx, h]
  rfl
/-- their signs -/
def sgV (m : Nat) : List V := List.replicate (m - 1) (.str (S [43])) ++ [.str (S [46])]
theorem sgV_len (m : Nat) : (sgV m).length = m - 1 + 1 := by
  unfold sgV
  simp only [List.length_replicate, List.length_append, List.length_singleton]
theorem sgV_at {m i : Nat} (h : i < m) : (sgV m)[i]? = some (.str (S [if i + 1 = m then 46 else 43])) := by
  unfold sgV
  by_cases e : i + 1 = m
  · rw [if_pos e, List.getElem?_append_right (by rw [List.length_replicate]; omega), List.length_replicate, show i - (m - 1) = 0 by omega]
    rfl
  · rw [if_neg e, List.getElem?_append_left (by rw [List.length_replicate]; omega), List.getElem?_replicate, if_pos (by omega)]
theorem flat_one (k : Nat) (v : V) : (List.replicate k [v]).flatten = List.replicate k v := by
  induction k with
  | zero => rfl
  | succ k ih =>
    rw [List.replicate_succ, List.replicate_succ, List.flatten_cons, ih]
    rfl
/-- lines, each with a line end -/
def nls (zs : List (List Nat)) : List (List Nat) := zs.map fun z => z ++ [10]
theorem join_nl : ∀ (zs : List (List Nat)) (t : List Nat), TL.joinL [] (nls zs) ++ t = TL.joinL [10] (zs ++ [t])
  | [], t => rfl
  | [z], t => by
    show (z ++ [10]) ++ t = z ++ ([10] ++ t)
    rw [List.append_assoc]
  | z :: y :: r, t => by
    have ih := join_nl (y :: r) t
    show ((z ++ [10]) ++ ([] ++ TL.joinL [] (nls (y :: r)))) ++ t = z ++ ([10] ++ TL.joinL [10] ((y :: r) ++ [t]))
    rw [← ih]
    simp only [List.nil_append, List.append_assoc]
theorem join_nl0 (zs : List (List Nat)) : TL.joinL [] (nls zs) = TL.joinL [10] (zs ++ [[]]) := by
  have e := join_nl zs []
  rw [List.append_nil] at e
  exact e
theorem sum_nls : ∀ {zs : List (List Nat)}, (∀ z, z ∈ zs → z.length ≤ 100) → (((nls zs).map S).map (·.length)).sum ≤ zs.length * 101
  | [], _ => Nat.zero_le _
  | z :: zs, h => by
    have ih := sum_nls (zs := zs) fun y hy => h y (List.mem_cons_of_mem _ hy)
    have h0 := h z (List.mem_cons_self ..)
    show (S (z ++ [10])).length + (((nls zs).map S).map (·.length)).sum ≤ (zs.length + 1) * 101
    rw [SX.S_len, List.length_append, List.length_singleton, Nat.add_mul]
    omega
section
variable {P : Program} {w : World} {K : PySem.W.Frag} {mg : Str → Option Value} {base : Heap} {f : Addr} {fd : FuncData} {k : Nat} {C : Addr} {fl : Addr} {fdl : FuncData} {g1 g3 : List Value → List Value → List Value}
def spLI (C : Addr) : Sp := fun vs H Q _ => ∃ (p dx : Addr), vs = [.ref p] ∧ H p = some (.ins C dx []) ∧ ∀ (l : Addr) (H' : Hp), H l = none → H' p = some (.ins C dx [("number", .int 0), ("kept", .ref l), ("begin", .int 0)]) → H' l = some (.lst []) → (∀ b o, b ≠ p → H b = some o → H' b = some o) → Q .non H'
theorem ok_li (F : Fun K "__init__" "Log.__init__" sLI f fd) (T : TLog K C) : FnOk P w K mg base CX0 (k + 1) f fd ["self"] (spLI C) := by
  refine F.ok scLI (fun vs H Q E h => ?_) (fun cdv A outer s H vs Q E hr h => ?_)
  · obtain ⟨p, dx, rfl, _⟩ := h
    rfl
  · obtain ⟨p, dx, rfl, hp, q⟩ := h
    refine ⟨_, pss_cons (ps_fld (pv 0) pe_int rfl)
      (pss_cons (ps_fld (pv 0) (pe_lst pa_nil) rfl)
      (pss_one (ps_fld (pv 0) pe_int rfl))), ?_⟩
    refine ⟨_, rfl, p, C, dx, [], rfl, hp, T.cl, T.nn, (by show 0 < 1000; decide), ?_⟩
    refine ⟨Nat.zero_le _, fun l nl => ?_⟩
    have lp : p ≠ l := ne_of_none upd_same nl
    have nl' : H l = none := by
      rw [upd_ne lp.symm] at nl
      exact nl
    refine ⟨_, rfl, p, C, dx, _, rfl, (by rw [upd_ne lp]; exact upd_same), T.cl, T.nk, (by show 1 < 1000; decide), ?_⟩
    refine ⟨_, rfl, p, C, dx, _, rfl, upd_same, T.cl, T.nb, (by show 2 < 1000; decide), ?_⟩
    refine q l _ nl' upd_same ?_ fun b o hb e => ?_
    · rw [upd_ne lp.symm, upd_ne lp.symm, upd_same]
    · rw [upd_ne hb, upd_ne hb, upd_ne (ne_of_none e nl'), upd_ne hb]
      exact e
def spLW (C : Addr) : Sp := fun vs H Q _ => ∃ (l : Addr) (xs : List V) (n b : Nat), vs = [.ref l, .int (n : Int), .int (b : Int)] ∧ H l = some (.lst xs) ∧ ∀ (a l' : Addr) (H' : Hp), Same H H' → H a = none → H l' = none → LgO C H' a l' xs n b → Q (.ref a) H'
theorem ok_lw (F : Fun K "log_with" "log_with" sLW f fd) (T : TLog K C) (K_Log : CalC P w K mg base k "Log" C ["self"] (spLI C)) (m_list : mg "list" = none) : FnOk P w K mg base CX0 (k + 2) f fd ["lines", "number", "begin"] (spLW C) := by
  refine F.ok scLW (fun vs H Q E h => ?_) (fun cdv A outer s H vs Q E hr h => ?_)
  · obtain ⟨l, xs, n, b, rfl, _⟩ := h
    rfl
  · obtain ⟨l, xs, n, b, rfl, hl, q⟩ := h
    refine ⟨_, pss_cons (ps_set (i := 3) scLW.nd rfl (.inl rfl) (pe_calC0 K_Log (hr.mono (by omega)) (by rfl)))
      (pss_cons (ps_fld (pv 3) (pe_callTy call_list_of (by rfl) m_list (by decide +kernel) (pa_cons (pv 0) pa_nil)) rfl)
      (pss_cons (ps_fld (pv 3) (pv 1) rfl)
      (pss_cons (ps_fld (pv 3) (pv 2) rfl)
      (pss_one (ps_ret (pv 3)))))), ?_⟩
    intro a dx na nd da
    refine ⟨a, dx, rfl, upd_same, fun l1 H1 nl1 h1 h2 h3 => ⟨rfl, ?_⟩⟩
    have s1 : Same H H1 := fun y o e => by
      have ya : y ≠ a := ne_of_none e na
      have yd : y ≠ dx := ne_of_none e nd
      refine h3 y o ya ?_
      rw [upd_ne ya, upd_ne yd]
      exact e
    refine ⟨_, rfl, l, xs, rfl, .inl (SqL.of (s1 _ _ hl)), fun l2 nl2 => ?_⟩
    have la : a ≠ l2 := ne_of_none h1 nl2
    have aH : ∀ y o, H y = some o → y ≠ a := fun y o e => ne_of_none e na
    have nl2H : H l2 = none := by
      cases hx : H l2 with
      | none => rfl
      | some o =>
        rw [s1 _ _ hx] at nl2
        cases nl2
    refine ⟨_, rfl, a, C, dx, _, rfl, (by rw [upd_ne la]; exact h1), T.cl, T.nk, (by show 3 < 1000; decide), ?_⟩
    refine ⟨_, rfl, _, rfl, a, C, dx, _, rfl, upd_same, T.cl, T.nn, (by show 3 < 1000; decide), ?_⟩
    refine ⟨_, rfl, _, rfl, a, C, dx, _, rfl, upd_same, T.cl, T.nb, (by show 3 < 1000; decide), ?_⟩
    refine ⟨_, rfl, q a l2 _ (fun y o e => ?_) na nl2H ⟨⟨dx, ?_⟩, ?_⟩⟩
    · rw [upd_ne (aH y o e), upd_ne (aH y o e), upd_ne (aH y o e), upd_ne (ne_of_none (s1 y o e) nl2)]
      exact s1 y o e
    · rw [upd_same]
      rfl
    · rw [upd_ne la.symm, upd_ne la.symm, upd_ne la.symm, upd_same]
def spLN (C : Addr) : Sp := fun vs H Q _ => ∃ (a l : Addr) (xs : List V) (n b : Nat), vs = [.ref a] ∧ LgO C H a l xs n b ∧ Q (.int (xs.length : Int)) H
theorem ok_ln (F : Fun K "__len__" "Log.__len__" sLN f fd) (T : TLog K C) (m_len : mg "len" = none) : FnOk P w K mg base CX0 (k + 1) f fd ["self"] (spLN C) := by
  refine F.ok scLN (fun vs H Q E h => ?_) (fun cdv A outer s H vs Q E hr h => ?_)
  · obtain ⟨a, l, xs, n, b, rfl, _⟩ := h
    rfl
  · obtain ⟨a, l, xs, n, b, rfl, ⟨⟨dx, ha⟩, hl⟩, q⟩ := h
    refine ⟨_, pss_one (ps_ret (pe_callB call_len_seq (by rfl) m_len (by decide +kernel) (pa_cons (pe_fld (pv 0) rfl) pa_nil))), ?_⟩
    exact ⟨_, rfl, a, C, dx, _, .ref l, rfl, ha, T.cl, T.nk, rfl, l, xs, rfl, .inl (SqL.of hl), q⟩
def spLS (C : Addr) : Sp := fun vs H Q _ => ∃ (a l : Addr) (xs : List V) (n b : Nat), vs = [.ref a] ∧ LgO C H a l xs n b ∧ ∀ (l' : Addr) (H' : Hp), Same H H' → H l' = none → H' l' = some (.lst xs) → Q (.ref l') H'
theorem ok_ls (F : Fun K "lines" "Log.lines" sLS f fd) (T : TLog K C) (m_list : mg "list" = none) : FnOk P w K mg base CX0 (k + 1) f fd ["self"] (spLS C) := by
  refine F.ok scLS (fun vs H Q E h => ?_) (fun cdv A outer s H vs Q E hr h => ?_)
  · obtain ⟨a, l, xs, n, b, rfl, _⟩ := h
    rfl
  · obtain ⟨a, l, xs, n, b, rfl, ⟨⟨dx, ha⟩, hl⟩, q⟩ := h
    refine ⟨_, pss_one (ps_ret (pe_callTy call_list_of (by rfl) m_list (by decide +kernel) (pa_cons (pe_fld (pv 0) rfl) pa_nil))), ?_⟩
    exact ⟨_, rfl, a, C, dx, _, .ref l, rfl, ha, T.cl, T.nk, rfl, l, xs, rfl, .inl (SqL.of hl), fun l2 n2 => q l2 _ (same_new n2) n2 upd_same⟩
/-- a line behind the others -/
def spWr (C : Addr) : Sp := fun vs H Q _ => ∃ (a l : Addr) (xs : List V) (n g : Nat) (b : List Nat), vs = [.ref a, .str (S b)] ∧ LgO C H a l xs n g ∧ xs.length ≤ 900 ∧ n + 1 < 10 ^ 12 ∧ b.length ≤ 300 ∧ bok b = true ∧ ∀ H', Kl a l H H' → LgO C H' a l (xs ++ [.str (S (line (n + 1) 46 b))]) (n + 1) g → Q (.str (S (line (n + 1) 46 b))) H'
theorem ok_wr (F : Fun K "write" "Log.write" sWr f fd) (T : TLog K C) (L : CLine P w K mg base k fl fdl g1 g3) : FnOk P w K mg base CX0 (k + 1) f fd ["self", "body"] (spWr C) := by
  refine F.ok scWr (fun vs H Q E h => ?_) (fun cdv A outer s H vs Q E hr h => ?_)
  · obtain ⟨a, l, xs, n, g, b, rfl, _⟩ := h
    rfl
  · obtain ⟨a, l, xs, n, g, b, rfl, lo, x9, n12, b3, bo, q⟩ := h
    refine ⟨_, pss_cons (ps_set (i := 2) scWr.nd rfl (.inl rfl) (pe_callN L.F (hr.mono (by omega)) (by rfl) L.m L.kpt L.b1 pass0 (pa_cons (pe_op op_add (pe_fld (pv 0) rfl) pe_int) (pa_cons (pv 1) pa_nil)) pk_nil))
      (pss_cons (ps_expr (pe_bm PySem.F.plainAttrs_list PySem.F.slot_list_append PySem.F.type_list_append mt_append (pe_fld (pv 0) rfl) (pa_cons (pv 2) pa_nil)))
      (pss_cons (ps_fldaug (pv 0) pe_int in_add)
      (pss_one (ps_ret (pv 2))))), ?_⟩
    have ne := lo.ne
    obtain ⟨⟨dx, ha⟩, hl⟩ := lo
    refine ⟨_, rfl, a, C, dx, _, .int n, rfl, ha, T.cl, T.nn, rfl, _, _, rfl, rfl, _, rfl, rfl, rfl, n + 1, 46, b, rfl, n12, b3, bo, fun H1 s1 => ?_⟩
    have ha1 := s1 _ _ ha
    have hl1 := s1 _ _ hl
    refine ⟨_, rfl, a, C, dx, _, .ref l, rfl, ha1, T.cl, T.nk, rfl, .inl ⟨rfl, _, SqL.of hl1⟩, _, rfl, l, xs, _, rfl, rfl, hl1, small1000 (by omega), ?_⟩
    have ha2 : upd H1 l (.lst (xs ++ [.str (S (line (n + 1) 46 b))])) a = some (.ins C dx [("number", .int (n : Int)), ("kept", .ref l), ("begin", .int (g : Int))]) := by
      rw [upd_ne ne]
      exact ha1
    refine ⟨_, rfl, a, C, dx, _, .int n, rfl, ha2, T.cl, T.nn, rfl, _, _, rfl, rfl, dx, _, ha2, (by show 3 < 1000; decide), ?_⟩
    refine ⟨_, rfl, q _ ((Kl.of s1).trans (Kl.l.trans Kl.a)) ⟨⟨dx, ?_⟩, ?_⟩⟩
    · rw [upd_same]
      rfl
    · rw [upd_ne ne.symm, upd_same]
/-- a mark behind the others -/
def spMk (C : Addr) : Sp := fun vs H Q _ => ∃ (a l : Addr) (xs : List V) (n g : Nat) (b : List Nat), vs = [.ref a, .str (S b)] ∧ LgO C H a l xs n g ∧ xs.length ≤ 900 ∧ n < 10 ^ 12 ∧ b.length ≤ 300 ∧ bok b = true ∧ ∀ H', Kl a l H H' → LgO C H' a l (xs ++ [.str (S (line n 61 b))]) n xs.length → Q (.str (S (line n 61 b))) H'
theorem ok_mk {t2 : Tok} (F : Fun K "mark" "Log.mark" sMk f fd) (T : TLog K C) (L : CLine P w K mg base k fl fdl g1 g3) (g_MARKS : mg "MARKS" = some (.str "=" t2)) (m_len : mg "len" = none) : FnOk P w K mg base CX0 (k + 1) f fd ["self", "body"] (spMk C) := by
  refine F.ok scMk (fun vs H Q E h => ?_) (fun cdv A outer s H vs Q E hr h => ?_)
  · obtain ⟨a, l, xs, n, g, b, rfl, _⟩ := h
    rfl
  · obtain ⟨a, l, xs, n, g, b, rfl, lo, x9, n12, b3, bo, q⟩ := h
    refine ⟨_, pss_cons (ps_set (i := 2) scMk.nd rfl (.inl rfl) (pe_callN L.F (hr.mono (by omega)) (by rfl) L.m L.kpt L.b3 pass0 (pa_cons (pe_fld (pv 0) rfl) (pa_cons (pv 1) pa_nil)) (pk_cons (pe_glob (v := .str "=") rfl g_MARKS ⟨_, rfl⟩) pk_nil)))
      (pss_cons (ps_fld (pv 0) (pe_callB call_len_seq (by rfl) m_len (by decide +kernel) (pa_cons (pe_fld (pv 0) rfl) pa_nil)) rfl)
      (pss_cons (ps_expr (pe_bm PySem.F.plainAttrs_list PySem.F.slot_list_append PySem.F.type_list_append mt_append (pe_fld (pv 0) rfl) (pa_cons (pv 2) pa_nil)))
      (pss_one (ps_ret (pv 2))))), ?_⟩
    have ne := lo.ne
    obtain ⟨⟨dx, ha⟩, hl⟩ := lo
    refine ⟨_, rfl, a, C, dx, _, .int n, rfl, ha, T.cl, T.nn, rfl, _, rfl, rfl, rfl, n, 61, b, rfl, n12, b3, bo, fun H1 s1 => ?_⟩
    have ha1 := s1 _ _ ha
    have hl1 := s1 _ _ hl
    refine ⟨_, rfl, a, C, dx, _, .ref l, rfl, ha1, T.cl, T.nk, rfl, l, _, rfl, .inl (SqL.of hl1), _, rfl, a, C, dx, _, rfl, ha1, T.cl, T.nb, (by show 3 < 1000; decide), ?_⟩
    refine ⟨_, rfl, a, C, dx, _, .ref l, rfl, upd_same, T.cl, T.nk, rfl, .inl ⟨rfl, _, SqL.of (by rw [upd_ne ne.symm]; exact hl1)⟩, _, rfl, l, xs, _, rfl, rfl, (by rw [upd_ne ne.symm]; exact hl1), small1000 (by omega), ?_⟩
    refine ⟨_, rfl, q _ ((Kl.of s1).trans (Kl.a.trans Kl.l)) ⟨⟨dx, ?_⟩, ?_⟩⟩
    · rw [upd_ne ne, upd_same]
      rfl
    · rw [upd_same]
/-- the log's text -/
def spTx (C : Addr) : Sp := fun vs H Q _ => ∃ (a l : Addr) (zs : List (List Nat)) (n g : Nat), vs = [.ref a] ∧ LgO C H a l (txts zs) n g ∧ zs.length ≤ 100 ∧ (∀ z, z ∈ zs → z.length ≤ 100) ∧ ∀ H', Same H H' → Q (.str (S (TL.joinL [10] (zs ++ [[]])))) H'
theorem ok_tx (F : Fun K "text" "Log.text" sTx f fd) (T : TLog K C) : FnOk P w K mg base CX0 (k + 1) f fd ["self"] (spTx C) := by
  refine F.ok scTx (fun vs H Q E h => ?_) (fun cdv A outer s H vs Q E hr h => ?_)
  · obtain ⟨a, l, zs, n, g, rfl, _⟩ := h
    rfl
  · obtain ⟨a, l, zs, n, g, rfl, ⟨⟨dx, ha⟩, hl⟩, z100, each, q⟩ := h
    refine ⟨_, pss_one (ps_ret (pe_bm PySem.F.plainAttrs_str PySem.F.slot_str_join PySem.F.type_str_join mt_join pe_str (pa_cons (pe_lc (own := [("line", 1)]) (g := (gName 1)) (tt := tYes) rfl scTx.nd (pi_list (pe_fld (pv 0) rfl)) (blkOk_by (own := [("line", 1)]) (N := NTx) (sc := defScope sTx) (by decide +kernel)) (fun _ _ _ _ _ => (pg_name (i := 1) scTx.nd rfl (.inl rfl))) (fun _ _ _ _ _ => pts_nil) (fun _ _ _ _ _ => (pe_jn (.cons (pe_fmt (pv 1)) (.cons pe_str .nil))))) pa_nil))), ?_⟩
    refine ⟨rfl, _, rfl, a, C, dx, _, .ref l, rfl, ha, T.cl, T.nk, rfl, l, rfl, ⟨_, SqL.of hl⟩, fun B nB => lc_list (K := K) (a := l) (xs := txts zs) (fun i Hd => Same H Hd ∧ Hd B = some (.lst (txts (nls (zs.take i))))) ⟨same_new nB, upd_same⟩ (fun j Hd _ h => SqL.of (h.1 _ _ hl)) ?_ ?_⟩
    · rintro j x Hd hj ⟨sc, hB⟩
      unfold txts at hj
      rw [List.getElem?_map] at hj
      obtain ⟨y, hy, rfl⟩ := Option.map_eq_some_iff.mp hj
      have jl : j < zs.length := (List.getElem?_eq_some_iff.mp hy).1
      have y100 := each y (List.mem_of_getElem? hy)
      have e1 : (Str.empty ++ S y) = S y := Str.empty_append _
      have e2 : S y ++ Str.ofString "\n" = S (y ++ [10]) := SX.S_cat y [10]
      refine ⟨rfl, yes_b (if_t ?_)⟩
      refine ⟨_, rfl, .inl ⟨S y, rfl, z3000 (by rw [len_S]; omega), _, rfl, z3000 (by rw [e1, len_S]; omega), _, rfl, z3000 (by rw [e1, e2, len_S, List.length_append]; show _ + 1 ≤ _; omega), ?_⟩⟩
      refine ⟨_, hB, ?_, same_put nB sc, ?_⟩
      · unfold nls
        rw [txts_len, List.length_map, List.length_take]
        exact small1000 (by omega)
      · rw [upd_same, take_snoc hy, e1, e2]
        unfold nls
        rw [List.map_append, ← txts_cat]
        rfl
    · rintro Hd ⟨sc, hB⟩
      rw [txts_len, List.take_length, txts_map] at hB
      have sl := sum_nls each
      have nl : (nls zs).length = zs.length := List.length_map ..
      refine ⟨_, B, (nls zs).map S, rfl, rfl, .inl (SqL.of hB), ?_, ?_⟩
      · rw [List.length_map]
        show _ + _ * 0 ≤ _
        omega
      · rw [show Txt.join (Str.ofString "") ((nls zs).map S) = S (TL.joinL [] (nls zs)) from SX.join_S [] _, join_nl0]
        exact q Hd sc
/-- from the last mark on -/
def spTr (C : Addr) : Sp := fun vs H Q _ => ∃ (a l : Addr) (xs : List V) (n g : Nat), vs = [.ref a] ∧ LgO C H a l xs n g ∧ g ≤ xs.length ∧ ∀ (a' l' : Addr) (H' : Hp), Same H H' → H a' = none → H l' = none → LgO C H' a' l' (xs.drop g) n 0 → Q (.ref a') H'
theorem ok_tr (F : Fun K "trimmed" "Log.trimmed" sTr f fd) (T : TLog K C) (C_log_with : Cal P w K mg base k "log_with" ["lines", "number", "begin"] (spLW C)) : FnOk P w K mg base CX0 (k + 1) f fd ["self"] (spTr C) := by
  refine F.ok scTr (fun vs H Q E h => ?_) (fun cdv A outer s H vs Q E hr h => ?_)
  · obtain ⟨a, l, xs, n, g, rfl, _⟩ := h
    rfl
  · obtain ⟨a, l, xs, n, g, rfl, ⟨⟨dx, ha⟩, hl⟩, gx, q⟩ := h
    refine ⟨_, pss_one (ps_ret (pe_cal C_log_with (hr.mono (by omega)) (by rfl) (pa_cons (pe_slice sl_list (pe_fld (pv 0) rfl) (po_some (pe_fld (pv 0) rfl)) po_none) (pa_cons (pe_fld (pv 0) rfl) (pa_cons pe_int pa_nil))))), ?_⟩
    refine ⟨_, rfl, a, C, dx, _, .ref l, rfl, ha, T.cl, T.nk, rfl, _, rfl, a, C, dx, _, .int g, rfl, ha, T.cl, T.nb, rfl, (g : Int), rfl, l, xs, rfl, SqL.of hl, fun l1 n1 => ?_⟩
    rw [cutV_from xs gx]
    have s1 := same_new (o := .lst (xs.drop g)) n1
    refine ⟨_, rfl, a, C, dx, _, .int n, rfl, s1 _ _ ha, T.cl, T.nn, rfl, l1, xs.drop g, n, 0, rfl, upd_same, fun a' l' H' s' na nl lo => ?_⟩
    have old : ∀ y, upd H l1 (.lst (xs.drop g)) y = none → H y = none := fun y e => by
      cases hx : H y with
      | none => rfl
      | some o =>
        rw [s1 _ _ hx] at e
        cases e
    exact q a' l' H' (s1.trans s') (old _ na) (old _ nl) lo
/-- the lines of several bodies, one deed -/
def spBu (C : Addr) : Sp := fun vs H Q _ => ∃ (a l p : Addr) (xs : List V) (n g : Nat) (bs : List (List Nat)), vs = [.ref a, .ref p] ∧ LgO C H a l xs n g ∧ H p = some (.lst (txts bs)) ∧ xs.length ≤ 800 ∧ bs.length ≤ 100 ∧ n + bs.length < 10 ^ 12 ∧ (∀ b, b ∈ bs → b.length ≤ 300 ∧ bok b = true) ∧
  ∀ (D : Addr) (H' : Hp), Kl a l H H' → H D = none → H' D = some (.lst (txts ((brows n bs).map rln))) → LgO C H' a l (xs ++ txts ((brows n bs).map rln)) (n + bs.length) g → Q (.ref D) H'
theorem ok_bu {t1 t2 : Tok} (F : Fun K "bundle" "Log.bundle" sBu f fd) (T : TLog K C) (L : CLine P w K mg base k fl fdl g1 g3) (g_GOES : mg "GOES" = some (.str "+" t1)) (g_ENDS : mg "ENDS" = some (.str "." t2)) (m_len : mg "len" = none) (m_list : mg "list" = none) (m_zip : mg "zip" = none) (m_enumerate : mg "enumerate" = none) : FnOk P w K mg base CX0 (k + 1) f fd ["self", "bodies"] (spBu C) := by
  refine F.ok scBu (fun vs H Q E h => ?_) (fun cdv A outer s H vs Q E hr h => ?_)
  · obtain ⟨a, l, p, xs, n, g, bs, rfl, _⟩ := h
    rfl
  · obtain ⟨a, l, p, xs, n, g, bs, rfl, lo, hp, x8, b1, n12, each, q⟩ := h
    refine ⟨_, pss_cons (ps_set (i := 2) scBu.nd rfl (.inl rfl) (pe_callTy call_list_of (by rfl) m_list (by decide +kernel) (pa_cons (pv 1) pa_nil)))
      (pss_cons (ps_set (i := 3) scBu.nd rfl (.inl rfl) (pe_op op_cat (pe_op op_rep (pe_lst (pa_cons (pe_glob (v := .str "+") rfl g_GOES ⟨_, rfl⟩) pa_nil)) (pe_op op_sub (pe_callB call_len_seq (by rfl) m_len (by decide +kernel) (pa_cons (pv 2) pa_nil)) pe_int)) (pe_lst (pa_cons (pe_glob (v := .str ".") rfl g_ENDS ⟨_, rfl⟩) pa_nil))))
      (pss_cons (ps_setLc (i := 4) (own := [("number", 5), ("body", 6), ("sign", 7)]) (g := gTup K 2 (gCons (gName 5) (gCons (gTup K 2 (gCons (gName 6) (gCons (gName 7) gNil))) gNil))) (tt := tYes) rfl scBu.nd rfl rfl (sw_true rfl rfl rfl (by decide +kernel)) (pi_enumZK (by rfl) m_enumerate (by rfl) m_zip (pa_cons (pv 2) (pa_cons (pv 3) pa_nil)) (pe_op op_add (pe_fld (pv 0) rfl) pe_int)) (blkOk_by (own := [("number", 5), ("body", 6), ("sign", 7)]) (N := NBu) (sc := defScope sBu) (by decide +kernel)) (fun _ _ _ _ _ => (pg_tup rfl (pgs_cons (pg_name (i := 5) scBu.nd rfl (.inl rfl)) (pgs_cons (pg_tup rfl (pgs_cons (pg_name (i := 6) scBu.nd rfl (.inl rfl)) (pgs_cons (pg_name (i := 7) scBu.nd rfl (.inl rfl)) pgs_nil))) pgs_nil)))) (fun _ _ _ _ _ => pts_nil) (fun _ _ _ _ _ => (pe_callN L.F (hr.mono (by omega)) (by rfl) L.m L.kpt L.b3 pass0 (pa_cons (pv 5) (pa_cons (pv 6) pa_nil)) (pk_cons (pv 7) pk_nil))))
      (pss_cons (ps_expr (pe_bm PySem.F.plainAttrs_list PySem.F.slot_list_extend PySem.F.type_list_extend mt_extend (pe_fld (pv 0) rfl) (pa_cons (pv 4) pa_nil)))
      (pss_cons (ps_fldaug (pv 0) (pe_callB call_len_seq (by rfl) m_len (by decide +kernel) (pa_cons (pv 4) pa_nil)) in_add)
      (pss_one (ps_ret (pv 4))))))), ?_⟩
    have ne := lo.ne
    obtain ⟨⟨dx, ha⟩, hl⟩ := lo
    refine ⟨_, rfl, p, _, rfl, .inl (SqL.of hp), fun p1 np1 => ?_⟩
    have s1 := same_new (o := .lst (txts bs)) np1
    refine ⟨(by show 1 ≤ sizeLine; decide), fun d1 nd1 => ?_⟩
    have s2 := s1.trans (same_new (o := .lst [V.str (Str.ofString "+")]) nd1)
    have h1 : upd (upd H p1 (.lst (txts bs))) d1 (.lst [V.str (Str.ofString "+")]) p1 = some (.lst (txts bs)) := same_new nd1 _ _ upd_same
    refine ⟨_, rfl, p1, _, rfl, .inl (SqL.of h1), _, _, rfl, rfl, ?_⟩
    have bl : (txts bs).length = bs.length := txts_len bs
    refine ⟨d1, _, _, rfl, rfl, upd_same, by rw [bl]; omega, by rw [bl]; omega, ?_, fun d2 nd2 => ?_⟩
    · rw [List.length_singleton, bl]
      exact Nat.le_of_lt (small1000 (by omega))
    rw [flat_one, bl, show ((bs.length : Int) - 1).toNat = bs.length - 1 by omega]
    have s3 := s2.trans (same_new (o := .lst (List.replicate (bs.length - 1) (V.str (Str.ofString "+")))) nd2)
    have h3 := same_new (o := .lst (List.replicate (bs.length - 1) (V.str (Str.ofString "+")))) nd2 _ _ h1
    have g3 : upd (upd (upd H p1 (.lst (txts bs))) d1 (.lst [V.str (Str.ofString "+")])) d2 (.lst (List.replicate (bs.length - 1) (V.str (Str.ofString "+")))) d2 = some (.lst (List.replicate (bs.length - 1) (V.str (Str.ofString "+")))) := upd_same
    obtain ⟨H3, e3⟩ : ∃ H3, upd (upd (upd H p1 (.lst (txts bs))) d1 (.lst [V.str (Str.ofString "+")])) d2 (.lst (List.replicate (bs.length - 1) (V.str (Str.ofString "+")))) = H3 := ⟨_, rfl⟩
    rw [e3] at s3 h3 g3 ⊢
    refine ⟨(by show 1 ≤ sizeLine; decide), fun d4 nd4 => ?_⟩
    have s4 := same_new (o := .lst [V.str (Str.ofString ".")]) nd4
    refine ⟨d2, d4, _, _, rfl, rfl, s4 _ _ g3, upd_same, ?_, fun d5 nd5 => ?_⟩
    · rw [List.length_replicate, List.length_singleton]
      exact Nat.le_of_lt (small1000 (by omega))
    have s5 := same_new (o := .lst (List.replicate (bs.length - 1) (V.str (Str.ofString "+")) ++ [V.str (Str.ofString ".")])) nd5
    have c5 : Same H _ := (s3.trans s4).trans s5
    obtain ⟨H5, e5⟩ : ∃ H5, upd (upd H3 d4 (.lst [V.str (Str.ofString ".")])) d5 (.lst (List.replicate (bs.length - 1) (V.str (Str.ofString "+")) ++ [V.str (Str.ofString ".")])) = H5 := ⟨_, rfl⟩
    have hs5 : H5 d5 = some (.lst (sgV bs.length)) := by
      rw [← e5]
      exact upd_same
    have hb5 : H5 p1 = some (.lst (txts bs)) := by
      rw [← e5]
      exact s5 _ _ (s4 _ _ h3)
    rw [e5] at c5 ⊢
    have ha5 := c5 _ _ ha
    have hl5 := c5 _ _ hl
    refine ⟨_, rfl, _, rfl, p1, d5, _, _, rfl, SqL.of hb5, SqL.of hs5, _, rfl, a, C, dx, _, .int n, rfl, ha5, T.cl, T.nn, rfl, _, _, rfl, rfl, (n : Int) + 1, rfl, by omega, by omega, fun B nB => lc_it (walk_enumZ (K := K) (a := p1) (b := d5) (c := (n : Int) + 1) (xs := txts bs) (ys := sgV bs.length) (n := bs.length) (by rw [bl, sgV_len]; omega)) (fun i Hd => Same H5 Hd ∧ Hd B = some (.lst (txts (((brows n bs).take i).map rln)))) ⟨same_new nB, upd_same⟩ (fun j Hd _ h => ⟨SqL.of (h.1 _ _ hb5), SqL.of (h.1 _ _ hs5)⟩) ?_ ?_⟩
    · rintro j x Hd Hd' hj ⟨sc, hB⟩ ⟨U, W, x0, y0, rfl, nU, nW, UW, rfl, f1, f2⟩
      have e0 : ((n : Int) + 1) + (j : Int) = ((n + 1 + j : Nat) : Int) := by omega
      rw [e0]
      obtain ⟨b, hb⟩ : ∃ b, bs[j]? = some b := ⟨_, List.getElem?_eq_getElem hj⟩
      have ex : x0 = .str (S b) := by
        unfold txts at f1
        rw [List.getElem?_map, hb] at f1
        exact (Option.some.inj f1).symm
      have ey : y0 = .str (S [if j + 1 = bs.length then 46 else 43]) := by
        rw [sgV_at hj] at f2
        exact (Option.some.inj f2).symm
      subst ex
      subst ey
      obtain ⟨b3, bo⟩ := each b (List.mem_of_getElem? hb)
      have sU := same_new (o := .tup [.str (S b), .str (S [if j + 1 = bs.length then 46 else 43])]) nU
      have nW' : upd Hd U (.tup [.str (S b), .str (S [if j + 1 = bs.length then 46 else 43])]) W = none := by
        rw [upd_ne UW.symm]
        exact nW
      have sW := same_new (o := .tup [.int ((n + 1 + j : Nat) : Int), .ref U]) nW'
      refine ⟨W, _, rfl, SqT.of upd_same, rfl, _, _, rfl, _, _, rfl, U, _, rfl, SqT.of (sW _ _ upd_same), rfl, _, _, rfl, _, _, rfl, rfl, rfl, rfl, yes_b (if_t ?_)⟩
      refine ⟨_, rfl, _, rfl, _, rfl, rfl, rfl, n + 1 + j, (if j + 1 = bs.length then 46 else 43), b, rfl, by omega, b3, bo, fun H2 s2 => ⟨_, s2 _ _ (sW _ _ (sU _ _ hB)), ?_, same_put nB ((sc.trans (sU.trans sW)).trans s2), ?_⟩⟩
      · rw [txts_len, List.length_map, List.length_take]
        exact small1000 (by omega)
      · rw [upd_same, take_snoc (brows_at hb), List.map_append, ← txts_cat]
        rfl
    · rintro Hd ⟨sc, hB⟩
      have tk : (brows n bs).take bs.length = brows n bs := List.take_of_length_le (by rw [brows_len]; exact Nat.le_refl _)
      rw [tk] at hB
      have had := sc _ _ ha5
      have hld := sc _ _ hl5
      have Bl : B ≠ l := fun z => by
        rw [z, hl5] at nB
        cases nB
      have Ba : B ≠ a := fun z => by
        rw [z, ha5] at nB
        cases nB
      refine ⟨_, rfl, a, C, dx, _, .ref l, rfl, had, T.cl, T.nk, rfl, .inl ⟨rfl, _, SqL.of hld⟩, _, rfl, l, B, xs, _, rfl, rfl, hld, hB, ?_, ?_⟩
      · rw [txts_len, List.length_map, brows_len]
        exact Nat.le_of_lt (small1000 (by omega))
      have ha6 : upd Hd l (.lst (xs ++ txts ((brows n bs).map rln))) a = some (.ins C dx [("number", .int (n : Int)), ("kept", .ref l), ("begin", .int (g : Int))]) := by
        rw [upd_ne ne]
        exact had
      have hB6 : upd Hd l (.lst (xs ++ txts ((brows n bs).map rln))) B = some (.lst (txts ((brows n bs).map rln))) := by
        rw [upd_ne Bl]
        exact hB
      refine ⟨_, rfl, a, C, dx, _, .int n, rfl, ha6, T.cl, T.nn, rfl, _, rfl, B, _, rfl, .inl (SqL.of hB6), _, _, rfl, rfl, dx, _, ha6, (by show 3 < 1000; decide), ?_⟩
      have el : (txts ((brows n bs).map rln)).length = bs.length := by rw [txts_len, List.length_map, brows_len]
      refine ⟨_, rfl, q B _ ((Kl.of (c5.trans sc)).trans (Kl.l.trans Kl.a)) (none_of c5 nB) ?_ ⟨⟨dx, ?_⟩, ?_⟩⟩
      · rw [upd_ne Ba]
        exact hB6
      · rw [upd_same, el]
        rfl
      · rw [upd_ne ne.symm, upd_same]
end
end Tg

namespace Tg
open PySem PySem.Spec PyProof.Rows L2
open SX (S)
open TL (numL)
abbrev sRD : Stmt := topS 30
abbrev NRD : List Str := ["text", "lines", "told", "many", "number", "marks", "at", "parts", "begin", "mark", "bodies", "own_number", "sign", "body"]
theorem scRD : FnScope NRD ["text"] (defScope sRD) := ⟨rfl, rfl, rfl, by decide +kernel, rfl, by decide +kernel, by decide +kernel⟩
/-- the number of the last row -/
def lastN (rs : List Rec3) : Nat := match rs.getLast? with
  | some r => r.1
  | none => 0
section
variable {P : Program} {w : World} {K : PySem.W.Frag} {mg : Str → Option Value} {base : Heap} {f : Addr} {fd : FuncData} {k : Nat} {C CL : Addr}
/-- a mark's value -/
def mkV : Option (List Nat) → V
  | some b => .str (S b)
  | none => .non
/-- what read_log leads to -/
def ToldR (C : Addr) (H : Hp) (R : VK) (rs : List Rec3) (torn : List Nat) : Prop := ∀ (t a l lb : Addr) (b : Nat) (H' : Hp), Same H H' → H a = none → H l = none → H lb = none → lb ≠ l →
  H' t = some (.tup [.ref a, mkV (mkB rs (whole rs rs.length)), .ref lb, .str (S (TL.joinL [10] ((rs.drop (whole rs rs.length)).map rln ++ [torn])))]) → LgO C H' a l (txts ((rs.take (whole rs rs.length)).map rln)) (lastN (rs.take (whole rs rs.length))) b → H' lb = some (.lst (txts (((rs.take (whole rs rs.length)).drop (begL rs (whole rs rs.length))).map (·.2.2)))) → R (.ref t) H'
theorem ToldR.same {H H' : Hp} {R : VK} {rs : List Rec3} {torn : List Nat} (h : ToldR C H R rs torn) (s : Same H H') : ToldR C H' R rs torn := fun t a l lb b H2 s2 n1 n2 n3 n4 => h t a l lb b H2 (s.trans s2) (none_of s n1) (none_of s n2) (none_of s n3) n4
def RD7 (C : Addr) : TS := fun D σ H => ∃ (l d bn : Addr) (rs : List Rec3) (torn : List Nat) (ys : List V) (v0 v5 v6 v7 v10 v11 v12 v13 : Option V), σ = [v0, some (.ref l), some (.ref d), some (.int (whole rs rs.length : Int)), some (.int (lastN (rs.take (whole rs rs.length)) : Int)), v5, v6, v7, some (.int (begP rs (whole rs rs.length) : Int)), some (mkV (mkB rs (whole rs rs.length))), v10, v11, v12, v13] ∧
  H l = some (.lst (txts (rs.map rln ++ [torn]))) ∧ H d = some (.lst ys) ∧ RwL H ys rs ∧ rs.length ≤ 60 ∧ (∀ r, r ∈ rs → ROk r) ∧ torn.length ≤ 60 ∧ ToldR C H D.rt rs torn
theorem rd_7 {t1 : Tok} {cdv : Value} {A : Around} {outer : List Env} {s : Shared} {H0 : Hp} {E : XK} (hr : Room k (A.deeper (envOfC "read_log" (defScope sRD) s.heap.objs.size f cdv))) (C_log_with : Cal P w K mg base k "log_with" ["lines", "number", "begin"] (spLW C)) (g_MARKS : mg "MARKS" = some (.str "=" t1)) :
    PSs (cxOf CX0 P w K mg base NRD "read_log" (defScope sRD) f cdv A outer s H0 E).nox ((defBody sRD).drop 7) (RD7 C) := by
  refine pss_by (pss_cons (ps_setLc (i := 10) (own := [("own_number", 11), ("sign", 12), ("body", 13)]) (g := gTup K 3 _) rfl scRD.nd rfl rfl (sw_true rfl rfl rfl (by decide +kernel)) (pi_list (pe_slice sl_list (pv 2) (po_some (pv 8)) (po_some (pv 3)))) (blkOk_by (own := [("own_number", 11), ("sign", 12), ("body", 13)]) (N := NRD) (sc := defScope sRD) (by decide +kernel)) (fun _ _ _ _ _ => (pg_tup rfl (pgs_cons (pg_name (i := 11) scRD.nd rfl (.inl rfl)) (pgs_cons (pg_name (i := 12) scRD.nd rfl (.inl rfl)) (pgs_cons (pg_name (i := 13) scRD.nd rfl (.inl rfl)) pgs_nil))))) (fun _ _ _ _ _ => pts_one (pt_cmpR op_ne (pv 12) (pe_glob (v := .str "=") rfl g_MARKS ⟨_, rfl⟩) (nomark _))) (fun _ _ _ _ _ => (pv 13)))
      (pss_one (ps_ret (pe_tup (pa_cons (pe_cal C_log_with (hr.mono (by omega)) (by rfl) (pa_cons (pe_slice sl_list (pv 1) po_none (po_some (pv 3))) (pa_cons (pv 4) (pa_cons (pv 8) pa_nil)))) (pa_cons (pv 9) (pa_cons (pv 10) (pa_cons (pe_bm PySem.F.plainAttrs_str PySem.F.slot_str_join PySem.F.type_str_join mt_join pe_str (pa_cons (pe_slice sl_list (pv 1) (po_some (pv 3)) po_none) pa_nil)) pa_nil)))))))) ?_
  rintro D σ H ⟨l, d, _, rs, torn, ys, v0, v5, v6, v7, v10, v11, v12, v13, rfl, hl, hd, rl, r20, ok, t60, told⟩
  have be := bodies_eq rs (whole_le rs rs.length)
  have wl := whole_le rs rs.length
  have bl : begP rs (whole rs rs.length) ≤ rs.length := by
    unfold begP
    rcases mks_last rs (whole rs rs.length) with ⟨e, _⟩ | ⟨ks, i, e, lt, _⟩
    · rw [e]
      exact Nat.zero_le _
    · rw [e, List.getLast?_append, List.getLast?_singleton]
      show i ≤ _
      omega
  unfold ToldR at told
  obtain ⟨m, em⟩ : ∃ m, whole rs rs.length = m := ⟨_, rfl⟩
  rw [em] at be wl bl told ⊢
  obtain ⟨bg, eb⟩ : ∃ bg, begP rs m = bg := ⟨_, rfl⟩
  rw [eb] at be bl ⊢
  refine ⟨_, rfl, _, rfl, (bg : Int), rfl, _, rfl, (m : Int), rfl, d, ys, rfl, SqL.of hd, fun l1 n1 => ?_⟩
  rw [cutV_mid ys (by rw [rl.1]; exact bl) (by rw [rl.1]; exact wl)]
  have s1 := same_new (o := .lst ((ys.take m).drop bg)) n1
  have rl1 : RwL (upd H l1 (.lst ((ys.take m).drop bg))) ((ys.take m).drop bg) ((rs.take m).drop bg) := ((rl.take m).drop bg).same s1
  obtain ⟨H1, e1⟩ : ∃ H1, upd H l1 (.lst ((ys.take m).drop bg)) = H1 := ⟨_, rfl⟩
  have h1 : H1 l1 = some (.lst ((ys.take m).drop bg)) := by rw [← e1]; exact upd_same
  rw [e1] at s1 rl1 ⊢
  obtain ⟨us, eu⟩ : ∃ us, (ys.take m).drop bg = us := ⟨_, rfl⟩
  obtain ⟨ws, ew⟩ : ∃ ws, (rs.take m).drop bg = ws := ⟨_, rfl⟩
  have w20 : ws.length ≤ 60 := by
    rw [← ew, List.length_drop, List.length_take]
    omega
  rw [eu, ew] at rl1
  rw [eu] at h1
  rw [ew] at be
  refine ⟨l1, rfl, ⟨_, SqL.of h1⟩, fun B nB => lc_list (K := K) (a := l1) (xs := us) (fun i Hd => Same H1 Hd ∧ Hd B = some (.lst (txts (((ws.take i).filter fun r => decide (r.2.1 ≠ 61)).map (·.2.2))))) ⟨same_new nB, upd_same⟩ (fun j Hd _ h => SqL.of (h.1 _ _ h1)) ?_ ?_⟩
  · rintro j x Hd hj ⟨sc, hB⟩
    have jl : j < us.length := (List.getElem?_eq_some_iff.mp hj).1
    obtain ⟨r, hr3⟩ : ∃ r, ws[j]? = some r := ⟨_, List.getElem?_eq_getElem (by rw [← rl1.1]; exact jl)⟩
    obtain ⟨t, e2, ht⟩ := rl1.2 j r hr3
    rw [hj] at e2
    cases e2
    refine ⟨t, _, rfl, SqT.of (sc _ _ ht), rfl, _, _, rfl, _, _, rfl, _, _, rfl, rfl, rfl, ?_⟩
    have e3 : (!decide (V.str (S [r.2.1]) = V.str (Str.ofString "="))) = decide (r.2.1 ≠ 61) := by
      rw [show decide (V.str (S [r.2.1]) = V.str (Str.ofString "=")) = decide (r.2.1 = 61) from sg_eq r.2.1 61]
      by_cases h : r.2.1 = 61
      · rw [decide_eq_true h, decide_eq_false (not_not_intro h)]
        rfl
      · rw [decide_eq_false h, decide_eq_true h]
        rfl
    refine ⟨_, rfl, rfl, decide (r.2.1 ≠ 61), congrArg V.bl e3, ?_⟩
    have tk := take_snoc hr3
    by_cases h : r.2.1 ≠ 61
    · rw [decide_eq_true h]
      refine if_t ⟨_, rfl, _, hB, ?_, same_put nB sc, ?_⟩
      · rw [txts_len, List.length_map]
        have := List.length_filter_le (fun r : Rec3 => decide (r.2.1 ≠ 61)) (ws.take j)
        rw [List.length_take] at this
        exact small1000 (by omega)
      · rw [upd_same, tk, List.filter_append, List.map_append, ← txts_cat]
        have e0 : [r].filter (fun r : Rec3 => decide (r.2.1 ≠ 61)) = [r] := by rw [List.filter_cons, if_pos (decide_eq_true h)]; rfl
        rw [e0]
        rfl
    · rw [decide_eq_false h]
      refine if_f ⟨sc, ?_⟩
      rw [tk, List.filter_append]
      have e0 : [r].filter (fun r : Rec3 => decide (r.2.1 ≠ 61)) = [] := by rw [List.filter_cons, if_neg (by rw [decide_eq_false h]; decide)]; rfl
      rw [e0, List.append_nil]
      exact hB
  · rintro Hd ⟨sc, hB⟩
    rw [rl1.1, List.take_length, be] at hB
    have c1 := s1.trans sc
    refine ⟨_, rfl, _, rfl, (m : Int), rfl, l, _, rfl, SqL.of (c1 _ _ hl), fun l2 n2 => ?_⟩
    rw [cutV_to, txts_take, List.take_append_of_le_length (by rw [List.length_map]; exact wl), ← List.map_take]
    have s2 := same_new (o := .lst (txts ((rs.take m).map rln))) n2
    refine ⟨_, rfl, _, rfl, l2, _, lastN (rs.take m), bg, rfl, upd_same, fun a al H3 s3 na nal lo => ?_⟩
    have c3 := (c1.trans s2).trans s3
    refine ⟨_, rfl, _, rfl, rfl, _, rfl, _, rfl, (m : Int), rfl, l, _, rfl, SqL.of (c3 _ _ hl), fun l4 n4 => ?_⟩
    rw [cutV_from _ (by rw [txts_len, List.length_append, List.length_map]; omega), txts_drop, List.drop_append_of_le_length (by rw [List.length_map]; exact wl), ← List.map_drop, txts_map]
    have s4 := same_new (o := .lst ((((rs.drop m).map rln ++ [torn]).map S).map V.str)) n4
    refine ⟨_, l4, ((rs.drop m).map rln ++ [torn]).map S, rfl, rfl, .inl (SqL.of upd_same), ?_, ?_⟩
    · have sl := sum_le (zs := (rs.drop m).map rln ++ [torn]) fun z hz => by
        obtain hz | hz := List.mem_append.mp hz
        · obtain ⟨r, hr3, rfl⟩ := List.mem_map.mp hz
          have := rln_len (ok r (List.mem_of_mem_drop hr3))
          omega
        · rw [List.mem_singleton.mp hz]
          omega
      rw [List.length_map]
      rw [List.length_append, List.length_map, List.length_drop, List.length_singleton] at sl ⊢
      show _ + _ * 1 ≤ _
      omega
    · rw [show Txt.join (Str.ofString "\n") (((rs.drop m).map rln ++ [torn]).map S) = S (TL.joinL [10] ((rs.drop m).map rln ++ [torn])) from SX.join_S [10] _]
      refine ⟨(by show 4 ≤ sizeLine; decide), fun t nt => ?_⟩
      have s5 := same_new (o := .tup [.ref a, mkV (mkB rs m), .ref B, .str (S (TL.joinL [10] ((rs.drop m).map rln ++ [torn])))]) nt
      have c5 := (s3.trans s4).trans s5
      exact told t a al B bg _ ((c3.trans s4).trans s5) (none_of (c1.trans s2) na) (none_of (c1.trans s2) nal) (none_of s1 nB) (ne_of_none (s2 _ _ hB) nal) upd_same (lo.same (s4.trans s5)) ((s2.trans c5) _ _ hB)
end
end Tg

namespace Tg
open PySem PySem.Spec PyProof.Rows L2
open SX (S)
open TL (numL)
section
variable {P : Program} {w : World} {K : PySem.W.Frag} {mg : Str → Option Value} {base : Heap} {f : Addr} {fd : FuncData} {k : Nat} {C CL : Addr}
def ints_of (ks : List Nat) : List V := ks.map fun (i : Nat) => V.int (i : Int)
/-- from the marks on -/
def RD4 (C : Addr) : TS := fun D σ H => ∃ (l d : Addr) (rs : List Rec3) (torn : List Nat) (ys : List V) (v0 v5 v6 v7 v8 v9 v10 v11 v12 v13 : Option V), σ = [v0, some (.ref l), some (.ref d), some (.int (whole rs rs.length : Int)), some (.int (lastN (rs.take (whole rs rs.length)) : Int)), v5, v6, v7, v8, v9, v10, v11, v12, v13] ∧
  H l = some (.lst (txts (rs.map rln ++ [torn]))) ∧ H d = some (.lst ys) ∧ RwL H ys rs ∧ rs.length ≤ 60 ∧ (∀ r, r ∈ rs → ROk r) ∧ torn.length ≤ 60 ∧ ToldR C H D.rt rs torn
theorem rd_4 {t1 : Tok} {cdv : Value} {A : Around} {outer : List Env} {s : Shared} {H0 : Hp} {E : XK} (hr : Room k (A.deeper (envOfC "read_log" (defScope sRD) s.heap.objs.size f cdv))) (g_MARKS : mg "MARKS" = some (.str "=" t1)) (m_enumerate : mg "enumerate" = none)
    (tail : PSs (cxOf CX0 P w K mg base NRD "read_log" (defScope sRD) f cdv A outer s H0 E).nox ((defBody sRD).drop 7) (RD7 C)) :
    PSs (cxOf CX0 P w K mg base NRD "read_log" (defScope sRD) f cdv A outer s H0 E).nox ((defBody sRD).drop 4) (RD4 C) := by
  refine pss_by (pss_cons (ps_setLc (i := 5) (own := [("at", 6), ("parts", 7)]) (g := gTup K 2 _) rfl scRD.nd rfl rfl (sw_true rfl rfl rfl (by decide +kernel)) (pi_enum (by rfl) m_enumerate (pa_cons (pe_slice sl_list (pv 2) po_none (po_some (pv 3))) pa_nil)) (blkOk_by (own := [("at", 6), ("parts", 7)]) (N := NRD) (sc := defScope sRD) (by decide +kernel)) (fun _ _ _ _ _ => (pg_tup rfl (pgs_cons (pg_name (i := 6) scRD.nd rfl (.inl rfl)) (pgs_cons (pg_name (i := 7) scRD.nd rfl (.inl rfl)) pgs_nil)))) (fun _ _ _ _ _ => pts_one (pt_cmpR op_eq (pe_ix (r := rIxT K) ix_tup (pv 7) pe_int (fun _ _ => rfl)) (pe_glob (v := .str "=") rfl g_MARKS ⟨_, rfl⟩) (nomark _))) (fun _ _ _ _ _ => (pv 6)))
      (pss_cons (ps_set (i := 8) scRD.nd rfl (.inl rfl) (pe_ifExp (pt_truth (pv 5) (fun _ => rfl)) (pe_ix ix_list (pv 5) (pe_un un_neg pe_int) (fun _ _ => rfl)) pe_int))
      (pss_cons (ps_set (i := 9) scRD.nd rfl (.inl rfl) (pe_ifExp (pt_truth (pv 5) (fun _ => rfl)) (pe_ix ix_tup (pe_ix ix_list (pv 2) (pv 8) (fun _ _ => rfl)) pe_int (fun _ _ => rfl)) pe_non))
      tail))) ?_
  rintro D σ H ⟨l, d, rs, torn, ys, v0, v5, v6, v7, v8, v9, v10, v11, v12, v13, rfl, hl, hd, rl, r20, ok, t60, told⟩
  have wl := whole_le rs rs.length
  obtain ⟨m, em⟩ : ∃ m, whole rs rs.length = m := ⟨_, rfl⟩
  rw [em] at wl ⊢
  refine ⟨_, rfl, _, rfl, (m : Int), rfl, d, ys, rfl, SqL.of hd, fun l1 n1 => ?_⟩
  rw [cutV_to]
  have s1 := same_new (o := .lst (ys.take m)) n1
  have rl1 : RwL (upd H l1 (.lst (ys.take m))) (ys.take m) (rs.take m) := (rl.take m).same s1
  obtain ⟨H1, e1⟩ : ∃ H1, upd H l1 (.lst (ys.take m)) = H1 := ⟨_, rfl⟩
  have h1 : H1 l1 = some (.lst (ys.take m)) := by rw [← e1]; exact upd_same
  rw [e1] at s1 rl1 ⊢
  have ul : (ys.take m).length = m := by rw [rl1.1, List.length_take]; omega
  refine ⟨l1, _, rfl, SqL.of h1, fun B nB => lc_it (walk_enum (K := K) (a := l1) (xs := ys.take m)) (fun i Hd => Same H1 Hd ∧ Hd B = some (.lst (ints_of (mks rs i)))) ⟨same_new nB, upd_same⟩ (fun j Hd _ h => SqL.of (h.1 _ _ h1)) ?_ ?_⟩
  · rintro j x Hd Hd' hj ⟨sc, hB⟩ ⟨T, i0, x0, rfl, nT, rfl, f1, f2⟩
    cases f1
    obtain ⟨r, hr3⟩ : ∃ r, (rs.take m)[j]? = some r := ⟨_, List.getElem?_eq_getElem (by rw [← rl1.1]; exact hj)⟩
    have hr4 : rs[j]? = some r := by
      rw [List.getElem?_take_of_lt (by omega)] at hr3
      exact hr3
    obtain ⟨t, e2, ht⟩ := rl1.2 j r hr3
    have f3 : (ys.take m)[j]? = some x0 := f2
    rw [f3] at e2
    cases e2
    have sT := same_new (o := .tup [.int (j : Nat), .ref t]) nT
    have iM : isM rs j = decide (r.2.1 = 61) := by
      unfold isM
      rw [hr4]
    have e3 : decide (V.str (S [r.2.1]) = V.str (Str.ofString "=")) = isM rs j := (sg_eq r.2.1 61).trans iM.symm
    refine ⟨T, _, rfl, SqT.of upd_same, rfl, _, _, rfl, _, _, rfl, rfl, rfl, ?_⟩
    refine ⟨_, rfl, t, _, 1, _, rfl, rfl, SqT.of (sT _ _ (sc _ _ ht)), rfl, rfl, isM rs j, congrArg V.bl e3, ?_⟩
    rw [mks_succ]
    cases hM : isM rs j with
    | true =>
      refine if_t ⟨_, rfl, _, sT _ _ hB, ?_, same_put nB (sc.trans sT), ?_⟩
      · show (List.map _ _).length < _
        rw [List.length_map]
        have := mks_len rs j
        exact small1000 (by omega)
      · rw [upd_same, if_pos rfl]
        unfold ints_of
        rw [List.map_append]
        rfl
    | false =>
      refine if_f ⟨sc.trans sT, ?_⟩
      rw [if_neg (by decide), List.append_nil]
      exact sT _ _ hB
  · rintro Hd ⟨sc, hB⟩
    rw [ul] at hB
    have c1 := s1.trans sc
    have fin : ∀ (z8 z9 : V), z8 = .int (begP rs m : Int) → z9 = mkV (mkB rs m) → RD7 C D [v0, some (.ref l), some (.ref d), some (.int (m : Int)), some (.int (lastN (rs.take m) : Int)), some (.ref B), v6, v7, some z8, some z9, v10, v11, v12, v13] Hd := fun z8 z9 a1 a2 => by
      subst a1
      subst a2
      refine ⟨l, d, l, rs, torn, ys, v0, some (.ref B), v6, v7, v10, v11, v12, v13, ?_, c1 _ _ hl, c1 _ _ hd, rl.same c1, r20, ok, t60, told.same c1⟩
      rw [em]
    rcases mks_last rs m with ⟨e, no⟩ | ⟨ks, i, e, lt, hi, no⟩
    · rw [e] at hB
      have b0 : begP rs m = 0 := by
        unfold begP
        rw [e]
        rfl
      have k0 : mkB rs m = none := by
        unfold mkB
        rw [e]
        rfl
      refine ⟨_, rfl, false, .inl ⟨_, SqL.of hB, rfl⟩, if_f ?_⟩
      refine ⟨_, rfl, false, .inl ⟨_, SqL.of hB, rfl⟩, if_f ?_⟩
      exact fin _ _ (by rw [b0]; rfl) (by rw [k0]; rfl)
    · rw [e] at hB
      have bi : begP rs m = i := by
        unfold begP
        rw [e, List.getLast?_append, List.getLast?_singleton]
        rfl
      obtain ⟨r, hr3⟩ : ∃ r, rs[i]? = some r := ⟨_, List.getElem?_eq_getElem (by omega)⟩
      obtain ⟨t, e2, ht⟩ := rl.2 i r hr3
      have ki : mkB rs m = some r.2.2 := by
        unfold mkB
        rw [e, List.getLast?_append, List.getLast?_singleton]
        show (rs[i]?).map _ = _
        rw [hr3]
        rfl
      have la : atI (ints_of (ks ++ [i])) (-1) = some (V.int (i : Int)) := by
        unfold ints_of
        rw [List.map_append]
        exact atI_last _ _
      have ne : (true : Bool) = !(ints_of (ks ++ [i])).isEmpty := by
        unfold ints_of
        rw [List.map_append]
        cases ks <;> rfl
      refine ⟨_, rfl, true, .inl ⟨_, SqL.of hB, ne⟩, if_t ⟨_, rfl, 1, rfl, B, _, _, _, rfl, rfl, SqL.of hB, la, ?_⟩⟩
      refine ⟨_, rfl, true, .inl ⟨_, SqL.of hB, ne⟩, if_t ⟨_, rfl, _, rfl, d, ys, _, .ref t, rfl, rfl, SqL.of (c1 _ _ hd), atI_nat e2, t, _, 2, _, rfl, rfl, SqT.of (c1 _ _ ht), rfl, ?_⟩⟩
      exact fin _ _ (by rw [bi]) (by rw [ki]; rfl)
theorem lastN_snoc (rs : List Rec3) (r : Rec3) : lastN (rs ++ [r]) = r.1 := by
  unfold lastN
  rw [List.getLast?_append, List.getLast?_singleton]
  rfl
theorem lastN_take {rs : List Rec3} {j : Nat} {r : Rec3} (h : rs[j]? = some r) : lastN (rs.take (j + 1)) = r.1 := by rw [take_snoc h, lastN_snoc]
def spRD (C : Addr) : Sp := fun vs H Q _ => ∃ (rs : List Rec3) (torn : List Nat), vs = [.str (S (TL.joinL [10] (rs.map rln ++ [torn])))] ∧ rs.length ≤ 60 ∧ (∀ r, r ∈ rs → ROk r) ∧ Fol none rs ∧ torn.length ≤ 60 ∧ 10 ∉ torn ∧ ToldR C H Q rs torn
theorem ok_rd {t1 : Tok} (F : Fun K "read_log" "read_log" sRD f fd) (C_parts_of_lines : Cal P w K mg base k "parts_of_lines" ["lines"] spPL) (C_whole_length : Cal P w K mg base k "whole_length" ["told"] spWL) (C_log_with : Cal P w K mg base k "log_with" ["lines", "number", "begin"] (spLW C)) (g_MARKS : mg "MARKS" = some (.str "=" t1)) (m_enumerate : mg "enumerate" = none) : FnOk P w K mg base CX0 (k + 1) f fd ["text"] (spRD C) := by
  refine F.ok scRD (fun vs H Q E h => ?_) (fun cdv A outer s H vs Q E hr h => ?_)
  · obtain ⟨rs, torn, rfl, _⟩ := h
    rfl
  · obtain ⟨rs, torn, rfl, r20, ok, fol, t60, tn, told⟩ := h
    have tail := rd_4 (C := C) (P := P) (w := w) (K := K) (base := base) (cdv := cdv) (outer := outer) (H0 := H) (E := E) hr g_MARKS m_enumerate (rd_7 hr C_log_with g_MARKS)
    refine ⟨_, pss_cons (ps_set (i := 1) scRD.nd rfl (.inl rfl) (pe_bm PySem.F.plainAttrs_str PySem.F.slot_str_split PySem.F.type_str_split mt_split (pv 0) (pa_cons pe_str pa_nil)))
      (pss_cons (ps_set (i := 2) scRD.nd rfl (.inl rfl) (pe_cal C_parts_of_lines (hr.mono (by omega)) (by rfl) (pa_cons (pe_slice sl_list (pv 1) po_none (po_some (pe_un un_neg pe_int))) pa_nil)))
      (pss_cons (ps_set (i := 3) scRD.nd rfl (.inl rfl) (pe_cal C_whole_length (hr.mono (by omega)) (by rfl) (pa_cons (pv 2) pa_nil)))
      (pss_cons (ps_set (i := 4) scRD.nd rfl (.inl rfl) (pe_ifExp (pt_cmpR op_gt (pv 3) pe_int (nomark _)) (pe_ix ix_tup (pe_ix ix_list (pv 2) (pe_op op_sub (pv 3) pe_int) (fun _ _ => rfl)) pe_int (fun _ _ => rfl)) pe_int))
      tail))), ?_⟩
    have l100 : ∀ p, p ∈ rs.map rln ++ [torn] → p.length ≤ 100 := fun p hp => by
      obtain hp | hp := List.mem_append.mp hp
      · obtain ⟨r, hr3, rfl⟩ := List.mem_map.mp hp
        have := rln_len (ok r hr3)
        omega
      · have e1 := List.mem_singleton.mp hp
        rw [e1]
        omega
    have no : ∀ p, p ∈ rs.map rln ++ [torn] → 10 ∉ p := fun p hp => by
      obtain hp | hp := List.mem_append.mp hp
      · obtain ⟨r, hr3, rfl⟩ := List.mem_map.mp hp
        exact rln_no (ok r hr3)
      · have e1 := List.mem_singleton.mp hp
        rw [e1]
        exact tn
    have jl := joinL_len _ l100
    rw [List.length_append, List.length_map, List.length_singleton] at jl
    refine ⟨_, rfl, rfl, _, _, rfl, rfl, rfl, ?_, fun l nl => ?_⟩
    · rw [SX.S_len]
      exact Nat.le_trans (show _ ≤ 9000 by omega) (by decide)
    have e0 : txts (rs.map rln ++ [torn]) = txts (rs.map rln) ++ [V.str (S torn)] := by
      rw [← txts_cat]
      rfl
    rw [split_nl (by simp) no, ← txts_map, e0]
    have s1 := same_new (o := .lst (txts (rs.map rln) ++ [V.str (S torn)])) nl
    refine ⟨_, rfl, 1, rfl, _, rfl, l, _, rfl, SqL.of upd_same, fun l1 n1 => ?_⟩
    rw [cutV_init]
    have s2 := same_new (o := .lst (txts (rs.map rln))) n1
    refine ⟨l1, rs, rfl, upd_same, r20, ok, fol, fun d ys H2 s3 hd rl => ?_⟩
    have c2 := (s1.trans s2).trans s3
    have hl2 : H2 l = some (.lst (txts (rs.map rln ++ [torn]))) := by
      rw [e0]
      exact s3 _ _ (s2 _ _ upd_same)
    refine ⟨_, rfl, d, ys, rs, rfl, hd, rl, r20, ?_⟩
    refine ⟨_, rfl, _, _, rfl, rfl, _, rfl, ?_⟩
    have wl := whole_le rs rs.length
    have fin : ∀ (D : Ends), D.rt = Q → ∀ (v : V), v = .int (lastN (rs.take (whole rs rs.length)) : Int) → RD4 C D [some (.str (S (TL.joinL [10] (rs.map rln ++ [torn])))), some (.ref l), some (.ref d), some (.int (whole rs rs.length : Int)), some v, none, none, none, none, none, none, none, none, none] H2 := fun D eD v e => by
      subst e
      exact ⟨l, d, rs, torn, ys, _, _, _, _, _, _, _, _, _, _, rfl, hl2, hd, rl, r20, ok, t60, eD ▸ told.same c2⟩
    by_cases w0 : whole rs rs.length = 0
    · refine if_n (decide_eq_false (by omega)) (fin _ rfl _ (by rw [w0]; rfl))
    · obtain ⟨j, ej⟩ : ∃ j, whole rs rs.length = j + 1 := ⟨whole rs rs.length - 1, by omega⟩
      obtain ⟨r, hr3⟩ : ∃ r, rs[j]? = some r := ⟨_, List.getElem?_eq_getElem (by omega)⟩
      obtain ⟨t, e1, ht⟩ := rl.2 j r hr3
      refine if_y (decide_eq_true (by omega)) ⟨_, rfl, _, rfl, _, _, rfl, rfl, d, ys, _, .ref t, rfl, rfl, SqL.of hd, ?_, t, _, 0, _, rfl, rfl, SqT.of ht, rfl, fin _ rfl _ (by rw [ej, lastN_take hr3])⟩
      rw [ej]
      exact at_pred e1
/-- a text of a log that is refused -/
def spRDN (CL : Addr) : Sp := fun vs H _ E => ∃ (rs : List Rec3) (x : List Nat) (rest : List (List Nat)) (torn : List Nat), vs = [.str (S (TL.joinL [10] (rs.map rln ++ x :: rest ++ [torn])))] ∧ rs.length ≤ 60 ∧ rest.length ≤ 60 ∧ (∀ r, r ∈ rs → ROk r) ∧ Fol none rs ∧ (∀ y, y ∈ x :: rest ++ [torn] → y.length ≤ 100 ∧ 10 ∉ y) ∧ (¬ IsL x ∨ ∃ r, ROk r ∧ x = rln r ∧ may (prev rs rs.length) r = false) ∧
  ∀ (d : Addr) (H' : Hp), Same H H' → H' d = some (.xd [("at", .int (rs.length : Int))]) → E (.ref CL) (some d) H'
theorem ok_rdN (F : Fun K "read_log" "read_log" sRD f fd) (C_parts_of_lines : CalR P w K mg base k "parts_of_lines" ["lines"] (spPLN CL)) : FnOk P w K mg base (L2.CX P w) (k + 1) f fd ["text"] (spRDN CL) := by
  refine F.okX scRD (fun vs H Q E h => ?_) (fun cdv A outer s H vs Q E hr h => ?_)
  · obtain ⟨rs, x, rest, torn, rfl, _⟩ := h
    rfl
  · obtain ⟨rs, x, rest, torn, rfl, r20, e20, ok, fol, sm, bad, q⟩ := h
    refine ⟨_, pss_cons (ps_set (i := 1) scRD.nd rfl (.inl rfl) (pe_bm PySem.F.plainAttrs_str PySem.F.slot_str_split PySem.F.type_str_split mt_split (pv 0) (pa_cons pe_str pa_nil)))
      (pss_cons (ps_set (i := 2) scRD.nd rfl (.inl rfl) (pe_calR (E := E) C_parts_of_lines hr (by rfl) (passes_call (takes_of rfl rfl rfl rfl) (fun _ _ _ _ z => z)) (pa_cons (pe_slice sl_list (pv 1) po_none (po_some (pe_un un_neg pe_int))) pa_nil))) pss_dead), ?_⟩
    have all : ∀ p, p ∈ rs.map rln ++ x :: rest ++ [torn] → p.length ≤ 100 ∧ 10 ∉ p := fun p hp => by
      rw [List.append_assoc] at hp
      obtain hp | hp := List.mem_append.mp hp
      · obtain ⟨r, hr3, rfl⟩ := List.mem_map.mp hp
        have := rln_len (ok r hr3)
        exact ⟨by omega, rln_no (ok r hr3)⟩
      · exact sm p hp
    have jl := joinL_len _ fun p hp => (all p hp).1
    rw [List.length_append, List.length_append, List.length_map, List.length_singleton, List.length_cons] at jl
    refine ⟨_, rfl, rfl, _, _, rfl, rfl, rfl, ?_, fun l nl => ?_⟩
    · rw [SX.S_len]
      exact Nat.le_trans (show _ ≤ 20000 by omega) (by decide)
    have e0 : txts (rs.map rln ++ x :: rest ++ [torn]) = txts (rs.map rln ++ x :: rest) ++ [V.str (S torn)] := by
      rw [← txts_cat (rs.map rln ++ x :: rest)]
      rfl
    rw [split_nl (by simp) fun p hp => (all p hp).2, ← txts_map, e0]
    have s1 := same_new (o := .lst (txts (rs.map rln ++ x :: rest) ++ [V.str (S torn)])) nl
    refine ⟨_, rfl, 1, rfl, _, rfl, l, _, rfl, SqL.of upd_same, fun l1 n1 => ?_⟩
    rw [cutV_init]
    have s2 := same_new (o := .lst (txts (rs.map rln ++ x :: rest))) n1
    have x300 := (sm x (List.mem_append.mpr (.inl (List.mem_cons_self ..)))).1
    exact ⟨l1, rs, x, rest, rfl, upd_same, r20, ok, fol, by omega, bad, fun d H' s' hd => q d H' ((s1.trans s2).trans s') hd⟩
end
end Tg

namespace Tg
open PySem PySem.Spec PyProof.Rows L2
open SX (S)
open TL (numL)
abbrev sDe : Stmt := topS 38
abbrev NDe : List Str := ["_law_purse_here", "_law_most", "_law_way", "_law_k"]
theorem scDe : FnScope NDe ["_law_purse_here", "_law_most"] (defScope sDe) := ⟨rfl, rfl, rfl, by decide +kernel, rfl, by decide +kernel, by decide +kernel⟩
/-- a deed: its word and its bodies -/
def DeW (wd : Str) (bs : List (List Nat)) : Prop := (wd = "bundle" ∧ bs.length ≤ 4) ∨ ∃ b, bs = [b] ∧ (wd = "mark" ∨ wd = "write")
/-- its rows, behind number n -/
def deR (wd : Str) (n : Nat) (bs : List (List Nat)) : List Rec3 := if wd = "mark" then bs.map fun b => (n, 61, b) else brows n bs
theorem last_num (rs : List Rec3) : atI ([V.int 0] ++ rs.map fun r => V.int (r.1 : Int)) (-1) = some (.int (lastN rs : Int)) := by
  rcases List.eq_nil_or_concat rs with rfl | ⟨ys, r, rfl⟩
  · exact atI_last [] _
  · rw [List.concat_eq_append, List.map_append, ← List.append_assoc, lastN_snoc]
    exact atI_last _ _
theorem none_ofK {p : Addr} {H H1 : Hp} {n : Nat} {b : Addr} (s : Kp p H H1) (pu : Pu H1 p n) (h : H1 b = none) : H b = none := by
  cases hx : H b with
  | none => rfl
  | some o =>
    by_cases e : b = p
    · obtain ⟨x1, x2, x3, hp, _⟩ := pu
      rw [e, hp] at h
      cases h
    · rw [s _ _ e hx] at h
      cases h
section
variable {P : Program} {w : World} {K : PySem.W.Frag} {mg : Str → Option Value} {base : Heap} {f : Addr} {fd : FuncData} {k : Nat} {C : Addr}
def spDe : Sp := fun vs H Q _ => ∃ (p : Addr) (n m : Nat), vs = [.ref p, .int (m : Int)] ∧ Pu H p n ∧ n < 2 ^ 35 ∧ m ≤ 200 ∧ ∀ (t bl : Addr) (wd : Str) (bs : List (List Nat)) (H' : Hp), Kp p H H' → Pu H' p (n + 5000) → H bl = none → H' t = some (.tup [.str wd, .ref bl]) → H' bl = some (.lst (txts bs)) → DeW wd bs → (∀ b, b ∈ bs → b.length ≤ m ∧ bok b = true) → Q (.ref t) H'
theorem ok_de (F : Fun K "_law_deed" "_law_deed" sDe f fd) (L_draw : Cal P w K mg base k "_law_draw" ["_law_purse_here", "_law_out_of"] spDraw) (L_body : Cal P w K mg base k "_law_body" ["_law_purse_here", "_law_most"] spLB) (m_range : mg "range" = none) : FnOk P w K mg base CX0 (k + 1) f fd ["_law_purse_here", "_law_most"] spDe := by
  refine F.ok scDe (fun vs H Q E h => ?_) (fun cdv A outer s H vs Q E hr h => ?_)
  · obtain ⟨p, n, m, rfl, _⟩ := h
    rfl
  · obtain ⟨p, n, m, rfl, pu, n35, m200, q⟩ := h
    refine ⟨_, pss_cons (ps_set (i := 2) scDe.nd rfl (.inl rfl) (pe_cal L_draw (hr.mono (by omega)) (by rfl) (pa_cons (pv 0) (pa_cons pe_int pa_nil))))
      (pss_cons (ps_if (pt_cmpR op_lt (pv 2) pe_int (nomark _))
        (pss_one (ps_ret (pe_tup (pa_cons pe_str (pa_cons (pe_lst (pa_cons (pe_cal L_body (hr.mono (by omega)) (by rfl) (pa_cons (pv 0) (pa_cons (pv 1) pa_nil))) pa_nil)) pa_nil)))))
        pss_nil)
      (pss_cons (ps_if (pt_cmpR op_lt (pv 2) pe_int (nomark _))
        (pss_one (ps_ret (pe_tup (pa_cons pe_str (pa_cons (pe_lc (own := [("_law_k", 3)]) (g := (gName 3)) (tt := tYes) rfl scDe.nd (pi_range1 (by rfl) m_range (pa_cons (pe_cal L_draw (hr.mono (by omega)) (by rfl) (pa_cons (pv 0) (pa_cons pe_int pa_nil))) pa_nil)) (blkOk_by (own := [("_law_k", 3)]) (N := NDe) (sc := defScope sDe) (by decide +kernel)) (fun _ _ _ _ _ => (pg_name (i := 3) scDe.nd rfl (.inl rfl))) (fun _ _ _ _ _ => pts_nil) (fun _ _ _ _ _ => (pe_cal L_body (hr.mono (by omega)) (by rfl) (pa_cons (pv 0) (pa_cons (pv 1) pa_nil))))) pa_nil)))))
        pss_nil)
      (pss_one (ps_ret (pe_tup (pa_cons pe_str (pa_cons (pe_lst (pa_cons (pe_cal L_body (hr.mono (by omega)) (by rfl) (pa_cons (pv 0) (pa_cons (pv 1) pa_nil))) pa_nil)) pa_nil))))))), ?_⟩
    refine ⟨_, rfl, p, n, 6, rfl, pu, by omega, by decide, by decide, fun wy H1 k1 p1 _ _ => ?_⟩
    have one : ∀ (wd : Str) (b : List Nat) (H2 : Hp), (wd = "mark" ∨ wd = "write") → Kp p H1 H2 → Pu H2 p (n + 2 + 1000) → b.length ≤ m → bok b = true → ∀ bl t : Addr, H2 bl = none → upd H2 bl (.lst [.str (S b)]) t = none → Q (.ref t) (upd (upd H2 bl (.lst [.str (S b)])) t (.tup [.str wd, .ref bl])) := fun wd b H2 hw k2 p2 bl bo a t na nt => by
      have sa := same_new (o := .lst [.str (S b)]) na
      have st := same_new (o := .tup [.str wd, .ref a]) nt
      exact q t a wd [b] _ (k1.trans (k2.trans (Kp.of (sa.trans st)))) ((p2.same (sa.trans st)).mono (by omega)) (none_ofK (k1.trans k2) p2 na) upd_same (st _ _ upd_same) (.inr ⟨b, rfl, hw⟩) fun c hc => by
        rw [List.mem_singleton.mp hc]
        exact ⟨bl, bo⟩
    refine ⟨_, rfl, _, _, rfl, rfl, _, rfl, ite2 (fun g => ?_) (fun g => ?_)⟩
    · refine ⟨_, rfl, _, rfl, p, n + 2, m, rfl, p1, by omega, m200, fun b H2 k2 p2 bl bo => ⟨(by show 1 ≤ sizeLine; decide), fun a na => ⟨(by show 2 ≤ sizeLine; decide), fun t nt => ?_⟩⟩⟩
      exact one "write" b H2 (.inr rfl) k2 p2 bl bo a t na nt
    refine ⟨_, rfl, _, _, rfl, rfl, _, rfl, ite2 (fun g2 => ?_) (fun g2 => ?_)⟩
    · refine ⟨_, rfl, p, n + 2, 5, rfl, p1, by omega, by decide, by decide, fun v H2 k2 p2 v0 v1 => ?_⟩
      obtain ⟨u, rfl⟩ : ∃ u : Nat, v = (u : Int) := ⟨v.toNat, by omega⟩
      refine ⟨_, rfl, by omega, by omega, fun D nD => ?_⟩
      have Dp : D ≠ p := p2.ne nD
      rw [show ((u : Int)).toNat = u by omega]
      refine lc_range (lo := 0) (n := u) (fun j Hc => ∃ bs : List (List Nat), bs.length = j ∧ (∀ b, b ∈ bs → b.length ≤ m ∧ bok b = true) ∧ Kp p H2 Hc ∧ Pu Hc p (n + 4 + 1000 * j) ∧ Hc D = some (.lst (txts bs))) ⟨[], rfl, (fun _ h => nomatch h), Kp.of (same_new nD), p2.same (same_new nD), upd_same⟩ ?_ ?_
      · rintro j Hc hj ⟨bs, bl, bo, kc, pc, hD⟩
        refine ⟨rfl, yes_b (if_t ?_)⟩
        refine ⟨_, rfl, _, rfl, p, _, m, rfl, pc, by omega, m200, fun b H3 k3 p3 b0 b1 => ⟨_, k3 _ _ Dp hD, ?_, bs ++ [b], ?_, ?_, kp_put (kc.trans k3) nD, pu_put (p3.mono (by omega)) Dp, ?_⟩⟩
        · rw [txts_len, bl]
          exact small1000 (by omega)
        · rw [List.length_append, bl]
          rfl
        · intro c hc
          obtain hc | hc := List.mem_append.mp hc
          · exact bo c hc
          · rw [List.mem_singleton.mp hc]
            exact ⟨b0, b1⟩
        · rw [upd_same, ← txts_snoc]
      · rintro H3 ⟨bs, bl, bo, kc, pc, hD⟩
        refine ⟨(by show 2 ≤ sizeLine; decide), fun t nt => ?_⟩
        have st := same_new (o := .tup [.str "bundle", .ref D]) nt
        exact q t D "bundle" bs _ (k1.trans (k2.trans (kc.trans (Kp.of st)))) ((pc.same st).mono (by omega)) (none_ofK (k1.trans k2) p2 nD) upd_same (st _ _ hD) (.inl ⟨rfl, by omega⟩) bo
    · refine ⟨_, rfl, _, rfl, p, n + 2, m, rfl, p1, by omega, m200, fun b H2 k2 p2 bl bo => ⟨(by show 1 ≤ sizeLine; decide), fun a na => ⟨(by show 2 ≤ sizeLine; decide), fun t nt => ?_⟩⟩⟩
      exact one "mark" b H2 (.inl rfl) k2 p2 bl bo a t na nt
end
end Tg

namespace Tg
open PySem PySem.Spec PyProof.Rows L2
open SX (S)
open TL (numL)
theorem joinL_le (m : Nat) : ∀ (ps : List (List Nat)), (∀ p, p ∈ ps → p.length ≤ m) → (TL.joinL [10] ps).length ≤ ps.length * (m + 1)
  | [], _ => Nat.zero_le _
  | [p], h => by
    have := h p (List.mem_cons_self ..)
    show p.length ≤ 1 * (m + 1)
    omega
  | p :: q :: r, h => by
    have ih := joinL_le m (q :: r) fun y hy => h y (List.mem_cons_of_mem _ hy)
    have h0 := h p (List.mem_cons_self ..)
    show (p ++ ([10] ++ TL.joinL [10] (q :: r))).length ≤ ((q :: r).length + 1) * (m + 1)
    rw [List.length_append, List.length_append, List.length_singleton, Nat.add_mul]
    omega
theorem joinL_flat : ∀ zs : List (List Nat), TL.joinL [] zs = zs.flatten
  | [] => rfl
  | [z] => by
    show z = z ++ []
    rw [List.append_nil]
  | z :: y :: r => by
    show z ++ ([] ++ TL.joinL [] (y :: r)) = z ++ (y :: r).flatten
    rw [joinL_flat (y :: r), List.nil_append]
/-- a text written out, as its signs -/
abbrev S2L (x : Str) : List Nat := x.cps.toList
theorem text_len {zs : List (List Nat)} {t : List Nat} (h : ∀ z, z ∈ zs → z.length ≤ 40) : (TL.joinL [10] (zs ++ [t])).length ≤ (zs.length + 1) * 41 + t.length := by
  have e := joinL_le 40 (zs ++ [[]]) fun p hp => by
    obtain hp | hp := List.mem_append.mp hp
    · exact h p hp
    · have e1 := List.mem_singleton.mp hp
      rw [e1]
      exact Nat.zero_le _
  rw [← join_nl0, List.length_append, List.length_singleton] at e
  rw [← join_nl, List.length_append]
  omega
theorem fol_of : ∀ {a : Option Rec3} {rs : List Rec3}, (∀ i r, rs[i]? = some r → may (if i = 0 then a else rs[i - 1]?) r = true) → Fol a rs
  | _, [], _ => trivial
  | a, x :: rs, h => by
    refine ⟨h 0 x rfl, fol_of fun i r e => ?_⟩
    have z := h (i + 1) r e
    rw [if_neg (by omega), show i + 1 - 1 = i by omega] at z
    by_cases i0 : i = 0
    · subst i0
      exact z
    · rw [if_neg i0]
      obtain ⟨j, rfl⟩ : ∃ j, i = j + 1 := ⟨i - 1, by omega⟩
      exact z
/-- rows as a log's deeds leave them; b: where the last mark is -/
structure Good (rs : List Rec3) (b : Nat) : Prop where
  ok : ∀ r, r ∈ rs → ROk r
  fol : Fol none rs
  ls : ∀ r, rs.getLast? = some r → r.2.1 ≠ 43
  bg : b = begP rs rs.length
theorem good_nil : Good [] 0 := ⟨(fun _ h => nomatch h), trivial, (fun _ h => by cases h), rfl⟩
/-- the row ahead of those that come -/
theorem ahead_row (rs : List Rec3) : (rs = [] ∧ lastN rs = 0) ∨ ∃ ys a, rs = ys ++ [a] ∧ lastN rs = a.1 := by
  rcases List.eq_nil_or_concat rs with rfl | ⟨ys, r, rfl⟩
  · exact .inl ⟨rfl, rfl⟩
  · rw [List.concat_eq_append]
    exact .inr ⟨ys, r, rfl, lastN_snoc ys r⟩
/-- the first of them may stand there -/
theorem fol_app {rs nr : List Rec3} (h : Fol none rs) (h0 : ∀ r, nr[0]? = some r → may (rs.getLast?) r = true) (h1 : ∀ i r a, nr[i]? = some a → nr[i + 1]? = some r → may (some a) r = true) : Fol none (rs ++ nr) := fol_of fun i r e => by
  rcases Nat.lt_or_ge i rs.length with lt | ge
  · rw [List.getElem?_append_left lt] at e
    have z := fol_at h e
    by_cases i0 : i = 0
    · rw [if_pos i0] at z ⊢
      exact z
    · rw [if_neg i0] at z ⊢
      rw [List.getElem?_append_left (by omega)]
      exact z
  · rw [List.getElem?_append_right ge] at e
    by_cases ie : i = rs.length
    · subst ie
      rw [Nat.sub_self] at e
      have z := h0 r e
      by_cases i0 : rs.length = 0
      · rw [if_pos i0]
        have : rs = [] := List.eq_nil_of_length_eq_zero i0
        rw [this] at z
        exact z
      · rw [if_neg i0, List.getElem?_append_left (by omega), ← List.getLast?_eq_getElem?]
        exact z
    · rw [if_neg (by omega), List.getElem?_append_right (by omega)]
      have e' : nr[(i - 1 - rs.length) + 1]? = some r := by
        rw [show (i - 1 - rs.length) + 1 = i - rs.length by omega]
        exact e
      obtain ⟨a, ha⟩ : ∃ a, nr[i - 1 - rs.length]? = some a := ⟨_, List.getElem?_eq_getElem (by
        have := (List.getElem?_eq_some_iff.mp e').1
        omega)⟩
      rw [ha]
      exact h1 _ r a ha e'
theorem isM_app {rs nr : List Rec3} {i : Nat} (h : i < rs.length) : isM (rs ++ nr) i = isM rs i := by
  unfold isM
  rw [List.getElem?_append_left h]
theorem mks_app (rs nr : List Rec3) : mks (rs ++ nr) rs.length = mks rs rs.length := by
  unfold mks
  exact List.filter_congr fun i hi => isM_app (List.mem_range.mp hi)
theorem mks_more {rs nr : List Rec3} (no : ∀ r, r ∈ nr → r.2.1 ≠ 61) : ∀ k, k ≤ nr.length → mks (rs ++ nr) (rs.length + k) = mks rs rs.length
  | 0, _ => mks_app rs nr
  | k + 1, h => by
    have ih := mks_more (rs := rs) no k (by omega)
    have e : isM (rs ++ nr) (rs.length + k) = false := by
      obtain ⟨r, hr⟩ : ∃ r, nr[k]? = some r := ⟨_, List.getElem?_eq_getElem (by omega)⟩
      unfold isM
      rw [List.getElem?_append_right (by omega), show rs.length + k - rs.length = k by omega, hr]
      exact decide_eq_false (no r (List.mem_of_getElem? hr))
    rw [show rs.length + (k + 1) = (rs.length + k) + 1 by omega, mks_succ, e, ih, if_neg (by decide), List.append_nil]
theorem begP_app {rs nr : List Rec3} (no : ∀ r, r ∈ nr → r.2.1 ≠ 61) : begP (rs ++ nr) (rs ++ nr).length = begP rs rs.length := by
  unfold begP
  rw [List.length_append, mks_more no nr.length (Nat.le_refl _)]
theorem begP_mark (rs : List Rec3) (n : Nat) (b : List Nat) : begP (rs ++ [(n, 61, b)]) (rs ++ [(n, 61, b)]).length = rs.length := by
  have e : isM (rs ++ [(n, 61, b)]) rs.length = true := by
    unfold isM
    rw [List.getElem?_append_right (Nat.le_refl _), Nat.sub_self]
    exact decide_eq_true rfl
  unfold begP
  rw [List.length_append, List.length_singleton, mks_succ, if_pos e, List.getLast?_append, List.getLast?_singleton]
  rfl
theorem brows_mem {n : Nat} {bs : List (List Nat)} {r : Rec3} (h : r ∈ brows n bs) : ∃ i b, bs[i]? = some b ∧ r = (n + 1 + i, (if i + 1 = bs.length then 46 else 43), b) := by
  obtain ⟨i, hi⟩ := List.mem_iff_getElem?.mp h
  have lt := (List.getElem?_eq_some_iff.mp hi).1
  rw [brows_len] at lt
  obtain ⟨b, hb⟩ : ∃ b, bs[i]? = some b := ⟨_, List.getElem?_eq_getElem lt⟩
  rw [brows_at hb] at hi
  exact ⟨i, b, hb, (Option.some.inj hi).symm⟩
theorem brows_get {n : Nat} {bs : List (List Nat)} {i : Nat} {r : Rec3} (h : (brows n bs)[i]? = some r) : ∃ b, bs[i]? = some b ∧ r = (n + 1 + i, (if i + 1 = bs.length then 46 else 43), b) := by
  have lt := (List.getElem?_eq_some_iff.mp h).1
  rw [brows_len] at lt
  obtain ⟨b, hb⟩ : ∃ b, bs[i]? = some b := ⟨_, List.getElem?_eq_getElem lt⟩
  rw [brows_at hb] at h
  exact ⟨b, hb, (Option.some.inj h).symm⟩
theorem sg_ne (i m : Nat) : (if i + 1 = m then 46 else 43) ≠ 61 := by
  split <;> decide
theorem good_brows {rs : List Rec3} {b : Nat} {bs : List (List Nat)} (g : Good rs b) (nb : lastN rs + bs.length < 10 ^ 12) (hb : ∀ b, b ∈ bs → b.length ≤ 16 ∧ bok b = true) : Good (rs ++ brows (lastN rs) bs) b where
  ok := fun r hr => by
    obtain hr | hr := List.mem_append.mp hr
    · exact g.ok r hr
    · obtain ⟨i, c, hc, rfl⟩ := brows_mem hr
      have lt := (List.getElem?_eq_some_iff.mp hc).1
      obtain ⟨h1, h2⟩ := hb c (List.mem_of_getElem? hc)
      refine ⟨by show lastN rs + 1 + i < 10 ^ 12; omega, ?_, h2, h1⟩
      show sgn (if i + 1 = bs.length then 46 else 43)
      split
      · exact .inl rfl
      · exact .inr (.inl rfl)
  fol := by
    refine fol_app g.fol (fun r hr => ?_) (fun i r a ha hr => ?_)
    · obtain ⟨c, hc, rfl⟩ := brows_get hr
      rcases ahead_row rs with ⟨rfl, e⟩ | ⟨ys, a, rfl, e⟩
      · rw [e]
        show (decide ((if 0 + 1 = bs.length then 46 else 43) = 61) || decide (0 + 1 + 0 = 1)) = true
        rw [show decide (0 + 1 + 0 = 1) = true from rfl, Bool.or_true]
      · rw [List.getLast?_append, List.getLast?_singleton, e]
        show (if (if 0 + 1 = bs.length then 46 else 43) = 61 then _ else decide (a.1 + 1 + 0 = a.1 + 1)) = true
        rw [if_neg (sg_ne 0 _)]
        exact decide_eq_true rfl
    · obtain ⟨c, hc, rfl⟩ := brows_get ha
      obtain ⟨c2, hc2, rfl⟩ := brows_get hr
      show (if (if i + 1 + 1 = bs.length then 46 else 43) = 61 then _ else decide (lastN rs + 1 + (i + 1) = lastN rs + 1 + i + 1)) = true
      rw [if_neg (sg_ne (i + 1) _)]
      exact decide_eq_true (show lastN rs + 1 + (i + 1) = lastN rs + 1 + i + 1 by omega)
  ls := fun r hr => by
    rcases List.eq_nil_or_concat bs with rfl | ⟨cs, c, rfl⟩
    · have e0 : brows (lastN rs) [] = [] := rfl
      rw [e0, List.append_nil] at hr
      exact g.ls r hr
    · have hl : (brows (lastN rs) (cs.concat c)).getLast? = some (lastN rs + 1 + cs.length, (if cs.length + 1 = (cs.concat c).length then 46 else 43), c) := by
        rw [List.getLast?_eq_getElem?, brows_len, show (cs.concat c).length - 1 = cs.length by rw [List.length_concat]; rfl]
        refine brows_at ?_
        rw [List.concat_eq_append, List.getElem?_append_right (Nat.le_refl _), Nat.sub_self]
        rfl
      rw [List.getLast?_append, hl] at hr
      have hr' := Option.some.inj hr
      rw [← hr']
      show (if cs.length + 1 = (cs.concat c).length then 46 else 43) ≠ 43
      rw [if_pos List.length_concat.symm]
      decide
  bg := by
    rw [begP_app fun r hr => ?_, ← g.bg]
    obtain ⟨i, c, _, rfl⟩ := brows_mem hr
    exact sg_ne i _
theorem good_mark {rs : List Rec3} {b : Nat} {c : List Nat} (g : Good rs b) (nb : lastN rs < 10 ^ 12) (h1 : c.length ≤ 16) (h2 : bok c = true) : Good (rs ++ [(lastN rs, 61, c)]) rs.length where
  ok := fun r hr => by
    obtain hr | hr := List.mem_append.mp hr
    · exact g.ok r hr
    · obtain rfl := List.mem_singleton.mp hr
      exact ⟨nb, .inr (.inr rfl), h2, h1⟩
  fol := by
    refine fol_app g.fol (fun r hr => ?_) (fun i r a ha hr => ?_)
    · obtain rfl := (Option.some.inj hr).symm
      rcases ahead_row rs with ⟨rfl, e⟩ | ⟨ys, a, rfl, e⟩
      · rfl
      · have sn := g.ls a (by rw [List.getLast?_append, List.getLast?_singleton]; rfl)
        rw [List.getLast?_append, List.getLast?_singleton, e]
        show (decide (a.1 = a.1) && decide (a.2.1 ≠ 43)) = true
        rw [decide_eq_true rfl, decide_eq_true sn]
        rfl
    · cases hr
  ls := fun r hr => by
    rw [List.getLast?_append, List.getLast?_singleton] at hr
    have hr' := Option.some.inj hr
    rw [← hr']
    show (61 : Nat) ≠ 43
    decide
  bg := (begP_mark rs _ c).symm
/-- the number of the last row, behind a deed -/
theorem lastN_brows (rs : List Rec3) (bs : List (List Nat)) : lastN (rs ++ brows (lastN rs) bs) = lastN rs + bs.length := by
  rcases List.eq_nil_or_concat bs with rfl | ⟨cs, c, rfl⟩
  · rw [show brows (lastN rs) [] = [] from rfl, List.append_nil]
    rfl
  · have hl : (brows (lastN rs) (cs.concat c)).getLast? = some (lastN rs + 1 + cs.length, (if cs.length + 1 = (cs.concat c).length then 46 else 43), c) := by
      rw [List.getLast?_eq_getElem?, brows_len, show (cs.concat c).length - 1 = cs.length by rw [List.length_concat]; rfl]
      refine brows_at ?_
      rw [List.concat_eq_append, List.getElem?_append_right (Nat.le_refl _), Nat.sub_self]
      rfl
    have e : lastN (rs ++ brows (lastN rs) (cs.concat c)) = lastN rs + 1 + cs.length := by
      show (match (rs ++ brows (lastN rs) (cs.concat c)).getLast? with | some r => r.1 | none => 0) = _
      rw [List.getLast?_append, hl]
      rfl
    rw [e, List.length_concat]
    omega
theorem RwL.kl {H H' : Hp} {a l : Addr} {xs : List V} {rs : List Rec3} {C : Addr} {us : List V} {n b : Nat} (h : RwL H xs rs) (lo : LgO C H a l us n b) (k : Kl a l H H') : RwL H' xs rs := ⟨h.1, fun i r e => by
  obtain ⟨t, e1, ht⟩ := h.2 i r e
  refine ⟨t, e1, k t _ (fun z => ?_) (fun z => ?_) ht⟩
  · obtain ⟨⟨dx, ha⟩, _⟩ := lo
    rw [z, ha] at ht
    cases ht
  · rw [z, lo.2] at ht
    cases ht⟩
section
variable {P : Program} {w : World} {K : PySem.W.Frag} {mg : Str → Option Value} {base : Heap} {f : Addr} {fd : FuncData} {k : Nat} {C : Addr}
end
theorem fol_drop {rs : List Rec3} (h : Fol none rs) {b : Nat} (hb : b = 0 ∨ isM rs b = true) : Fol none (rs.drop b) := fol_of fun i r e => by
  rw [List.getElem?_drop] at e
  have z := fol_at h e
  by_cases i0 : i = 0
  · subst i0
    rw [if_pos rfl]
    rcases hb with rfl | hm
    · exact z
    · rw [Nat.add_zero] at e
      unfold isM at hm
      rw [e] at hm
      have hm' : decide (r.2.1 = 61) = true := hm
      show (decide (r.2.1 = 61) || _) = true
      rw [hm', Bool.true_or]
  · rw [if_neg (by omega)] at z
    rw [if_neg i0, List.getElem?_drop, show b + (i - 1) = b + i - 1 by omega]
    exact z
theorem begP_is (rs : List Rec3) (m : Nat) : begP rs m ≤ m ∧ (begP rs m = 0 ∨ isM rs (begP rs m) = true) := by
  unfold begP
  rcases mks_last rs m with ⟨e, _⟩ | ⟨ks, i, e, lt, hi, _⟩
  · rw [e]
    exact ⟨Nat.zero_le _, .inl rfl⟩
  · rw [e, List.getLast?_append, List.getLast?_singleton]
    exact ⟨Nat.le_of_lt lt, .inr hi⟩
theorem txts_no {H : Hp} {p l : Addr} {n : Nat} {zs : List (List Nat)} (pu : Pu H p n) (hl : H l = some (.lst (txts zs))) : l ≠ p := fun z => by
  obtain ⟨x1, x2, x3, hp, _⟩ := pu
  rw [← z, hl] at hp
  have hx := HO.lst.inj (Option.some.inj hp)
  cases zs with
  | nil => cases hx
  | cons y ys => exact V.noConfusion (List.cons.inj hx).1
theorem LgO.kp {C : Addr} {H H' : Hp} {p a l : Addr} {m n b : Nat} {zs : List (List Nat)} (h : LgO C H a l (txts zs) n b) (pu : Pu H p m) (k : Kp p H H') : LgO C H' a l (txts zs) n b := by
  have lp := txts_no pu h.2
  obtain ⟨⟨dx, ha⟩, hl⟩ := h
  have ap : a ≠ p := fun z => by
    obtain ⟨x1, x2, x3, hp, _⟩ := pu
    rw [z, hp] at ha
    cases ha
  exact ⟨⟨dx, k _ _ ap ha⟩, k _ _ lp hl⟩
theorem fol_take {rs : List Rec3} (h : Fol none rs) (i : Nat) : Fol none (rs.take i) := by
  have go : ∀ (a : Option Rec3) (rs : List Rec3) (i : Nat), Fol a rs → Fol a (rs.take i) := by
    intro a rs
    induction rs generalizing a with
    | nil =>
      intro i h
      rw [List.take_nil]
      exact h
    | cons r rs ih =>
      intro i h
      cases i with
      | zero => exact trivial
      | succ i => exact ⟨h.1, ih _ i h.2⟩
  exact go none rs i h
end Tg

/-! texts of lines, spoilt at one place -/
namespace Tg
open PySem PySem.Spec PyProof.Rows L2
open SX (S)
open TL (numL)
/-- the text of lines, with a line end behind each -/
def tex (zs : List (List Nat)) : List Nat := (nls zs).flatten
theorem tex_nil : tex [] = [] := rfl
theorem tex_cons (z : List Nat) (zs : List (List Nat)) : tex (z :: zs) = z ++ 10 :: tex zs := by
  show (z ++ [10]) ++ (nls zs).flatten = z ++ 10 :: (nls zs).flatten
  rw [List.append_assoc]
  rfl
theorem tex_app (a b : List (List Nat)) : tex (a ++ b) = tex a ++ tex b := by
  unfold tex nls
  rw [List.map_append, List.flatten_append]
theorem tex_join (zs : List (List Nat)) : TL.joinL [10] (zs ++ [[]]) = tex zs := by rw [← join_nl0, joinL_flat]; rfl
/-- how many line ends -/
def nlc (t : List Nat) : Nat := (t.filter fun c => decide (c = 10)).length
theorem nlc_app (a b : List Nat) : nlc (a ++ b) = nlc a + nlc b := by
  unfold nlc
  rw [List.filter_append, List.length_append]
theorem nlc_no {z : List Nat} (h : 10 ∉ z) : nlc z = 0 := by
  unfold nlc
  rw [List.length_eq_zero_iff, List.filter_eq_nil_iff]
  intro c hc e
  exact h (of_decide_eq_true e ▸ hc)
theorem nlc_tex : ∀ {zs : List (List Nat)}, (∀ z, z ∈ zs → 10 ∉ z) → nlc (tex zs) = zs.length
  | [], _ => rfl
  | z :: zs, h => by
    have ih := nlc_tex (zs := zs) fun y hy => h y (List.mem_cons_of_mem _ hy)
    rw [tex_cons, nlc_app, nlc_no (h z (List.mem_cons_self ..)), show nlc (10 :: tex zs) = nlc (tex zs) + 1 from rfl, ih, List.length_cons]
    omega
/-- a place of the text: its line, what stands ahead of it there and behind it -/
theorem place : ∀ {zs : List (List Nat)} {at_ : Nat}, at_ < (tex zs).length → ∃ (A B : List (List Nat)) (u v : List Nat), zs = A ++ (u ++ v) :: B ∧ (tex zs).take at_ = tex A ++ u ∧ (tex zs).drop at_ = v ++ 10 :: tex B
  | [], at_, h => absurd h (Nat.not_lt_zero _)
  | z :: zs, at_, h => by
    rw [tex_cons] at h ⊢
    rcases Nat.lt_or_ge z.length at_ with lt | ge
    · have h2 : at_ - (z.length + 1) < (tex zs).length := by
        rw [List.length_append, List.length_cons] at h
        omega
      obtain ⟨A, B, u, v, e, e1, e2⟩ := place h2
      obtain ⟨d, rfl⟩ : ∃ d, at_ = z.length + (d + 1) := ⟨at_ - z.length - 1, by omega⟩
      have ed : z.length + (d + 1) - (z.length + 1) = d := by omega
      rw [ed] at e1 e2
      refine ⟨z :: A, B, u, v, by rw [e]; rfl, ?_, ?_⟩
      · rw [tex_cons, List.take_length_add_append, List.take_succ_cons, e1, List.append_assoc]
        rfl
      · rw [List.drop_length_add_append, List.drop_succ_cons, e2]
    · refine ⟨[], zs, z.take at_, z.drop at_, by rw [List.take_append_drop]; rfl, ?_, ?_⟩
      · rw [List.take_append_of_le_length ge]
        rfl
      · rw [List.drop_append_of_le_length ge]
/-- a text whose line j is none, all ahead of it standing -/
def Spo (zs : List (List Nat)) (t : List Nat) (j : Nat) : Prop := ∃ (A : List (List Nat)) (x : List Nat) (ws : List (List Nat)), t = tex (A ++ x :: ws) ∧ A = zs.take j ∧ A.length = j ∧ ¬ IsL x ∧ (∀ y, y ∈ x :: ws → y.length ≤ 100 ∧ 10 ∉ y) ∧ ws.length ≤ zs.length
theorem take_A {A B : List (List Nat)} {z : List Nat} : A = (A ++ z :: B).take A.length := by rw [List.take_left']; rfl
section
variable {A B : List (List Nat)} {u v : List Nat} {n sg : Nat} {b : List Nat}
/-- what is wanted of the lines -/
def Lns (zs : List (List Nat)) : Prop := ∀ z, z ∈ zs → ∃ (n sg : Nat) (b : List Nat), n < 10 ^ 12 ∧ sgn sg ∧ bok b = true ∧ b.length ≤ 16 ∧ z = line n sg b
theorem Lns.sm {zs : List (List Nat)} (h : Lns zs) : ∀ z, z ∈ zs → z.length ≤ 40 ∧ 10 ∉ z ∧ z ≠ [] := fun z hz => by
  obtain ⟨n, sg, b, n12, hs, hb, b16, rfl⟩ := h z hz
  obtain ⟨r, er⟩ : ∃ r : Rec3, r = (n, sg, b) := ⟨_, rfl⟩
  have ro : ROk r := by
    rw [er]
    exact ⟨n12, hs, hb, b16⟩
  have el : rln r = line n sg b := by rw [er]; rfl
  have e1 := rln_len ro
  have e2 := rln_no ro
  rw [el] at e1 e2
  refine ⟨e1, e2, fun e => ?_⟩
  rw [line_tail] at e
  have e3 := congrArg List.length e
  rw [List.length_append, List.length_cons, List.length_nil] at e3
  omega
/-- a line and more behind it is none -/
theorem more_no {y : List Nat} (hs : sg ≠ 32) (ne : y ≠ []) : ¬ IsL (line n sg b ++ y) := fun h => by
  rw [line_tail, List.append_assoc, List.cons_append] at h
  have e := isl_tail hs h
  have e2 : (numL (chk (ahead n sg b)) ++ y).length = (numL (chk (ahead n sg b))).length := by rw [e]
  rw [List.length_append] at e2
  exact ne (List.eq_nil_of_length_eq_zero (by omega))
end
theorem Lns.part {zs : List (List Nat)} {A B : List (List Nat)} {z : List Nat} (h : Lns zs) (e : zs = A ++ z :: B) : (∃ (n sg : Nat) (b : List Nat), n < 10 ^ 12 ∧ sgn sg ∧ bok b = true ∧ b.length ≤ 16 ∧ z = line n sg b) ∧ ∀ y, y ∈ B → y.length ≤ 40 ∧ 10 ∉ y ∧ y ≠ [] := ⟨h z (by rw [e]; exact List.mem_append.mpr (.inr (List.mem_cons_self ..))), fun y hy => h.sm y (by rw [e]; exact List.mem_append.mpr (.inr (List.mem_cons_of_mem _ hy)))⟩
theorem mem_cons2 {x : List Nat} {ws : List (List Nat)} (hx : x.length ≤ 100 ∧ 10 ∉ x) (hw : ∀ y, y ∈ ws → y.length ≤ 100 ∧ 10 ∉ y) : ∀ y, y ∈ x :: ws → y.length ≤ 100 ∧ 10 ∉ y := fun y hy => by
  obtain rfl | hy := List.mem_cons.mp hy
  · exact hx
  · exact hw y hy
theorem small_B {B : List (List Nat)} (h : ∀ y, y ∈ B → y.length ≤ 40 ∧ 10 ∉ y ∧ y ≠ []) : ∀ y, y ∈ B → y.length ≤ 100 ∧ 10 ∉ y := fun y hy => ⟨Nat.le_trans (h y hy).1 (by decide), (h y hy).2.1⟩
/-- a sign put in -/
theorem spo_put {zs : List (List Nat)} (h : Lns zs) {A B : List (List Nat)} {u v : List Nat} {c : Nat} (e : zs = A ++ (u ++ v) :: B) (c0 : 0 < c) (c1 : c ≤ 126) : Spo zs (tex A ++ u ++ c :: (v ++ 10 :: tex B)) (A.length + if c = 10 ∧ v = [] then 1 else 0) := by
  obtain ⟨⟨n, sg, b, n12, hs, hb, b16, ez⟩, hB0⟩ := h.part e
  have hB := fun y hy => small_B hB0 y hy
  obtain ⟨l40, no, _⟩ := h.sm (u ++ v) (by rw [e]; exact List.mem_append.mpr (.inr (List.mem_cons_self ..)))
  rw [List.length_append] at l40
  have nu : 10 ∉ u := fun z => no (List.mem_append.mpr (.inl z))
  have nv : 10 ∉ v := fun z => no (List.mem_append.mpr (.inr z))
  by_cases c10 : c = 10
  · subst c10
    by_cases ve : v = []
    · rw [if_pos ⟨rfl, ve⟩]
      subst ve
      rw [List.append_nil] at e ez
      refine ⟨A ++ [u], [], B, ?_, ?_, by rw [List.length_append]; rfl, ?_, mem_cons2 ⟨Nat.zero_le _, fun z => nomatch z⟩ hB, by rw [e]; simp only [List.length_append, List.length_cons, List.length_nil]; omega⟩
      · rw [tex_app, tex_app, tex_cons, tex_cons, tex_nil, List.append_assoc, List.append_assoc, List.append_assoc]
        rfl
      · rw [e, List.take_append, List.take_of_length_le (by omega), show A.length + 1 - A.length = 1 by omega]
        rfl
      · rintro ⟨n2, sg2, b2, _, _, _, e2⟩
        rw [line_tail] at e2
        have e3 := congrArg List.length e2
        rw [List.length_append, List.length_cons] at e3
        exact absurd e3 (by show ¬ 0 = _; omega)
    · rw [if_neg fun z => ve z.2]
      refine ⟨A, u, v :: B, ?_, by rw [e]; exact take_A, rfl, fun il => ve (isl_cut (sgn_ne hs) il ez), mem_cons2 ⟨by omega, nu⟩ (mem_cons2 ⟨by omega, nv⟩ hB), by rw [e]; simp only [List.length_append, List.length_cons, List.length_nil]; omega⟩
      rw [tex_app, tex_cons, tex_cons, List.append_assoc]
  · rw [if_neg fun z => c10 z.1]
    refine ⟨A, u ++ c :: v, B, ?_, by rw [e]; exact take_A, rfl, nr_ins n12 hs hb b16 c0 c1 ez, mem_cons2 ⟨by rw [List.length_append, List.length_cons]; omega, fun z => ?_⟩ hB, by rw [e]; simp only [List.length_append, List.length_cons, List.length_nil]; omega⟩
    · rw [tex_app, tex_cons, List.append_assoc, List.append_assoc]
      rfl
    · obtain z | z := List.mem_append.mp z
      · exact nu z
      · obtain z | z := List.mem_cons.mp z
        · exact c10 z.symm
        · exact nv z
/-- a sign made another -/
theorem spo_rep {zs : List (List Nat)} (h : Lns zs) {A B : List (List Nat)} {u v : List Nat} {c : Nat} (e : zs = A ++ (u ++ v) :: B) (c1 : c ≤ 126) (more : v = [] → B ≠ []) (other : tex A ++ u ++ c :: (v ++ 10 :: tex B).drop 1 ≠ tex A ++ u ++ (v ++ 10 :: tex B)) : Spo zs (tex A ++ u ++ c :: (v ++ 10 :: tex B).drop 1) A.length := by
  obtain ⟨⟨n, sg, b, n12, hs, hb, b16, ez⟩, hB⟩ := h.part e
  obtain ⟨l40, no, _⟩ := h.sm (u ++ v) (by rw [e]; exact List.mem_append.mpr (.inr (List.mem_cons_self ..)))
  rw [List.length_append] at l40
  have nu : 10 ∉ u := fun z => no (List.mem_append.mpr (.inl z))
  cases v with
  | cons a v =>
    rw [List.length_cons] at l40
    have nv : 10 ∉ v := fun z => no (List.mem_append.mpr (.inr (List.mem_cons_of_mem _ z)))
    have et : (a :: v ++ 10 :: tex B).drop 1 = v ++ 10 :: tex B := rfl
    rw [et] at other ⊢
    by_cases c10 : c = 10
    · subst c10
      refine ⟨A, u, v :: B, ?_, by rw [e]; exact take_A, rfl, fun il => ?_, mem_cons2 ⟨by omega, nu⟩ (mem_cons2 ⟨by omega, nv⟩ (small_B hB)), by rw [e]; simp only [List.length_append, List.length_cons, List.length_nil]; omega⟩
      · rw [tex_app, tex_cons, tex_cons, List.append_assoc]
      · have := isl_cut (sgn_ne hs) il ez
        cases this
    · refine ⟨A, u ++ c :: v, B, ?_, by rw [e]; exact take_A, rfl, fun il => ?_, mem_cons2 ⟨by rw [List.length_append, List.length_cons]; omega, fun z => ?_⟩ (small_B hB), by rw [e]; simp only [List.length_append, List.length_cons, List.length_nil]; omega⟩
      · rw [tex_app, tex_cons, List.append_assoc, List.append_assoc]
        rfl
      · have ca := nr_rep n12 hs hb b16 c1 ez il
        subst ca
        exact other rfl
      · obtain z | z := List.mem_append.mp z
        · exact nu z
        · obtain z | z := List.mem_cons.mp z
          · exact c10 z.symm
          · exact nv z
  | nil =>
    have et : (([] : List Nat) ++ 10 :: tex B).drop 1 = tex B := rfl
    rw [et] at other ⊢
    cases B with
    | nil => exact absurd rfl (more rfl)
    | cons y B =>
      obtain ⟨y40, ny, ye⟩ := hB y (List.mem_cons_self ..)
      rw [List.append_nil] at ez
      have c10 : c ≠ 10 := fun z => other (by rw [z]; rfl)
      refine ⟨A, u ++ c :: y, B, ?_, by rw [e]; exact take_A, rfl, ?_, mem_cons2 ⟨by rw [List.length_append, List.length_cons]; omega, fun z => ?_⟩ (small_B fun x hx => hB x (List.mem_cons_of_mem _ hx)), by rw [e]; simp only [List.length_append, List.length_cons, List.length_nil]; omega⟩
      · rw [tex_app, tex_cons, tex_cons, List.append_assoc, List.append_assoc]
        rfl
      · rw [ez]
        exact more_no (sgn_ne hs) (fun z => nomatch z)
      · obtain z | z := List.mem_append.mp z
        · exact nu z
        · obtain z | z := List.mem_cons.mp z
          · exact c10 z.symm
          · exact ny z
/-- a sign left out -/
theorem spo_del {zs : List (List Nat)} (h : Lns zs) {A B : List (List Nat)} {u v : List Nat} (e : zs = A ++ (u ++ v) :: B) (more : v = [] → B ≠ []) : Spo zs (tex A ++ u ++ (v ++ 10 :: tex B).drop 1) A.length := by
  obtain ⟨⟨n, sg, b, n12, hs, hb, b16, ez⟩, hB⟩ := h.part e
  obtain ⟨l40, no, _⟩ := h.sm (u ++ v) (by rw [e]; exact List.mem_append.mpr (.inr (List.mem_cons_self ..)))
  rw [List.length_append] at l40
  have nu : 10 ∉ u := fun z => no (List.mem_append.mpr (.inl z))
  cases v with
  | cons a v =>
    rw [List.length_cons] at l40
    have nv : 10 ∉ v := fun z => no (List.mem_append.mpr (.inr (List.mem_cons_of_mem _ z)))
    refine ⟨A, u ++ v, B, ?_, by rw [e]; exact take_A, rfl, nr_del n12 hs hb b16 ez, mem_cons2 ⟨by rw [List.length_append]; omega, fun z => ?_⟩ (small_B hB), by rw [e]; simp only [List.length_append, List.length_cons, List.length_nil]; omega⟩
    · rw [tex_app, tex_cons, List.append_assoc, List.append_assoc]
      rfl
    · obtain z | z := List.mem_append.mp z
      · exact nu z
      · exact nv z
  | nil =>
    cases B with
    | nil => exact absurd rfl (more rfl)
    | cons y B =>
      obtain ⟨y40, ny, ye⟩ := hB y (List.mem_cons_self ..)
      rw [List.append_nil] at ez
      refine ⟨A, u ++ y, B, ?_, by rw [e]; exact take_A, rfl, ?_, mem_cons2 ⟨by rw [List.length_append]; omega, fun z => ?_⟩ (small_B fun x hx => hB x (List.mem_cons_of_mem _ hx)), by rw [e]; simp only [List.length_append, List.length_cons, List.length_nil]; omega⟩
      · show tex A ++ u ++ tex (y :: B) = _
        rw [tex_app, tex_cons, tex_cons, List.append_assoc, List.append_assoc]
      · rw [ez]
        exact more_no (sgn_ne hs) ye
      · obtain z | z := List.mem_append.mp z
        · exact nu z
        · exact ny z
/-- two neighbours exchanged -/
theorem spo_swap {zs : List (List Nat)} (h : Lns zs) {A B : List (List Nat)} {u v : List Nat} {a c : Nat} {r : List Nat} (e : zs = A ++ (u ++ v) :: B) (er : v ++ 10 :: tex B = a :: c :: r) (more : r ≠ []) (other : tex A ++ u ++ c :: a :: r ≠ tex A ++ u ++ a :: c :: r) : Spo zs (tex A ++ u ++ c :: a :: r) A.length := by
  obtain ⟨⟨n, sg, b, n12, hs, hb, b16, ez⟩, hB⟩ := h.part e
  obtain ⟨l40, no, _⟩ := h.sm (u ++ v) (by rw [e]; exact List.mem_append.mpr (.inr (List.mem_cons_self ..)))
  rw [List.length_append] at l40
  have nu : 10 ∉ u := fun z => no (List.mem_append.mpr (.inl z))
  rcases v with _ | ⟨a', _ | ⟨c', v⟩⟩
  · have er1 : 10 :: tex B = a :: c :: r := er
    have er2 : tex B = c :: r := (List.cons.inj er1).2
    obtain rfl := (List.cons.inj er1).1
    rw [List.append_nil] at ez
    cases B with
    | nil => cases er2
    | cons y B =>
      obtain ⟨y40, ny, ye⟩ := hB y (List.mem_cons_self ..)
      cases y with
      | nil => exact absurd rfl ye
      | cons c' y =>
        rw [tex_cons] at er2
        have er3 : c' :: (y ++ 10 :: tex B) = c :: r := er2
        obtain rfl := (List.cons.inj er3).1
        have er4 := (List.cons.inj er3).2
        rw [List.length_cons] at y40
        have nc : ¬ 10 = c' := fun z => ny (by rw [z]; exact List.mem_cons_self ..)
        have ny' : 10 ∉ y := fun z => ny (List.mem_cons_of_mem _ z)
        refine ⟨A, u ++ [c'], y :: B, ?_, by rw [e]; exact take_A, rfl, ?_, mem_cons2 ⟨by rw [List.length_append, List.length_singleton]; rw [List.length_nil] at l40; omega, fun z => ?_⟩ (mem_cons2 ⟨by omega, ny'⟩ (small_B fun x hx => hB x (List.mem_cons_of_mem _ hx))), by rw [e]; simp only [List.length_append, List.length_cons, List.length_nil]; omega⟩
        · rw [← er4, tex_app, tex_cons, tex_cons, List.append_assoc, List.append_assoc]
          rfl
        · rw [ez]
          exact more_no (sgn_ne hs) (fun z => nomatch z)
        · obtain z | z := List.mem_append.mp z
          · exact nu z
          · exact nc (List.mem_singleton.mp z)
  · have er1 : a' :: 10 :: tex B = a :: c :: r := er
    have er2 := (List.cons.inj er1).2
    obtain rfl := (List.cons.inj er1).1
    obtain rfl := (List.cons.inj er2).1
    have er3 : tex B = r := (List.cons.inj er2).2
    have na : ¬ 10 = a' := fun z => no (List.mem_append.mpr (.inr (by rw [z]; exact List.mem_cons_self ..)))
    rw [List.length_singleton] at l40
    cases B with
    | nil => exact absurd er3.symm more
    | cons y B =>
      obtain ⟨y40, ny, ye⟩ := hB y (List.mem_cons_self ..)
      refine ⟨A, u, (a' :: y) :: B, ?_, by rw [e]; exact take_A, rfl, fun il => ?_, mem_cons2 ⟨by omega, nu⟩ (mem_cons2 ⟨by rw [List.length_cons]; omega, fun z => ?_⟩ (small_B fun x hx => hB x (List.mem_cons_of_mem _ hx))), by rw [e]; simp only [List.length_append, List.length_cons, List.length_nil]; omega⟩
      · rw [← er3, tex_app, tex_cons, tex_cons, tex_cons, List.append_assoc]
        rfl
      · have := isl_cut (sgn_ne hs) il ez
        cases this
      · obtain z | z := List.mem_cons.mp z
        · exact na z
        · exact ny z
  · have er1 : a' :: c' :: (v ++ 10 :: tex B) = a :: c :: r := er
    have er2 := (List.cons.inj er1).2
    obtain rfl := (List.cons.inj er1).1
    obtain rfl := (List.cons.inj er2).1
    have er3 : v ++ 10 :: tex B = r := (List.cons.inj er2).2
    rw [List.length_cons, List.length_cons] at l40
    have na : ¬ 10 = a' := fun z => no (List.mem_append.mpr (.inr (by rw [z]; exact List.mem_cons_self ..)))
    have nc : ¬ 10 = c' := fun z => no (List.mem_append.mpr (.inr (List.mem_cons_of_mem _ (by rw [z]; exact List.mem_cons_self ..))))
    have nv : 10 ∉ v := fun z => no (List.mem_append.mpr (.inr (List.mem_cons_of_mem _ (List.mem_cons_of_mem _ z))))
    refine ⟨A, u ++ c' :: a' :: v, B, ?_, by rw [e]; exact take_A, rfl, fun il => ?_, mem_cons2 ⟨by rw [List.length_append, List.length_cons, List.length_cons]; omega, fun z => ?_⟩ (small_B hB), by rw [e]; simp only [List.length_append, List.length_cons, List.length_nil]; omega⟩
    · rw [← er3, tex_app, tex_cons, List.append_assoc, List.append_assoc]
      rfl
    · have ca := nr_swap n12 hs hb b16 ez il
      subst ca
      exact other rfl
    · obtain z | z := List.mem_append.mp z
      · exact nu z
      · obtain z | z := List.mem_cons.mp z
        · exact nc z
        · obtain z | z := List.mem_cons.mp z
          · exact na z
          · exact nv z
end Tg

namespace Tg
open PySem PySem.Spec PyProof.Rows L2
open SX (S)
open TL (numL)
abbrev sEq : Stmt := inCls (topS 25) 1
abbrev sWn : Stmt := topS 39
abbrev sRA : Stmt := topS 40
abbrev sOt : Stmt := topS 41
abbrev sLA : Stmt := topS 42
abbrev NWn : List Str := ["_law_script", "_law_log", "_law_cell", "_law_word", "_law_some_bodies"]
abbrev NLA : List Str := ["_law_a_text", "_law_at", "_law_sign_here"]
theorem scEq : FnScope ["self", "other"] ["self", "other"] (defScope sEq) := ⟨rfl, rfl, rfl, by decide +kernel, rfl, by decide +kernel, by decide +kernel⟩
theorem scWn : FnScope NWn ["_law_script"] (defScope sWn) := ⟨rfl, rfl, rfl, by decide +kernel, rfl, by decide +kernel, by decide +kernel⟩
theorem scRA : FnScope ["_law_a_text", "_law_by_name", "_law_told", "_law_caught", "e"] ["_law_a_text", "_law_by_name"] (defScope sRA) := ⟨rfl, rfl, rfl, by decide +kernel, rfl, by decide +kernel, by decide +kernel⟩
theorem scOt : FnScope ["_law_purse_here"] ["_law_purse_here"] (defScope sOt) := ⟨rfl, rfl, rfl, by decide +kernel, rfl, by decide +kernel, by decide +kernel⟩
theorem scLA : FnScope NLA ["_law_a_text", "_law_at"] (defScope sLA) := ⟨rfl, rfl, rfl, by decide +kernel, rfl, by decide +kernel, by decide +kernel⟩
/-- what isinstance asks of the class -/
structure TIns (K : PySem.W.Frag) (C : Addr) : Prop where
  cc : PySem.W.findIn K (.ref C) "__class__" = some (some (.builtin "object.__class__"))
  get : PySem.W.specialIn K (.builtin "object.__class__") "__get__" = some (some (.builtin "getset_descriptor.__get__"))
  takes : PySem.W.takesIn K (.builtin "object.__class__") = some true
  obj : PySem.W.mroIn K C (.type "object") = some true
  kit : PySem.W.kitOne K (.ref C) (.ref C) = some true
/-- texts as data -/
def tdat (ys : List (List Nat)) : List PyData := ys.map fun y => PyData.str (S y)
def Sml (ys : List (List Nat)) : Prop := ∀ y, y ∈ ys → ∀ c, c ∈ y → c ≤ 126
theorem tdat_form : ∀ {ys : List (List Nat)}, Sml ys → PyData.canLayAll0 (tdat ys) = true ∧ PyData.depthAll (tdat ys) = 0 ∧ PyData.eqvAll (tdat ys) (tdat ys) = true
  | [], _ => ⟨rfl, rfl, rfl⟩
  | y :: ys, h => by
    obtain ⟨h1, h2, h3⟩ := tdat_form (ys := ys) fun z hz => h z (List.mem_cons_of_mem _ hz)
    have a2 : PyData.strOk (S y) = true := str_S fun c hc => by
      have := h y (List.mem_cons_self ..) c hc
      omega
    refine ⟨?_, ?_, ?_⟩
    · show (PyData.strOk (S y) && PyData.canLayAll0 (tdat ys)) = true
      rw [a2, h1]
      rfl
    · show max 0 (PyData.depthAll (tdat ys)) = 0
      rw [h2]
      rfl
    · show ((S y == S y) && PyData.eqvAll (tdat ys) (tdat ys)) = true
      rw [h3, beq_self_eq_true]
      rfl
theorem dp_txts {K : PySem.W.Frag} {H : Hp} : ∀ (ys : List (List Nat)), DpAll K H (txts ys) (tdat ys)
  | [] => .nil
  | y :: ys => .cons (.str _) (dp_txts ys)
theorem rln_small {r : Rec3} (h : ROk r) : ∀ c, c ∈ rln r → c ≤ 126 := fun c z => by
  unfold rln at z
  rw [line_tail] at z
  obtain z | z := List.mem_append.mp z
  · exact (ahead_signs h.2.1 h.2.2.1 c z).2
  · obtain z | z := List.mem_cons.mp z
    · omega
    · have := num_all _ c z
      omega
theorem ok_lns {rs : List Rec3} (ok : ∀ r, r ∈ rs → ROk r) : Lns (rs.map rln) := fun z hz => by
  obtain ⟨r, hr, rfl⟩ := List.mem_map.mp hz
  obtain ⟨h1, h2, h3, h4⟩ := ok r hr
  exact ⟨r.1, r.2.1, r.2.2, h1, h2, h3, h4, rfl⟩
section
variable {P : Program} {w : World} {K : PySem.W.Frag} {mg : Str → Option Value} {base : Heap} {f : Addr} {fd : FuncData} {k : Nat} {C CL : Addr}
/-- two logs of the same lines -/
def SameL (C : Addr) (a b : Addr) (H : Hp) : Prop := ∃ (zs : List (List Nat)) (l1 l2 n1 n2 b1 b2 : Nat), Sml zs ∧ LgO C H a l1 (txts zs) n1 b1 ∧ LgO C H b l2 (txts zs) n2 b2
theorem ok_eq (F : Fun K "__eq__" "Log.__eq__" sEq f fd) (T : TLog K C) (TI : TIns K C) (g_Log : mg "Log" = some (.ref C)) (m_isinstance : mg "isinstance" = none) : FnOk P w K mg base CX0 (k + 1) f fd ["self", "other"] (spEq (SameL C)) := by
  refine F.ok scEq (fun vs H Q E h => ?_) (fun cdv A outer s H vs Q E hr h => ?_)
  · obtain ⟨a, b, rfl, _⟩ := h
    rfl
  · obtain ⟨a, b, rfl, ⟨zs, l1, l2, n1, n2, b1, b2, sm, ⟨⟨dA, eA⟩, hl1⟩, ⟨⟨dB, eB⟩, hl2⟩⟩, q⟩ := h
    have hu := hr.units
    refine ⟨_, pss_one (ps_ret (pe_and (pe_callB call_isi (by rfl) m_isinstance (by decide +kernel) (pa_cons (pv 1) (pa_cons (pe_glob (v := .ref C) rfl g_Log rfl) pa_nil))) (pe_one (pe_cmpR (op_eqD hu) (pe_fld (pv 0) rfl) (pe_fld (pv 1) rfl) (nomark _))))), ?_⟩
    refine ⟨_, rfl, .ref b, .ref C, .ref C, .ref C, true, rfl, .own _, .base (.ins eB T.cl TI.cc TI.get TI.takes TI.obj), TI.kit, true, rfl, if_t ?_⟩
    obtain ⟨f1, f2, f3⟩ := tdat_form sm
    have sh : SeqAt.shaped (.list (tdat zs)) = true := by
      refine shaped_of f1 ?_
      show PyData.depthAll (tdat zs) + 1 ≤ 64
      rw [f2]
      decide
    refine ⟨_, rfl, a, C, dA, _, _, rfl, eA, T.cl, T.nk, rfl, _, rfl, b, C, dB, _, _, rfl, eB, T.cl, T.nk, rfl, .list (tdat zs), .list (tdat zs), .lst (SqL.of hl1) (dp_txts zs), .lst (SqL.of hl2) (dp_txts zs), sh, sh, ?_⟩
    rw [show PyData.eqv (.list (tdat zs)) (.list (tdat zs)) = true from f3]
    exact q H Ext.rfl'
/-- a log of at most six deeds -/
def spWn (C : Addr) (K : PySem.W.Frag) : Sp := fun vs H Q _ => ∃ (sa : Addr) (ns : List Int), vs = [.ref sa] ∧ SqL K H sa (ns.map V.int) ∧ ns.length ≤ 63 ∧ ∀ (a l : Addr) (rs : List Rec3) (b : Nat) (H' : Hp), Same H H' → LgO C H' a l (txts (rs.map rln)) (lastN rs) b → Good rs b → rs.length ≤ 24 → Q (.ref a) H'
theorem ok_wn (F : Fun K "_law_written" "_law_written" sWn f fd) (T : TLog K C) (K_Log : CalC P w K mg base k "Log" C ["self"] (spLI C)) (L_deed : Cal P w K mg base k "_law_deed" ["_law_purse_here", "_law_most"] spDe) (L_purse : Cal P w K mg base k "_law_purse" ["_law_script", "_law_at"] (spPurse K))
    (M_write_k : CalMK P w K mg base k C "write" ["self", "body"] ["body"] [0] (spWr C)) (M_mark_k : CalMK P w K mg base k C "mark" ["self", "body"] ["body"] [0] (spMk C)) (M_bundle_k : CalMK P w K mg base k C "bundle" ["self", "bodies"] ["bodies"] [0] (spBu C)) (m_range : mg "range" = none) (m_max : mg "max" = none) (m_len : mg "len" = none) : FnOk P w K mg base CX0 (k + 2) f fd ["_law_script"] (spWn C K) := by
  refine F.ok scWn (fun vs H Q E h => ?_) (fun cdv A outer s H vs Q E hr h => ?_)
  · obtain ⟨sa, ns, rfl, _⟩ := h
    rfl
  · obtain ⟨sa, ns, rfl, hS, n63, q⟩ := h
    refine ⟨_, pss_cons (ps_set (i := 1) scWn.nd rfl (.inl rfl) (pe_calC0 K_Log (hr.mono (by omega)) (by rfl)))
      (pss_cons (ps_for PassesOwn.never rfl (pi_range2 (by rfl) m_range (pa_cons pe_int (pa_cons (pe_callB (call_max2 rfl) (by rfl) m_max (by decide +kernel) (pa_cons pe_int (pa_cons (pe_callB call_len_seq (by rfl) m_len (by decide +kernel) (pa_cons (pe_slice sl_list (pv 0) po_none (po_some pe_int)) pa_nil)) pa_nil))) pa_nil))) (pg_name (i := 2) scWn.nd rfl (.inl rfl))
        (pss_cons (ps_asg (pe_cal L_deed (hr.mono (by omega)) (by rfl) (pa_cons (pe_cal L_purse (hr.mono (by omega)) (by rfl) (pa_cons (pv 0) (pa_cons (pv 2) pa_nil))) (pa_cons pe_int pa_nil))) (pg_tup rfl (pgs_cons (pg_name (i := 3) scWn.nd rfl (.inl rfl)) (pgs_cons (pg_name (i := 4) scWn.nd rfl (.inl rfl)) pgs_nil))))
        (pss_one (ps_if (pt_cmpR op_eq (pv 3) pe_str (nomark _))
          (pss_one (ps_expr (pe_calMK (pv 1) T.cl M_bundle_k (hr.mono (by omega)) (pk_cons (pv 4) pk_nil))))
          (pss_one (ps_if (pt_cmpR op_eq (pv 3) pe_str (nomark _))
            (pss_one (ps_expr (pe_calMK (pv 1) T.cl M_mark_k (hr.mono (by omega)) (pk_cons (pe_ix ix_list (pv 4) pe_int (fun _ _ => rfl)) pk_nil))))
            (pss_one (ps_expr (pe_calMK (pv 1) T.cl M_write_k (hr.mono (by omega)) (pk_cons (pe_ix ix_list (pv 4) pe_int (fun _ _ => rfl)) pk_nil))))))))))
      (pss_one (ps_ret (pv 1)))), ?_⟩
    intro a dx na nd da
    refine ⟨a, dx, rfl, upd_same, fun l H1 nl1 h1 h2 h3 => ⟨rfl, ?_⟩⟩
    have c2 : Same H H1 := fun y o e => by
      have ya : y ≠ a := ne_of_none e na
      have yd : y ≠ dx := ne_of_none e nd
      refine h3 y o ya ?_
      rw [upd_ne ya, upd_ne yd]
      exact e
    have nlH : H l = none := by
      cases hx : H l with
      | none => rfl
      | some o =>
        have ya : l ≠ a := ne_of_none hx na
        have yd : l ≠ dx := ne_of_none hx nd
        rw [upd_ne ya, upd_ne yd, hx] at nl1
        cases nl1
    have lo1 : LgO C H1 a l (txts (([] : List Rec3).map rln)) (lastN []) 0 := ⟨⟨dx, h1⟩, h2⟩
    refine ⟨_, rfl, (7 : Int), rfl, sa, _, rfl, sqL_same c2 hS, fun l0 n0 => ?_⟩
    rw [show cutV (ns.map V.int) none (some 7) = (ns.map V.int).take 7 from cutV_to _ 7]
    have s3 := same_new (o := .lst ((ns.map V.int).take 7)) n0
    refine ⟨l0, _, rfl, .inl (SqL.of upd_same), _, _, rfl, ?_⟩
    obtain ⟨m, em⟩ : ∃ m : Nat, (if (((ns.map V.int).take 7).length : Int) > 4 then (((ns.map V.int).take 7).length : Int) else 4) = ((m + 1 : Nat) : Int) ∧ m ≤ 6 := by
      have h7 : ((ns.map V.int).take 7).length ≤ 7 := List.length_take_le _ _
      by_cases g : (((ns.map V.int).take 7).length : Int) > 4
      · rw [if_pos g]
        exact ⟨((ns.map V.int).take 7).length - 1, by omega, by omega⟩
      · rw [if_neg g]
        exact ⟨3, rfl, by decide⟩
    rw [em.1]
    have m6 := em.2
    refine ⟨1, _, rfl, ⟨by omega, by omega, by omega, by omega⟩, ?_⟩
    rw [show (((m + 1 : Nat) : Int) - 1).toNat = m by omega]
    refine for_range (lo := 1) (n := m) (fun i σ Hc => ∃ (rs : List Rec3) (b : Nat) (z2 z3 z4 : Option V), σ = [some (.ref sa), some (.ref a), z2, z3, z4] ∧ Same H Hc ∧ LgO C Hc a l (txts (rs.map rln)) (lastN rs) b ∧ Good rs b ∧ rs.length ≤ 4 * i ∧ lastN rs ≤ 4 * i) ⟨[], 0, none, none, none, rfl, c2.trans s3, lo1.same s3, good_nil, Nat.le_refl _, Nat.le_refl _⟩ ?_ ?_
    · rintro i σ Hc hi ⟨rs, b, z2, z3, z4, rfl, sc, lo, gd, r4, l4⟩
      refine ⟨_, rfl, _, rfl, sa, ns, _, rfl, sqL_same sc hS, n63, by omega, by omega, fun p H4 s4 np p4 => ?_⟩
      refine ⟨p, _, 10, rfl, p4, by decide, by decide, fun t bl wd bs H5 k5 p5 nbl ht hbl dw bo => ?_⟩
      have s5 : Same Hc H5 := Kp.same s4 np k5
      have lo5 := lo.same s5
      refine ⟨t, _, rfl, SqT.of ht, rfl, _, _, rfl, _, _, rfl, rfl, ?_⟩
      have b4 : bs.length ≤ 4 := by
        rcases dw with ⟨_, h⟩ | ⟨c, rfl, _⟩
        · exact h
        · show 1 ≤ 4
          decide
      have xl : (txts (rs.map rln)).length ≤ 24 := by
        rw [txts_len, List.length_map]
        omega
      obtain ⟨⟨dz, haz⟩, hlz⟩ := id lo5
      rcases dw with ⟨rfl, _⟩ | ⟨c, rfl, rfl | rfl⟩
      · refine ⟨_, rfl, rfl, true, congrArg V.bl (decide_eq_true rfl), if_t ⟨_, rfl, a, dz, _, rfl, haz, rfl, _, rfl, rfl, a, l, bl, _, lastN rs, b, bs, rfl, lo5, hbl, by omega, by omega, by omega, fun c hc => ⟨Nat.le_trans (bo c hc).1 (by decide), (bo c hc).2⟩, fun W H6 k6 nW hW lo6 => ?_⟩⟩
        have gn := good_brows gd (bs := bs) (by omega) fun c hc => ⟨Nat.le_trans (bo c hc).1 (by decide), (bo c hc).2⟩
        have ln := lastN_brows rs bs
        refine ⟨rs ++ brows (lastN rs) bs, b, _, _, _, rfl, k6.same (sc.trans s5) na nlH, ?_, gn, by rw [List.length_append, brows_len]; omega, by omega⟩
        rw [ln, List.map_append, ← txts_cat]
        exact lo6
      · have bo1 := bo c (List.mem_singleton.mpr rfl)
        refine ⟨_, rfl, rfl, false, congrArg V.bl (decide_eq_false (by decide)), if_f ⟨_, rfl, rfl, true, congrArg V.bl (decide_eq_true rfl), if_t ⟨_, rfl, a, dz, _, rfl, haz, rfl, _, rfl, bl, _, 0, _, rfl, rfl, SqL.of hbl, rfl, rfl, a, l, _, lastN rs, b, c, rfl, lo5, by omega, by omega, Nat.le_trans bo1.1 (by decide), bo1.2, fun H6 k6 lo6 => ?_⟩⟩⟩
        have gn := good_mark gd (c := c) (by omega) (Nat.le_trans bo1.1 (by decide)) bo1.2
        have ln : lastN (rs ++ [(lastN rs, 61, c)]) = lastN rs := lastN_snoc rs _
        refine ⟨rs ++ [(lastN rs, 61, c)], rs.length, _, _, _, rfl, k6.same (sc.trans s5) na nlH, ?_, gn, by rw [List.length_append]; show _ + 1 ≤ _; omega, by omega⟩
        have el : (txts (rs.map rln)).length = rs.length := by rw [txts_len, List.length_map]
        rw [el] at lo6
        rw [ln, List.map_append, ← txts_cat]
        exact lo6
      · have bo1 := bo c (List.mem_singleton.mpr rfl)
        refine ⟨_, rfl, rfl, false, congrArg V.bl (decide_eq_false (by decide)), if_f ⟨_, rfl, rfl, false, congrArg V.bl (decide_eq_false (by decide)), if_f ⟨_, rfl, a, dz, _, rfl, haz, rfl, _, rfl, bl, _, 0, _, rfl, rfl, SqL.of hbl, rfl, rfl, a, l, _, lastN rs, b, c, rfl, lo5, by omega, by omega, Nat.le_trans bo1.1 (by decide), bo1.2, fun H6 k6 lo6 => ?_⟩⟩⟩
        have gn := good_brows gd (bs := [c]) (by show _ + 1 < _; omega) fun y hy => by
          rw [List.mem_singleton.mp hy]
          exact ⟨Nat.le_trans bo1.1 (by decide), bo1.2⟩
        have ln : lastN (rs ++ brows (lastN rs) [c]) = lastN rs + 1 := lastN_brows rs [c]
        refine ⟨rs ++ brows (lastN rs) [c], b, _, _, _, rfl, k6.same (sc.trans s5) na nlH, ?_, gn, by rw [List.length_append, brows_len]; show _ + 1 ≤ _; omega, by omega⟩
        rw [ln, List.map_append, ← txts_cat]
        exact lo6
    · rintro σ Hc ⟨rs, b, z2, z3, z4, rfl, sc, lo, gd, r4, l4⟩
      exact ⟨_, rfl, q a l rs b _ sc lo gd (by omega)⟩
/-- a spoilt text is refused at its line -/
def spRA : Sp := fun vs H Q _ => ∃ (rs : List Rec3) (t : List Nat) (bn : Bool) (j : Nat), vs = [.str (S t), .bl bn] ∧ Spo (rs.map rln) t j ∧ rs.length ≤ 50 ∧ (∀ r, r ∈ rs → ROk r) ∧ Fol none rs ∧ ∀ H', Same H H' → Q (.int (j : Int)) H'
theorem ok_ra {CB CD CG CK CO CN CP CT : Addr} (F : Fun K "_law_refused_at" "_law_refused_at" sRA f fd) (N9 : Nine K mg CB CD CG CK CL CO CN CP CT) (C_read_log : CalR P w K mg base k "read_log" ["text"] (spRDN CL)) (C_read_log_k : CalRK P w K mg base k "read_log" ["text"] ["text"] [0] (spRDN CL)) (L_class : Cal P w K mg base k "_law_class" ["_law_caught"] (spClass CL)) : FnOk P w K mg base CX0 (k + 1) f fd ["_law_a_text", "_law_by_name"] spRA := by
  refine F.ok scRA (fun vs H Q E h => ?_) (fun cdv A outer s H vs Q E hr h => ?_)
  · obtain ⟨rs, t, bn, j, rfl, _⟩ := h
    rfl
  · obtain ⟨rs, t, bn, j, rfl, ⟨A1, x, ws, et, eA, lA, bad, sm, wl⟩, r50, ok, fol, q⟩ := h
    refine ⟨_, pss_cons (ps_set (i := 2) scRA.nd rfl (.inl rfl) pe_non) (pss_cons (ps_set (i := 3) scRA.nd rfl (.inl rfl) pe_non)
      (pss_cons (ps_try_keep (i := 4) (j := 3) rfl rfl rfl scRA.nd rfl rfl rfl rfl (tests_one ⟨by rfl, by decide, .inl N9.mL⟩)
        (fun W pn xe tk _ => pss_one (ps_if (pt_val (pv 1)) (pss_one (ps_set (i := 2) scRA.nd rfl (.inl rfl) (pe_calKT C_read_log_k hr (by rfl) tk (pk_cons (pv 0) pk_nil)))) (pss_one (ps_set (i := 2) scRA.nd rfl (.inl rfl) (pe_calT C_read_log hr (by rfl) tk (pa_cons (pv 0) pa_nil)))))))
      (pss_cons (ps_if (PW.pt (pw_or (pt_cmpR op_notN (pv 2) pe_non (nomark _)) (pw_or1 (pt_cmpR op_ne (pe_cal L_class (hr.mono (by omega)) (by rfl) (pa_cons (pv 3) pa_nil)) pe_str (nomark _)))))
        (pss_one (ps_ret pe_non)) pss_nil)
      (pss_one (ps_ret (pe_exf (pv 3))))))), ?_⟩
    have ea : A1 = (rs.take j).map rln := by rw [eA, List.map_take]
    have ex : V.str (S t) = V.str (S (TL.joinL [10] ((rs.take j).map rln ++ x :: ws ++ [[]]))) := by rw [et, tex_join, ea]
    have jl : (rs.take j).length = j := by
      have e := congrArg List.length ea
      rw [List.length_map, lA] at e
      exact e.symm
    have rl : rs.length = (rs.map rln).length := (List.length_map ..).symm
    have j60 : (rs.take j).length ≤ 60 := Nat.le_trans (List.length_take_le' _ _) (by omega)
    have rok : ∀ r, r ∈ rs.take j → ROk r := fun r hr3 => ok r (List.mem_of_mem_take hr3)
    have sm2 : ∀ y, y ∈ x :: ws ++ [[]] → y.length ≤ 100 ∧ 10 ∉ y := fun y hy => by
      obtain hy | hy := List.mem_append.mp hy
      · exact sm y hy
      · rw [List.mem_singleton.mp hy]
        exact ⟨Nat.zero_le _, fun z => nomatch z⟩
    rw [ex]
    cases bn with
    | true =>
      refine ⟨_, rfl, true, rfl, if_t ?_⟩
      refine ⟨_, rfl, rfl, rs.take j, x, ws, [], rfl, j60, by omega, rok, fol_take fol j, sm2, .inl bad, fun d H' s' hd => ⟨N9.ex, fun e ne => ?_⟩⟩
      rw [jl] at hd
      have sb : Same H' (upd H' e (ExV (.ref CL) (some d) e)) := same_new ne
      have hbb : (upd H' e (ExV (.ref CL) (some d) e)) e = some (ExV (.ref CL) (some d) e) := upd_same
      have hdd := sb _ _ hd
      refine ⟨_, rfl, rfl, false, rfl, if_f ?_⟩
      refine ⟨_, rfl, e, d, _, rfl, hbb, hdd, fun H2 s2 => ⟨rfl, false, congrArg V.bl (by rw [decide_eq_true rfl]; rfl), if_f ?_⟩⟩
      exact ⟨_, rfl, e, CL, d, _, .int (j : Int), rfl, s2 _ _ hbb, N9.xf, N9.no, s2 _ _ hdd, rfl, q _ ((s'.trans sb).trans s2)⟩
    | false =>
      refine ⟨_, rfl, false, rfl, if_f ?_⟩
      refine ⟨_, rfl, rs.take j, x, ws, [], rfl, j60, by omega, rok, fol_take fol j, sm2, .inl bad, fun d H' s' hd => ⟨N9.ex, fun e ne => ?_⟩⟩
      rw [jl] at hd
      have sb : Same H' (upd H' e (ExV (.ref CL) (some d) e)) := same_new ne
      have hbb : (upd H' e (ExV (.ref CL) (some d) e)) e = some (ExV (.ref CL) (some d) e) := upd_same
      have hdd := sb _ _ hd
      refine ⟨_, rfl, rfl, false, rfl, if_f ?_⟩
      refine ⟨_, rfl, e, d, _, rfl, hbb, hdd, fun H2 s2 => ⟨rfl, false, congrArg V.bl (by rw [decide_eq_true rfl]; rfl), if_f ?_⟩⟩
      exact ⟨_, rfl, e, CL, d, _, .int (j : Int), rfl, s2 _ _ hbb, N9.xf, N9.no, s2 _ _ hdd, rfl, q _ ((s'.trans sb).trans s2)⟩
/-- a sign, a line end among them -/
def spOt : Sp := fun vs H Q _ => ∃ (p : Addr) (n : Nat), vs = [.ref p] ∧ Pu H p n ∧ n < 2 ^ 36 ∧ ∀ (c : Nat) (H' : Hp), Kp p H H' → Pu H' p (n + 10) → 0 < c → c ≤ 126 → Q (.str (S [c])) H'
theorem ok_ot (F : Fun K "_law_other" "_law_other" sOt f fd) (L_draw : Cal P w K mg base k "_law_draw" ["_law_purse_here", "_law_out_of"] spDraw) (L_sign : Cal P w K mg base k "_law_sign" ["_law_purse_here"] spSign) : FnOk P w K mg base CX0 (k + 1) f fd ["_law_purse_here"] spOt := by
  refine F.ok scOt (fun vs H Q E h => ?_) (fun cdv A outer s H vs Q E hr h => ?_)
  · obtain ⟨p, n, rfl, _⟩ := h
    rfl
  · obtain ⟨p, n, rfl, pu, n36, q⟩ := h
    refine ⟨_, pss_cons (ps_if (pt_cmpR op_eq (pe_cal L_draw (hr.mono (by omega)) (by rfl) (pa_cons (pv 0) (pa_cons pe_int pa_nil))) pe_int (nomark _))
        (pss_one (ps_ret pe_str))
        pss_nil)
      (pss_one (ps_ret (pe_cal L_sign (hr.mono (by omega)) (by rfl) (pa_cons (pv 0) pa_nil)))), ?_⟩
    refine ⟨_, rfl, p, n, 5, rfl, pu, by omega, by decide, by decide, fun v H1 k1 p1 _ _ => ?_⟩
    refine ⟨rfl, _, rfl, ite2 (fun g => ?_) (fun g => ?_)⟩
    · exact q 10 H1 k1 (p1.mono (by omega)) (by decide) (by decide)
    · refine ⟨_, rfl, p, _, rfl, p1, by omega, fun c H2 k2 p2 sc => ?_⟩
      have sc' : (decide (32 ≤ c) && decide (c ≤ 126)) = true := sc
      rw [Bool.and_eq_true] at sc'
      have c1 := of_decide_eq_true sc'.1
      have c2 := of_decide_eq_true sc'.2
      exact q c H2 (k1.trans k2) (p2.mono (by omega)) (by omega) c2
/-- the line of a place -/
def spLA : Sp := fun vs H Q _ => ∃ (t : List Nat) (i : Nat), vs = [.str (S t), .int (i : Int)] ∧ t.length ≤ 2000 ∧ ∀ H', Same H H' → Q (.int (nlc (t.take i) : Int)) H'
theorem ok_la (F : Fun K "_law_line_at" "_law_line_at" sLA f fd) (m_len : mg "len" = none) : FnOk P w K mg base CX0 (k + 1) f fd ["_law_a_text", "_law_at"] spLA := by
  refine F.ok scLA (fun vs H Q E h => ?_) (fun cdv A outer s H vs Q E hr h => ?_)
  · obtain ⟨t, i, rfl, _⟩ := h
    rfl
  · obtain ⟨t, i, rfl, t2, q⟩ := h
    refine ⟨_, pss_one (ps_ret (pe_callB call_len_seq (by rfl) m_len (by decide +kernel) (pa_cons (pe_lc (own := [("_law_sign_here", 2)]) (g := (gName 2)) rfl scLA.nd (pi_str (pe_slice sl_strL (pv 0) po_none (po_some (pv 1)))) (blkOk_by (own := [("_law_sign_here", 2)]) (N := NLA) (sc := defScope sLA) (by decide +kernel)) (fun _ _ _ _ _ => (pg_name (i := 2) scLA.nd rfl (.inl rfl))) (fun _ _ _ _ _ => pts_one (pt_cmpR op_eq (pv 2) pe_str (nomark _))) (fun _ _ _ _ _ => (pv 2))) pa_nil))), ?_⟩
    refine ⟨_, rfl, _, rfl, (i : Int), rfl, t, rfl, by omega, ?_⟩
    rw [cutL_to]
    obtain ⟨y, ey⟩ : ∃ y, t.take i = y := ⟨_, rfl⟩
    have yl : y.length ≤ 2000 := by
      rw [← ey]
      exact Nat.le_trans (List.length_take_le' _ _) t2
    rw [ey] at q ⊢
    have sz : (S y).cps.size = y.length := by simp
    refine ⟨_, rfl, fun D nD => lc_it walk_str (fun j Hd => Same H Hd ∧ ∃ acc : List V, Hd D = some (.lst acc) ∧ acc.length = nlc (y.take j)) ⟨same_new nD, [], upd_same, rfl⟩ (fun _ _ _ _ => trivial) ?_ ?_⟩
    · rintro j v Hd Hd' hj ⟨sc, acc, hD, al⟩ ⟨rfl, c, hc, rfl⟩
      have hc' : y[j]? = some c := by
        rw [← Array.getElem?_toList] at hc
        exact hc
      have ec : decide (V.str ⟨#[c]⟩ = V.str (Str.ofString "\n")) = decide (c = 10) := sg_eq c 10
      refine ⟨rfl, _, rfl, rfl, decide (c = 10), congrArg V.bl ec, ?_⟩
      have an : acc.length ≤ j := by
        rw [al]
        unfold nlc
        exact Nat.le_trans (List.length_filter_le _ _) (List.length_take_le _ _)
      have jy : j < y.length := (List.getElem?_eq_some_iff.mp hc').1
      by_cases c10 : c = 10
      · rw [decide_eq_true c10]
        refine if_t ⟨_, rfl, acc, hD, Nat.lt_of_le_of_lt (show _ ≤ 2000 by omega) (by decide), same_put nD sc, _, upd_same, ?_⟩
        rw [List.length_append, List.length_singleton, take_snoc hc', nlc_app, al, c10]
        rfl
      · rw [decide_eq_false c10]
        refine if_f ⟨sc, acc, hD, ?_⟩
        rw [take_snoc hc', nlc_app, al, nlc_no (z := [c]) fun z => c10 (List.mem_singleton.mp z).symm]
        rfl
    · rintro Hd ⟨sc, acc, hD, al⟩
      rw [sz, List.take_length] at al
      refine ⟨D, acc, rfl, .inl (SqL.of hD), ?_⟩
      rw [al]
      exact q Hd sc
end
end Tg

namespace Tg
open PySem PySem.Spec PyProof.Rows L2
open SX (S)
open TL (numL)
abbrev sSp : Stmt := topS 43
abbrev NSp : List Str := ["_law_purse_here", "_law_a_text", "_law_at", "_law_sign_here", "_law_here", "_law_put", "_law_found", "_law_left", "_law_some"]
theorem scSp : FnScope NSp ["_law_purse_here", "_law_a_text", "_law_at"] (defScope sSp) := ⟨rfl, rfl, rfl, by decide +kernel, rfl, by decide +kernel, by decide +kernel⟩
/-- texts and the lines that they are refused at: right, where they are other texts -/
def FndL (H : Hp) (us : List V) (zs : List (List Nat)) : Prop := ∀ (i : Nat) (y : V), us[i]? = some y → ∃ (T : Addr) (t : List Nat) (j : Nat), y = .ref T ∧ H T = some (.tup [.str (S t), .int (j : Int)]) ∧ (t ≠ tex zs → Spo zs t j)
theorem FndL.same {H H' : Hp} {us : List V} {zs : List (List Nat)} (h : FndL H us zs) (s : Same H H') : FndL H' us zs := fun i y e => by
  obtain ⟨T, t, j, h1, h2, h3⟩ := h i y e
  exact ⟨T, t, j, h1, s _ _ h2, h3⟩
theorem FndL.snoc {H : Hp} {us : List V} {zs : List (List Nat)} {T : Addr} {t : List Nat} {j : Nat} (h : FndL H us zs) (hT : H T = some (.tup [.str (S t), .int (j : Int)])) (sp : t ≠ tex zs → Spo zs t j) : FndL H (us ++ [.ref T]) zs := fun i y e => by
  rcases Nat.lt_or_ge i us.length with lt | ge
  · rw [List.getElem?_append_left lt] at e
    exact h i y e
  · rw [List.getElem?_append_right ge] at e
    have i0 : i - us.length = 0 := by
      have := (List.getElem?_eq_some_iff.mp e).1
      rw [List.length_singleton] at this
      omega
    rw [i0] at e
    obtain rfl := (Option.some.inj e).symm
    exact ⟨T, t, j, rfl, hT, sp⟩
theorem FndL.put {H : Hp} {us : List V} {zs : List (List Nat)} {D : Addr} {o : HO} (h : FndL H us zs) (no : ∀ xs, H D ≠ some (.tup xs)) : FndL (upd H D o) us zs := fun i y e => by
  obtain ⟨T, t, j, h1, h2, h3⟩ := h i y e
  refine ⟨T, t, j, h1, ?_, h3⟩
  rw [upd_ne fun z => no _ (by rw [← z, h2])]
  exact h2
section
variable {P : Program} {w : World} {K : PySem.W.Frag} {mg : Str → Option Value} {base : Heap} {f : Addr} {fd : FuncData} {k : Nat} {cdv : Value} {A : Around} {outer : List Env} {s : Shared} {H0 : Hp} {E : XK}
/-- what is wanted in the end -/
def ToldS (H : Hp) (R : VK) (p : Addr) (zs : List (List Nat)) : Prop := ∀ (D : Addr) (ys : List V) (H' : Hp), Same H H' → D ≠ p → H' D = some (.lst ys) → ys.length ≤ 4 → (∀ (i : Nat) (y : V), ys[i]? = some y → ∃ (T : Addr) (t : List Nat) (j : Nat), y = .ref T ∧ H' T = some (.tup [.str (S t), .int (j : Int)]) ∧ Spo zs t j) → R (.ref D) H'
theorem ToldS.same {H H' : Hp} {R : VK} {p : Addr} {zs : List (List Nat)} (h : ToldS H R p zs) (s : Same H H') : ToldS H' R p zs := fun D ys H2 s2 => h D ys H2 (s.trans s2)
def SP6 : TS := fun D σ H => ∃ (H1 : Hp) (p F : Addr) (m : Nat) (zs : List (List Nat)) (us : List V) (v2 v3 v4 v5 v7 v8 : Option V), σ = [some (.ref p), some (.str (S (tex zs))), v2, v3, v4, v5, some (.ref F), v7, v8] ∧ Pu H p m ∧ H F = some (.lst us) ∧ FndL H us zs ∧ us.length ≤ 4 ∧ Same H1 H ∧ F ≠ p ∧ ToldS H1 D.rt p zs
theorem sp_6 : PSs (cxOf CX0 P w K mg base NSp "_law_spoilt" (defScope sSp) f cdv A outer s H0 E).nox ((defBody sSp).drop 6) SP6 := by
  refine pss_by (pss_one (ps_ret (pe_lc (own := [("_law_some", 8)]) (g := (gName 8)) rfl scSp.nd (pi_list (pv 6)) (blkOk_by (own := [("_law_some", 8)]) (N := NSp) (sc := defScope sSp) (by decide +kernel)) (fun _ _ _ _ _ => (pg_name (i := 8) scSp.nd rfl (.inl rfl))) (fun _ _ _ _ _ => pts_one (pt_cmpR op_ne (pe_ix (r := rIxT K) ix_tup (pv 8) pe_int (fun _ _ => rfl)) (pv 1) (nomark _))) (fun _ _ _ _ _ => (pv 8))))) ?_
  rintro D σ H ⟨H1, p, F, m, zs, us, v2, v3, v4, v5, v7, v8, rfl, pu, hF, fl, u4, s1, Fp, told⟩
  refine ⟨_, rfl, F, rfl, ⟨_, SqL.of hF⟩, fun B nB => lc_list (K := K) (a := F) (xs := us) (fun j Hd => Same H Hd ∧ ∃ ys : List V, Hd B = some (.lst ys) ∧ ys.length ≤ j ∧ ∀ (i : Nat) (y : V), ys[i]? = some y → ∃ (T : Addr) (t : List Nat) (j : Nat), y = .ref T ∧ H T = some (.tup [.str (S t), .int (j : Int)]) ∧ Spo zs t j) ⟨same_new nB, [], upd_same, Nat.le_refl _, (fun _ _ e => by simp at e)⟩ (fun j Hd _ h => SqL.of (h.1 _ _ hF)) ?_ ?_⟩
  · rintro j x Hd hj ⟨sc, ys, hB, yl, ye⟩
    obtain ⟨T, t, jj, rfl, hT, sp⟩ := fl j x hj
    have jl : j < us.length := (List.getElem?_eq_some_iff.mp hj).1
    have en : (!decide (V.str (S t) = V.str (S (tex zs)))) = decide (t ≠ tex zs) := by
      by_cases e : t = tex zs
      · rw [e, decide_eq_true rfl, decide_eq_false (not_not_intro rfl)]
        rfl
      · rw [decide_eq_false fun z => e (SX.S_inj (V.str.inj z)), decide_eq_true e]
        rfl
    refine ⟨rfl, _, rfl, T, _, 0, _, rfl, rfl, SqT.of (sc _ _ hT), rfl, _, rfl, rfl, decide (t ≠ tex zs), congrArg V.bl en, ?_⟩
    by_cases e : t ≠ tex zs
    · rw [decide_eq_true e]
      refine if_t ⟨_, rfl, ys, hB, small1000 (by omega), same_put nB sc, _, upd_same, ?_, fun i y ey => ?_⟩
      · rw [List.length_append, List.length_singleton]
        omega
      · rcases Nat.lt_or_ge i ys.length with lt | ge
        · rw [List.getElem?_append_left lt] at ey
          exact ye i y ey
        · rw [List.getElem?_append_right ge] at ey
          have i0 : i - ys.length = 0 := by
            have := (List.getElem?_eq_some_iff.mp ey).1
            rw [List.length_singleton] at this
            omega
          rw [i0] at ey
          obtain rfl := (Option.some.inj ey).symm
          exact ⟨T, t, jj, rfl, hT, sp e⟩
    · rw [decide_eq_false e]
      exact if_f ⟨sc, ys, hB, by omega, ye⟩
  · rintro Hd ⟨sc, ys, hB, yl, ye⟩
    exact told B ys Hd (s1.trans sc) (pu.ne nB) hB (by omega) fun i y e => by
      obtain ⟨T, t, jj, h1, h2, h3⟩ := ye i y e
      exact ⟨T, t, jj, h1, sc _ _ h2, h3⟩
/-- a place of a text of lines -/
structure Plc (zs A B : List (List Nat)) (u v : List Nat) (i : Nat) : Prop where
  ln : Lns zs
  z24 : zs.length ≤ 50
  lt : i < (tex zs).length
  t2 : (tex zs).length ≤ 1500
  e : zs = A ++ (u ++ v) :: B
  tk : (tex zs).take i = tex A ++ u
  dr : (tex zs).drop i = v ++ 10 :: tex B
theorem Plc.drop {zs A B : List (List Nat)} {u v : List Nat} {i : Nat} (h : Plc zs A B u v i) (d : Nat) : (tex zs).drop (i + d) = (v ++ 10 :: tex B).drop d := by rw [← h.dr, List.drop_drop]
theorem Plc.all {zs A B : List (List Nat)} {u v : List Nat} {i : Nat} (h : Plc zs A B u v i) : tex zs = tex A ++ u ++ (v ++ 10 :: tex B) := by rw [← h.tk, ← h.dr, List.take_append_drop]
theorem Plc.get {zs A B : List (List Nat)} {u v : List Nat} {i d : Nat} (h : Plc zs A B u v i) : (S (tex zs)).cps[i + d]? = (v ++ 10 :: tex B)[d]? := by
  have e : (S (tex zs)).cps[i + d]? = (tex zs)[i + d]? := by rw [← Array.getElem?_toList]
  rw [e, ← h.dr, List.getElem?_drop]
theorem cps_at (l : List Nat) (i : Nat) : (S l).cps[i]? = l[i]? := by rw [← Array.getElem?_toList]
def SP5 : TS := fun D σ H => ∃ (H1 : Hp) (p F : Addr) (m i : Nat) (zs A B : List (List Nat)) (u v : List Nat) (us : List V) (v3 v5 v7 v8 : Option V), σ = [some (.ref p), some (.str (S (tex zs))), some (.int (i : Int)), v3, some (.int (A.length : Int)), v5, some (.ref F), v7, v8] ∧ Pu H p m ∧ Plc zs A B u v i ∧ H F = some (.lst us) ∧ FndL H us zs ∧ us.length ≤ 3 ∧ Same H1 H ∧ H1 F = none ∧ F ≠ p ∧ ToldS H1 D.rt p zs
theorem sp_5 (m_len : mg "len" = none) : PSs (cxOf CX0 P w K mg base NSp "_law_spoilt" (defScope sSp) f cdv A outer s H0 E).nox ((defBody sSp).drop 5) SP5 := by
  have tail := sp_6 (P := P) (w := w) (K := K) (mg := mg) (base := base) (f := f) (cdv := cdv) (A := A) (outer := outer) (s := s) (H0 := H0) (E := E)
  refine pss_by (pss_cons (ps_if (pt_cmpR op_lt (pe_op op_add (pv 2) pe_int) (pe_callB call_lenL (by rfl) m_len (by decide +kernel) (pa_cons (pv 1) pa_nil)) (nomark _))
        (pss_cons (ps_set (i := 7) scSp.nd rfl (.inl rfl) (pe_slice sl_strL (pv 1) (po_some (pe_op op_add (pv 2) pe_int)) po_none))
        (pss_one (ps_expr (pe_bm PySem.F.plainAttrs_list PySem.F.slot_list_append PySem.F.type_list_append mt_append (pv 6) (pa_cons (pe_tup (pa_cons (pe_op op_addL (pe_op op_addL (pe_op op_addL (pe_slice sl_strL (pv 1) po_none (po_some (pv 2))) (pe_item_str (pv 7) pe_int (fun _ _ => rfl))) (pe_item_str (pv 1) (pv 2) (fun _ _ => rfl))) (pe_slice sl_strL (pv 7) (po_some pe_int) po_none)) (pa_cons (pv 4) pa_nil))) pa_nil)))))
        pss_nil)
      tail) ?_
  rintro D σ H ⟨H1, p, F, m, i, zs, A, B, u, v, us, v3, v5, v7, v8, rfl, pu, pl, hF, fl, u3, s1, nF, Fp, told⟩
  have lt := pl.lt
  have t2 := pl.t2
  refine ⟨_, rfl, _, _, rfl, rfl, _, rfl, tex zs, rfl, by omega, _, _, rfl, rfl, _, rfl, ite2 (fun g => ?_) (fun g => ?_)⟩
  · have more : i + 2 < (tex zs).length := by
      have : (i : Int) + 2 < ((tex zs).length : Int) := of_decide_eq_true g
      omega
    obtain ⟨a, c, r, er, rne⟩ : ∃ a c r, v ++ 10 :: tex B = a :: c :: r ∧ r ≠ [] := by
      have dl := congrArg List.length pl.dr
      rw [List.length_drop] at dl
      match hR : v ++ 10 :: tex B with
      | [] => rw [hR, List.length_nil] at dl; omega
      | [_] => rw [hR, List.length_singleton] at dl; omega
      | [_, _] => rw [hR] at dl; have : (tex zs).length - i = 2 := dl; omega
      | a :: c :: x :: r => exact ⟨a, c, x :: r, rfl, fun z => nomatch z⟩
    have d1 := pl.drop 1
    rw [er] at d1
    have g0 := pl.get (d := 0)
    rw [er] at g0
    have ul : (tex A ++ u).length = i := by
      rw [← pl.tk, List.length_take]
      omega
    have rl : r.length + 2 + i = (tex zs).length := by
      have := congrArg List.length pl.dr
      rw [er, List.length_drop, List.length_cons, List.length_cons] at this
      omega
    refine ⟨_, rfl, _, rfl, _, _, rfl, rfl, ((i + 1 : Nat) : Int), rfl, tex zs, rfl, by omega, ?_⟩
    rw [cutL_from, d1]
    refine ⟨_, rfl, .inl ⟨rfl, _, SqL.of hF⟩, _, rfl, _, rfl, (i : Int), rfl, tex zs, rfl, by omega, ?_⟩
    rw [cutL_to, pl.tk]
    refine ⟨_, rfl, S (c :: r), 0, c, rfl, rfl, by omega, by omega, by rw [lenSL, List.length_cons]; omega, by rw [cps_at]; rfl, ?_⟩
    refine ⟨tex A ++ u, [c], rfl, rfl, by rw [List.length_singleton]; omega, ?_⟩
    refine ⟨_, rfl, _, rfl, S (tex zs), (i : Int), a, rfl, rfl, by omega, by omega, by rw [lenSL]; omega, by rw [Int.toNat_natCast]; exact g0, ?_⟩
    refine ⟨tex A ++ u ++ [c], [a], rfl, rfl, by rw [List.length_append, List.length_singleton, List.length_singleton]; omega, ?_⟩
    refine ⟨_, rfl, (1 : Int), rfl, c :: r, rfl, by rw [List.length_cons]; omega, ?_⟩
    rw [show cutL (c :: r) (some 1) none = (c :: r).drop 1 from cutL_from _ 1]
    refine ⟨tex A ++ u ++ [c] ++ [a], r, rfl, rfl, ?_, ?_⟩
    · rw [List.length_append, List.length_append, List.length_singleton, List.length_singleton]
      omega
    refine ⟨_, rfl, (by show 2 ≤ sizeLine; decide), fun T nT => ?_⟩
    have et : tex A ++ u ++ [c] ++ [a] ++ r = tex A ++ u ++ c :: a :: r := by simp only [List.append_assoc, List.cons_append, List.nil_append]
    rw [et]
    have sT := same_new (o := .tup [.str (S (tex A ++ u ++ c :: a :: r)), .int (A.length : Int)]) nT
    have TF : T ≠ F := fun z => by
      rw [z, hF] at nT
      cases nT
    refine ⟨F, us, _, rfl, rfl, sT _ _ hF, small1000 (by omega), ?_⟩
    have no : ∀ xs, upd H T (.tup [.str (S (tex A ++ u ++ c :: a :: r)), .int (A.length : Int)]) F ≠ some (.tup xs) := fun xs z => by
      rw [sT _ _ hF] at z
      cases z
    have hT : upd (upd H T (.tup [.str (S (tex A ++ u ++ c :: a :: r)), .int (A.length : Int)])) F (.lst (us ++ [.ref T])) T = some (.tup [.str (S (tex A ++ u ++ c :: a :: r)), .int (A.length : Int)]) := by
      rw [upd_ne TF, upd_same]
    refine ⟨H1, p, F, m, zs, us ++ [.ref T], _, _, _, _, _, _, rfl, pu_put (pu.same sT) Fp, upd_same, ((fl.same sT).put no).snoc hT fun ne => ?_, by rw [List.length_append]; show _ + 1 ≤ _; omega, fun y o e => ?_, Fp, told⟩
    · refine spo_swap pl.ln pl.e er rne ?_
      rw [← er, ← pl.all]
      exact ne
    · rw [upd_ne (ne_of_none e nF)]
      exact sT _ _ (s1 _ _ e)
  · exact ⟨H1, p, F, m, zs, us, _, _, _, _, _, _, rfl, pu, hF, fl, by omega, s1, Fp, told⟩
theorem app_st {H1 H : Hp} {F p T : Addr} {m j : Nat} {us : List V} {zs : List (List Nat)} {t : List Nat} (s1 : Same H1 H) (hF : H F = some (.lst us)) (nF : H1 F = none) (Fp : F ≠ p) (pu : Pu H p m) (nT : H T = none) (fl : FndL H us zs) (sp : t ≠ tex zs → Spo zs t j) {H2 : Hp} (e2 : H2 = upd (upd H T (.tup [.str (S t), .int (j : Int)])) F (.lst (us ++ [.ref T]))) : Same H1 H2 ∧ H2 F = some (.lst (us ++ [.ref T])) ∧ FndL H2 (us ++ [.ref T]) zs ∧ Pu H2 p m := by
  have sT := same_new (o := .tup [.str (S t), .int (j : Int)]) nT
  have TF : T ≠ F := fun z => by
    rw [z, hF] at nT
    cases nT
  have no : ∀ xs, upd H T (.tup [.str (S t), .int (j : Int)]) F ≠ some (.tup xs) := fun xs z => by
    rw [sT _ _ hF] at z
    cases z
  subst e2
  have hT : upd (upd H T (.tup [.str (S t), .int (j : Int)])) F (.lst (us ++ [.ref T])) T = some (.tup [.str (S t), .int (j : Int)]) := by
    rw [upd_ne TF, upd_same]
  refine ⟨fun y o e => ?_, upd_same, ((fl.same sT).put no).snoc hT sp, pu_put (pu.same sT) Fp⟩
  rw [upd_ne (ne_of_none e nF)]
  exact sT _ _ (s1 _ _ e)
def SP4 : TS := fun D σ H => ∃ (H1 : Hp) (p F : Addr) (m i c : Nat) (zs A B : List (List Nat)) (u v : List Nat) (us : List V) (v5 v7 v8 : Option V), σ = [some (.ref p), some (.str (S (tex zs))), some (.int (i : Int)), some (.str (S [c])), some (.int (A.length : Int)), v5, some (.ref F), v7, v8] ∧ Pu H p m ∧ Plc zs A B u v i ∧ c ≤ 126 ∧ H F = some (.lst us) ∧ FndL H us zs ∧ us.length ≤ 1 ∧ Same H1 H ∧ H1 F = none ∧ F ≠ p ∧ ToldS H1 D.rt p zs
theorem sp_4 (m_len : mg "len" = none) : PSs (cxOf CX0 P w K mg base NSp "_law_spoilt" (defScope sSp) f cdv A outer s H0 E).nox ((defBody sSp).drop 4) SP4 := by
  have tail := sp_5 (P := P) (w := w) (K := K) (mg := mg) (base := base) (f := f) (cdv := cdv) (A := A) (outer := outer) (s := s) (H0 := H0) (E := E) m_len
  refine pss_by (pss_cons (ps_if (pt_cmpR op_lt (pe_op op_add (pv 2) pe_int) (pe_callB call_lenL (by rfl) m_len (by decide +kernel) (pa_cons (pv 1) pa_nil)) (nomark _))
        (pss_cons (ps_expr (pe_bm PySem.F.plainAttrs_list PySem.F.slot_list_append PySem.F.type_list_append mt_append (pv 6) (pa_cons (pe_tup (pa_cons (pe_op op_addL (pe_op op_addL (pe_slice sl_strL (pv 1) po_none (po_some (pv 2))) (pv 3)) (pe_slice sl_strL (pv 1) (po_some (pe_op op_add (pv 2) pe_int)) po_none)) (pa_cons (pv 4) pa_nil))) pa_nil)))
        (pss_one (ps_expr (pe_bm PySem.F.plainAttrs_list PySem.F.slot_list_append PySem.F.type_list_append mt_append (pv 6) (pa_cons (pe_tup (pa_cons (pe_op op_addL (pe_slice sl_strL (pv 1) po_none (po_some (pv 2))) (pe_slice sl_strL (pv 1) (po_some (pe_op op_add (pv 2) pe_int)) po_none)) (pa_cons (pv 4) pa_nil))) pa_nil)))))
        pss_nil)
      tail) ?_
  rintro D σ H ⟨H1, p, F, m, i, c, zs, A, B, u, v, us, v5, v7, v8, rfl, pu, pl, c1, hF, fl, u1, s1, nF, Fp, told⟩
  have lt := pl.lt
  have t2 := pl.t2
  refine ⟨_, rfl, _, _, rfl, rfl, _, rfl, tex zs, rfl, by omega, _, _, rfl, rfl, _, rfl, ite2 (fun g => ?_) (fun g => ?_)⟩
  · have g' : i + 1 < (tex zs).length := by
      have : (i : Int) + 1 < ((tex zs).length : Int) := of_decide_eq_true g
      omega
    have d1 := pl.drop 1
    have ul : (tex A ++ u).length = i := by
      rw [← pl.tk, List.length_take]
      omega
    have rl : ((v ++ 10 :: tex B).drop 1).length + 1 + i = (tex zs).length := by
      rw [← d1, List.length_drop]
      omega
    have more : v = [] → B ≠ [] := fun ev eB => by
      have e := congrArg List.length pl.dr
      rw [ev, eB, List.length_drop] at e
      have : (tex zs).length - i = 1 := e
      omega
    refine ⟨_, rfl, .inl ⟨rfl, _, SqL.of hF⟩, _, rfl, _, rfl, (i : Int), rfl, tex zs, rfl, by omega, ?_⟩
    rw [cutL_to, pl.tk]
    refine ⟨_, rfl, tex A ++ u, [c], rfl, rfl, by rw [List.length_singleton]; omega, ?_⟩
    refine ⟨_, rfl, _, rfl, _, _, rfl, rfl, ((i + 1 : Nat) : Int), rfl, tex zs, rfl, by omega, ?_⟩
    rw [cutL_from, d1]
    refine ⟨tex A ++ u ++ [c], (v ++ 10 :: tex B).drop 1, rfl, rfl, by rw [List.length_append, List.length_singleton]; omega, ?_⟩
    refine ⟨_, rfl, (by show 2 ≤ sizeLine; decide), fun T nT => ?_⟩
    have et : tex A ++ u ++ [c] ++ (v ++ 10 :: tex B).drop 1 = tex A ++ u ++ c :: (v ++ 10 :: tex B).drop 1 := by simp only [List.append_assoc, List.cons_append, List.nil_append]
    rw [et]
    have sT := same_new (o := .tup [.str (S (tex A ++ u ++ c :: (v ++ 10 :: tex B).drop 1)), .int (A.length : Int)]) nT
    have TF : T ≠ F := fun z => by
      rw [z, hF] at nT
      cases nT
    refine ⟨F, us, _, rfl, rfl, sT _ _ hF, small1000 (by omega), ?_⟩
    obtain ⟨H2, e2⟩ : ∃ H2, upd (upd H T (.tup [.str (S (tex A ++ u ++ c :: (v ++ 10 :: tex B).drop 1)), .int (A.length : Int)])) F (.lst (us ++ [.ref T])) = H2 := ⟨_, rfl⟩
    obtain ⟨s2, hF2, fl2, pu2⟩ := app_st s1 hF nF Fp pu nT fl (fun ne => spo_rep pl.ln pl.e c1 more (by rw [← pl.all]; exact ne)) e2.symm
    rw [e2]
    refine ⟨_, rfl, .inl ⟨rfl, _, SqL.of hF2⟩, _, rfl, _, rfl, (i : Int), rfl, tex zs, rfl, by omega, ?_⟩
    rw [cutL_to, pl.tk]
    refine ⟨_, rfl, _, rfl, _, _, rfl, rfl, ((i + 1 : Nat) : Int), rfl, tex zs, rfl, by omega, ?_⟩
    rw [cutL_from, d1]
    refine ⟨tex A ++ u, (v ++ 10 :: tex B).drop 1, rfl, rfl, by omega, ?_⟩
    refine ⟨_, rfl, (by show 2 ≤ sizeLine; decide), fun T2 nT2 => ?_⟩
    refine ⟨F, _, _, rfl, rfl, same_new nT2 _ _ hF2, small1000 (by rw [List.length_append]; show _ + 1 ≤ _; omega), ?_⟩
    obtain ⟨H3, e3⟩ : ∃ H3, upd (upd H2 T2 (.tup [.str (S (tex A ++ u ++ (v ++ 10 :: tex B).drop 1)), .int (A.length : Int)])) F (.lst (us ++ [.ref T] ++ [.ref T2])) = H3 := ⟨_, rfl⟩
    obtain ⟨s3, hF3, fl3, pu3⟩ := app_st s2 hF2 nF Fp pu2 nT2 fl2 (fun _ => spo_del pl.ln pl.e more) e3.symm
    rw [e3]
    exact ⟨H1, p, F, m, i, zs, A, B, u, v, _, _, _, _, _, rfl, pu3, pl, hF3, fl3, by rw [List.length_append, List.length_append]; show _ + 1 + 1 ≤ _; omega, s3, nF, Fp, told⟩
  · exact ⟨H1, p, F, m, i, zs, A, B, u, v, us, _, _, _, _, rfl, pu, pl, hF, fl, by omega, s1, nF, Fp, told⟩
end
section
variable {P : Program} {w : World} {K : PySem.W.Frag} {mg : Str → Option Value} {base : Heap} {f : Addr} {fd : FuncData} {k : Nat}
theorem andv {b1 b2 : Bool} {tb : TE} {σ : List (Option V)} {H : Hp} {Q : V → Hp → Prop} (h : b1 = true → ∀ Q' : V → Hp → Prop, Q' (.bl b2) H → tb σ H Q') (q : Q (.bl (b1 && b2)) H) : if b1 = true then tb σ H Q else Q (.bl false) H := by
  cases b1 with
  | true => exact if_t (h rfl Q q)
  | false => exact if_f q
theorem Plc.no {zs A B : List (List Nat)} {u v : List Nat} {i : Nat} (h : Plc zs A B u v i) : (∀ z, z ∈ A → 10 ∉ z) ∧ 10 ∉ u ∧ 10 ∉ v := by
  have sm := h.ln.sm
  have hz := (sm (u ++ v) (by rw [h.e]; exact List.mem_append.mpr (.inr (List.mem_cons_self ..)))).2.1
  exact ⟨fun z hz => (sm z (by rw [h.e]; exact List.mem_append.mpr (.inl hz))).2.1, fun z => hz (List.mem_append.mpr (.inl z)), fun z => hz (List.mem_append.mpr (.inr z))⟩
/-- the texts that one spoilt sign makes, each with the line it is refused at -/
def spSp : Sp := fun vs H Q _ => ∃ (p : Addr) (n i : Nat) (zs : List (List Nat)), vs = [.ref p, .str (S (tex zs)), .int (i : Int)] ∧ Pu H p n ∧ n < 2 ^ 36 ∧ Lns zs ∧ zs.length ≤ 50 ∧ (tex zs).length ≤ 1500 ∧ i < (tex zs).length ∧ ∀ (D : Addr) (ys : List V) (H' : Hp), Kp p H H' → Pu H' p (n + 10) → D ≠ p → H' D = some (.lst ys) → ys.length ≤ 4 → (∀ (i : Nat) (y : V), ys[i]? = some y → ∃ (T : Addr) (t : List Nat) (j : Nat), y = .ref T ∧ H' T = some (.tup [.str (S t), .int (j : Int)]) ∧ Spo zs t j) → Q (.ref D) H'
theorem ok_sp (F : Fun K "_law_spoilt" "_law_spoilt" sSp f fd) (L_other : Cal P w K mg base k "_law_other" ["_law_purse_here"] spOt) (L_line_at : Cal P w K mg base k "_law_line_at" ["_law_a_text", "_law_at"] spLA) (m_len : mg "len" = none) (m_int : mg "int" = none) : FnOk P w K mg base CX0 (k + 1) f fd ["_law_purse_here", "_law_a_text", "_law_at"] spSp := by
  refine F.ok scSp (fun vs H Q E h => ?_) (fun cdv A outer s H vs Q E hr h => ?_)
  · obtain ⟨p, n, i, zs, rfl, _⟩ := h
    rfl
  · obtain ⟨p, n, i, zs, rfl, pu, n36, ln, z50, t15, lt, q⟩ := h
    obtain ⟨A1, B, u, v, e, tk, dr⟩ := place lt
    have pl : Plc zs A1 B u v i := ⟨ln, z50, lt, t15, e, tk, dr⟩
    have tail := sp_4 (P := P) (w := w) (K := K) (mg := mg) (base := base) (f := f) (cdv := cdv) (A := A) (outer := outer) (s := s) (H0 := H) (E := E) m_len
    refine ⟨_, pss_cons (ps_set (i := 3) scSp.nd rfl (.inl rfl) (pe_cal L_other (hr.mono (by omega)) (by rfl) (pa_cons (pv 0) pa_nil)))
      (pss_cons (ps_set (i := 4) scSp.nd rfl (.inl rfl) (pe_cal L_line_at (hr.mono (by omega)) (by rfl) (pa_cons (pv 1) (pa_cons (pv 2) pa_nil))))
      (pss_cons (ps_set (i := 5) scSp.nd rfl (.inl rfl) (pe_op op_addL (pe_op op_addL (pe_slice sl_strL (pv 1) po_none (po_some (pv 2))) (pv 3)) (pe_slice sl_strL (pv 1) (po_some (pv 2)) po_none)))
      (pss_cons (ps_set (i := 6) scSp.nd rfl (.inl rfl) (pe_lst (pa_cons (pe_tup (pa_cons (pv 5) (pa_cons (pe_op op_add (pv 4) (pe_callTy call_int1 (by rfl) m_int (by decide +kernel) (pa_cons (pe_and (pe_cmpR op_eq (pv 3) pe_str (nomark _)) (pe_one (pe_cmpR op_eq (pe_item_str (pv 1) (pv 2) (fun _ _ => rfl)) pe_str (nomark _)))) pa_nil))) pa_nil))) pa_nil)))
      tail))), ?_⟩
    have ul : (tex A1 ++ u).length = i := by
      rw [← tk, List.length_take]
      omega
    have rl : (v ++ 10 :: tex B).length + i = (tex zs).length := by
      rw [← dr, List.length_drop]
      omega
    refine ⟨_, rfl, p, n, rfl, pu, n36, fun c H1 k1 p1 c0 c1 => ?_⟩
    refine ⟨_, rfl, _, rfl, tex zs, i, rfl, by omega, fun H2 s2 => ?_⟩
    rw [tk, nlc_app, nlc_tex pl.no.1, nlc_no pl.no.2.1, Nat.add_zero]
    refine ⟨_, rfl, _, rfl, (i : Int), rfl, tex zs, rfl, by omega, ?_⟩
    rw [cutL_to, tk]
    refine ⟨_, rfl, tex A1 ++ u, [c], rfl, rfl, by rw [List.length_singleton]; omega, ?_⟩
    refine ⟨_, rfl, _, rfl, (i : Int), rfl, tex zs, rfl, by omega, ?_⟩
    rw [cutL_from, dr]
    refine ⟨tex A1 ++ u ++ [c], v ++ 10 :: tex B, rfl, rfl, by rw [List.length_append, List.length_singleton]; omega, ?_⟩
    have et : tex A1 ++ u ++ [c] ++ (v ++ 10 :: tex B) = tex A1 ++ u ++ c :: (v ++ 10 :: tex B) := by simp only [List.append_assoc, List.cons_append, List.nil_append]
    rw [et]
    obtain ⟨a, r, er, ha⟩ : ∃ a r, v ++ 10 :: tex B = a :: r ∧ (a = 10 ↔ v = []) := by
      cases hv : v with
      | nil => exact ⟨10, tex B, rfl, fun _ => rfl, fun _ => rfl⟩
      | cons x y => 
        have n10 := pl.no.2.2
        rw [hv] at n10
        exact ⟨x, y ++ 10 :: tex B, rfl, fun z => absurd (by rw [z]; exact List.mem_cons_self ..) n10, fun z => nomatch z⟩
    have g0 := pl.get (d := 0)
    rw [er] at g0
    have ej : (if (decide (c = 10) && decide (a = 10)) = true then (1 : Int) else 0) = (((if c = 10 ∧ v = [] then 1 else 0 : Nat)) : Int) := by
      by_cases h1 : c = 10
      · by_cases h2 : v = []
        · have hb : (decide (c = 10) && decide (a = 10)) = true := by
            rw [decide_eq_true h1, decide_eq_true (ha.mpr h2)]
            rfl
          rw [if_pos hb, if_pos ⟨h1, h2⟩]
          rfl
        · have hb : ¬ (decide (c = 10) && decide (a = 10)) = true := by
            rw [decide_eq_true h1, decide_eq_false (fun z => h2 (ha.mp z))]
            exact fun z => nomatch z
          rw [if_neg hb, if_neg (fun z => h2 z.2)]
          rfl
      · have hb : ¬ (decide (c = 10) && decide (a = 10)) = true := by
          rw [decide_eq_false h1]
          exact fun z => nomatch z
        rw [if_neg hb, if_neg (fun z => h1 z.1)]
        rfl
    refine ⟨_, rfl, _, rfl, _, rfl, rfl, decide (c = 10), congrArg V.bl (sg_eq c 10), andv (b2 := decide (a = 10)) (fun _ Q' q' => ⟨_, rfl, _, rfl, S (tex zs), (i : Int), a, rfl, rfl, by omega, by omega, by rw [lenSL]; omega, by rw [Int.toNat_natCast]; exact g0, rfl, ?_⟩) (.inr ⟨_, rfl, _, (((if c = 10 ∧ v = [] then 1 else 0 : Nat)) : Int), rfl, congrArg V.int ej, ?_⟩)⟩
    · have ea : V.bl (decide (V.str ⟨#[a]⟩ = V.str (Str.ofString "\n"))) = V.bl (decide (a = 10)) := congrArg V.bl (sg_eq a 10)
      show Q' (V.bl (decide (V.str ⟨#[a]⟩ = V.str (Str.ofString "\n")))) _
      rw [ea]
      exact q'
    refine ⟨(by show 2 ≤ sizeLine; decide), fun T nT => ⟨(by show 1 ≤ sizeLine; decide), fun G nG => ?_⟩⟩
    have sT := same_new (o := .tup [.str (S (tex A1 ++ u ++ c :: (v ++ 10 :: tex B))), .int ((A1.length + (if c = 10 ∧ v = [] then 1 else 0) : Nat) : Int)]) nT
    have sG := same_new (o := .lst [.ref T]) nG
    have hT : upd H2 T (.tup [.str (S (tex A1 ++ u ++ c :: (v ++ 10 :: tex B))), .int ((A1.length + (if c = 10 ∧ v = [] then 1 else 0) : Nat) : Int)]) T = some _ := upd_same
    have p2 := p1.same s2
    have nG1 : H1 G = none := by
      cases hx : H1 G with
      | none => rfl
      | some o =>
        have := sT _ _ (s2 _ _ hx)
        exact absurd (this.symm.trans nG) (fun z => nomatch z)
    have sp : Spo zs (tex A1 ++ u ++ c :: (v ++ 10 :: tex B)) (A1.length + if c = 10 ∧ v = [] then 1 else 0) := spo_put ln e c0 c1
    refine ⟨H1, p, G, n + 10, i, c, zs, A1, B, u, v, [.ref T], _, _, _, rfl, (p2.same sT).same sG, pl, c1, upd_same, fun i2 y ey => ?_, Nat.le_refl _, (s2.trans sT).trans sG, nG1, fun z => ?_, fun D ys H' s' Dp hD y4 ye => ?_⟩
    · cases i2 with
      | zero =>
        obtain rfl := (Option.some.inj ey).symm
        exact ⟨T, _, _, rfl, sG _ _ hT, fun _ => sp⟩
      | succ i2 => cases ey
    · exact (p1.ne (z ▸ nG1)) rfl
    · exact q D ys H' (k1.trans (.of s')) (p1.same s') Dp hD y4 ye
end
end Tg

namespace Tg
open PySem PySem.Spec PyProof.Rows L2
open SX (S)
open TL (numL)
abbrev sPs : Stmt := topS 44
abbrev NPs : List Str := ["_law_purse_here", "_law_a_text", "_law_found", "_law_k", "_law_at", "_law_place"]
theorem scPs : FnScope NPs ["_law_purse_here", "_law_a_text"] (defScope sPs) := ⟨rfl, rfl, rfl, by decide +kernel, rfl, by decide +kernel, by decide +kernel⟩
def natV (cs : List Nat) : List V := cs.map fun (c : Nat) => V.int (c : Int)
theorem natV_snoc (cs : List Nat) (c : Nat) : natV (cs ++ [c]) = natV cs ++ [V.int (c : Int)] := by
  unfold natV
  rw [List.map_append]
  rfl
theorem natV_cat (cs ds : List Nat) : natV cs ++ natV ds = natV (cs ++ ds) := by
  unfold natV
  rw [List.map_append]
theorem natV_len (cs : List Nat) : (natV cs).length = cs.length := List.length_map ..
theorem all_snoc {n c : Nat} {ys : List Nat} (h : ∀ y, y ∈ ys → y < n) (hc : c < n) : ∀ y, y ∈ ys ++ [c] → y < n := fun y hy => by
  obtain hy | hy := List.mem_append.mp hy
  · exact h y hy
  · rw [List.mem_singleton.mp hy]
    exact hc
section
variable {P : Program} {w : World} {K : PySem.W.Frag} {mg : Str → Option Value} {base : Heap} {f : Addr} {fd : FuncData} {k : Nat}
def spPs : Sp := fun vs H Q _ => ∃ (p : Addr) (n : Nat) (t : List Nat), vs = [.ref p, .str (S t)] ∧ Pu H p n ∧ n < 2 ^ 36 ∧ t.length ≤ 990 ∧ ∀ (D : Addr) (ys : List Nat) (H' : Hp), Kp p H H' → Pu H' p (n + 14) → D ≠ p → H' D = some (.lst (natV ys)) → ys.length ≤ 1000 → (∀ y, y ∈ ys → y < t.length) → Q (.ref D) H'
theorem ok_ps (F : Fun K "_law_places" "_law_places" sPs f fd) (L_draw : Cal P w K mg base k "_law_draw" ["_law_purse_here", "_law_out_of"] spDraw) (L_line_at : Cal P w K mg base k "_law_line_at" ["_law_a_text", "_law_at"] spLA) (m_len : mg "len" = none) (m_range : mg "range" = none) : FnOk P w K mg base CX0 (k + 1) f fd ["_law_purse_here", "_law_a_text"] spPs := by
  refine F.ok scPs (fun vs H Q E h => ?_) (fun cdv A outer s H vs Q E hr h => ?_)
  · obtain ⟨p, n, t, rfl, _⟩ := h
    rfl
  · obtain ⟨p, n, t, rfl, pu, n36, t15, q⟩ := h
    refine ⟨_, pss_cons (ps_if (pt_cmpR op_eq (pv 1) pe_str (nomark _))
        (pss_one (ps_ret (pe_lst pa_nil)))
        pss_nil)
      (pss_cons (ps_setLc (i := 2) (own := [("_law_k", 3)]) (g := (gName 3)) (tt := tYes) rfl scPs.nd rfl rfl (sw_true rfl rfl rfl (by decide +kernel)) (pi_range1 (by rfl) m_range (pa_cons pe_int pa_nil)) (blkOk_by (own := [("_law_k", 3)]) (N := NPs) (sc := defScope sPs) (by decide +kernel)) (fun _ _ _ _ _ => (pg_name (i := 3) scPs.nd rfl (.inl rfl))) (fun _ _ _ _ _ => pts_nil) (fun _ _ _ _ _ => (pe_cal L_draw (hr.mono (by omega)) (by rfl) (pa_cons (pv 0) (pa_cons (pe_callB call_lenL (by rfl) m_len (by decide +kernel) (pa_cons (pv 1) pa_nil)) pa_nil)))))
      (pss_cons (ps_set (i := 4) scPs.nd rfl (.inr rfl) (pe_cal L_line_at (hr.mono (by omega)) (by rfl) (pa_cons (pv 1) (pa_cons (pe_cal L_draw (hr.mono (by omega)) (by rfl) (pa_cons (pv 0) (pa_cons (pe_callB call_lenL (by rfl) m_len (by decide +kernel) (pa_cons (pv 1) pa_nil)) pa_nil))) pa_nil))))
      (pss_one (ps_ret (pe_op op_cat (pv 2) (pe_lc (own := [("_law_place", 5)]) (g := (gName 5)) rfl scPs.nd (pi_range1 (by rfl) m_range (pa_cons (pe_callB call_lenL (by rfl) m_len (by decide +kernel) (pa_cons (pv 1) pa_nil)) pa_nil)) (blkOk_by (own := [("_law_place", 5)]) (N := NPs) (sc := defScope sPs) (by decide +kernel)) (fun _ _ _ _ _ => (pg_name (i := 5) scPs.nd rfl (.inl rfl))) (fun _ _ _ _ _ => pts_one (pt_cmpR op_eq (pe_cal L_line_at (hr.mono (by omega)) (by rfl) (pa_cons (pv 1) (pa_cons (pv 5) pa_nil))) (pv 4) (nomark _))) (fun _ _ _ _ _ => (pv 5)))))))), ?_⟩
    refine ⟨_, rfl, rfl, _, rfl, ite2 (fun g => ?_) (fun g => ?_)⟩
    · exact ⟨Nat.zero_le _, fun D nD => q D [] _ (.of (same_new nD)) ((pu.same (same_new nD)).mono (by omega)) (pu.ne nD) upd_same (Nat.zero_le _) (fun _ h => nomatch h)⟩
    · have tpos : 0 < t.length := by
        cases ht : t with
        | nil =>
          rw [ht] at g
          exact absurd (decide_eq_true rfl) g
        | cons _ _ => exact Nat.succ_pos _
      refine ⟨6, rfl, by omega, by omega, fun D nD => ?_⟩
      have Dp : D ≠ p := pu.ne nD
      rw [show ((6 : Int)).toNat = 6 from rfl]
      refine lc_range (lo := 0) (n := 6) (fun j Hc => ∃ cs : List Nat, cs.length = j ∧ (∀ y, y ∈ cs → y < t.length) ∧ Kp p H Hc ∧ Pu Hc p (n + 2 * j) ∧ Hc D = some (.lst (natV cs))) ⟨[], rfl, (fun _ h => nomatch h), Kp.of (same_new nD), pu.same (same_new nD), upd_same⟩ ?_ ?_
      · rintro j Hc hj ⟨cs, cl, lt, kc, pc, hD⟩
        refine ⟨rfl, yes_b (if_t ?_)⟩
        refine ⟨_, rfl, _, rfl, t, rfl, by omega, p, _, _, rfl, pc, by omega, by omega, by omega, fun v H3 k3 p3 v0 v1 => ?_⟩
        obtain ⟨u, rfl⟩ : ∃ u : Nat, v = (u : Int) := ⟨v.toNat, by omega⟩
        refine ⟨_, k3 _ _ Dp hD, ?_, cs ++ [u], ?_, all_snoc lt (by omega), kp_put (kc.trans k3) nD, pu_put (p3.mono (by omega)) Dp, ?_⟩
        · rw [natV_len, cl]
          exact small1000 (by omega)
        · rw [List.length_append, cl]
          rfl
        · rw [upd_same, natV_snoc]
      · rintro H4 ⟨cs, cl, lt, k4, p4, hD⟩
        refine ⟨_, rfl, _, rfl, _, rfl, t, rfl, by omega, p, _, _, rfl, p4, by omega, by omega, by omega, fun v H5 k5 p5 v0 v1 => ?_⟩
        obtain ⟨u, rfl⟩ : ∃ u : Nat, v = (u : Int) := ⟨v.toNat, by omega⟩
        refine ⟨t, u, rfl, by omega, fun H6 s6 => ?_⟩
        have hD6 := s6 _ _ (k5 _ _ Dp hD)
        have p6 := p5.same s6
        refine ⟨_, rfl, _, rfl, t, rfl, by omega, (t.length : Int), rfl, by omega, by omega, fun B nB => ?_⟩
        have Bp : B ≠ p := p6.ne nB
        rw [Int.toNat_natCast]
        refine lc_range (lo := 0) (n := t.length) (fun j Hc => ∃ ds : List Nat, ds.length ≤ j ∧ (∀ y, y ∈ ds → y < t.length) ∧ Same H6 Hc ∧ Hc B = some (.lst (natV ds))) ⟨[], Nat.le_refl _, (fun _ h => nomatch h), same_new nB, upd_same⟩ ?_ ?_
        · rintro j Hc hj ⟨ds, dl, dlt, sc, hB⟩
          rw [Int.zero_add]
          refine ⟨rfl, _, rfl, _, rfl, t, j, rfl, by omega, fun H8 s8 => ⟨_, rfl, rfl, decide (nlc (t.take j) = nlc (t.take u)), congrArg V.bl (int_eq _ _), ?_⟩⟩
          have hB8 := s8 _ _ hB
          by_cases e : nlc (t.take j) = nlc (t.take u)
          · rw [decide_eq_true e]
            refine if_t ⟨_, rfl, _, hB8, ?_, ds ++ [j], ?_, all_snoc dlt (by omega), same_put nB (sc.trans s8), ?_⟩
            · rw [natV_len]
              exact small1000 (by omega)
            · rw [List.length_append]
              show _ + 1 ≤ _
              omega
            · rw [upd_same, natV_snoc]
          · rw [decide_eq_false e]
            exact if_f ⟨ds, by omega, dlt, sc.trans s8, hB8⟩
        · rintro H7 ⟨ds, dl, dlt, s7, hB⟩
          refine ⟨D, B, _, _, rfl, rfl, s7 _ _ hD6, hB, Nat.le_of_lt (small1000 (by rw [natV_len, natV_len, cl]; omega)), fun G nG => ?_⟩
          rw [natV_cat]
          have sG := same_new (o := .lst (natV (cs ++ ds))) nG
          have p7 := p6.same s7
          refine q G (cs ++ ds) _ (((k4.trans k5).trans (.of s6)).trans ((Kp.of s7).trans (.of sG))) ((p7.same sG).mono (by omega)) (p7.ne nG) upd_same (by rw [List.length_append, cl]; omega) fun y hy => ?_
          obtain hy | hy := List.mem_append.mp hy
          · exact lt y hy
          · exact dlt y hy
end
end Tg

namespace Tg
open PySem PySem.Spec PyProof.Rows L2
open SX (S)
open TL (numL)
abbrev sLaw : Stmt := topS 45
abbrev NLaw : List Str := ["_law_script", "_law_purse_here", "_law_log", "_law_a_text", "_law_at", "_law_some", "_law_due"]
theorem scLaw : FnScope NLaw ["_law_script"] (defScope sLaw) := ⟨rfl, rfl, rfl, by decide +kernel, rfl, by decide +kernel, by decide +kernel⟩
section
variable {P : Program} {w : World} {K : PySem.W.Frag} {mg : Str → Option Value} {base : Heap} {f : Addr} {fd : FuncData} {k : Nat} {C CL : Addr}
theorem whole_all {rs : List Rec3} (h : ∀ r, rs.getLast? = some r → r.2.1 ≠ 43) : whole rs rs.length = rs.length := by
  cases e : rs.length with
  | zero => rfl
  | succ m =>
    have lt : m < rs.length := by omega
    have g : rs[m]? = some rs[m] := List.getElem?_eq_getElem lt
    have l : rs.getLast? = some rs[m] := by rw [List.getLast?_eq_getElem?, e]; exact g
    have ne := h _ l
    show whole rs (m + 1) = m + 1
    unfold whole
    rw [g]
    exact if_neg ne
theorem last_drop {rs : List Rec3} (h : ∀ r, rs.getLast? = some r → r.2.1 ≠ 43) (b : Nat) : ∀ r, (rs.drop b).getLast? = some r → r.2.1 ≠ 43 := fun r e => by
  refine h r ?_
  rw [List.getLast?_drop] at e
  split at e
  · cases e
  · exact e
theorem tex_len : ∀ {zs : List (List Nat)}, (∀ z, z ∈ zs → z.length ≤ 40) → (tex zs).length ≤ 41 * zs.length
  | [], _ => Nat.le_refl _
  | z :: zs, h => by
    have ih := tex_len (zs := zs) fun y hy => h y (List.mem_cons_of_mem _ hy)
    have := h z (List.mem_cons_self ..)
    rw [tex_cons, List.length_append, List.length_cons, List.length_cons]
    omega
/-- a log of which spoilt texts are asked -/
structure LgW (C : Addr) (H : Hp) (a : Addr) (rs : List Rec3) : Prop where
  lo : ∃ l n b, LgO C H a l (txts (rs.map rln)) n b
  r24 : rs.length ≤ 24
  ok : ∀ r, r ∈ rs → ROk r
  fol : Fol none rs
  ls : ∀ r, rs.getLast? = some r → r.2.1 ≠ 43
def L3 (C : Addr) : TS := fun D σ H => ∃ (p a : Addr) (m : Nat) (rs : List Rec3) (v0 v3 v4 v5 v6 : Option V), σ = [v0, some (.ref p), some (.ref a), v3, v4, v5, v6] ∧ Pu H p m ∧ m < 2 ^ 35 ∧ LgW C H a rs ∧ ∀ H', D.rt (.bl true) H'
section
variable {cdv : Value} {A : Around} {outer : List Env} {s : Shared} {H0 : Hp} {E : XK}
theorem lw_3 {fE : Addr} {fdE : FuncData} (hr : Room (k + 1) (A.deeper (envOfC "law" (defScope sLaw) s.heap.objs.size f cdv))) (T : TLog K C) (M_text_0 : CalM P w K mg base k C "text" ["self"] (spTx C)) (L_draw : Cal P w K mg base k "_law_draw" ["_law_purse_here", "_law_out_of"] spDraw) (L_places : Cal P w K mg base k "_law_places" ["_law_purse_here", "_law_a_text"] spPs) (L_spoilt : Cal P w K mg base k "_law_spoilt" ["_law_purse_here", "_law_a_text", "_law_at"] spSp) (L_refused_at : Cal P w K mg base k "_law_refused_at" ["_law_a_text", "_law_by_name"] spRA) (C_read_log : Cal P w K mg base k "read_log" ["text"] (spRD C))
    (FE : FnOk P w K mg base CX0 k fE fdE ["self", "other"] (spEq (SameL C))) (hs : PySem.W.findIn K (.ref C) "__eq__" = some (some (.ref fE))) (hf : PySem.W.isFn K (.ref fE) = true) (hbE : Binds K fdE ["self", "other"] []) :
    PSs (cxOf CX0 P w K mg base NLaw "law" (defScope sLaw) f cdv A outer s H0 E).nox ((defBody sLaw).drop 3) (L3 C) := by
  refine pss_by (pss_cons (ps_set (i := 3) scLaw.nd rfl (.inl rfl) (pe_calM0 (pv 2) T.cl M_text_0 (hr.mono (by omega))))
      (pss_cons (ps_for PassesOwn.never rfl (pi_list (pe_cal L_places (hr.mono (by omega)) (by rfl) (pa_cons (pv 1) (pa_cons (pv 3) pa_nil)))) (pg_name (i := 4) scLaw.nd rfl (.inl rfl))
        (pss_one (ps_for PassesOwn.never rfl (pi_list (pe_cal L_spoilt (hr.mono (by omega)) (by rfl) (pa_cons (pv 1) (pa_cons (pv 3) (pa_cons (pv 4) pa_nil))))) (pg_tup rfl (pgs_cons (pg_name (i := 5) scLaw.nd rfl (.inl rfl)) (pgs_cons (pg_name (i := 6) scLaw.nd rfl (.inl rfl)) pgs_nil)))
          (pss_one (ps_if (pt_cmpR op_ne (pe_cal L_refused_at (hr.mono (by omega)) (by rfl) (pa_cons (pv 5) (pa_cons (pe_cmpR op_eq (pe_cal L_draw (hr.mono (by omega)) (by rfl) (pa_cons (pv 1) (pa_cons pe_int pa_nil))) pe_int (nomark _)) pa_nil))) (pv 6) (nomark _))
            (pss_one (ps_ret pe_bl))
            pss_nil)))))
      (pss_one (ps_ret (pe_and (pe_cmpR (op_eqG (rcG_ins (C := C) FE hs hf hbE pass0) (hr.mono (by omega))) (pe_ix ix_tup (pe_cal C_read_log (hr.mono (by omega)) (by rfl) (pa_cons (pv 3) pa_nil)) pe_int (fun _ _ => rfl)) (pv 2) (nomark _)) (pe_one (pe_cmpR op_eq (pe_ix ix_tup (pe_cal C_read_log (hr.mono (by omega)) (by rfl) (pa_cons (pv 3) pa_nil)) pe_int (fun _ _ => rfl)) pe_str (nomark _)))))))) ?_
  rintro D σ H ⟨p, a, m, rs, v0, v3, v4, v5, v6, rfl, pu, m35, ⟨⟨l, n, b, lo⟩, r24, ok, fol, ls⟩, q⟩
  obtain ⟨zs, ez⟩ : ∃ zs, rs.map rln = zs := ⟨_, rfl⟩
  have zl : zs.length ≤ 24 := by
    rw [← ez, List.length_map]
    exact r24
  have ln : Lns zs := by
    rw [← ez]
    exact ok_lns ok
  have z40 : ∀ z, z ∈ zs → z.length ≤ 40 := fun z hz => (ln.sm z hz).1
  have t9 : (tex zs).length ≤ 990 := by
    have := tex_len z40
    omega
  have sm : Sml zs := fun z hz => by
    rw [← ez] at hz
    obtain ⟨r, hr3, rfl⟩ := List.mem_map.mp hz
    exact rln_small (ok r hr3)
  rw [ez] at lo
  obtain ⟨⟨dx, ha⟩, hl⟩ := id lo
  refine ⟨_, rfl, a, dx, _, rfl, ha, rfl, a, l, zs, n, b, rfl, lo, by omega, fun z hz => Nat.le_trans (z40 z hz) (by decide), fun H1 s1 => ?_⟩
  rw [tex_join]
  have p1 := pu.same s1
  have lo1 := lo.same s1
  refine ⟨_, rfl, _, rfl, p, m, tex zs, rfl, p1, by omega, t9, fun D1 ys H2 k2 p2 Dp hD yl ylt => ?_⟩
  have lo2 := lo1.kp p1 k2
  refine ⟨D1, rfl, ⟨_, SqL.of hD⟩, for_list (K := K) (a := D1) (xs := natV ys) (fun i σ Hc => ∃ (z4 z5 z6 : Option V), σ = [v0, some (.ref p), some (.ref a), some (.str (S (tex zs))), z4, z5, z6] ∧ Kp p H2 Hc ∧ Pu Hc p (m + 14 + 100 * i)) ⟨v4, v5, v6, rfl, Kp.of (Same.refl _), p2⟩ (fun j σ Hc _ h => by obtain ⟨_, _, _, _, kc, _⟩ := h; exact SqL.of (kc _ _ Dp hD)) ?_ ?_⟩
  · rintro i x σ Hc hi ⟨z4, z5, z6, rfl, kc, pc⟩
    have il : i < ys.length := by
      have il1 := (List.getElem?_eq_some_iff.mp hi).1
      rw [natV_len] at il1
      exact il1
    unfold natV at hi
    rw [List.getElem?_map] at hi
    obtain ⟨y, hy, rfl⟩ := Option.map_eq_some_iff.mp hi
    refine ⟨_, rfl, _, rfl, _, rfl, p, _, y, zs, rfl, pc, by omega, ln, by omega, by omega, ylt y (List.mem_of_getElem? hy), fun D2 us H3 k3 p3 D2p hD2 u4 ue => ?_⟩
    refine ⟨D2, rfl, ⟨_, SqL.of hD2⟩, for_list (K := K) (a := D2) (xs := us) (fun j σ Hd => ∃ (z5 z6 : Option V), σ = [v0, some (.ref p), some (.ref a), some (.str (S (tex zs))), some (.int (y : Int)), z5, z6] ∧ Kp p H3 Hd ∧ Pu Hd p (m + 14 + 100 * i + 10 + 2 * j)) ⟨z5, z6, rfl, Kp.of (Same.refl _), p3⟩ (fun j σ Hd _ h => by obtain ⟨_, _, _, kd, _⟩ := h; exact SqL.of (kd _ _ D2p hD2)) ?_ ?_⟩
    · rintro j x σ Hd hj ⟨z5, z6, rfl, kd, pd⟩
      have jl : j < us.length := (List.getElem?_eq_some_iff.mp hj).1
      obtain ⟨T2, t, jj, rfl, hT, sp⟩ := ue j x hj
      have Tp : T2 ≠ p := fun z => by
        obtain ⟨x1, x2, x3, hp, _⟩ := p3
        rw [← z, hT] at hp
        cases hp
      refine ⟨T2, _, rfl, SqT.of (kd _ _ Tp hT), rfl, _, _, rfl, _, _, rfl, rfl, ?_⟩
      refine ⟨_, rfl, _, rfl, p, _, 2, rfl, pd, by omega, by decide, by decide, fun v H4 k4 p4 v0' v1' => ?_⟩
      refine ⟨rfl, rs, t, _, jj, rfl, by rw [ez]; exact sp, by omega, ok, fol, fun H5 s5 => ⟨_, rfl, rfl, false, ?_, if_f ⟨_, _, rfl, (kd.trans k4).trans (.of s5), (p4.same s5).mono (by omega)⟩⟩⟩
      exact congrArg V.bl (by rw [decide_eq_true rfl]; rfl)
    · rintro σ Hd ⟨z5, z6, rfl, kd, pd⟩
      exact ⟨_, _, _, rfl, (kc.trans k3).trans kd, pd.mono (by omega)⟩
  · rintro σ Hc ⟨z4, z5, z6, rfl, kc, pc⟩
    have loc := lo2.kp p2 kc
    have w := whole_all ls
    have told : ∀ (R : VK) (Hx : Hp), (∀ (t a' l' lb : Addr) (n' b' : Nat) (o : V) (H' : Hp), Same Hx H' → H' t = some (.tup [.ref a', o, .ref lb, .str (S [])]) → LgO C H' a' l' (txts zs) n' b' → R (.ref t) H') → ToldR C Hx R rs [] := fun R Hx hR t a' l' lb b' H' s' _ _ _ _ ht lo' _ => by
      rw [w, List.drop_length] at ht
      rw [w, List.take_length, ez] at lo'
      exact hR t a' l' lb _ _ _ H' s' ht lo'
    have ex : V.str (S (tex zs)) = V.str (S (TL.joinL [10] (rs.map rln ++ [[]]))) := by rw [ez, tex_join]
    have rd : ∀ (R : VK) (Hx : Hp), (∀ (t a' l' lb : Addr) (n' b' : Nat) (o : V) (H' : Hp), Same Hx H' → H' t = some (.tup [.ref a', o, .ref lb, .str (S [])]) → LgO C H' a' l' (txts zs) n' b' → R (.ref t) H') → spRD C [.str (S (tex zs))] Hx R E0 := fun R Hx hR => ⟨rs, [], by rw [ex], by omega, ok, fol, Nat.zero_le _, (fun z => nomatch z), told R Hx hR⟩
    refine ⟨_, rfl, rd _ _ fun t a1 l1 lb n1 b1 o H3 s3 ht lo3 => ⟨t, _, 0, _, rfl, rfl, SqT.of ht, rfl, _, rfl, ?_⟩⟩
    have loa := loc.same s3
    obtain ⟨⟨dA, eA⟩, _⟩ := id lo3
    obtain ⟨⟨dB, eB⟩, _⟩ := id loa
    refine ⟨⟨a1, a, dA, dB, _, _, rfl, rfl, eA, eB, zs, l1, l, n1, n, b1, b, sm, lo3, loa⟩, fun H4 e4 => ⟨true, rfl, if_t ?_⟩⟩
    refine ⟨_, rfl, rd _ _ fun t2 a2 l2 lb2 n2 b2 o2 H5 s5 ht2 lo5 => ⟨t2, _, 3, _, rfl, rfl, SqT.of ht2, rfl, rfl, ?_⟩⟩
    have e0 : V.bl (decide (V.str (S []) = V.str (Str.ofString ""))) = V.bl true := congrArg V.bl (decide_eq_true rfl)
    show D.rt (V.bl (decide (V.str (S []) = V.str (Str.ofString "")))) _
    rw [e0]
    exact q H5
end
def spLaw (K : PySem.W.Frag) : Sp := fun vs H Q _ => ∃ (a : Addr) (ns : List Int), vs = [.ref a] ∧ SqL K H a (ns.map V.int) ∧ ns.length ≤ 63 ∧ ∀ H', Q (.bl true) H'
theorem ok_law (F : Fun K "law" "law" sLaw f fd) (T : TLog K C) (M_text_0 : CalM P w K mg base k C "text" ["self"] (spTx C)) (M_trimmed_0 : CalM P w K mg base k C "trimmed" ["self"] (spTr C)) (L_written : Cal P w K mg base k "_law_written" ["_law_script"] (spWn C K)) (L_draw : Cal P w K mg base k "_law_draw" ["_law_purse_here", "_law_out_of"] spDraw) (L_purse : Cal P w K mg base k "_law_purse" ["_law_script", "_law_at"] (spPurse K))
    (L_places : Cal P w K mg base k "_law_places" ["_law_purse_here", "_law_a_text"] spPs) (L_spoilt : Cal P w K mg base k "_law_spoilt" ["_law_purse_here", "_law_a_text", "_law_at"] spSp) (L_refused_at : Cal P w K mg base k "_law_refused_at" ["_law_a_text", "_law_by_name"] spRA) (C_read_log : Cal P w K mg base k "read_log" ["text"] (spRD C))
    {fE : Addr} {fdE : FuncData} (FE : FnOk P w K mg base CX0 k fE fdE ["self", "other"] (spEq (SameL C))) (hs : PySem.W.findIn K (.ref C) "__eq__" = some (some (.ref fE))) (hf : PySem.W.isFn K (.ref fE) = true) (hbE : Binds K fdE ["self", "other"] []) : FnOk P w K mg base CX0 (k + 2) f fd ["_law_script"] (spLaw K) := by
  refine F.ok scLaw (fun vs H Q E h => ?_) (fun cdv A outer s H vs Q E hr h => ?_)
  · obtain ⟨a, ns, rfl, _⟩ := h
    rfl
  · obtain ⟨sa, ns, rfl, hS, n63, q⟩ := h
    have tail := lw_3 (P := P) (w := w) (K := K) (base := base) (cdv := cdv) (outer := outer) (H0 := H) (E := E) hr T M_text_0 L_draw L_places L_spoilt L_refused_at C_read_log FE hs hf hbE
    refine ⟨_, pss_cons (ps_set (i := 1) scLaw.nd rfl (.inl rfl) (pe_cal L_purse (hr.mono (by omega)) (by rfl) (pa_cons (pv 0) (pa_cons pe_int pa_nil))))
      (pss_cons (ps_set (i := 2) scLaw.nd rfl (.inl rfl) (pe_cal L_written (hr.mono (by omega)) (by rfl) (pa_cons (pv 0) pa_nil)))
      (pss_cons (ps_if (pt_cmpR op_eq (pe_cal L_draw (hr.mono (by omega)) (by rfl) (pa_cons (pv 1) (pa_cons pe_int pa_nil))) pe_int (nomark _))
        (pss_one (ps_set (i := 2) scLaw.nd rfl (.inl rfl) (pe_calM0 (pv 2) T.cl M_trimmed_0 (hr.mono (by omega)))))
        pss_nil)
      tail)), ?_⟩
    refine ⟨_, rfl, sa, ns, 0, rfl, hS, n63, by omega, by omega, fun p H1 s1 np p1 => ?_⟩
    refine ⟨_, rfl, sa, ns, rfl, sqL_same s1 hS, n63, fun a l rs b H2 s2 lo gd r24 => ?_⟩
    have p2 := p1.same s2
    refine ⟨_, rfl, p, _, 3, rfl, p2, by decide, by decide, by decide, fun v H3 k3 p3 v0 v1 => ?_⟩
    have lo3 := lo.kp p2 k3
    refine ⟨rfl, _, rfl, ite2 (fun g => ?_) (fun g => ?_)⟩
    · obtain ⟨⟨dx, ha⟩, hl⟩ := id lo3
      have bg := begP_is rs rs.length
      rw [← gd.bg] at bg
      have bl : b ≤ (txts (rs.map rln)).length := by
        rw [txts_len, List.length_map]
        exact bg.1
      refine ⟨_, rfl, a, dx, _, rfl, ha, rfl, a, l, _, _, b, rfl, lo3, bl, fun a' l' H4 s4 na nl lo4 => ?_⟩
      rw [txts_drop, ← List.map_drop] at lo4
      exact ⟨p, a', _, rs.drop b, _, _, _, _, _, rfl, p3.same s4, by omega, ⟨⟨_, _, _, lo4⟩, by rw [List.length_drop]; omega, fun r hr3 => gd.ok r (List.mem_of_mem_drop hr3), fol_drop gd.fol bg.2, last_drop gd.ls b⟩, q⟩
    · exact ⟨p, a, _, rs, _, _, _, _, _, rfl, p3, by omega, ⟨⟨_, _, _, lo3⟩, r24, gd.ok, gd.fol, gd.ls⟩, q⟩
end
end Tg

namespace Tg
open PySem PySem.Spec PyProof.Rows L2
section
variable {K : PySem.W.Frag} {f : Addr} {fd : FuncData}
theorem kl_1 (F : FLine K f fd) : ∃ g, KBn K fd ["number", "body", "sign"] 2 [] g (fun vs _ => vs ++ [.str "."]) := by
  obtain ⟨mv, h⟩ := F.kbinds0 (ps := ["number", "body", "sign"]) 2 [] [("sign", .str ".")] (fun us ms _ => us ++ ms) (fun z => nomatch z) (fun q hq => hq) (fun h1 h2 _ => h1.append h2) (fun D doc pm an cdv ct us mv ws h1 h2 h3 => match us, mv, ws, h1, h2, h3 with | [_, _], [_], [], _, _, _ => ⟨_, _, _, _, _, _, rfl, rfl, rfl⟩)
  exact ⟨_, h⟩
theorem kl_3 (F : FLine K f fd) : ∃ g, KBn K fd ["number", "body", "sign"] 2 ["sign"] g (fun vs zs => vs ++ zs) := by
  obtain ⟨mv, h⟩ := F.kbinds0 (ps := ["number", "body", "sign"]) 2 ["sign"] [] (fun us _ ws => us ++ ws) (fun z => nomatch z) (fun q hq => nomatch hq) (fun h1 _ h3 => h1.append h3) (fun D doc pm an cdv ct us mv ws h1 h2 h3 => match us, mv, ws, h1, h2, h3 with | [_, _], [], [_], _, _, _ => rfl)
  exact ⟨_, h⟩
theorem kbn_1 {x a : Str} {st : Stmt} {f : Addr} {fd : FuncData} (F : Fun K x x st f fd) (h : ∀ (kV doc pm : Value) (an : Option Addr) (cdv ct u : Value), bindArgs (PySem.W.fnOf x x (defArgs st) (defBody st) (defScope st) .none kV doc pm an cdv ct) ⟨[], [(a, u)]⟩ = pure [(a, u)]) : KBn K fd [a] 0 [a] (fun _ ws => prm [0] ws) (fun _ zs => prm [0] zs) := by
  obtain ⟨_, _, kV, doc, pm, an, cdv, ct, _, rfl, _, _⟩ := F.ex
  exact ⟨fun s us ws _ h0 h2 => match us, ws, h0, h2 with | [], [u], _, _ => .of_eq (h kV doc pm an cdv ct u), fun _ r => prm_rel r _⟩
theorem kbn_m {x qn a : Str} {st : Stmt} {f : Addr} {fd : FuncData} (F : Fun K x qn st f fd) (h : ∀ (kV doc pm : Value) (an : Option Addr) (cdv ct u v : Value), bindArgs (PySem.W.fnOf x qn (defArgs st) (defBody st) (defScope st) .none kV doc pm an cdv ct) ⟨[u], [(a, v)]⟩ = pure [(("self" : Str), u), (a, v)]) : KBn K fd ["self", a] 1 [a] (fun us ws => us ++ prm [0] ws) (fun vs zs => vs ++ prm [0] zs) := by
  obtain ⟨_, _, kV, doc, pm, an, cdv, ct, _, rfl, _, _⟩ := F.ex
  exact ⟨fun s us ws _ h0 h2 => match us, ws, h0, h2 with | [u], [v], _, _ => .of_eq (h kV doc pm an cdv ct u v), fun r1 r => r1.append (prm_rel r _)⟩
end
/-! ### what the top has written; the law's own head -/
set_option maxHeartbeats 0 in
theorem all_mk {l : PySem.W.OpenLaw} {w : World} {K : PySem.W.Frag} {h : Heap} {mg : Str → Option Value} {fa CL C1 CB CD CG CK CO CN CP CT f1 f2 f3 f4 f5 f6 f7 f8 f9 f10 f11 f12 f13 f14 f15 f16 f17 f18 f19 f20 f21 f22 f23 f24 f25 f26 f27 f28 f29 f30 f31 f32 f33 : Addr} {nmCL qCL : Str} {NCL : Addr} {bsCL : List Value} {snCL : List Str} {subCL : List Value} {abCL : Bool} {colCL : Option Bool} {ddCL : Option Addr} {v0CL v1CL v2CL v3CL v5CL : Option Value} {tkR tkF tkE tkG tkM tkO tkS : Tok} {KD : Addr} (X : K.In h) (G : h.Ns mainGlobals mg) (hfa : mg "law" = some (.ref fa))
    {od1 an1 od2 an2 od3 an3 od4 an4 od5 an5 od6 an6 od7 an7 od8 an8 od9 an9 od10 an10 od11 an11 od12 an12 od13 an13 od14 an14 od15 an15 od16 an16 od17 an17 od18 an18 od19 an19 od20 an20 od21 an21 od22 an22 od23 an23 od24 an24 od25 an25 od26 an26 od27 an27 od28 an28 od29 an29 od30 an30 od31 an31 od32 an32 od33 an33 : Option Addr} {sl1 sl2 sl3 sl4 sl5 sl6 sl7 sl8 sl9 sl10 sl11 sl12 sl13 sl14 sl15 sl16 sl17 sl18 sl19 sl20 sl21 sl22 sl23 sl24 sl25 sl26 sl27 sl28 sl29 sl30 sl31 sl32 sl33 : Array (Option Value)} {oc1 kV1 dc1 pm1 cd1 ct1 oc2 kV2 dc2 pm2 cd2 ct2 oc3 kV3 dc3 pm3 cd3 ct3 oc4 kV4 dc4 pm4 cd4 ct4 oc5 kV5 dc5 pm5 cd5 ct5 oc6 kV6 dc6 pm6 cd6 ct6 oc7 kV7 dc7 pm7 cd7 ct7 oc8 kV8 dc8 pm8 cd8 ct8 oc9 kV9 dc9 pm9 cd9 ct9 oc10 kV10 dc10 pm10 cd10 ct10 oc11 kV11 dc11 pm11 cd11 ct11 oc12 kV12 dc12 pm12 cd12 ct12 oc13 dc13 pm13 cd13 ct13 oc14 kV14 dc14 pm14 cd14 ct14 oc15 kV15 dc15 pm15 cd15 ct15 oc16 kV16 dc16 pm16 cd16 ct16 oc17 kV17 dc17 pm17 cd17 ct17 oc18 kV18 dc18 pm18 cd18 ct18 oc19 kV19 dc19 pm19 cd19 ct19 oc20 kV20 dc20 pm20 cd20 ct20 oc21 kV21 dc21 pm21 cd21 ct21 oc22 kV22 dc22 pm22 cd22 ct22 oc23 kV23 dc23 pm23 cd23 ct23 oc24 kV24 dc24 pm24 cd24 ct24 oc25 kV25 dc25 pm25 cd25 ct25 oc26 kV26 dc26 pm26 cd26 ct26 oc27 kV27 dc27 pm27 cd27 ct27 oc28 kV28 dc28 pm28 cd28 ct28 oc29 kV29 dc29 pm29 cd29 ct29 oc30 kV30 dc30 pm30 cd30 ct30 oc31 kV31 dc31 pm31 cd31 ct31 oc32 kV32 dc32 pm32 cd32 ct32 oc33 kV33 dc33 pm33 cd33 ct33 : Value}
    (aCL : PySem.W.nsIn K mainGlobals "NoLog" = some (some (.ref CL)))
    (xCL : K.lookup CL = some (excClassObj nmCL qCL CL NCL bsCL [.type "ValueError", .type "Exception", .type "BaseException", .type "object"] true snCL subCL abCL colCL ddCL v0CL v1CL v2CL v3CL v5CL "ValueError.__new__"))
    (saCL : PySem.W.findIn K (.ref CL) "__setattr__" = some (some (.builtin "object.__setattr__")))
    (gaCL : PySem.W.findIn K (.ref CL) "__getattribute__" = some (some (.builtin "BaseException.__getattribute__")))
    (ggCL : PySem.W.findIn K (.ref CL) "__getattr__" = some none)
    (noCL : PySem.W.findIn K (.ref CL) "at" = some none)
    (kcCL : PySem.W.keepIn K (.ref CL) = true)
    (ecCL : PySem.W.subIn K (.ref CL) (.type "BaseException") = some true)
    (tcCL : PySem.W.typeIn K (.ref CL) = some (.type "type"))
    (hcCL : PySem.W.hasDictIn K CL = true)
    (ccCL : PySem.W.findIn K (.ref CL) "__class__" = some (some (.builtin "object.__class__")))
    (moCL : PySem.W.mroIn K CL (.type "object") = some true)
    (xmCL : PySem.W.exmOne K (.ref CL) (.ref CL) = some true)
    (hnC : PySem.W.specialIn K (.builtin "object.__class__") "__get__" = some (some (.builtin "getset_descriptor.__get__")))
    (htC : PySem.W.takesIn K (.builtin "object.__class__") = some true)
    (vV : PySem.W.findCls K (.type "ValueError") (.type "type") "__init__" = some (.val (.builtin "ValueError.__init__")))
    (aCB : PySem.W.nsIn K mainGlobals "NoBody" = some (some (.ref CB)))
    (aCD : PySem.W.nsIn K mainGlobals "NoDeed" = some (some (.ref CD)))
    (aCG : PySem.W.nsIn K mainGlobals "NoGrain" = some (some (.ref CG)))
    (aCK : PySem.W.nsIn K mainGlobals "NoKeep" = some (some (.ref CK)))
    (aCO : PySem.W.nsIn K mainGlobals "NoOrder" = some (some (.ref CO)))
    (aCN : PySem.W.nsIn K mainGlobals "NoNumber" = some (some (.ref CN)))
    (aCP : PySem.W.nsIn K mainGlobals "NoPlace" = some (some (.ref CP)))
    (aCT : PySem.W.nsIn K mainGlobals "NoText" = some (some (.ref CT)))
    (aC1 : PySem.W.nsIn K mainGlobals "Log" = some (some (.ref C1)))
    (pgC1 : PySem.W.plainGet K C1 Str.empty = true)
    (hdC1 : PySem.W.hasDictIn K C1 = true)
    (poC1 : PySem.W.plainOver K C1 = true)
    (saC1 : PySem.W.findIn K (.ref C1) "__setattr__" = some (some (.builtin "object.__setattr__")))
    (mkC1 : PySem.W.makesIn K C1 = true)
    (kcC1 : PySem.W.keepIn K (.ref C1) = true)
    (noC1_number : PySem.W.findIn K (.ref C1) "number" = some none)
    (noC1_kept : PySem.W.findIn K (.ref C1) "kept" = some none)
    (noC1_begin : PySem.W.findIn K (.ref C1) "begin" = some none)
    (a1 : PySem.W.findIn K (.ref CL) "__init__" = some (some (.ref f1)))
    (t1 : PySem.W.typeIn K (.ref f1) = some (.type "function"))
    (l1 : K.lookup f1 = some ⟨oc1, od1, .func (PySem.W.fnOf "__init__" "NoLog.__init__" (defArgs sErL) (defBody sErL) (defScope sErL) .none kV1 dc1 pm1 an1 cd1 ct1), sl1⟩)
    (c1 : PySem.W.codeIn K cd1 "NoLog.__init__" = true)
    (k1 : PySem.W.keepIn K (.ref f1) = true)
    (a2 : PySem.W.findIn K (.ref C1) "__init__" = some (some (.ref f2)))
    (i2 : PySem.W.isFn K (.ref f2) = true)
    (l2 : K.lookup f2 = some ⟨oc2, od2, .func (PySem.W.fnOf "__init__" "Log.__init__" (defArgs sLI) (defBody sLI) (defScope sLI) .none kV2 dc2 pm2 an2 cd2 ct2), sl2⟩)
    (c2 : PySem.W.codeIn K cd2 "Log.__init__" = true)
    (k2 : PySem.W.keepIn K (.ref f2) = true)
    (a3 : PySem.W.findIn K (.ref C1) "__eq__" = some (some (.ref f3)))
    (i3 : PySem.W.isFn K (.ref f3) = true)
    (l3 : K.lookup f3 = some ⟨oc3, od3, .func (PySem.W.fnOf "__eq__" "Log.__eq__" (defArgs sEq) (defBody sEq) (defScope sEq) .none kV3 dc3 pm3 an3 cd3 ct3), sl3⟩)
    (c3 : PySem.W.codeIn K cd3 "Log.__eq__" = true)
    (k3 : PySem.W.keepIn K (.ref f3) = true)
    (a4 : PySem.W.findIn K (.ref C1) "write" = some (some (.ref f4)))
    (i4 : PySem.W.isFn K (.ref f4) = true)
    (l4 : K.lookup f4 = some ⟨oc4, od4, .func (PySem.W.fnOf "write" "Log.write" (defArgs sWr) (defBody sWr) (defScope sWr) .none kV4 dc4 pm4 an4 cd4 ct4), sl4⟩)
    (c4 : PySem.W.codeIn K cd4 "Log.write" = true)
    (k4 : PySem.W.keepIn K (.ref f4) = true)
    (a5 : PySem.W.findIn K (.ref C1) "bundle" = some (some (.ref f5)))
    (i5 : PySem.W.isFn K (.ref f5) = true)
    (l5 : K.lookup f5 = some ⟨oc5, od5, .func (PySem.W.fnOf "bundle" "Log.bundle" (defArgs sBu) (defBody sBu) (defScope sBu) .none kV5 dc5 pm5 an5 cd5 ct5), sl5⟩)
    (c5 : PySem.W.codeIn K cd5 "Log.bundle" = true)
    (k5 : PySem.W.keepIn K (.ref f5) = true)
    (a6 : PySem.W.findIn K (.ref C1) "mark" = some (some (.ref f6)))
    (i6 : PySem.W.isFn K (.ref f6) = true)
    (l6 : K.lookup f6 = some ⟨oc6, od6, .func (PySem.W.fnOf "mark" "Log.mark" (defArgs sMk) (defBody sMk) (defScope sMk) .none kV6 dc6 pm6 an6 cd6 ct6), sl6⟩)
    (c6 : PySem.W.codeIn K cd6 "Log.mark" = true)
    (k6 : PySem.W.keepIn K (.ref f6) = true)
    (a7 : PySem.W.findIn K (.ref C1) "text" = some (some (.ref f7)))
    (i7 : PySem.W.isFn K (.ref f7) = true)
    (l7 : K.lookup f7 = some ⟨oc7, od7, .func (PySem.W.fnOf "text" "Log.text" (defArgs sTx) (defBody sTx) (defScope sTx) .none kV7 dc7 pm7 an7 cd7 ct7), sl7⟩)
    (c7 : PySem.W.codeIn K cd7 "Log.text" = true)
    (k7 : PySem.W.keepIn K (.ref f7) = true)
    (a8 : PySem.W.findIn K (.ref C1) "trimmed" = some (some (.ref f8)))
    (i8 : PySem.W.isFn K (.ref f8) = true)
    (l8 : K.lookup f8 = some ⟨oc8, od8, .func (PySem.W.fnOf "trimmed" "Log.trimmed" (defArgs sTr) (defBody sTr) (defScope sTr) .none kV8 dc8 pm8 an8 cd8 ct8), sl8⟩)
    (c8 : PySem.W.codeIn K cd8 "Log.trimmed" = true)
    (k8 : PySem.W.keepIn K (.ref f8) = true)
    (a9 : PySem.W.nsIn K mainGlobals "check" = some (some (.ref f9)))
    (l9 : K.lookup f9 = some ⟨oc9, od9, .func (PySem.W.fnOf "check" "check" (defArgs sCheck) (defBody sCheck) (defScope sCheck) .none kV9 dc9 pm9 an9 cd9 ct9), sl9⟩)
    (c9 : PySem.W.codeIn K cd9 "check" = true)
    (k9 : PySem.W.keepIn K (.ref f9) = true)
    (a10 : PySem.W.nsIn K mainGlobals "with_check" = some (some (.ref f10)))
    (l10 : K.lookup f10 = some ⟨oc10, od10, .func (PySem.W.fnOf "with_check" "with_check" (defArgs sWC) (defBody sWC) (defScope sWC) .none kV10 dc10 pm10 an10 cd10 ct10), sl10⟩)
    (c10 : PySem.W.codeIn K cd10 "with_check" = true)
    (k10 : PySem.W.keepIn K (.ref f10) = true)
    (a11 : PySem.W.nsIn K mainGlobals "read_figures" = some (some (.ref f11)))
    (l11 : K.lookup f11 = some ⟨oc11, od11, .func (PySem.W.fnOf "read_figures" "read_figures" (defArgs sRF) (defBody sRF) (defScope sRF) .none kV11 dc11 pm11 an11 cd11 ct11), sl11⟩)
    (c11 : PySem.W.codeIn K cd11 "read_figures" = true)
    (k11 : PySem.W.keepIn K (.ref f11) = true)
    (a12 : PySem.W.nsIn K mainGlobals "is_body" = some (some (.ref f12)))
    (l12 : K.lookup f12 = some ⟨oc12, od12, .func (PySem.W.fnOf "is_body" "is_body" (defArgs sBody) (defBody sBody) (defScope sBody) .none kV12 dc12 pm12 an12 cd12 ct12), sl12⟩)
    (c12 : PySem.W.codeIn K cd12 "is_body" = true)
    (k12 : PySem.W.keepIn K (.ref f12) = true)
    (a13 : PySem.W.nsIn K mainGlobals "line_of" = some (some (.ref f13)))
    (l13 : K.lookup f13 = some ⟨oc13, od13, .func (PySem.W.fnOf "line_of" "line_of" (defArgs sLine) (defBody sLine) (defScope sLine) .none (.ref KD) dc13 pm13 an13 cd13 ct13), sl13⟩)
    (d_sign : PySem.W.nsIn K KD "sign" = some (some (.str "." tkS)))
    (c13 : PySem.W.codeIn K cd13 "line_of" = true)
    (k13 : PySem.W.keepIn K (.ref f13) = true)
    (a14 : PySem.W.nsIn K mainGlobals "parts_of_line" = some (some (.ref f14)))
    (l14 : K.lookup f14 = some ⟨oc14, od14, .func (PySem.W.fnOf "parts_of_line" "parts_of_line" (defArgs sParts) (defBody sParts) (defScope sParts) .none kV14 dc14 pm14 an14 cd14 ct14), sl14⟩)
    (c14 : PySem.W.codeIn K cd14 "parts_of_line" = true)
    (k14 : PySem.W.keepIn K (.ref f14) = true)
    (a15 : PySem.W.nsIn K mainGlobals "log_with" = some (some (.ref f15)))
    (l15 : K.lookup f15 = some ⟨oc15, od15, .func (PySem.W.fnOf "log_with" "log_with" (defArgs sLW) (defBody sLW) (defScope sLW) .none kV15 dc15 pm15 an15 cd15 ct15), sl15⟩)
    (c15 : PySem.W.codeIn K cd15 "log_with" = true)
    (k15 : PySem.W.keepIn K (.ref f15) = true)
    (a16 : PySem.W.nsIn K mainGlobals "may_follow" = some (some (.ref f16)))
    (l16 : K.lookup f16 = some ⟨oc16, od16, .func (PySem.W.fnOf "may_follow" "may_follow" (defArgs sMay) (defBody sMay) (defScope sMay) .none kV16 dc16 pm16 an16 cd16 ct16), sl16⟩)
    (c16 : PySem.W.codeIn K cd16 "may_follow" = true)
    (k16 : PySem.W.keepIn K (.ref f16) = true)
    (a17 : PySem.W.nsIn K mainGlobals "parts_of_lines" = some (some (.ref f17)))
    (l17 : K.lookup f17 = some ⟨oc17, od17, .func (PySem.W.fnOf "parts_of_lines" "parts_of_lines" (defArgs sPL) (defBody sPL) (defScope sPL) .none kV17 dc17 pm17 an17 cd17 ct17), sl17⟩)
    (c17 : PySem.W.codeIn K cd17 "parts_of_lines" = true)
    (k17 : PySem.W.keepIn K (.ref f17) = true)
    (a18 : PySem.W.nsIn K mainGlobals "whole_length" = some (some (.ref f18)))
    (l18 : K.lookup f18 = some ⟨oc18, od18, .func (PySem.W.fnOf "whole_length" "whole_length" (defArgs sWL) (defBody sWL) (defScope sWL) .none kV18 dc18 pm18 an18 cd18 ct18), sl18⟩)
    (c18 : PySem.W.codeIn K cd18 "whole_length" = true)
    (k18 : PySem.W.keepIn K (.ref f18) = true)
    (a19 : PySem.W.nsIn K mainGlobals "read_log" = some (some (.ref f19)))
    (l19 : K.lookup f19 = some ⟨oc19, od19, .func (PySem.W.fnOf "read_log" "read_log" (defArgs sRD) (defBody sRD) (defScope sRD) .none kV19 dc19 pm19 an19 cd19 ct19), sl19⟩)
    (c19 : PySem.W.codeIn K cd19 "read_log" = true)
    (k19 : PySem.W.keepIn K (.ref f19) = true)
    (a20 : PySem.W.nsIn K mainGlobals "_law_mixed" = some (some (.ref f20)))
    (l20 : K.lookup f20 = some ⟨oc20, od20, .func (PySem.W.fnOf "_law_mixed" "_law_mixed" (defArgs sMixed) (defBody sMixed) (defScope sMixed) .none kV20 dc20 pm20 an20 cd20 ct20), sl20⟩)
    (c20 : PySem.W.codeIn K cd20 "_law_mixed" = true)
    (k20 : PySem.W.keepIn K (.ref f20) = true)
    (a21 : PySem.W.nsIn K mainGlobals "_law_purse" = some (some (.ref f21)))
    (l21 : K.lookup f21 = some ⟨oc21, od21, .func (PySem.W.fnOf "_law_purse" "_law_purse" (defArgs sPurse) (defBody sPurse) (defScope sPurse) .none kV21 dc21 pm21 an21 cd21 ct21), sl21⟩)
    (c21 : PySem.W.codeIn K cd21 "_law_purse" = true)
    (k21 : PySem.W.keepIn K (.ref f21) = true)
    (a22 : PySem.W.nsIn K mainGlobals "_law_draw" = some (some (.ref f22)))
    (l22 : K.lookup f22 = some ⟨oc22, od22, .func (PySem.W.fnOf "_law_draw" "_law_draw" (defArgs sDraw) (defBody sDraw) (defScope sDraw) .none kV22 dc22 pm22 an22 cd22 ct22), sl22⟩)
    (c22 : PySem.W.codeIn K cd22 "_law_draw" = true)
    (k22 : PySem.W.keepIn K (.ref f22) = true)
    (a23 : PySem.W.nsIn K mainGlobals "_law_class" = some (some (.ref f23)))
    (l23 : K.lookup f23 = some ⟨oc23, od23, .func (PySem.W.fnOf "_law_class" "_law_class" (defArgs sClass) (defBody sClass) (defScope sClass) .none kV23 dc23 pm23 an23 cd23 ct23), sl23⟩)
    (c23 : PySem.W.codeIn K cd23 "_law_class" = true)
    (k23 : PySem.W.keepIn K (.ref f23) = true)
    (a24 : PySem.W.nsIn K mainGlobals "_law_sign" = some (some (.ref f24)))
    (l24 : K.lookup f24 = some ⟨oc24, od24, .func (PySem.W.fnOf "_law_sign" "_law_sign" (defArgs sSign) (defBody sSign) (defScope sSign) .none kV24 dc24 pm24 an24 cd24 ct24), sl24⟩)
    (c24 : PySem.W.codeIn K cd24 "_law_sign" = true)
    (k24 : PySem.W.keepIn K (.ref f24) = true)
    (a25 : PySem.W.nsIn K mainGlobals "_law_body" = some (some (.ref f25)))
    (l25 : K.lookup f25 = some ⟨oc25, od25, .func (PySem.W.fnOf "_law_body" "_law_body" (defArgs sLB) (defBody sLB) (defScope sLB) .none kV25 dc25 pm25 an25 cd25 ct25), sl25⟩)
    (c25 : PySem.W.codeIn K cd25 "_law_body" = true)
    (k25 : PySem.W.keepIn K (.ref f25) = true)
    (a26 : PySem.W.nsIn K mainGlobals "_law_deed" = some (some (.ref f26)))
    (l26 : K.lookup f26 = some ⟨oc26, od26, .func (PySem.W.fnOf "_law_deed" "_law_deed" (defArgs sDe) (defBody sDe) (defScope sDe) .none kV26 dc26 pm26 an26 cd26 ct26), sl26⟩)
    (c26 : PySem.W.codeIn K cd26 "_law_deed" = true)
    (k26 : PySem.W.keepIn K (.ref f26) = true)
    (a27 : PySem.W.nsIn K mainGlobals "_law_written" = some (some (.ref f27)))
    (l27 : K.lookup f27 = some ⟨oc27, od27, .func (PySem.W.fnOf "_law_written" "_law_written" (defArgs sWn) (defBody sWn) (defScope sWn) .none kV27 dc27 pm27 an27 cd27 ct27), sl27⟩)
    (c27 : PySem.W.codeIn K cd27 "_law_written" = true)
    (k27 : PySem.W.keepIn K (.ref f27) = true)
    (a28 : PySem.W.nsIn K mainGlobals "_law_refused_at" = some (some (.ref f28)))
    (l28 : K.lookup f28 = some ⟨oc28, od28, .func (PySem.W.fnOf "_law_refused_at" "_law_refused_at" (defArgs sRA) (defBody sRA) (defScope sRA) .none kV28 dc28 pm28 an28 cd28 ct28), sl28⟩)
    (c28 : PySem.W.codeIn K cd28 "_law_refused_at" = true)
    (k28 : PySem.W.keepIn K (.ref f28) = true)
    (a29 : PySem.W.nsIn K mainGlobals "_law_other" = some (some (.ref f29)))
    (l29 : K.lookup f29 = some ⟨oc29, od29, .func (PySem.W.fnOf "_law_other" "_law_other" (defArgs sOt) (defBody sOt) (defScope sOt) .none kV29 dc29 pm29 an29 cd29 ct29), sl29⟩)
    (c29 : PySem.W.codeIn K cd29 "_law_other" = true)
    (k29 : PySem.W.keepIn K (.ref f29) = true)
    (a30 : PySem.W.nsIn K mainGlobals "_law_line_at" = some (some (.ref f30)))
    (l30 : K.lookup f30 = some ⟨oc30, od30, .func (PySem.W.fnOf "_law_line_at" "_law_line_at" (defArgs sLA) (defBody sLA) (defScope sLA) .none kV30 dc30 pm30 an30 cd30 ct30), sl30⟩)
    (c30 : PySem.W.codeIn K cd30 "_law_line_at" = true)
    (k30 : PySem.W.keepIn K (.ref f30) = true)
    (a31 : PySem.W.nsIn K mainGlobals "_law_spoilt" = some (some (.ref f31)))
    (l31 : K.lookup f31 = some ⟨oc31, od31, .func (PySem.W.fnOf "_law_spoilt" "_law_spoilt" (defArgs sSp) (defBody sSp) (defScope sSp) .none kV31 dc31 pm31 an31 cd31 ct31), sl31⟩)
    (c31 : PySem.W.codeIn K cd31 "_law_spoilt" = true)
    (k31 : PySem.W.keepIn K (.ref f31) = true)
    (a32 : PySem.W.nsIn K mainGlobals "_law_places" = some (some (.ref f32)))
    (l32 : K.lookup f32 = some ⟨oc32, od32, .func (PySem.W.fnOf "_law_places" "_law_places" (defArgs sPs) (defBody sPs) (defScope sPs) .none kV32 dc32 pm32 an32 cd32 ct32), sl32⟩)
    (c32 : PySem.W.codeIn K cd32 "_law_places" = true)
    (k32 : PySem.W.keepIn K (.ref f32) = true)
    (a33 : PySem.W.nsIn K mainGlobals "law" = some (some (.ref f33)))
    (l33 : K.lookup f33 = some ⟨oc33, od33, .func (PySem.W.fnOf "law" "law" (defArgs sLaw) (defBody sLaw) (defScope sLaw) .none kV33 dc33 pm33 an33 cd33 ct33), sl33⟩)
    (c33 : PySem.W.codeIn K cd33 "law" = true)
    (k33 : PySem.W.keepIn K (.ref f33) = true)
    (z_range : PySem.W.nsIn K mainGlobals "range" = some none)
    (z_len : PySem.W.nsIn K mainGlobals "len" = some none)
    (z_max : PySem.W.nsIn K mainGlobals "max" = some none)
    (z_sum : PySem.W.nsIn K mainGlobals "sum" = some none)
    (z_zip : PySem.W.nsIn K mainGlobals "zip" = some none)
    (z_enumerate : PySem.W.nsIn K mainGlobals "enumerate" = some none)
    (z_ord : PySem.W.nsIn K mainGlobals "ord" = some none)
    (z_str : PySem.W.nsIn K mainGlobals "str" = some none)
    (z_all : PySem.W.nsIn K mainGlobals "all" = some none)
    (z_int : PySem.W.nsIn K mainGlobals "int" = some none)
    (z_list : PySem.W.nsIn K mainGlobals "list" = some none)
    (z_isinstance : PySem.W.nsIn K mainGlobals "isinstance" = some none)
    (z_ValueError : PySem.W.nsIn K mainGlobals "ValueError" = some none)
    (v_CHECK_REST : PySem.W.nsIn K mainGlobals "CHECK_REST" = some (some (.int 999983 tkR)))
    (v_FIGURES : PySem.W.nsIn K mainGlobals "FIGURES" = some (some (.str "0123456789" tkF)))
    (v_ENDS : PySem.W.nsIn K mainGlobals "ENDS" = some (some (.str "." tkE)))
    (v_GOES : PySem.W.nsIn K mainGlobals "GOES" = some (some (.str "+" tkG)))
    (v_MARKS : PySem.W.nsIn K mainGlobals "MARKS" = some (some (.str "=" tkM)))
    (v_MOST_FIGURES : PySem.W.nsIn K mainGlobals "MOST_FIGURES" = some (some (.int 12 tkO)))
    (kB_ : PySem.W.kitOne K (.ref CL) (.ref CB) = some false)
    (kD_ : PySem.W.kitOne K (.ref CL) (.ref CD) = some false)
    (kG_ : PySem.W.kitOne K (.ref CL) (.ref CG) = some false)
    (kK_ : PySem.W.kitOne K (.ref CL) (.ref CK) = some false)
    (kL_ : PySem.W.kitOne K (.ref CL) (.ref CL) = some true)
    (kO_ : PySem.W.kitOne K (.ref CL) (.ref CO) = some false)
    (kN_ : PySem.W.kitOne K (.ref CL) (.ref CN) = some false)
    (kP_ : PySem.W.kitOne K (.ref CL) (.ref CP) = some false)
    (kT_ : PySem.W.kitOne K (.ref CL) (.ref CT) = some false)
    (kitV : PySem.W.kitOne K (.ref CL) (.type "ValueError") = some true)
    (ccC1 : PySem.W.findIn K (.ref C1) "__class__" = some (some (.builtin "object.__class__")))
    (moC1 : PySem.W.mroIn K C1 (.type "object") = some true)
    (ktC1 : PySem.W.kitOne K (.ref C1) (.ref C1) = some true)
    : ∃ fd : FuncData, (∀ (s : Shared) (v : Value), BindsTo s fd ⟨[v], []⟩ [("_law_script", v)]) ∧ ∀ base : Heap, K.In base → base.Ns mainGlobals mg → FnOk l.prog w K mg base CX0 9 fa fd ["_law_script"] (spLaw K) := by
  have e := hfa.symm.trans (PySem.W.mg_of X G a33)
  cases e
  have F1 := fun_mk (st := sErL) l1 c1 k1
  have F2 := fun_mk (st := sLI) l2 c2 k2
  have F3 := fun_mk (st := sEq) l3 c3 k3
  have F4 := fun_mk (st := sWr) l4 c4 k4
  have F5 := fun_mk (st := sBu) l5 c5 k5
  have F6 := fun_mk (st := sMk) l6 c6 k6
  have F7 := fun_mk (st := sTx) l7 c7 k7
  have F8 := fun_mk (st := sTr) l8 c8 k8
  have F9 := fun_mk (st := sCheck) l9 c9 k9
  have F10 := fun_mk (st := sWC) l10 c10 k10
  have F11 := fun_mk (st := sRF) l11 c11 k11
  have F12 := fun_mk (st := sBody) l12 c12 k12
  have F13 : FLine K f13 _ := ⟨⟨oc13, od13, .none, .ref KD, dc13, pm13, an13, cd13, ct13, sl13, rfl, l13, c13, .inl ⟨rfl, rfl⟩, .inr ⟨KD, rfl, fun q lack => by
    obtain rfl := List.mem_singleton.mp lack
    exact ⟨_, d_sign, ⟨_, rfl⟩⟩⟩⟩, k13⟩
  have F14 := fun_mk (st := sParts) l14 c14 k14
  have F15 := fun_mk (st := sLW) l15 c15 k15
  have F16 := fun_mk (st := sMay) l16 c16 k16
  have F17 := fun_mk (st := sPL) l17 c17 k17
  have F18 := fun_mk (st := sWL) l18 c18 k18
  have F19 := fun_mk (st := sRD) l19 c19 k19
  have F20 := fun_mk (st := sMixed) l20 c20 k20
  have F21 := fun_mk (st := sPurse) l21 c21 k21
  have F22 := fun_mk (st := sDraw) l22 c22 k22
  have F23 := fun_mk (st := sClass) l23 c23 k23
  have F24 := fun_mk (st := sSign) l24 c24 k24
  have F25 := fun_mk (st := sLB) l25 c25 k25
  have F26 := fun_mk (st := sDe) l26 c26 k26
  have F27 := fun_mk (st := sWn) l27 c27 k27
  have F28 := fun_mk (st := sRA) l28 c28 k28
  have F29 := fun_mk (st := sOt) l29 c29 k29
  have F30 := fun_mk (st := sLA) l30 c30 k30
  have F31 := fun_mk (st := sSp) l31 c31 k31
  have F32 := fun_mk (st := sPs) l32 c32 k32
  have F33 := fun_mk (st := sLaw) l33 c33 k33
  have b1 := F1.binds (ps := ["self", "at"]) fun _ _ _ _ _ _ us hl => match us, hl with | [_, _], _ => rfl
  have b2 := F2.binds (ps := ["self"]) fun _ _ _ _ _ _ us hl => match us, hl with | [_], _ => rfl
  have b3 := F3.binds (ps := ["self", "other"]) fun _ _ _ _ _ _ us hl => match us, hl with | [_, _], _ => rfl
  have b4 := F4.binds (ps := ["self", "body"]) fun _ _ _ _ _ _ us hl => match us, hl with | [_, _], _ => rfl
  have b5 := F5.binds (ps := ["self", "bodies"]) fun _ _ _ _ _ _ us hl => match us, hl with | [_, _], _ => rfl
  have b6 := F6.binds (ps := ["self", "body"]) fun _ _ _ _ _ _ us hl => match us, hl with | [_, _], _ => rfl
  have b7 := F7.binds (ps := ["self"]) fun _ _ _ _ _ _ us hl => match us, hl with | [_], _ => rfl
  have b8 := F8.binds (ps := ["self"]) fun _ _ _ _ _ _ us hl => match us, hl with | [_], _ => rfl
  have b9 := F9.binds (ps := ["line"]) fun _ _ _ _ _ _ us hl => match us, hl with | [_], _ => rfl
  have b10 := F10.binds (ps := ["line"]) fun _ _ _ _ _ _ us hl => match us, hl with | [_], _ => rfl
  have b11 := F11.binds (ps := ["text", "most"]) fun _ _ _ _ _ _ us hl => match us, hl with | [_, _], _ => rfl
  have b12 := F12.binds (ps := ["text"]) fun _ _ _ _ _ _ us hl => match us, hl with | [_], _ => rfl
  have b14 := F14.binds (ps := ["line"]) fun _ _ _ _ _ _ us hl => match us, hl with | [_], _ => rfl
  have b15 := F15.binds (ps := ["lines", "number", "begin"]) fun _ _ _ _ _ _ us hl => match us, hl with | [_, _, _], _ => rfl
  have b16 := F16.binds (ps := ["parts", "ahead"]) fun _ _ _ _ _ _ us hl => match us, hl with | [_, _], _ => rfl
  have b17 := F17.binds (ps := ["lines"]) fun _ _ _ _ _ _ us hl => match us, hl with | [_], _ => rfl
  have b18 := F18.binds (ps := ["told"]) fun _ _ _ _ _ _ us hl => match us, hl with | [_], _ => rfl
  have b19 := F19.binds (ps := ["text"]) fun _ _ _ _ _ _ us hl => match us, hl with | [_], _ => rfl
  have b20 := F20.binds (ps := ["_law_cell", "_law_k"]) fun _ _ _ _ _ _ us hl => match us, hl with | [_, _], _ => rfl
  have b21 := F21.binds (ps := ["_law_script", "_law_at"]) fun _ _ _ _ _ _ us hl => match us, hl with | [_, _], _ => rfl
  have b22 := F22.binds (ps := ["_law_purse_here", "_law_out_of"]) fun _ _ _ _ _ _ us hl => match us, hl with | [_, _], _ => rfl
  have b23 := F23.binds (ps := ["_law_caught"]) fun _ _ _ _ _ _ us hl => match us, hl with | [_], _ => rfl
  have b24 := F24.binds (ps := ["_law_purse_here"]) fun _ _ _ _ _ _ us hl => match us, hl with | [_], _ => rfl
  have b25 := F25.binds (ps := ["_law_purse_here", "_law_most"]) fun _ _ _ _ _ _ us hl => match us, hl with | [_, _], _ => rfl
  have b26 := F26.binds (ps := ["_law_purse_here", "_law_most"]) fun _ _ _ _ _ _ us hl => match us, hl with | [_, _], _ => rfl
  have b27 := F27.binds (ps := ["_law_script"]) fun _ _ _ _ _ _ us hl => match us, hl with | [_], _ => rfl
  have b28 := F28.binds (ps := ["_law_a_text", "_law_by_name"]) fun _ _ _ _ _ _ us hl => match us, hl with | [_, _], _ => rfl
  have b29 := F29.binds (ps := ["_law_purse_here"]) fun _ _ _ _ _ _ us hl => match us, hl with | [_], _ => rfl
  have b30 := F30.binds (ps := ["_law_a_text", "_law_at"]) fun _ _ _ _ _ _ us hl => match us, hl with | [_, _], _ => rfl
  have b31 := F31.binds (ps := ["_law_purse_here", "_law_a_text", "_law_at"]) fun _ _ _ _ _ _ us hl => match us, hl with | [_, _, _], _ => rfl
  have b32 := F32.binds (ps := ["_law_purse_here", "_law_a_text"]) fun _ _ _ _ _ _ us hl => match us, hl with | [_, _], _ => rfl
  have g9 := PySem.W.mg_of X G a9
  have g10 := PySem.W.mg_of X G a10
  have g11 := PySem.W.mg_of X G a11
  have g12 := PySem.W.mg_of X G a12
  have g13 := PySem.W.mg_of X G a13
  have g14 := PySem.W.mg_of X G a14
  have g15 := PySem.W.mg_of X G a15
  have g16 := PySem.W.mg_of X G a16
  have g17 := PySem.W.mg_of X G a17
  have g18 := PySem.W.mg_of X G a18
  have g19 := PySem.W.mg_of X G a19
  have g20 := PySem.W.mg_of X G a20
  have g21 := PySem.W.mg_of X G a21
  have g22 := PySem.W.mg_of X G a22
  have g23 := PySem.W.mg_of X G a23
  have g24 := PySem.W.mg_of X G a24
  have g25 := PySem.W.mg_of X G a25
  have g26 := PySem.W.mg_of X G a26
  have g27 := PySem.W.mg_of X G a27
  have g28 := PySem.W.mg_of X G a28
  have g29 := PySem.W.mg_of X G a29
  have g30 := PySem.W.mg_of X G a30
  have g31 := PySem.W.mg_of X G a31
  have g32 := PySem.W.mg_of X G a32
  have gC1 := PySem.W.mg_of X G aC1
  have gCB := PySem.W.mg_of X G aCB
  have gCD := PySem.W.mg_of X G aCD
  have gCG := PySem.W.mg_of X G aCG
  have gCK := PySem.W.mg_of X G aCK
  have gCO := PySem.W.mg_of X G aCO
  have gCN := PySem.W.mg_of X G aCN
  have gCP := PySem.W.mg_of X G aCP
  have gCT := PySem.W.mg_of X G aCT
  have gCL := PySem.W.mg_of X G aCL
  have OCL : OexC K CL := ⟨⟨nmCL, qCL, NCL, bsCL, _, snCL, subCL, abCL, colCL, ddCL, v0CL, v1CL, v2CL, v3CL, v5CL, xCL, by decide +kernel⟩, saCL, ecCL, tcCL, kcCL⟩
  have ECL : ExcC K CL := ⟨gaCL, ggCL, ecCL, hcCL, ccCL, hnC, htC, moCL⟩
  have XCL : XfC K CL := ⟨gaCL, ggCL, ecCL, hcCL⟩
  have m_range := PySem.W.mg_none_of X G z_range
  have m_len := PySem.W.mg_none_of X G z_len
  have m_max := PySem.W.mg_none_of X G z_max
  have m_sum := PySem.W.mg_none_of X G z_sum
  have m_zip := PySem.W.mg_none_of X G z_zip
  have m_enumerate := PySem.W.mg_none_of X G z_enumerate
  have m_ord := PySem.W.mg_none_of X G z_ord
  have m_str := PySem.W.mg_none_of X G z_str
  have m_all := PySem.W.mg_none_of X G z_all
  have m_int := PySem.W.mg_none_of X G z_int
  have m_list := PySem.W.mg_none_of X G z_list
  have m_isinstance := PySem.W.mg_none_of X G z_isinstance
  have m_ValueError := PySem.W.mg_none_of X G z_ValueError
  have g_CHECK_REST := PySem.W.mg_of X G v_CHECK_REST
  have g_FIGURES := PySem.W.mg_of X G v_FIGURES
  have g_ENDS := PySem.W.mg_of X G v_ENDS
  have g_GOES := PySem.W.mg_of X G v_GOES
  have g_MARKS := PySem.W.mg_of X G v_MARKS
  have g_MOST_FIGURES := PySem.W.mg_of X G v_MOST_FIGURES
  refine ⟨PySem.W.fnOf "law" "law" (defArgs sLaw) (defBody sLaw) (defScope sLaw) .none kV33 dc33 pm33 an33 cd33 ct33, fun s v => .of_eq rfl, fun base _ _ => ?_⟩
  have T : TLog K C1 := ⟨⟨pgC1, hdC1, poC1, saC1⟩, noC1_number, noC1_kept, noC1_begin⟩
  have CE : ∀ j, CalE l.prog w K mg base (j + 1) "NoLog" CL "at" := fun j => ⟨f1, _, OCL, a1, t1, ok_errL (k := j) F1 OCL noCL m_ValueError vV, b1, gCL⟩
  have N9 : Nine K mg CB CD CG CK CL CO CN CP CT := ⟨gCB, gCD, gCG, gCK, gCL, gCO, gCN, gCP, gCT, m_isinstance, m_ValueError, kB_, kD_, kG_, kK_, kL_, kO_, kN_, kP_, kT_, kitV, ECL, XCL, noCL, xmCL⟩
  have TI : TIns K C1 := ⟨ccC1, hnC, htC, moC1, ktC1⟩
  obtain ⟨q1, z1⟩ := kl_1 F13
  obtain ⟨q3, z3⟩ := kl_3 F13
  have CC : ∀ j, Cal l.prog w K mg base (j + 1) "check" ["line"] spCheck := fun j => ⟨f9, _, ok_check F9 m_sum m_enumerate m_ord g_CHECK_REST, g9, k9, b9⟩
  have WC : ∀ j, Cal l.prog w K mg base (j + 2) "with_check" ["line"] spWC := fun j => ⟨f10, _, ok_wc (k := j + 1) F10 (CC j), g10, k10, b10⟩
  have IB : ∀ j, Cal l.prog w K mg base (j + 1) "is_body" ["text"] spBody := fun j => ⟨f12, _, ok_body F12 m_all, g12, k12, b12⟩
  have OL : ∀ j, FnOk l.prog w K mg base CX0 (j + 3) f13 _ ["number", "body", "sign"] spLine := fun j => ok_line (k := j + 2) F13 (IB (j + 1)) (WC j) m_len m_str
  have CLN : ∀ j, CLine l.prog w K mg base (j + 3) f13 _ q1 q3 := fun j => ⟨OL j, g13, k13, z1, z3⟩
  have RF : ∀ j, Cal l.prog w K mg base (j + 1) "read_figures" ["text", "most"] spRF := fun j => ⟨f11, _, ok_rf F11 m_len m_all m_int g_FIGURES, g11, k11, b11⟩
  have PA : ∀ j, Cal l.prog w K mg base (j + 4) "parts_of_line" ["line"] spParts := fun j => ⟨f14, _, ok_parts (k := j + 3) F14 (RF (j + 2)) (IB (j + 2)) ⟨f13, _, q3, OL j, g13, k13, z3⟩ g_ENDS g_GOES g_MARKS g_MOST_FIGURES, g14, k14, b14⟩
  have MF : ∀ j, Cal l.prog w K mg base (j + 1) "may_follow" ["parts", "ahead"] spMay := fun j => ⟨f16, _, ok_may F16 g_GOES g_MARKS, g16, k16, b16⟩
  have PL : ∀ j, Cal l.prog w K mg base (j + 5) "parts_of_lines" ["lines"] spPL := fun j => ⟨f17, _, ok_pl (k := j + 4) F17 (PA j) (MF (j + 3)) m_enumerate, g17, k17, b17⟩
  have PN : ∀ j, CalR l.prog w K mg base (j + 5) "parts_of_lines" ["lines"] (spPLN CL) := fun j => ⟨f17, _, ok_plN (k := j + 3) F17 (PA j) (MF (j + 3)) (CE (j + 2)) m_enumerate, g17, k17, b17⟩
  have WL : ∀ j, Cal l.prog w K mg base (j + 1) "whole_length" ["told"] spWL := fun j => ⟨f18, _, ok_wl F18 g_GOES m_len, g18, k18, b18⟩
  have KL : ∀ j, CalC l.prog w K mg base (j + 1) "Log" C1 ["self"] (spLI C1) := fun j => ⟨f2, _, ok_li (k := j) F2 T, gC1, ⟨mkC1, a2, i2, kcC1⟩, b2⟩
  have LW : ∀ j, Cal l.prog w K mg base (j + 3) "log_with" ["lines", "number", "begin"] (spLW C1) := fun j => ⟨f15, _, ok_lw (k := j + 1) F15 T (KL j) m_list, g15, k15, b15⟩
  have RD : ∀ j, Cal l.prog w K mg base (j + 6) "read_log" ["text"] (spRD C1) := fun j => ⟨f19, _, ok_rd (k := j + 5) F19 (PL j) (WL (j + 4)) (LW (j + 2)) g_MARKS m_enumerate, g19, k19, b19⟩
  have RN : ∀ j, CalR l.prog w K mg base (j + 6) "read_log" ["text"] (spRDN CL) := fun j => ⟨f19, _, ok_rdN (k := j + 5) F19 (PN j), g19, k19, b19⟩
  have RK : ∀ j, CalRK l.prog w K mg base (j + 6) "read_log" ["text"] ["text"] [0] (spRDN CL) := fun j => ⟨f19, _, ok_rdN (k := j + 5) F19 (PN j), g19, k19, kbn_1 F19 fun _ _ _ _ _ _ _ => rfl⟩
  have MW : ∀ j, CalMK l.prog w K mg base (j + 4) C1 "write" ["self", "body"] ["body"] [0] (spWr C1) := fun j => ⟨f4, _, ok_wr (k := j + 3) F4 T (CLN j), ⟨a4, i4, k4⟩, kbn_m F4 fun _ _ _ _ _ _ _ _ => rfl⟩
  have MB : ∀ j, CalMK l.prog w K mg base (j + 4) C1 "bundle" ["self", "bodies"] ["bodies"] [0] (spBu C1) := fun j => ⟨f5, _, ok_bu (k := j + 3) F5 T (CLN j) g_GOES g_ENDS m_len m_list m_zip m_enumerate, ⟨a5, i5, k5⟩, kbn_m F5 fun _ _ _ _ _ _ _ _ => rfl⟩
  have MM : ∀ j, CalMK l.prog w K mg base (j + 4) C1 "mark" ["self", "body"] ["body"] [0] (spMk C1) := fun j => ⟨f6, _, ok_mk (k := j + 3) F6 T (CLN j) g_MARKS m_len, ⟨a6, i6, k6⟩, kbn_m F6 fun _ _ _ _ _ _ _ _ => rfl⟩
  have MT : ∀ j, CalM l.prog w K mg base (j + 1) C1 "text" ["self"] (spTx C1) := fun j => ⟨f7, _, ok_tx F7 T, ⟨a7, i7, k7⟩, b7⟩
  have MR : ∀ j, CalM l.prog w K mg base (j + 4) C1 "trimmed" ["self"] (spTr C1) := fun j => ⟨f8, _, ok_tr (k := j + 3) F8 T (LW j), ⟨a8, i8, k8⟩, b8⟩
  have DR : ∀ j, Cal l.prog w K mg base (j + 2) "_law_draw" ["_law_purse_here", "_law_out_of"] spDraw := fun j => ⟨f22, _, ok_draw (k := j + 1) F22 ⟨f20, _, ok_mixed F20, g20, k20, b20⟩ m_range, g22, k22, b22⟩
  have PU : ∀ j, Cal l.prog w K mg base (j + 1) "_law_purse" ["_law_script", "_law_at"] (spPurse K) := fun j => ⟨f21, _, ok_purse F21 m_range m_max, g21, k21, b21⟩
  have CS : ∀ j, Cal l.prog w K mg base (j + 1) "_law_class" ["_law_caught"] (spClass CL) := fun j => ⟨f23, _, ok_class F23 N9 m_zip m_len, g23, k23, b23⟩
  have SG : ∀ j, Cal l.prog w K mg base (j + 3) "_law_sign" ["_law_purse_here"] spSign := fun j => ⟨f24, _, ok_sign (k := j + 2) F24 (DR j) m_len, g24, k24, b24⟩
  have LB : ∀ j, Cal l.prog w K mg base (j + 4) "_law_body" ["_law_purse_here", "_law_most"] spLB := fun j => ⟨f25, _, ok_lb (k := j + 3) F25 (DR (j + 1)) (SG j) m_range, g25, k25, b25⟩
  have DE : ∀ j, Cal l.prog w K mg base (j + 5) "_law_deed" ["_law_purse_here", "_law_most"] spDe := fun j => ⟨f26, _, ok_de (k := j + 4) F26 (DR (j + 2)) (LB j) m_range, g26, k26, b26⟩
  have WN : ∀ j, Cal l.prog w K mg base (j + 7) "_law_written" ["_law_script"] (spWn C1 K) := fun j => ⟨f27, _, ok_wn (k := j + 5) F27 T (KL (j + 4)) (DE j) (PU (j + 4)) (MW (j + 1)) (MM (j + 1)) (MB (j + 1)) m_range m_max m_len, g27, k27, b27⟩
  have RA : ∀ j, Cal l.prog w K mg base (j + 7) "_law_refused_at" ["_law_a_text", "_law_by_name"] spRA := fun j => ⟨f28, _, ok_ra (k := j + 6) F28 N9 (RN j) (RK j) (CS (j + 5)), g28, k28, b28⟩
  have OT : ∀ j, Cal l.prog w K mg base (j + 4) "_law_other" ["_law_purse_here"] spOt := fun j => ⟨f29, _, ok_ot (k := j + 3) F29 (DR (j + 1)) (SG j), g29, k29, b29⟩
  have LA : ∀ j, Cal l.prog w K mg base (j + 1) "_law_line_at" ["_law_a_text", "_law_at"] spLA := fun j => ⟨f30, _, ok_la F30 m_len, g30, k30, b30⟩
  have SP : ∀ j, Cal l.prog w K mg base (j + 5) "_law_spoilt" ["_law_purse_here", "_law_a_text", "_law_at"] spSp := fun j => ⟨f31, _, ok_sp (k := j + 4) F31 (OT j) (LA (j + 3)) m_len m_int, g31, k31, b31⟩
  have PS : ∀ j, Cal l.prog w K mg base (j + 3) "_law_places" ["_law_purse_here", "_law_a_text"] spPs := fun j => ⟨f32, _, ok_ps (k := j + 2) F32 (DR j) (LA (j + 1)) m_len m_range, g32, k32, b32⟩
  exact ok_law (k := 7) F33 T (MT 6) (MR 3) (WN 0) (DR 5) (PU 6) (PS 4) (SP 2) (RA 0) (RD 1) (ok_eq (k := 6) F3 T TI gC1 m_isinstance) a3 i3 b3
end Tg
open PySem PySem.W PyProof.Rows
set_option maxRecDepth 100000 in
set_option maxHeartbeats 0 in
theorem PySem.Challenge.cw_timegranary_k44_whole_logs_spoilt_holds : PySem.Challenge.rw_timegranary_k44_whole_logs_spoilt.Holds := by
  w_on; o_law; k_head; (case hw => w_witness2)
  k_fill
  refine L2.walk_of (l := PySem.Challenge.rw_timegranary_k44_whole_logs_spoilt) (n := 63) (k := 9) (x := "_law_script") (CX := fun _ => L2.CX0) (sp := fun w => Tg.spLaw _) rfl (by decide) rfl ⟨rfl, by decide, by decide⟩ (fun w h Y => PySem.W.kIn_of Y) ?F (fun _ _ a ns hl _ hS => ⟨a, ns, rfl, hS, hl, fun _ => rfl⟩) (fun _ _ _ _ _ h => h)
  case F =>
    intro w mg fa h KX G hmg
    refine' Tg.all_mk KX G hmg ?aCL ?xCL ?saCL ?gaCL ?ggCL ?noCL ?kcCL ?ecCL ?tcCL ?hcCL ?ccCL ?moCL ?xmCL ?hnC ?htC ?vV ?aCB ?aCD ?aCG ?aCK ?aCO ?aCN ?aCP ?aCT ?aC1 ?pgC1 ?hdC1 ?poC1 ?saC1 ?mkC1 ?kcC1 ?noC1_number ?noC1_kept ?noC1_begin ?a1 ?t1 ?l1 ?c1 ?k1 ?a2 ?i2 ?l2 ?c2 ?k2 ?a3 ?i3 ?l3 ?c3 ?k3 ?a4 ?i4 ?l4 ?c4 ?k4 ?a5 ?i5 ?l5 ?c5 ?k5 ?a6 ?i6 ?l6 ?c6 ?k6 ?a7 ?i7 ?l7 ?c7 ?k7 ?a8 ?i8 ?l8 ?c8 ?k8 ?a9 ?l9 ?c9 ?k9 ?a10 ?l10 ?c10 ?k10 ?a11 ?l11 ?c11 ?k11 ?a12 ?l12 ?c12 ?k12 ?a13 ?l13 ?d_sign ?c13 ?k13 ?a14 ?l14 ?c14 ?k14 ?a15 ?l15 ?c15 ?k15 ?a16 ?l16 ?c16 ?k16 ?a17 ?l17 ?c17 ?k17 ?a18 ?l18 ?c18 ?k18 ?a19 ?l19 ?c19 ?k19 ?a20 ?l20 ?c20 ?k20 ?a21 ?l21 ?c21 ?k21 ?a22 ?l22 ?c22 ?k22 ?a23 ?l23 ?c23 ?k23 ?a24 ?l24 ?c24 ?k24 ?a25 ?l25 ?c25 ?k25 ?a26 ?l26 ?c26 ?k26 ?a27 ?l27 ?c27 ?k27 ?a28 ?l28 ?c28 ?k28 ?a29 ?l29 ?c29 ?k29 ?a30 ?l30 ?c30 ?k30 ?a31 ?l31 ?c31 ?k31 ?a32 ?l32 ?c32 ?k32 ?a33 ?l33 ?c33 ?k33 ?z_range ?z_len ?z_max ?z_sum ?z_zip ?z_enumerate ?z_ord ?z_str ?z_all ?z_int ?z_list ?z_isinstance ?z_ValueError ?v_CHECK_REST ?v_FIGURES ?v_ENDS ?v_GOES ?v_MARKS ?v_MOST_FIGURES ?kB_ ?kD_ ?kG_ ?kK_ ?kL_ ?kO_ ?kN_ ?kP_ ?kT_ ?kitV ?ccC1 ?moC1 ?ktC1
    (case aCL => k_is); (case xCL => k_is); (case saCL => k_is); (case gaCL => k_is); (case ggCL => k_is); (case noCL => k_is)
    (case kcCL => k_is); (case ecCL => k_is); (case tcCL => k_is); (case hcCL => k_is); (case ccCL => k_is); (case moCL => k_is)
    (case xmCL => first | k_is | rfl); (case hnC => k_is); (case htC => k_is); (case vV => first | k_is | rfl); (case aCB => k_is); (case aCD => k_is)
    (case aCG => k_is); (case aCK => k_is); (case aCO => k_is); (case aCN => k_is); (case aCP => k_is); (case aCT => k_is)
    (case aC1 => k_is); (case pgC1 => k_is); (case hdC1 => k_is); (case poC1 => k_is); (case saC1 => k_is); (case mkC1 => k_is)
    (case kcC1 => k_is); (case noC1_number => k_is); (case noC1_kept => k_is); (case noC1_begin => k_is); (case a1 => k_is); (case t1 => k_is)
    (case l1 => k_is); (case c1 => k_is); (case k1 => k_is); (case a2 => k_is); (case i2 => k_is); (case l2 => k_is)
    (case c2 => k_is); (case k2 => k_is); (case a3 => k_is); (case i3 => k_is); (case l3 => k_is); (case c3 => k_is)
    (case k3 => k_is); (case a4 => k_is); (case i4 => k_is); (case l4 => k_is); (case c4 => k_is); (case k4 => k_is)
    (case a5 => k_is); (case i5 => k_is); (case l5 => k_is); (case c5 => k_is); (case k5 => k_is); (case a6 => k_is)
    (case i6 => k_is); (case l6 => k_is); (case c6 => k_is); (case k6 => k_is); (case a7 => k_is); (case i7 => k_is)
    (case l7 => k_is); (case c7 => k_is); (case k7 => k_is); (case a8 => k_is); (case i8 => k_is); (case l8 => k_is)
    (case c8 => k_is); (case k8 => k_is); (case a9 => k_is); (case l9 => k_is); (case c9 => k_is); (case k9 => k_is)
    (case a10 => k_is); (case l10 => k_is); (case c10 => k_is); (case k10 => k_is); (case a11 => k_is); (case l11 => k_is)
    (case c11 => k_is); (case k11 => k_is); (case a12 => k_is); (case l12 => k_is); (case c12 => k_is); (case k12 => k_is)
    (case a13 => k_is); (case l13 => k_is); (case d_sign => k_is); (case c13 => k_is); (case k13 => k_is); (case a14 => k_is); (case l14 => k_is)
    (case c14 => k_is); (case k14 => k_is); (case a15 => k_is); (case l15 => k_is); (case c15 => k_is); (case k15 => k_is)
    (case a16 => k_is); (case l16 => k_is); (case c16 => k_is); (case k16 => k_is); (case a17 => k_is); (case l17 => k_is)
    (case c17 => k_is); (case k17 => k_is); (case a18 => k_is); (case l18 => k_is); (case c18 => k_is); (case k18 => k_is)
    (case a19 => k_is); (case l19 => k_is); (case c19 => k_is); (case k19 => k_is); (case a20 => k_is); (case l20 => k_is)
    (case c20 => k_is); (case k20 => k_is); (case a21 => k_is); (case l21 => k_is); (case c21 => k_is); (case k21 => k_is)
    (case a22 => k_is); (case l22 => k_is); (case c22 => k_is); (case k22 => k_is); (case a23 => k_is); (case l23 => k_is)
    (case c23 => k_is); (case k23 => k_is); (case a24 => k_is); (case l24 => k_is); (case c24 => k_is); (case k24 => k_is)
    (case a25 => k_is); (case l25 => k_is); (case c25 => k_is); (case k25 => k_is); (case a26 => k_is); (case l26 => k_is)
    (case c26 => k_is); (case k26 => k_is); (case a27 => k_is); (case l27 => k_is); (case c27 => k_is); (case k27 => k_is)
    (case a28 => k_is); (case l28 => k_is); (case c28 => k_is); (case k28 => k_is); (case a29 => k_is); (case l29 => k_is)
    (case c29 => k_is); (case k29 => k_is); (case a30 => k_is); (case l30 => k_is); (case c30 => k_is); (case k30 => k_is)
    (case a31 => k_is); (case l31 => k_is); (case c31 => k_is); (case k31 => k_is); (case a32 => k_is); (case l32 => k_is)
    (case c32 => k_is); (case k32 => k_is); (case a33 => k_is); (case l33 => k_is); (case c33 => k_is); (case k33 => k_is)
    (case z_range => k_is); (case z_len => k_is); (case z_max => k_is); (case z_sum => k_is); (case z_zip => k_is); (case z_enumerate => k_is)
    (case z_ord => k_is); (case z_str => k_is); (case z_all => k_is); (case z_int => k_is); (case z_list => k_is); (case z_isinstance => k_is)
    (case z_ValueError => k_is); (case v_CHECK_REST => k_is); (case v_FIGURES => k_is); (case v_ENDS => k_is); (case v_GOES => k_is); (case v_MARKS => k_is)
    (case v_MOST_FIGURES => k_is); (case kB_ => first | k_is | rfl); (case kD_ => first | k_is | rfl); (case kG_ => first | k_is | rfl); (case kK_ => first | k_is | rfl); (case kL_ => first | k_is | rfl)
    (case kO_ => first | k_is | rfl); (case kN_ => first | k_is | rfl); (case kP_ => first | k_is | rfl); (case kT_ => first | k_is | rfl); (case kitV => first | k_is | rfl); (case ccC1 => k_is)
    (case moC1 => k_is); (case ktC1 => first | k_is | rfl)

