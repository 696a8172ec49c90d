import PyProof.Rows.All
import Wide.All
import OpenK.AllK
import Wide.FinOn
import HandS.ForMost
import HandS.Conv
import HandS.Wide
import HandS.IsInst
import HandS.Defaults
import HandS.Dict
import HandS.Iter
import HandS.Walk
import HandS.Exc
import HandS.ExcInit
import HandS.ExcIs
import HandS.ExcField
import HandS.ExcValue
import KE.KExcIs
import KE.KTryMore
import HandS.WordsExc
import HandS.ExcOwn
import PyProof.ReprRoads
import HandS.FStr
import HandS.OwnEq
import HandS.Zip
import KE.GoesNew
import KE.GoesMore
import KE.GoesEnum
import KE.KIndexOf
import KE.GoesEnumKw
import PyProof.Rows.CallKwBuiltin
import HandS.Text
import PyProof.MeetsStr3
import PyProof.StrLawsLast
import PyProof.StrLawsIn
import HandS.Codes
import PyProof.InstSpecial
import KE.KDictZip
import KE.KTurns
import PyProof.EqKinds
import PyProof.InstNe
import OpenK.KOwn
import HandS.Comp
import HandS.WideBits
import KE.IntBitsLaws
import PySem.Challenge.RW_timegranary_k42_logs_written
import HandS.MakeKwOnly
set_option Elab.async false
set_option linter.all false
set_option maxRecDepth 100000
namespace Tg
open PySem PySem.Spec PyProof.Rows L2

/-! ### rules of my own: a call by keywords alone; list(range(a, b, c)) -/
section
variable {X : Cx} {CX : CXT} {k : Nat} {f : Addr} {fd : FuncData} {ps ks : List Str} {sp : Sp} {E : XK} {x : Str} {p pos : Pos} {kws : List Keyword} {tk : TA}
  {g : List Value → List Value → List Value} {gV : List V → List V → List V}
def tKw0 (n : Nat) (sp : Sp) (gV : List V → List V → List V) (E : XK) (tk : TA) : TE :=
  fun σ H Q => tk σ H fun zs H2 => zs.length = n ∧ sp (gV [] zs) H2 Q E
theorem pe_kw0 (F : FnOk X.prog X.w X.K X.mg X.base CX k f fd ps sp) (room : Room k X.A) (gl : Gl X x) (at_x : X.mg x = some (.ref f)) (kept : PySem.W.keepIn X.K (.ref f) = true) (binds : KBn X.K fd ps 0 ks g gV) (lets : Passes CX X E) (vals : PK X kws tk)
    (named : (backToKw pos (keywordEach kws X.env)).all (·.1.isSome) = true := by rfl) (names : (backToKw pos (keywordEach kws X.env)).filterMap (·.1) = ks := by rfl) (nodebug : (x == ("__debug__" : Str)) = false := by decide)
    (nostar : ((backTo pos (starEach [] X.env)).any (·.1) || (backToKw pos (keywordEach kws X.env)).any (·.1.isNone)) = false := by rfl) : PE X (.Call (.Name x p) [] kws pos) (tKw0 ks.length sp gV E tk) := by
  constructor
  intro pins s σ H Q I read
  refine wpAny_Call_Name_kw (ld_glob I gl at_x (PySem.W.callWith_KW0 (h₀ := X.base) I.ok.mod.kin kept named (thn (vals.run pos pins s σ H _ I read) fun ws s2 y => ?_) nostar) nodebug)
  obtain ⟨zs, H2, J, rel, many, h⟩ := y
  rw [names]
  exact ⟨J.kIn, run_fnN (us := []) (vs := []) F room binds lets J .nil rel rfl many h⟩
end

/-- two keywords, the second parameter's first -/
def sw2 {α : Type} : List α → List α
  | [y, x] => [x, y]
  | _ => []
/-- three keywords, the parameters' from the last on -/
def sw3 {α : Type} : List α → List α
  | [z, y, x] => [x, y, z]
  | _ => []
theorem sw2_rel : ∀ {zs : List V} {ws : List Value}, Vals zs ws → Vals (sw2 zs) (sw2 ws)
  | _, _, .nil => .nil
  | _, _, .cons _ .nil => .nil
  | _, _, .cons a (.cons b .nil) => .cons b (.cons a .nil)
  | _, _, .cons _ (.cons _ (.cons _ _)) => .nil
theorem sw3_rel : ∀ {zs : List V} {ws : List Value}, Vals zs ws → Vals (sw3 zs) (sw3 ws)
  | _, _, .nil => .nil
  | _, _, .cons _ .nil => .nil
  | _, _, .cons _ (.cons _ .nil) => .nil
  | _, _, .cons a (.cons b (.cons c .nil)) => .cons c (.cons b (.cons a .nil))
  | _, _, .cons _ (.cons _ (.cons _ (.cons _ _))) => .nil

section
variable {X : Cx} {a b c : Expr} {ta : TA}
def rg3 (a c : Int) (n : Nat) : List V := (List.range n).map fun i => V.int (a + (i : Nat) * c)
theorem rg3_length (a c : Int) (n : Nat) : (rg3 a c n).length = n := by
  simp [rg3]
def R3 (a b c : Int) (n : Nat) : Prop :=
  c ≠ 0 ∧ c.natAbs.log2 < 9000 ∧ Builtin.Range.small a b c = true ∧ Builtin.Range.rangeSize a b c = n ∧ n ≤ 2 ^ 24
def tLst3 (ta : TA) : TE := fun σ H Q => ta σ H fun vs H1 => ∃ (a b c : Int) (n : Nat), vs = [.int a, .int b, .int c] ∧ R3 a b c n ∧
  ∀ q, H1 q = none → Q (.ref q) (upd H1 q (.lst (rg3 a c n)))
theorem pe_lst3 {p p2 pos pos2 : Pos} (calm : X.calm = true) (gl : Gl X "list") (nl : X.mg "list" = none) (gr : Gl X "range") (nr : X.mg "range" = none) (args : PA X [a, b, c] ta)
    (one : starEach [a, b, c] X.env = (false, eval a X.env) :: starEach [b, c] X.env := by rfl) (nostar : (backTo pos2 (starEach [b, c] X.env)).any (·.1) = false := by rfl)
    (whole : starEach [.Call (.Name "range" p2) [a, b, c] [] pos2] X.env = (false, eval (.Call (.Name "range" p2) [a, b, c] [] pos2) X.env) :: starEach [] X.env := by rfl) :
    PE X (.Call (.Name "list" p) [.Call (.Name "range" p2) [a, b, c] [] pos2] [] pos) (tLst3 ta) := by
  constructor
  intro pins s σ H Q I read
  refine Call_ (ld_blt I gl nl boot_list (PyProof.Rows.callWith_type1 (args_cons (Call_ (ld_blt I gr nr boot_range (PyProof.Rows.callWith_type1 (thn (args.run pos2 pins s σ H _ I read) fun us s1 y => ?_) one nostar))) whole) whole))
  obtain ⟨zs, H1, J, rel, i, j, k, n, e, ⟨c0, c1, c2, c3, c4⟩, h⟩ := y
  subst e
  match us, rel with
  | [_, _, _], .cons ⟨t, ei⟩ (.cons ⟨u, ej⟩ (.cons ⟨v, ek⟩ .nil)) =>
    subst ei
    subst ej
    subst ek
    refine call_range_3 c0 (args_nil ?_) (.inl (PyProof.noPylong_of_log2 c1))
    obtain ⟨hx, ehx⟩ : ∃ hx, hx = s1.heap.push { cls := .type "range", data := .fields #[.int i t, .int j u, .int k v] } := ⟨_, rfl⟩
    have J2 : Inv X pins σ H1 { s1 with heap := hx } := by
      rw [ehx]
      exact J.kept (t' := s1.toks) fun _ _ z => Heap.get?_push_of_some _ z
    rw [← ehx]
    refine call_list_range (s := { s1 with heap := hx }) (n := n) (J2.ok.hd calm) (by rw [ehx]; exact IsRange.new ..) c2 c3 c4 fun h' tk acc cc kp made items => ?_
    have len : acc.toList.length = n := Array.length_toList.trans items.1
    have vals : Vals (rg3 i k n) acc.toList := by
      have z := vals_of_get acc.toList (fun m : Nat => V.int (i + m * k)) fun m w hw => by
        obtain ⟨tw, ew⟩ := items.2 m w (by rw [← hw, Array.getElem?_toList])
        exact ⟨tw, ew⟩
      rw [len] at z
      exact z
    refine ⟨.ref hx.objs.size, upd H1 hx.objs.size (.lst (rg3 i k n)), J2.laid kp (Nat.le_refl _) (show ObjOk X.prog X.w _ _ _ (.lst (rg3 i k n)) from ⟨?_, acc.toList, cc, vals, ?_⟩), rfl, h _ (J2.hok.fresh (Nat.le_refl _))⟩
    · rw [rg3_length, sizeLine_eq]
      omega
    · rw [Array.toArray_toList]
      exact made
end

/-! ### lists of ints, compared -/
theorem dp_ints {K : PySem.W.Frag} {H : Hp} : ∀ ns : List Int, DpAll K H (ns.map V.int) (ns.map PyData.int)
  | [] => .nil
  | n :: r => .cons (.int n) (dp_ints r)
theorem lay_ints : ∀ ns : List Int, PyData.canLayAll0 (ns.map PyData.int) = true
  | [] => rfl
  | n :: r => by
    show (true && PyData.canLayAll0 (r.map PyData.int)) = true
    rw [lay_ints r]
    rfl
theorem depth_ints : ∀ ns : List Int, PyData.depthAll (ns.map PyData.int) = 0
  | [] => rfl
  | n :: r => by
    show max 0 (PyData.depthAll (r.map PyData.int)) = 0
    rw [depth_ints r]
    rfl
theorem shaped_ints (ns : List Int) : SeqAt.shaped (.list (ns.map PyData.int)) = true := by
  unfold SeqAt.shaped
  have h1 : PyData.canLay0 (.list (ns.map PyData.int)) = true := lay_ints ns
  have h2 : PyData.depth (.list (ns.map PyData.int)) = 1 := by
    show PyData.depthAll (ns.map PyData.int) + 1 = 1
    rw [depth_ints]
  rw [h1, h2]
  rfl
theorem eqv_ints : ∀ ns : List Int, PyData.eqvAll (ns.map PyData.int) (ns.map PyData.int) = true
  | [] => rfl
  | n :: r => by
    show ((n == n) && PyData.eqvAll (r.map PyData.int) (r.map PyData.int)) = true
    rw [eqv_ints r, beq_self_eq_true]
    rfl
theorem dp_lst {K : PySem.W.Frag} {H : Hp} {a : Addr} {ns : List Int} (h : SqL K H a (ns.map V.int)) : Dp K H (.ref a) (.list (ns.map PyData.int)) := .lst h (dp_ints ns)
end Tg

namespace Tg
open PySem PySem.Spec PyProof.Rows L2
/-! ### defs, methods and classes as a caller needs them -/
section
variable (P : Program) (w : World) (K : PySem.W.Frag) (mg : Str → Option Value) (base : Heap)
/-- the def x is there, and keeps sp by level k -/
def Cal (k : Nat) (x : Str) (ps : List Str) (sp : Sp) : Prop := ∃ f fd, FnOk P w K mg base CX0 k f fd ps sp ∧ mg x = some (.ref f) ∧ PySem.W.keepIn K (.ref f) = true ∧ Binds K fd ps []
/-- the places that is tells, out of a list -/
def prm {α : Type} (is : List Nat) (zs : List α) : List α := is.filterMap fun i => zs[i]?
/-- the same with keywords alone, ks in this order; is: the places of the parameters among them -/
def CalK (k : Nat) (x : Str) (ps ks : List Str) (is : List Nat) (sp : Sp) : Prop := ∃ f fd, FnOk P w K mg base CX0 k f fd ps sp ∧ mg x = some (.ref f) ∧ PySem.W.keepIn K (.ref f) = true ∧ KBn K fd ps 0 ks (fun _ ws => prm is ws) (fun _ zs => prm is zs)
/-- a method of the class C -/
def CalM (k : Nat) (C : Addr) (m : Str) (ps : List Str) (sp : Sp) : Prop := ∃ f fd, FnOk P w K mg base CX0 k f fd ps sp ∧ Meth K C m f ∧ Binds K fd ps []
def CalMK (k : Nat) (C : Addr) (m : Str) (ps ks : List Str) (is : List Nat) (sp : Sp) : Prop := ∃ f fd, FnOk P w K mg base CX0 k f fd ps sp ∧ Meth K C m f ∧ KBn K fd ps 1 ks (fun us ws => us ++ prm is ws) (fun vs zs => vs ++ prm is zs)
/-- a class, by its __init__ -/
def CalC (k : Nat) (x : Str) (C : Addr) (ps : List Str) (sp : Sp) : Prop := ∃ f fd, FnOk P w K mg base CX0 k f fd ps sp ∧ mg x = some (.ref C) ∧ Mk K C f ∧ Binds K fd ps []
end
theorem vals_at : ∀ {zs : List V} {ws : List Value}, Vals zs ws → ∀ i : Nat, (zs[i]? = none ∧ ws[i]? = none) ∨ ∃ z w, zs[i]? = some z ∧ ws[i]? = some w ∧ RelV z w
  | _, _, .nil, i => .inl ⟨by simp, by simp⟩
  | _, _, .cons a b, i => by
    cases i with
    | zero => exact .inr ⟨_, _, rfl, rfl, a⟩
    | succ i => exact vals_at b i
theorem prm_rel {zs : List V} {ws : List Value} (h : Vals zs ws) : ∀ is : List Nat, Vals (prm is zs) (prm is ws)
  | [] => .nil
  | i :: r => by
    have ih := prm_rel h r
    unfold prm at ih ⊢
    rcases vals_at h i with ⟨h1, h2⟩ | ⟨z, w, h1, h2, h3⟩
    · rw [List.filterMap_cons_none h1, List.filterMap_cons_none h2]
      exact ih
    · rw [List.filterMap_cons_some h1, List.filterMap_cons_some h2]
      exact .cons h3 ih
section
variable {X : Cx} {k : Nat} {ps ks : List Str} {is : List Nat} {sp : Sp} {x m : Str} {C : Addr} {o e : Expr} {es : List Expr} {p pos apos : Pos} {kws : List Keyword} {ta t tk : TA} {to : TE}
theorem pe_cal (c : Cal X.prog X.w X.K X.mg X.base k x ps sp) (hr : Room k X.A) (gl : Gl X x) (ha : PA X (e :: es) t) (hdb : (x == ("__debug__" : Str)) = false := by decide)
    (he : starEach (e :: es) X.env = (false, eval e X.env) :: starEach es X.env := by rfl) (hpl : (backTo pos (starEach es X.env)).any (·.1) = false := by rfl) : PE X (.Call (.Name x p) (e :: es) [] pos) (tCall sp [] E0 t) := by
  obtain ⟨f, fd, F, hm, hk, hb⟩ := c
  exact pe_call F hr gl hm hk hb .nil pass0 ha hdb he hpl
theorem pe_calK (c : CalK X.prog X.w X.K X.mg X.base k x ps ks is sp) (hr : Room k X.A) (gl : Gl X x) (vals : PK X kws tk)
    (named : (backToKw pos (keywordEach kws X.env)).all (·.1.isSome) = true := by rfl) (names : (backToKw pos (keywordEach kws X.env)).filterMap (·.1) = ks := by rfl) (nodebug : (x == ("__debug__" : Str)) = false := by decide)
    (nostar : ((backTo pos (starEach [] X.env)).any (·.1) || (backToKw pos (keywordEach kws X.env)).any (·.1.isNone)) = false := by rfl) :
    PE X (.Call (.Name x p) [] kws pos) (tKw0 ks.length sp (fun _ zs => prm is zs) E0 tk) := by
  obtain ⟨f, fd, F, hm, hk, hb⟩ := c
  exact pe_kw0 F hr gl hm hk hb pass0 vals named names nodebug nostar
theorem pe_calM {pl : Sem Bool} (he : PE X o to) (cl : Cls X.K C) (c : CalM X.prog X.w X.K X.mg X.base k C m ps sp) (hr : Room k X.A) (ha : PA X (e :: es) t)
    (hst : starEach (e :: es) X.env = (false, eval e X.env) :: starEach es X.env := by rfl) (hpl : (backTo pos (starEach es X.env)).any (·.1) = false := by rfl) (ht : eval (.Call (.Attribute o m apos) (e :: es) [] pos) X.env = (do let ov ← eval o X.env; standAt apos.atName; let (f, first) ← holding [ov] (getMethod ov m pl); callWith pos f first (backTo pos (starEach (e :: es) X.env)) (backToKw pos (keywordEach [] X.env))) := by rfl) :
    PE X (.Call (.Attribute o m apos) (e :: es) [] pos) (tMeth C m sp [] E0 to t) := by
  obtain ⟨f, fd, F, hm, hb⟩ := c
  exact pe_meth (pl := pl) he cl hm F hr hb .nil pass0 ha hst hpl ht
theorem pe_calM0 {pl : Sem Bool} (he : PE X o to) (cl : Cls X.K C) (c : CalM X.prog X.w X.K X.mg X.base k C m ps sp) (hr : Room k X.A)
    (ht : eval (.Call (.Attribute o m apos) [] [] pos) X.env = (do let ov ← eval o X.env; standAt apos.atName; let (f, first) ← holding [ov] (getMethod ov m pl); callWith pos f first (backTo pos (starEach [] X.env)) (backToKw pos (keywordEach [] X.env))) := by rfl) :
    PE X (.Call (.Attribute o m apos) [] [] pos) (tMeth C m sp [] E0 to tNil) := by
  obtain ⟨f, fd, F, hm, hb⟩ := c
  exact pe_meth0 (pl := pl) he cl hm F hr hb .nil pass0 ht
/-- o.m(k = v, ..) -/
def tMethK (C : Addr) (m : Str) (n : Nat) (sp : Sp) (is : List Nat) (E : XK) (to : TE) (tk : TA) : TE := fun σ H Q => to σ H fun x H1 => ∃ a dx fs, x = .ref a ∧ H1 a = some (.ins C dx fs) ∧ fs.lookup m = none ∧ tk σ H1 fun zs H2 => zs.length = n ∧ sp (x :: prm is zs) H2 Q E
theorem pe_calMK {pl : Sem Bool} (he : PE X o to) (cl : Cls X.K C) (c : CalMK X.prog X.w X.K X.mg X.base k C m ps ks is sp) (hr : Room k X.A) (vals : PK X kws tk)
    (named : (backToKw pos (keywordEach kws X.env)).all (·.1.isSome) = true := by rfl) (names : (backToKw pos (keywordEach kws X.env)).filterMap (·.1) = ks := by rfl)
    (nostar : ((backTo pos (starEach [] X.env)).any (·.1) || (backToKw pos (keywordEach kws X.env)).any (·.1.isNone)) = false := by rfl)
    (ht : eval (.Call (.Attribute o m apos) [] kws pos) X.env = (do let ov ← eval o X.env; standAt apos.atName; let (f, first) ← holding [ov] (getMethod ov m pl); callWith pos f first (backTo pos (starEach [] X.env)) (backToKw pos (keywordEach kws X.env))) := by rfl) :
    PE X (.Call (.Attribute o m apos) [] kws pos) (tMethK C m ks.length sp is E0 to tk) := by
  obtain ⟨f, fd, F, hm, hb⟩ := c
  constructor
  intro pins s σ H Q I read
  refine PySem.W.methodCall_KW (pl := pl) (thn (he.run pins s σ H _ I read) fun u s1 ⟨x, H1, I1, rx, a, dx, fs, ex, ea, l, q⟩ => ?_) ht
  subst ex
  obtain rfl : u = .ref a := rx
  refine getmeth_ok I1 ea cl hm l ?_
  refine PySem.W.callWith_KW0 (first := [.ref a]) (h₀ := X.base) I.ok.mod.kin hm.kp named (thn (vals.run pos pins s1 σ H1 _ I1 q) fun ws s2 y => ?_) nostar
  obtain ⟨zs, H2, J, rel, many, h⟩ := y
  rw [names]
  exact ⟨J.kIn, run_fnN (E := E0) (us := [.ref a]) (vs := [.ref a]) F hr hb pass0 J (.cons rfl .nil) rel rfl many h⟩
theorem pe_calC0 (c : CalC X.prog X.w X.K X.mg X.base k x C ps sp) (hr : Room (k + 1) X.A) (gl : Gl X x) (hdb : (x == ("__debug__" : Str)) = false := by decide) : PE X (.Call (.Name x p) [] [] pos) (tMake C sp [] E0 tNil) := by
  obtain ⟨f, fd, F, hm, M, hb⟩ := c
  exact pe_make0 M F hr gl hm hb .nil pass0 hdb
theorem pe_calC (c : CalC X.prog X.w X.K X.mg X.base k x C ps sp) (hr : Room (k + 1) X.A) (gl : Gl X x) (ha : PA X (e :: es) t) (hdb : (x == ("__debug__" : Str)) = false := by decide)
    (he : starEach (e :: es) X.env = (false, eval e X.env) :: starEach es X.env := by rfl) (hpl : (backTo pos (starEach es X.env)).any (·.1) = false := by rfl) : PE X (.Call (.Name x p) (e :: es) [] pos) (tMake C sp [] E0 t) := by
  obtain ⟨f, fd, F, hm, M, hb⟩ := c
  exact pe_make M F hr gl hm hb .nil pass0 ha hdb he hpl
end
end Tg

namespace Tg
open PySem PySem.Spec PyProof.Rows L2
/-! ### the heap: what stands -/
/-- all but p stands as it stood -/
def Kp (p : Addr) (H H' : Hp) : Prop := ∀ b o, b ≠ p → H b = some o → H' b = some o
theorem Kp.refl (p : Addr) (H : Hp) : Kp p H H := fun _ _ _ h => h
theorem Kp.trans {p : Addr} {H H1 H2 : Hp} (a : Kp p H H1) (b : Kp p H1 H2) : Kp p H H2 := fun c o hc h => b c o hc (a c o hc h)
theorem Kp.of {p : Addr} {H H' : Hp} (s : Same H H') : Kp p H H' := fun c o _ h => s c o h
theorem Kp.put {p : Addr} {H : Hp} {o : HO} : Kp p H (upd H p o) := fun c u hc h => by
  rw [upd_ne hc]
  exact h
/-- what is new stays apart -/
theorem Kp.same {p : Addr} {H H1 H2 : Hp} (s : Same H H1) (n : H p = none) (k : Kp p H1 H2) : Same H H2 := fun b o h => k b o (ne_of_none h n) (s b o h)
theorem same_new {H : Hp} {p : Addr} {o : HO} (h : H p = none) : Same H (upd H p o) := fun b x e => by
  rw [upd_ne (ne_of_none e h)]
  exact e
theorem same_put {H H' : Hp} {D : Addr} {o : HO} (n : H D = none) (s : Same H H') : Same H (upd H' D o) := fun b x e => by
  rw [upd_ne (ne_of_none e n)]
  exact s _ _ e
/-- what can't be changed: tuples, and what is locked -/
def Fix : HO → Prop
  | .tup _ => True
  | .frz _ _ => True
  | _ => False
/-- all that can't be changed stands -/
def KT (H H' : Hp) : Prop := ∀ a o, Fix o → H a = some o → H' a = some o
theorem KT.refl (H : Hp) : KT H H := fun _ _ _ h => h
theorem KT.trans {H H1 H2 : Hp} (a : KT H H1) (b : KT H1 H2) : KT H H2 := fun c o f h => b c o f (a c o f h)
theorem KT.of {H H' : Hp} (s : Same H H') : KT H H' := fun c o _ h => s c o h
theorem KT.kp {p : Addr} {H H' : Hp} {o : HO} (k : Kp p H H') (h : H p = some o) (n : ¬ Fix o) : KT H H' := fun a u f e => k a u (fun z => n (by
  rw [z, h] at e
  cases e
  exact f)) e
theorem KT.put {p : Addr} {H : Hp} {o u : HO} (h : H p = some o) (n : ¬ Fix o) : KT H (upd H p u) := KT.kp Kp.put h n
theorem KT.new {p : Addr} {H : Hp} {u : HO} (h : H p = none) : KT H (upd H p u) := KT.of (same_new h)
theorem nfix_lst {xs : List V} : ¬ Fix (.lst xs) := fun z => z
theorem nfix_dK {xs : List (Key × V)} : ¬ Fix (.dK xs) := fun z => z
theorem nfix_ins {C dx : Addr} {fs : List (Str × V)} : ¬ Fix (.ins C dx fs) := fun z => z
/-! ### data -/
theorem rd_same {H H' : Hp} {a : Addr} {o : HO} (s : Same H H') (h : Rd H a o) : Rd H' a o := by
  rcases h with h | ⟨ob, h⟩
  · exact .inl (s _ _ h)
  · exact .inr ⟨ob, s _ _ h⟩
theorem sqL_same {K : PySem.W.Frag} {H H' : Hp} {a : Addr} {xs : List V} (s : Same H H') (h : SqL K H a xs) : SqL K H' a xs := h.imp (rd_same s) id
theorem sqT_same {K : PySem.W.Frag} {H H' : Hp} {a : Addr} {xs : List V} (s : Same H H') (h : SqT K H a xs) : SqT K H' a xs := h.imp (rd_same s) id
theorem sqT_kt {K : PySem.W.Frag} {H H' : Hp} {a : Addr} {xs : List V} (s : KT H H') (h : SqT K H a xs) : SqT K H' a xs := by
  refine h.imp (fun h => ?_) id
  rcases h with h | ⟨ob, h⟩
  · exact .inl (s _ _ trivial h)
  · exact .inr ⟨ob, s _ _ trivial h⟩
mutual
theorem dp_same {K : PySem.W.Frag} {H H' : Hp} (s : Same H H') : ∀ {x : V} {d : PyData}, Dp K H x d → Dp K H' x d
  | _, _, .non => .non
  | _, _, .bl b => .bl b
  | _, _, .int i => .int i
  | _, _, .str z => .str z
  | _, _, .lst a b => .lst (sqL_same s a) (dpAll_same s b)
  | _, _, .tup a b => .tup (sqT_same s a) (dpAll_same s b)
theorem dpAll_same {K : PySem.W.Frag} {H H' : Hp} (s : Same H H') : ∀ {xs : List V} {ds : List PyData}, DpAll K H xs ds → DpAll K H' xs ds
  | _, _, .nil => .nil
  | _, _, .cons a b => .cons (dp_same s a) (dpAll_same s b)
end
/-- no list and no dict in it -/
inductive TD : PyData → Prop
  | non : TD .none
  | bl (b : Bool) : TD (.bool b)
  | int (i : Int) : TD (.int i)
  | str (z : Str) : TD (.str z)
  | tup {ds : List PyData} : (∀ d, d ∈ ds → TD d) → TD (.tuple ds)
mutual
theorem dp_kt {K : PySem.W.Frag} {H H' : Hp} (s : KT H H') : ∀ {x : V} {d : PyData}, Dp K H x d → TD d → Dp K H' x d
  | _, _, .non, _ => .non
  | _, _, .bl b, _ => .bl b
  | _, _, .int i, _ => .int i
  | _, _, .str z, _ => .str z
  | _, _, .lst _ _, t => nomatch t
  | _, _, .tup a b, .tup t => .tup (sqT_kt s a) (dpAll_kt s b t)
theorem dpAll_kt {K : PySem.W.Frag} {H H' : Hp} (s : KT H H') : ∀ {xs : List V} {ds : List PyData}, DpAll K H xs ds → (∀ d, d ∈ ds → TD d) → DpAll K H' xs ds
  | _, _, .nil, _ => .nil
  | _, _, .cons a b, t => .cons (dp_kt s a (t _ List.mem_cons_self)) (dpAll_kt s b fun d hd => t d (List.mem_cons_of_mem _ hd))
end
theorem dpAll_len {K : PySem.W.Frag} {H : Hp} : ∀ {xs : List V} {ds : List PyData}, DpAll K H xs ds → xs.length = ds.length
  | _, _, .nil => rfl
  | _, _, .cons _ b => congrArg Nat.succ (dpAll_len b)
theorem dpAll_at {K : PySem.W.Frag} {H : Hp} : ∀ {xs : List V} {ds : List PyData}, DpAll K H xs ds → ∀ (i : Nat) (x : V), xs[i]? = some x → ∃ d, ds[i]? = some d ∧ Dp K H x d
  | _, _, .nil => fun i x h => by simp at h
  | _, _, .cons a b => fun i x h => by
    cases i with
    | zero =>
      simp only [Option.some.injEq, List.getElem?_cons_zero] at h
      subst h
      exact ⟨_, rfl, a⟩
    | succ i =>
      rw [List.getElem?_cons_succ] at h ⊢
      exact dpAll_at b i x h
theorem dpAll_tk {K : PySem.W.Frag} {H : Hp} : ∀ {xs : List V} {ds : List PyData}, DpAll K H xs ds → ∀ (i : Nat) (d : PyData), ds[i]? = some d → ∃ x, xs[i]? = some x ∧ Dp K H x d
  | _, _, .nil => fun i x h => by simp at h
  | _, _, .cons a b => fun i x h => by
    cases i with
    | zero =>
      simp only [Option.some.injEq, List.getElem?_cons_zero] at h
      subst h
      exact ⟨_, rfl, a⟩
    | succ i =>
      rw [List.getElem?_cons_succ] at h ⊢
      exact dpAll_tk b i x h
theorem dpAll_app {K : PySem.W.Frag} {H : Hp} : ∀ {xs ys : List V} {ds es : List PyData}, DpAll K H xs ds → DpAll K H ys es → DpAll K H (xs ++ ys) (ds ++ es)
  | _, _, _, _, .nil, h => h
  | _, _, _, _, .cons a b, h => .cons a (dpAll_app b h)
theorem dpAll_snoc {K : PySem.W.Frag} {H : Hp} {xs : List V} {ds : List PyData} {y : V} {e : PyData} (h : DpAll K H xs ds) (a : Dp K H y e) : DpAll K H (xs ++ [y]) (ds ++ [e]) := dpAll_app h (.cons a .nil)
/-- a list of data that can't be changed itself -/
def LD (K : PySem.W.Frag) (H : Hp) (a : Addr) (ds : List PyData) : Prop := ∃ xs, H a = some (.lst xs) ∧ DpAll K H xs ds
theorem LD.dp {K : PySem.W.Frag} {H : Hp} {a : Addr} {ds : List PyData} (h : LD K H a ds) : Dp K H (.ref a) (.list ds) := by
  obtain ⟨xs, h1, h2⟩ := h
  exact .lst (SqL.of h1) h2
theorem LD.same {K : PySem.W.Frag} {H H' : Hp} {a : Addr} {ds : List PyData} (s : Same H H') (h : LD K H a ds) : LD K H' a ds := by
  obtain ⟨xs, h1, h2⟩ := h
  exact ⟨xs, s _ _ h1, dpAll_same s h2⟩
/-- where the list itself stands and all tuples do -/
theorem LD.kt {K : PySem.W.Frag} {H H' : Hp} {a : Addr} {ds : List PyData} (s : KT H H') (e : ∀ o, H a = some o → H' a = some o) (t : ∀ d, d ∈ ds → TD d) (h : LD K H a ds) : LD K H' a ds := by
  obtain ⟨xs, h1, h2⟩ := h
  exact ⟨xs, e _ h1, dpAll_kt s h2 t⟩
theorem LD.kp {K : PySem.W.Frag} {H H' : Hp} {a p : Addr} {o : HO} {ds : List PyData} (k : Kp p H H') (hp : H p = some o) (n : ¬ Fix o) (ne : a ≠ p) (t : ∀ d, d ∈ ds → TD d) (h : LD K H a ds) : LD K H' a ds :=
  h.kt (KT.kp k hp n) (fun u e => k _ _ ne e) t
/-- one more at the end -/
theorem LD.snoc {K : PySem.W.Frag} {H H1 : Hp} {a : Addr} {xs : List V} {ds : List PyData} {y : V} {e : PyData} (k : KT H H1) (h1 : H1 a = some (.lst xs)) (hd : DpAll K H xs ds) (t : ∀ d, d ∈ ds → TD d) (hy : Dp K H1 y e) (te : TD e) :
    LD K (upd H1 a (.lst (xs ++ [y]))) a (ds ++ [e]) :=
  ⟨_, upd_same, dpAll_snoc (dpAll_kt (k.trans (KT.put h1 nfix_lst)) hd t) (dp_kt (KT.put h1 nfix_lst) hy te)⟩
theorem shaped_of {d : PyData} (h1 : d.canLay0 = true) (h2 : d.depth ≤ 64) : SeqAt.shaped d = true := by
  unfold SeqAt.shaped
  rw [h1, decide_eq_true h2]
  rfl
theorem if_f {A B : Prop} (h : B) : if false = true then A else B := by
  rw [if_neg (by decide)]
  exact h
theorem if_t {A B : Prop} (h : A) : if true = true then A else B := by
  rw [if_pos rfl]
  exact h
theorem atI_mem {xs : List Int} {i : Int} (h0 : 0 ≤ i) (h1 : i < xs.length) : ∃ v, v ∈ xs ∧ atI (xs.map V.int) i = some (.int v) := by
  have hn : i.toNat < xs.length := by omega
  obtain ⟨j, rfl⟩ : ∃ j : Nat, i = (j : Int) := ⟨i.toNat, by omega⟩
  have hj : j < xs.length := by omega
  refine ⟨xs[j], List.getElem_mem hj, atI_nat ?_⟩
  rw [List.getElem?_map, List.getElem?_eq_getElem hj]
  rfl
end Tg

namespace Tg
open PySem L2
/-! ### rows: time, number, worth or none -/
abbrev Rw := Int × Int × Option Int
def Lt (x y : Rw) : Prop := x.1 < y.1 ∨ (x.1 = y.1 ∧ x.2.1 < y.2.1)
def Srt (rs : List Rw) : Prop := rs.Pairwise Lt
theorem Lt.irr (x : Rw) : ¬ Lt x x := fun h => by
  rcases h with h | h
  · omega
  · omega
theorem Srt.sub {rs : List Rw} (h : Srt rs) (p : Rw → Bool) : Srt (rs.filter p) := List.Pairwise.filter p h
/-- r is the last row of its time with a number up to n -/
def IsLast (rs : List Rw) (n : Int) (r : Rw) : Prop := r ∈ rs ∧ r.2.1 ≤ n ∧ ∀ q, q ∈ rs → q.1 = r.1 → q.2.1 ≤ n → q.2.1 ≤ r.2.1
theorem srt_tri {rs : List Rw} (h : Srt rs) {a b : Rw} (ha : a ∈ rs) (hb : b ∈ rs) : a = b ∨ Lt a b ∨ Lt b a := by
  induction rs with
  | nil => cases ha
  | cons x r ih =>
    have ⟨h1, h2⟩ := List.pairwise_cons.mp (show (x :: r).Pairwise Lt from h)
    rcases List.mem_cons.mp ha with e1 | a1
    · rcases List.mem_cons.mp hb with e2 | b1
      · exact .inl (e1.trans e2.symm)
      · rw [e1]
        exact .inr (.inl (h1 b b1))
    · rcases List.mem_cons.mp hb with e2 | b1
      · rw [e2]
        exact .inr (.inr (h1 a a1))
      · exact ih h2 a1 b1
theorem srt_same {rs : List Rw} (h : Srt rs) {a b : Rw} (ha : a ∈ rs) (hb : b ∈ rs) (e1 : a.1 = b.1) (e2 : a.2.1 = b.2.1) : a = b := by
  rcases srt_tri h ha hb with e | (e | e) | (e | e)
  · exact e
  · omega
  · omega
  · omega
  · omega
theorem last_uniq {rs : List Rw} (h : Srt rs) {n : Int} {a b : Rw} (ha : IsLast rs n a) (hb : IsLast rs n b) (e : a.1 = b.1) : a = b := by
  have h1 := ha.2.2 b hb.1 e.symm hb.2.1
  have h2 := hb.2.2 a ha.1 e ha.2.1
  exact srt_same h ha.1 hb.1 e (by omega)
theorem Srt.nodup {rs : List Rw} (h : Srt rs) : rs.Nodup := by
  unfold List.Nodup
  refine List.Pairwise.imp (fun {a b} (l : Lt a b) => ?_) h
  intro e
  rw [← e] at l
  exact Lt.irr a l
/-! ### tables by times -/
def putL {α : Type} (m : List (Int × α)) (t : Int) (a : α) : List (Int × α) := if (m.any fun p => decide (p.1 = t)) = true then m.map (fun p => if p.1 = t then (p.1, a) else p) else m ++ [(t, a)]
theorem mem_putL {α : Type} {m : List (Int × α)} {t : Int} {a : α} {p : Int × α} : p ∈ putL m t a ↔ p = (t, a) ∨ (p ∈ m ∧ ¬ p.1 = t) := by
  unfold putL
  by_cases c : (m.any fun p => decide (p.1 = t)) = true
  · rw [if_pos c]
    obtain ⟨q, hq, eq⟩ := List.any_eq_true.mp c
    have eq := of_decide_eq_true eq
    constructor
    · intro h
      obtain ⟨x, hx, e⟩ := List.mem_map.mp h
      by_cases d : x.1 = t
      · rw [if_pos d, d] at e
        exact .inl e.symm
      · rw [if_neg d] at e
        subst e
        exact .inr ⟨hx, d⟩
    · rintro (rfl | ⟨h1, h2⟩)
      · exact List.mem_map.mpr ⟨q, hq, by rw [if_pos eq, eq]⟩
      · exact List.mem_map.mpr ⟨p, h1, by rw [if_neg h2]⟩
  · rw [if_neg c]
    constructor
    · intro there
      rcases List.mem_append.mp there with old | new
      · exact .inr ⟨old, fun z => c (List.any_eq_true.mpr ⟨p, old, decide_eq_true z⟩)⟩
      · exact .inl (List.mem_singleton.mp new)
    · rintro (rfl | ⟨h1, h2⟩)
      · exact List.mem_append_right _ (List.mem_singleton.mpr rfl)
      · exact List.mem_append_left _ h1
theorem putL_keys {α : Type} {m : List (Int × α)} {t : Int} {a : α} (h : m.Pairwise fun x y => x.1 < y.1) (le : ∀ p, p ∈ m → p.1 ≤ t) : (putL m t a).Pairwise fun x y => x.1 < y.1 := by
  unfold putL
  by_cases c : (m.any fun p => decide (p.1 = t)) = true
  · rw [if_pos c, List.pairwise_map]
    refine h.imp fun {x y} l => ?_
    by_cases d : x.1 = t
    · by_cases e : y.1 = t
      · rw [if_pos d, if_pos e]
        exact l
      · rw [if_pos d, if_neg e]
        exact l
    · by_cases e : y.1 = t
      · rw [if_neg d, if_pos e]
        exact l
      · rw [if_neg d, if_neg e]
        exact l
  · rw [if_neg c, List.pairwise_append]
    refine ⟨h, List.pairwise_singleton _ _, fun x hx y hy => ?_⟩
    rw [List.mem_singleton.mp hy]
    have h1 := le x hx
    have h2 : ¬ x.1 = t := fun z => c (List.any_eq_true.mpr ⟨x, hx, decide_eq_true z⟩)
    show x.1 < t
    omega
theorem putL_len {α : Type} {m : List (Int × α)} {t : Int} {a : α} : (putL m t a).length ≤ m.length + 1 := by
  unfold putL
  split
  · rw [List.length_map]
    omega
  · rw [List.length_append]
    exact Nat.le_refl _
/-- of each time the last row up to a number -/
def lwR (rs : List Rw) (n : Int) : List (Int × Rw) := rs.foldl (fun m r => if r.2.1 ≤ n then putL m r.1 r else m) []
theorem lwR_snoc (rs : List Rw) (n : Int) (r : Rw) : lwR (rs ++ [r]) n = if r.2.1 ≤ n then putL (lwR rs n) r.1 r else lwR rs n := by
  unfold lwR
  rw [List.foldl_append]
  rfl
theorem lwR_len (rs : List Rw) (n : Int) : (lwR rs n).length ≤ rs.length := by
  obtain ⟨k, hk⟩ : ∃ k, rs.length = k := ⟨_, rfl⟩
  induction k generalizing rs with
  | zero =>
    rw [List.length_eq_zero_iff.mp hk]
    exact Nat.le_refl _
  | succ k ih =>
    rcases List.eq_nil_or_concat rs with rfl | ⟨q, x, e⟩
    · exact Nat.zero_le _
    · rw [List.concat_eq_append] at e
      subst e
      rw [List.length_append] at hk ⊢
      have i1 := ih q (by simp at hk; exact hk)
      rw [lwR_snoc]
      have := putL_len (m := lwR q n) (t := x.1) (a := x)
      show _ ≤ q.length + 1
      split <;> omega
theorem lwR_is {n : Int} (rs : List Rw) (h : Srt rs) : ((lwR rs n).Pairwise fun x y => x.1 < y.1) ∧ ∀ p : Int × Rw, p ∈ lwR rs n ↔ p.1 = p.2.1 ∧ IsLast rs n p.2 := by
  obtain ⟨k, hk⟩ : ∃ k, rs.length = k := ⟨_, rfl⟩
  induction k generalizing rs with
  | zero =>
    rw [List.length_eq_zero_iff.mp hk]
    exact ⟨.nil, fun p => ⟨(fun z => absurd z List.not_mem_nil), (fun z => absurd z.2.1 List.not_mem_nil)⟩⟩
  | succ k ih =>
    rcases List.eq_nil_or_concat rs with rfl | ⟨q, x, e⟩
    · exact ⟨.nil, fun p => ⟨(fun z => absurd z List.not_mem_nil), (fun z => absurd z.2.1 List.not_mem_nil)⟩⟩
    · rw [List.concat_eq_append] at e
      subst e
      rw [List.length_append] at hk
      obtain ⟨h1, _, h3⟩ := List.pairwise_append.mp h
      have hx : ∀ y, y ∈ q → Lt y x := fun y hy => h3 y hy x (List.mem_singleton.mpr rfl)
      obtain ⟨i1, i2⟩ := ih q h1 (by simp at hk; exact hk)
      rw [lwR_snoc]
      by_cases c : x.2.1 ≤ n
      · rw [if_pos c]
        constructor
        · refine putL_keys i1 fun p hp => ?_
          obtain ⟨e1, e2⟩ := (i2 p).mp hp
          rcases hx p.2 e2.1 with l | l <;> omega
        · intro p
          rw [mem_putL]
          constructor
          · rintro (rfl | ⟨h4, h5⟩)
            · refine ⟨rfl, List.mem_append_right _ (List.mem_singleton.mpr rfl), c, fun y hy e4 _ => ?_⟩
              rcases List.mem_append.mp hy with h | h
              · rcases hx y h with l | l
                · have e4' : y.1 = x.1 := e4
                  omega
                · show y.2.1 ≤ x.2.1
                  omega
              · rw [List.mem_singleton.mp h]
                exact Int.le_refl _
            · obtain ⟨e1, e2, e3, e4⟩ := (i2 p).mp h4
              refine ⟨e1, List.mem_append_left _ e2, e3, fun y hy e5 e6 => ?_⟩
              rcases List.mem_append.mp hy with h | h
              · exact e4 y h e5 e6
              · rw [List.mem_singleton.mp h] at e5
                omega
          · rintro ⟨e1, e2, e3, e4⟩
            rcases List.mem_append.mp e2 with h | h
            · by_cases d : p.1 = x.1
              · exfalso
                have := e4 x (List.mem_append_right _ (List.mem_singleton.mpr rfl)) (by omega) c
                rcases hx p.2 h with l | l <;> omega
              · exact .inr ⟨(i2 p).mpr ⟨e1, h, e3, fun y hy => e4 y (List.mem_append_left _ hy)⟩, d⟩
            · left
              have e := List.mem_singleton.mp h
              obtain ⟨p1, p2⟩ := p
              have e' : p2 = x := e
              rw [e'] at e1 ⊢
              exact congrArg (fun z => (z, x)) e1
      · rw [if_neg c]
        refine ⟨i1, fun p => ?_⟩
        rw [i2 p]
        constructor
        · rintro ⟨e1, e2, e3, e4⟩
          refine ⟨e1, List.mem_append_left _ e2, e3, fun y hy e5 e6 => ?_⟩
          rcases List.mem_append.mp hy with h | h
          · exact e4 y h e5 e6
          · rw [List.mem_singleton.mp h] at e6
            exact absurd e6 c
        · rintro ⟨e1, e2, e3, e4⟩
          rcases List.mem_append.mp e2 with h | h
          · exact ⟨e1, h, e3, fun y hy => e4 y (List.mem_append_left _ hy)⟩
          · rw [List.mem_singleton.mp h] at e3
            exact absurd e3 c
/-- there is a last one -/
theorem last_of {rs : List Rw} (h : Srt rs) {n t : Int} {l : Rw} (e : (rs.filter fun q => decide (q.1 = t ∧ q.2.1 ≤ n)).getLast? = some l) : IsLast rs n l ∧ l.1 = t := by
  have ml := List.mem_of_getLast? e
  obtain ⟨m1, m2⟩ := List.mem_filter.mp ml
  obtain ⟨m3, m4⟩ := of_decide_eq_true m2
  refine ⟨⟨m1, m4, fun q hq e1 e2 => ?_⟩, m3⟩
  have mq : q ∈ rs.filter fun q => decide (q.1 = t ∧ q.2.1 ≤ n) := List.mem_filter.mpr ⟨hq, decide_eq_true ⟨by omega, e2⟩⟩
  have hs := h.sub fun q => decide (q.1 = t ∧ q.2.1 ≤ n)
  revert e mq hs
  generalize rs.filter (fun q => decide (q.1 = t ∧ q.2.1 ≤ n)) = fs
  intro e mq hs
  rcases List.eq_nil_or_concat fs with rfl | ⟨g, x, eg⟩
  · cases mq
  · rw [List.concat_eq_append] at eg
    subst eg
    rw [List.getLast?_concat] at e
    cases e
    rcases List.mem_append.mp mq with hg | hg
    · rcases (List.pairwise_append.mp hs).2.2 q hg l (List.mem_singleton.mpr rfl) with z | z <;> omega
    · rw [List.mem_singleton.mp hg]
      exact Int.le_refl _
theorem last_there {rs : List Rw} (h : Srt rs) {n : Int} {r : Rw} (hr : r ∈ rs) (hn : r.2.1 ≤ n) : ∃ l, IsLast rs n l ∧ l.1 = r.1 := by
  cases e : (rs.filter fun q => decide (q.1 = r.1 ∧ q.2.1 ≤ n)).getLast? with
  | some l => exact ⟨l, last_of h e⟩
  | none =>
    rw [List.getLast?_eq_none_iff] at e
    have : r ∈ rs.filter fun q => decide (q.1 = r.1 ∧ q.2.1 ≤ n) := List.mem_filter.mpr ⟨hr, decide_eq_true ⟨rfl, hn⟩⟩
    rw [e] at this
    cases this
/-! ### rising lists are told by their members -/
theorem ext_sorted {α : Type} {lt : α → α → Prop} (irr : ∀ a, ¬ lt a a) (tr : ∀ a b c, lt a b → lt b c → lt a c) : ∀ {xs ys : List α}, xs.Pairwise lt → ys.Pairwise lt → (∀ a, a ∈ xs ↔ a ∈ ys) → xs = ys
  | [], [], _, _, _ => rfl
  | [], y :: ys, _, _, h => nomatch (h y).mpr List.mem_cons_self
  | x :: xs, [], _, _, h => nomatch (h x).mp List.mem_cons_self
  | x :: xs, y :: ys, h1, h2, h => by
    obtain ⟨a1, a2⟩ := List.pairwise_cons.mp h1
    obtain ⟨b1, b2⟩ := List.pairwise_cons.mp h2
    have e : x = y := by
      rcases List.mem_cons.mp ((h x).mp List.mem_cons_self) with z | z
      · exact z
      · rcases List.mem_cons.mp ((h y).mpr List.mem_cons_self) with u | u
        · exact u.symm
        · exact absurd (tr _ _ _ (a1 y u) (b1 x z)) (irr x)
    subst e
    refine congrArg (x :: ·) (ext_sorted irr tr a2 b2 fun a => ?_)
    constructor
    · intro ha
      rcases List.mem_cons.mp ((h a).mp (List.mem_cons_of_mem _ ha)) with z | z
      · rw [z] at ha
        exact absurd (a1 x ha) (irr x)
      · exact z
    · intro ha
      rcases List.mem_cons.mp ((h a).mpr (List.mem_cons_of_mem _ ha)) with z | z
      · rw [z] at ha
        exact absurd (b1 x ha) (irr x)
      · exact z
/-! ### what is known -/
def kn (rs : List Rw) (n : Int) : List (Int × Int) := (lwR rs n).filterMap fun p => p.2.2.2.map fun w => (p.1, w)
theorem mem_kn {rs : List Rw} (h : Srt rs) {n : Int} {x : Int × Int} : x ∈ kn rs n ↔ ∃ r, IsLast rs n r ∧ r.1 = x.1 ∧ r.2.2 = some x.2 := by
  unfold kn
  rw [List.mem_filterMap]
  constructor
  · rintro ⟨p, hp, e⟩
    obtain ⟨e1, e2⟩ := ((lwR_is rs h).2 p).mp hp
    obtain ⟨w, e3, rfl⟩ := Option.map_eq_some_iff.mp e
    exact ⟨p.2, e2, e1.symm, e3⟩
  · rintro ⟨r, h1, h2, h3⟩
    refine ⟨(r.1, r), ((lwR_is rs h).2 _).mpr ⟨rfl, h1⟩, ?_⟩
    rw [h3, h2]
    rfl
theorem kn_srt {rs : List Rw} (h : Srt rs) (n : Int) : (kn rs n).Pairwise fun x y => x.1 < y.1 := by
  unfold kn
  rw [List.pairwise_filterMap]
  refine (lwR_is rs h).1.imp fun {a b} l x hx y hy => ?_
  obtain ⟨w, _, rfl⟩ := Option.map_eq_some_iff.mp hx
  obtain ⟨u, _, rfl⟩ := Option.map_eq_some_iff.mp hy
  exact l
theorem kn_len (rs : List Rw) (n : Int) : (kn rs n).length ≤ rs.length := Nat.le_trans (List.length_filterMap_le _ _) (lwR_len rs n)
theorem kn_ext {rs qs : List Rw} (h1 : Srt rs) (h2 : Srt qs) {n m : Int} (h : ∀ r, r.2.2 ≠ none → (IsLast rs n r ↔ IsLast qs m r)) : kn rs n = kn qs m := by
  refine ext_sorted (lt := fun x y => x.1 < y.1) (fun a => Int.lt_irrefl _) (fun a b c => Int.lt_trans) (kn_srt h1 n) (kn_srt h2 m) fun x => ?_
  rw [mem_kn h1, mem_kn h2]
  constructor
  · rintro ⟨r, a, b, c⟩
    exact ⟨r, (h r (by rw [c]; simp)).mp a, b, c⟩
  · rintro ⟨r, a, b, c⟩
    exact ⟨r, (h r (by rw [c]; simp)).mpr a, b, c⟩
/-! ### what is needed -/
instance (rs : List Rw) (n : Int) (r : Rw) : Decidable (IsLast rs n r) := by
  unfold IsLast
  exact inferInstance
def Need (rs : List Rw) (n : Int) (r : Rw) : Prop := n < r.2.1 ∨ (IsLast rs n r ∧ ¬ r.2.2 = none)
instance (rs : List Rw) (n : Int) (r : Rw) : Decidable (Need rs n r) := by
  unfold Need
  exact inferInstance
def fl (rs : List Rw) (n : Int) (r : Rw) : Bool := decide (Need rs n r)
def thin (rs : List Rw) (n : Int) : List Rw := rs.filter (fl rs n)
def ndl (rs : List Rw) (n : Int) : List Rw := rs.filter fun r => !fl rs n r
theorem thin_known {rs : List Rw} (h : Srt rs) {n m : Int} (le : n ≤ m) : kn (thin rs n) m = kn rs m := by
  refine kn_ext (h.sub _) h fun r hr => ?_
  constructor
  · rintro ⟨a1, a2, a3⟩
    obtain ⟨b1, b2⟩ := List.mem_filter.mp a1
    have b3 : Need rs n r := of_decide_eq_true b2
    refine ⟨b1, a2, fun q hq e1 e2 => ?_⟩
    by_cases c : n < q.2.1
    · exact a3 q (List.mem_filter.mpr ⟨hq, decide_eq_true (.inl c)⟩) e1 e2
    · rcases b3 with z | z
      · omega
      · exact z.1.2.2 q hq e1 (by omega)
  · rintro ⟨a1, a2, a3⟩
    refine ⟨List.mem_filter.mpr ⟨a1, decide_eq_true ?_⟩, a2, fun q hq e1 e2 => a3 q (List.mem_filter.mp hq).1 e1 e2⟩
    by_cases c : n < r.2.1
    · exact .inl c
    · exact .inr ⟨⟨a1, by omega, fun q hq e1 e2 => a3 q hq e1 (by omega)⟩, hr⟩
/-- a row left out is missed -/
theorem missed {rs : List Rw} (h : Srt rs) {n : Int} {row : Rw} (hm : row ∈ thin rs n) (hw : ¬ row.2.2 = none) {b : Int} (eb : b = max n row.2.1)
    (he : (((thin rs n).filter fun q => !decide (q = row)).filter fun q => decide (q.1 = row.1 ∧ q.2.1 ≤ b)).getLast?.map (·.2.2) ≠ some row.2.2) :
    kn ((thin rs n).filter fun q => !decide (q = row)) b ≠ kn (thin rs n) b := fun z => by
  have hl : Srt (thin rs n) := h.sub _
  have hf : Srt ((thin rs n).filter fun q => !decide (q = row)) := hl.sub _
  obtain ⟨w, ew⟩ : ∃ w, row.2.2 = some w := by
    cases e : row.2.2 with
    | none => exact absurd e hw
    | some w => exact ⟨w, rfl⟩
  have last : IsLast (thin rs n) b row := by
    refine ⟨hm, by omega, fun q hq e1 e2 => ?_⟩
    obtain ⟨m1, m2⟩ := List.mem_filter.mp hm
    have nd : Need rs n row := of_decide_eq_true m2
    rcases nd with c | c
    · omega
    · have := c.1.2.1
      exact c.1.2.2 q (List.mem_filter.mp hq).1 e1 (by omega)
  have m1 : (row.1, w) ∈ kn (thin rs n) b := (mem_kn hl).mpr ⟨row, last, rfl, ew⟩
  rw [← z, mem_kn hf] at m1
  obtain ⟨r, r1, r2, r3⟩ := m1
  cases e : (((thin rs n).filter fun q => !decide (q = row)).filter fun q => decide (q.1 = row.1 ∧ q.2.1 ≤ b)).getLast? with
  | none =>
    rw [List.getLast?_eq_none_iff] at e
    have : r ∈ ((thin rs n).filter fun q => !decide (q = row)).filter fun q => decide (q.1 = row.1 ∧ q.2.1 ≤ b) := List.mem_filter.mpr ⟨r1.1, decide_eq_true ⟨r2, r1.2.1⟩⟩
    rw [e] at this
    cases this
  | some l =>
    obtain ⟨l1, l2⟩ := last_of hf e
    have el := last_uniq hf r1 l1 (by rw [l2]; exact r2)
    refine he ?_
    rw [e, ← el, ew]
    exact congrArg some r3
/-! ### the tables as dicts -/
def lwV (f : Rw → V) (rs : List Rw) (n : Int) : List (Key × V) := rs.foldl (fun m r => if r.2.1 ≤ n then putK m (Sum.inl r.1) (f r) else m) []
theorem lwV_snoc (f : Rw → V) (rs : List Rw) (n : Int) (r : Rw) : lwV f (rs ++ [r]) n = if r.2.1 ≤ n then putK (lwV f rs n) (Sum.inl r.1) (f r) else lwV f rs n := by
  unfold lwV
  rw [List.foldl_append]
  rfl
theorem putK_map (f : Rw → V) (m : List (Int × Rw)) (t : Int) (r : Rw) : putK (m.map fun p => ((Sum.inl p.1 : Key), f p.2)) (Sum.inl t) (f r) = (putL m t r).map fun p => ((Sum.inl p.1 : Key), f p.2) := by
  unfold putK putL
  have e : ((m.map fun p => ((Sum.inl p.1 : Key), f p.2)).any fun kv => decide (kv.1 = Sum.inl t)) = m.any fun p => decide (p.1 = t) := by
    rw [List.any_map]
    refine List.any_congr rfl fun p => ?_
    simp only [Function.comp_apply, Sum.inl.injEq]
  rw [e]
  by_cases c : (m.any fun p => decide (p.1 = t)) = true
  · rw [if_pos c, if_pos c, List.map_map, List.map_map]
    refine List.map_congr_left fun p _ => ?_
    simp only [Function.comp_apply]
    by_cases d : p.1 = t
    · rw [if_pos (congrArg Sum.inl d), if_pos d]
    · rw [if_neg (fun z => d (Sum.inl.inj z)), if_neg d]
  · rw [if_neg c, if_neg c, List.map_append]
    rfl
theorem lwV_eq (f : Rw → V) (rs : List Rw) (n : Int) : lwV f rs n = (lwR rs n).map fun p => ((Sum.inl p.1 : Key), f p.2) := by
  obtain ⟨k, hk⟩ : ∃ k, rs.length = k := ⟨_, rfl⟩
  induction k generalizing rs with
  | zero =>
    rw [List.length_eq_zero_iff.mp hk]
    rfl
  | succ k ih =>
    rcases List.eq_nil_or_concat rs with rfl | ⟨q, x, e⟩
    · rfl
    · rw [List.concat_eq_append] at e
      subst e
      rw [List.length_append] at hk
      have i1 := ih q (by simp at hk; exact hk)
      rw [lwV_snoc, lwR_snoc, i1]
      by_cases c : x.2.1 ≤ n
      · rw [if_pos c, if_pos c, putK_map]
      · rw [if_neg c, if_neg c]
theorem lwV_len (f : Rw → V) (rs : List Rw) (n : Int) : (lwV f rs n).length ≤ rs.length := by
  rw [lwV_eq, List.length_map]
  exact lwR_len rs n
theorem valV_of {f : Rw → V} : ∀ {m : List (Int × Rw)} {p : Int × Rw}, (m.Pairwise fun x y => x.1 < y.1) → p ∈ m → valV (m.map fun p => ((Sum.inl p.1 : Key), f p.2)) (Sum.inl p.1) = some (f p.2)
  | [], p, _, h => nomatch h
  | q :: m, p, .cons h1 h2, there => by
    rcases List.mem_cons.mp there with rfl | h
    · exact valV_pos rfl
    · rw [List.map_cons, valV_neg (fun z => by
        have := h1 p h
        have : q.1 = p.1 := Sum.inl.inj z
        omega)]
      exact valV_of h2 h
theorem lwV_last {f : Rw → V} {rs : List Rw} (h : Srt rs) {n : Int} {r : Rw} (hl : IsLast rs n r) : valV (lwV f rs n) (Sum.inl r.1 : Key) = some (f r) := by
  rw [lwV_eq]
  exact valV_of (p := (r.1, r)) (lwR_is rs h).1 (((lwR_is rs h).2 _).mpr ⟨rfl, hl⟩)
/-- the values of a list of unlike rows, as a function -/
theorem val_fun : ∀ (rs : List Rw) (xs : List V), rs.Nodup → ∃ f : Rw → V, ∀ (i : Nat) (r : Rw) (v : V), rs[i]? = some r → xs[i]? = some v → f r = v
  | [], xs, _ => ⟨fun _ => .non, fun i r v h => by simp at h⟩
  | r0 :: rs, [], _ => ⟨fun _ => .non, fun i r v _ h => by simp at h⟩
  | r0 :: rs, x :: xs, nd => by
    have n1 := (List.nodup_cons.mp nd).1
    obtain ⟨f, hf⟩ := val_fun rs xs (List.nodup_cons.mp nd).2
    refine ⟨fun r => if r = r0 then x else f r, fun i r v h1 h2 => ?_⟩
    cases i with
    | zero =>
      simp only [List.getElem?_cons_zero, Option.some.injEq] at h1 h2
      show (if r = r0 then x else f r) = v
      rw [if_pos h1.symm, h2]
    | succ i =>
      rw [List.getElem?_cons_succ] at h1 h2
      have ne : ¬ r = r0 := fun z => n1 (z ▸ List.mem_of_getElem? h1)
      show (if r = r0 then x else f r) = v
      rw [if_neg ne]
      exact hf i r v h1 h2
end Tg

namespace Tg
open PySem PySem.Spec PyProof.Rows L2
/-! ### rows and points as data -/
def dw : Option Int → PyData
  | none => .none
  | some i => .int i
def vw : Option Int → V
  | none => .non
  | some i => .int i
theorem dp_vw {K : PySem.W.Frag} {H : Hp} : ∀ o : Option Int, Dp K H (vw o) (dw o)
  | none => .non
  | some i => .int i
theorem dp_dw {K : PySem.W.Frag} {H : Hp} {v : V} : ∀ {o : Option Int}, Dp K H v (dw o) → v = vw o
  | none, h => by
    cases h
    rfl
  | some i, h => by
    cases h
    rfl
theorem vw_non (o : Option Int) : decide (vw o = .non) = o.isNone := by
  cases o with
  | none => rfl
  | some i => rfl
theorem td_dw : ∀ o : Option Int, TD (dw o)
  | none => .non
  | some i => .int i
theorem eq_dw (a b : Option Int) : PyData.eqv (dw a) (dw b) = decide (a = b) := by
  cases a with
  | none =>
    cases b with
    | none => rfl
    | some j => rfl
  | some i =>
    cases b with
    | none => rfl
    | some j =>
      show (i == j) = _
      by_cases c : i = j
      · rw [c, beq_self_eq_true, decide_eq_true rfl]
      · rw [beq_eq_false_iff_ne.mpr c, decide_eq_false fun z => c (Option.some.inj z)]
def rd (r : Rw) : PyData := .tuple [.int r.1, .int r.2.1, dw r.2.2]
def pd (x : Int × Int) : PyData := .tuple [.int x.1, .int x.2]
theorem td_rd (r : Rw) : TD (rd r) := .tup fun d hd => by
  simp only [List.mem_cons, List.not_mem_nil, or_false] at hd
  rcases hd with rfl | rfl | rfl
  · exact .int _
  · exact .int _
  · exact td_dw _
theorem td_rds (rs : List Rw) : ∀ d, d ∈ rs.map rd → TD d := fun d hd => by
  obtain ⟨x, _, rfl⟩ := List.mem_map.mp hd
  exact td_rd x
theorem td_pd (x : Int × Int) : TD (pd x) := .tup fun d hd => by
  simp only [List.mem_cons, List.not_mem_nil, or_false] at hd
  rcases hd with rfl | rfl
  · exact .int _
  · exact .int _
theorem td_pds (ps : List (Int × Int)) : ∀ d, d ∈ ps.map pd → TD d := fun d hd => by
  obtain ⟨x, _, rfl⟩ := List.mem_map.mp hd
  exact td_pd x
theorem dp_rd {K : PySem.W.Frag} {H : Hp} {v : V} {r : Rw} (h : Dp K H v (rd r)) : ∃ a, v = .ref a ∧ SqT K H a [.int r.1, .int r.2.1, vw r.2.2] := by
  cases h with
  | tup a b =>
    cases b with
    | cons h1 b =>
      cases b with
      | cons h2 b =>
        cases b with
        | cons h3 b =>
          cases b
          cases h1
          cases h2
          rw [dp_dw h3] at a
          exact ⟨_, rfl, a⟩
theorem rd_new {K : PySem.W.Frag} {H : Hp} {a : Addr} {r : Rw} (h : SqT K H a [.int r.1, .int r.2.1, vw r.2.2]) : Dp K H (.ref a) (rd r) := .tup h (.cons (.int _) (.cons (.int _) (.cons (dp_vw _) .nil)))
theorem pd_new {K : PySem.W.Frag} {H : Hp} {a : Addr} {x : Int × Int} (h : H a = some (.tup [.int x.1, .int x.2])) : Dp K H (.ref a) (pd x) := .tup (SqT.of h) (.cons (.int _) (.cons (.int _) .nil))
theorem lay_dw : ∀ o : Option Int, (dw o).canLay0 = true
  | none => rfl
  | some i => rfl
theorem dep_dw : ∀ o : Option Int, (dw o).depth = 0
  | none => rfl
  | some i => rfl
theorem lay_rd (r : Rw) : (rd r).canLay0 = true := by
  show (true && (true && ((dw r.2.2).canLay0 && true))) = true
  rw [lay_dw]
  rfl
theorem dep_rd (r : Rw) : (rd r).depth = 1 := by
  show max 0 (max 0 (max (dw r.2.2).depth 0)) + 1 = 1
  rw [dep_dw]
  rfl
theorem eq_rd (a b : Rw) : PyData.eqv (rd a) (rd b) = decide (a = b) := by
  show ((a.1 == b.1) && ((a.2.1 == b.2.1) && (PyData.eqv (dw a.2.2) (dw b.2.2) && true))) = _
  rw [eq_dw]
  by_cases c : a = b
  · subst c
    rw [beq_self_eq_true, beq_self_eq_true, decide_eq_true rfl, decide_eq_true rfl]
    rfl
  · rw [decide_eq_false c]
    by_cases c1 : a.1 = b.1
    · by_cases c2 : a.2.1 = b.2.1
      · by_cases c3 : a.2.2 = b.2.2
        · exact absurd (Prod.ext c1 (Prod.ext c2 c3)) c
        · rw [decide_eq_false c3]
          simp
      · rw [beq_eq_false_iff_ne.mpr c2]
        simp
    · rw [beq_eq_false_iff_ne.mpr c1]
      rfl
/-- lists of things of such a form -/
theorem form_all {α : Type} {f : α → PyData} (h1 : ∀ x, (f x).canLay0 = true) (h2 : ∀ x, (f x).depth ≤ 1) (h3 : ∀ x, PyData.eqv (f x) (f x) = true) (xs : List α) :
    PyData.canLayAll0 (xs.map f) = true ∧ PyData.depthAll (xs.map f) ≤ 1 ∧ PyData.eqvAll (xs.map f) (xs.map f) = true := by
  induction xs with
  | nil => exact ⟨rfl, Nat.zero_le _, rfl⟩
  | cons x r ih =>
    obtain ⟨i1, i2, i3⟩ := ih
    refine ⟨?_, ?_, ?_⟩
    · show ((f x).canLay0 && PyData.canLayAll0 (r.map f)) = true
      rw [h1, i1]
      rfl
    · show max (f x).depth (PyData.depthAll (r.map f)) ≤ 1
      have := h2 x
      omega
    · show (PyData.eqv (f x) (f x) && PyData.eqvAll (r.map f) (r.map f)) = true
      rw [h3, i3]
      rfl
theorem form_list {α : Type} {f : α → PyData} (h1 : ∀ x, (f x).canLay0 = true) (h2 : ∀ x, (f x).depth ≤ 1) (h3 : ∀ x, PyData.eqv (f x) (f x) = true) (xs : List α) : SeqAt.shaped (.list (xs.map f)) = true ∧ PyData.eqv (.list (xs.map f)) (.list (xs.map f)) = true := by
  obtain ⟨a, b, c⟩ := form_all h1 h2 h3 xs
  refine ⟨shaped_of a ?_, c⟩
  show PyData.depthAll (xs.map f) + 1 ≤ 64
  omega
theorem ref_rd (r : Rw) : PyData.eqv (rd r) (rd r) = true := by
  rw [eq_rd]
  exact decide_eq_true rfl
theorem rds_form (rs : List Rw) : SeqAt.shaped (.list (rs.map rd)) = true ∧ PyData.eqv (.list (rs.map rd)) (.list (rs.map rd)) = true := form_list lay_rd (fun r => Nat.le_of_eq (dep_rd r)) ref_rd rs
theorem ref_pd (x : Int × Int) : PyData.eqv (pd x) (pd x) = true := by
  show ((x.1 == x.1) && ((x.2 == x.2) && true)) = true
  rw [beq_self_eq_true, beq_self_eq_true]
  rfl
theorem pds_form (ps : List (Int × Int)) : SeqAt.shaped (.list (ps.map pd)) = true ∧ PyData.eqv (.list (ps.map pd)) (.list (ps.map pd)) = true := form_list (f := pd) (fun _ => rfl) (fun _ => Nat.le_refl 1) ref_pd ps
theorem sh_rd (r : Rw) : SeqAt.shaped (rd r) = true := shaped_of (lay_rd r) (by rw [dep_rd]; decide)
theorem dl_at {α : Type} {f : α → PyData} {K : PySem.W.Frag} {H : Hp} {xs : List V} {ps : List α} (h : DpAll K H xs (ps.map f)) {i : Nat} {v : V} (e : xs[i]? = some v) : ∃ x, ps[i]? = some x ∧ Dp K H v (f x) := by
  obtain ⟨d, h1, h2⟩ := dpAll_at h i v e
  rw [List.getElem?_map] at h1
  obtain ⟨x, h3, rfl⟩ := Option.map_eq_some_iff.mp h1
  exact ⟨x, h3, h2⟩
theorem dl_get {α : Type} {f : α → PyData} {K : PySem.W.Frag} {H : Hp} {xs : List V} {ps : List α} (h : DpAll K H xs (ps.map f)) {i : Nat} {x : α} (e : ps[i]? = some x) : ∃ v, xs[i]? = some v ∧ Dp K H v (f x) := dpAll_tk h i (f x) (by rw [List.getElem?_map, e]; rfl)
theorem dl_len {α : Type} {f : α → PyData} {K : PySem.W.Frag} {H : Hp} {xs : List V} {ps : List α} (h : DpAll K H xs (ps.map f)) : xs.length = ps.length := by
  have := dpAll_len h
  rw [List.length_map] at this
  exact this
theorem nodup_len {α : Type} [DecidableEq α] : ∀ {rs L : List α}, rs.Nodup → (∀ r, r ∈ rs → r ∈ L) → rs.length ≤ L.length
  | [], L, _, _ => Nat.zero_le _
  | r :: rs, L, nd, h => by
    have n1 := (List.nodup_cons.mp nd).1
    have n2 := (List.nodup_cons.mp nd).2
    have hr : r ∈ L := h r List.mem_cons_self
    have i := nodup_len (rs := rs) (L := L.erase r) n2 fun q hq => (List.mem_erase_of_ne (fun z : q = r => n1 (by rw [← z]; exact hq))).mpr (h q (List.mem_cons_of_mem _ hq))
    rw [List.length_erase_of_mem hr] at i
    have := List.length_pos_of_mem hr
    show rs.length + 1 ≤ L.length
    omega
theorem take_snoc {α : Type} {L : List α} {i : Nat} {x : α} (h : L[i]? = some x) : L.take (i + 1) = L.take i ++ [x] := by
  rw [List.take_add_one, h]
  rfl
end Tg

namespace Tg
open PySem PySem.Spec PyProof.Rows L2
/-! ### a new thing that is only read from now on -/
section
variable {X : Cx} {e : Expr} {t : TE}
def tFrz (t : TE) : TE := fun σ H Q => t σ H fun x H1 => ∃ d u, x = .ref d ∧ H1 d = some u ∧ Mut (some u) ∧ ∀ od, Q x (upd H1 d (.frz od u))
theorem pe_frz (h : PE X e t) : PE X e (tFrz t) := by
  constructor
  intro pins s σ H Q I read
  refine thn (h.run pins s σ H _ I read) fun v s1 y => ?_
  obtain ⟨x, H1, J, r, d, u, ex, hd, mu, q⟩ := y
  obtain ⟨od, J2⟩ := J.lock hd mu
  exact ⟨x, _, J2, r, q od⟩
/-- a statement that is never reached -/
theorem ps_dead {st : Stmt} : PS X st (fun _ _ _ => False) := ⟨fun _ _ _ _ _ _ h => h.elim⟩
end
end Tg

set_option maxHeartbeats 2000000
namespace Tg
open PySem PySem.Spec PyProof.Rows L2
/-! ### a caught exception that is kept in a name: try: .. except T as e: kept = e -/
/-- the exception of the class cls, its dict at d, at a -/
def ExV (cls : Value) (d : Option Addr) (a : Addr) : HO := .ext fun h => ∃ (oe : Obj) (vs : Array Value), h.get? a = some oe ∧ Zc cls d oe ∧ oe.data = .fields vs
theorem exV_ok {P : Program} {w : World} {H : Hp} {h : Heap} {a : Addr} {cls : Value} {d : Option Addr} {oe : Obj} {vs : Array Value} (e : h.get? a = some oe) (z : Zc cls d oe) (q : oe.data = .fields vs) : ObjOk P w H h a (ExV cls d a) := by
  refine ⟨⟨oe, vs, e, z, q⟩, ⟨oe, e⟩, fun h1 h2 y st => ?_⟩
  obtain ⟨o1, v1, e1, z1, q1⟩ := y
  exact ⟨o1, v1, st _ e1, z1, q1⟩
section
variable {X : Cx} {s : Shared} {H : Hp} {σ : L2.St} {pins : List (Addr × Obj)}
theorem track {a : Addr} {oe : Obj} {vs : Array Value} {o : HO} (I : Inv X pins σ H s) (h0 : X.s_0.heap.get? a = none) (he : s.heap.get? a = some oe) (hd : oe.data = .fields vs) (na : H a = none)
    (nL : a ≠ X.env.locals) (np : ∀ p, p ∈ X.pn ++ pins → p.1 ≠ a) (new : ObjOk X.prog X.w (upd H a o) s.heap a o) : Inv X pins σ (upd H a o) s where
  ok := I.ok
  os := I.os
  bare := I.bare
  base := {
    keep := I.base.keep
    slot := I.base.slot
    free := fun b u q n x => by
      rw [upd_ne (fun z => by rw [z, h0] at q; cases q)]
      exact I.base.free b u q n x
    there := I.base.there
    tups := fun b xs q => by
      have y := I.base.tups b xs q
      rw [upd_ne (ne_of_none y na)]
      exact y
    frzs := fun b u xs q => by
      have y := I.base.frzs b u xs q
      rw [upd_ne (ne_of_none y na)]
      exact y
    tbls := fun b ps q => by
      obtain ⟨m, y⟩ := I.base.tbls b ps q
      refine ⟨m, ?_⟩
      rw [upd_ne (ne_of_none y na)]
      exact y }
  loc := I.loc
  cell := I.cell
  free := by
    rw [upd_ne nL.symm]
    exact I.free
  freeC := fun x c e => by
    have nc : c ≠ a := fun z => by
      obtain ⟨v, y⟩ := I.cell x c e
      obtain ⟨oc, y1, y2⟩ := y
      rw [z, he] at y1
      cases y1
      rw [hd] at y2
      cases y2
    rw [upd_ne nc]
    exact I.freeC x c e
  pin := fun p hp => by
    obtain ⟨y1, y2, y3⟩ := I.pin p hp
    refine ⟨y1, ?_, y3⟩
    rw [upd_ne (np p hp)]
    exact y2
  hok := I.hok.laidN (fun _ _ z => z) na new
  len := I.len
/-- what is wanted of an exception of the body: its class is one that the clause takes; it is kept in slot j -/
def wKeep (Mt : Value → Prop) (i j : Nat) (D : Ends) : WX := fun cls d σ H => Mt cls ∧ ∀ a, H a = none → D.nx (((σ.set i (some (.ref a))).set j (some (.ref a))).set i none) (upd H a (ExV cls d a))
/-- the clause's test: its value takes each exception of such a class -/
def Tests (X : Cx) (test : Expr) (Mt : Value → Prop) : Prop := ∀ (a : Addr) (oe : Obj) (pn : List (Addr × Obj)) (s : Shared) (σ : L2.St) (H : Hp) (Q : Value → Shared → Prop) (E : Value → Shared → Prop),
  Inv (X.suite a ((a, oe) :: pn)) [] σ H s → s.heap.get? a = some oe → Mt oe.cls →
  (∀ (c : Value) (s' : Shared), (∀ b o, s.heap.get? b = some o → s'.heap.get? b = some o) → s'.os = s.os → s'.gens = s.gens → PySem.W.Looks (model X.prog X.w) s'.heap (excMatches (.ref a) c) true → Q c s') →
    wpAny (model X.prog X.w) (X.A.mark (some (.ref a))) (eval test X.env) Q E s
theorem flying_keeps {B : Heap} {l : List Env} {a : Addr} {Z : Obj → Prop} {h h' : Heap} (k : ∀ b o, h.get? b = some o → h'.get? b = some o) (f : HandSPX.FlyingZ B l a Z h) : HandSPX.FlyingZ B l a Z h' := by
  obtain ⟨f1, f2, f3, oe, vs, T, oT, ts, y1, y2, y3, y4, y5, y6, y7, y8, y9⟩ := f
  exact ⟨fun b o e => k _ _ (f1 b o e), f2, Heap.FunFrames.of_keeps (fun b o e _ => ⟨o, k _ _ e, rfl⟩) f3, oe, vs, T, oT, ts, k _ _ y1, y2, y3, y4, y5, y6, k _ _ y7, y8, y9⟩
variable {n y : Str} {i j : Nat} {body : List Stmt} {test : Expr} {py pn' ps' pos pos' : Pos} {tb : WX → TS} {Mt : Value → Prop}
/-- a try's body, whatever is wished of the exceptions that leave it -/
def Bodies (X : Cx) (body : List Stmt) (tb : WX → TS) : Prop := ∀ W pn xe, Takes (X.tr pn xe) W → PassesOwn (model X.prog X.w) X.A X.env xe → PSs (X.tr pn xe) body (tb W)
/-- the same state, one thing more (or less) pinned -/
theorem repin {Y Z : Cx} {p q : List (Addr × Obj)} (I : Inv Y p σ H s) (ok : Z.Ok) (e : Z = { Y with A := Z.A, calm := Z.calm, pn := Z.pn, xe := Z.xe }) (sub : ∀ r, r ∈ Z.pn ++ q → r ∈ Y.pn ++ p) : Inv Z q σ H s := by
  obtain ⟨_, f2, f3, f4, f5, f6, f7, f8, f9, f10, f11⟩ := I
  rw [e] at ok sub ⊢
  exact ⟨ok, f2, f3, f4, f5, f6, f7, f8, fun r hr => f9 r (sub r hr), f10, f11⟩
theorem ps_try_keep (top : X.stack = X.env :: X.outer) (own : X.env.frame = some X.env.locals) (noex : X.ex = []) (nd : X.N.Nodup) (at_i : X.N[i]? = some n) (at_j : X.N[j]? = some y) (loc_n : X.env.scope.names.lookup n = some .local)
    (loc_y : X.env.scope.names.lookup y = some .local) (takes : Tests X test Mt) (bodies : Bodies X body tb) (nodebug : (n == ("__debug__" : Str)) = false := by decide) (noclass : (n == ("__classdict__" : Str)) = false := by decide) :
    PS X (.Try body [.ExceptHandler (some test) (some n) [.Assign [.Name y py] (.Name n pn') ps'] pos'] [] [] pos) (fun D σ H => tb (wKeep Mt i j D) D σ H) := by
  constructor
  intro pins s σ H D I read
  have frames := I.ok.frames.trans (congrArg some top)
  refine wpAny_Try_except (wpAny_mono ((bodies (wKeep Mt i j D) (X.pn ++ pins) _ (fun u s' air => ?_) PassesOwn.looking).run [] s σ H D (I.toTry _) read) (fun f s1 z => ?_) (fun _ _ z => z))
  · obtain ⟨a, B, s0, _, σ0, H0, cls, d, rfl, J0, ground, up, sky, na, os, gens, takes_it, wish⟩ := air
    have J : Inv X pins σ0 H0 s0 := J0.ofTry I.ok
    rw [show (X.tr (X.pn ++ pins) _).stack = X.env :: X.outer from top] at sky ground
    refine Sky.land Zc.steady frames own sky fun h3 fly3 up3 => ?_
    have J3 := J.landed (s' := { s' with heap := h3 }) (B := B) (by rw [top]; exact ground) fly3.1 (up.trans up3) os gens
    obtain ⟨o3, v3, get3, kind3, data3⟩ := fly3.there
    -- it is none of the frames, and it wasn't there ahead of the try
    have noframe : a ∉ frs (X.env :: X.outer) := fun m => by
      obtain ⟨_, _, e, nofields⟩ := fly3.2.2.1.mem m
      cases get3.symm.trans e
      exact nofields _ data3
    have noloc : a ≠ X.env.locals := fun z => noframe (by
      rw [z]
      exact List.mem_filterMap.mpr ⟨X.env, List.mem_cons_self, own⟩)
    have noouter : a ∉ X.fs := fun m => noframe (by
      obtain ⟨env, h1, h2⟩ := List.mem_filterMap.mp m
      exact List.mem_filterMap.mpr ⟨env, .tail _ h1, h2⟩)
    have new0 : s0.heap.get? a = none := by
      rcases q : s0.heap.get? a with _ | o
      · rfl
      · exact nomatch (ground a o q noframe).symm.trans fly3.2.1
    have new : X.s_0.heap.get? a = none := by
      rcases q : X.s_0.heap.get? a with _ | o
      · rfl
      · exact (J.base.there a o q (by rw [noex]; exact List.not_mem_nil)).elim fun _ z => nomatch z.symm.trans new0
    have nopin : ∀ p, p ∈ X.pn ++ pins → p.1 ≠ a := fun p m z => by
      have there := (J.pin p m).1
      rw [z, new0] at there
      cases there
    refine wpAny_handleBy_cons (codeAny_handlers_test (takes a o3 _ _ σ0 H0 _ _ (J3.suite get3 data3 na noloc noouter) get3 (by rw [kind3.1]; exact takes_it) fun c s4 kp4 os4 gens4 match4 => match4.here ?_)) (fun z => nomatch z)
    refine codeAny_handlers_suite_as (HandSPX.lands_againZ (flying_keeps kp4 fly3) fun h5 fly5 up5 => ?_)
    have up4 : h3.UpToSlots s4.heap := fun b o z _ => ⟨o.slots, kp4 _ _ z⟩
    have J5 := J.landed (s' := { s4 with heap := h5 }) (B := B) (by rw [top]; exact ground) fly5.1 (((up.trans up3).trans up4).trans up5) (os4.trans os) (by rw [show ({ s4 with heap := h5 } : Shared).gens = s4.gens from rfl, gens4]; exact gens)
    obtain ⟨o5, v5, get5, kind5, data5⟩ := fly5.there
    refine store_ok (X := X.suite a ((a, o5) :: (X.pn ++ pins))) (v := .ref a) (J5.suite get5 data5 na noloc noouter) nd at_i (.inl loc_n) rfl (fun s6 J6 => ?_) (.inr loc_n)
    -- kept = e
    have keep : PSs (X.suite a ((a, o5) :: (X.pn ++ pins))) [.Assign [.Name y py] (.Name n pn') ps'] (tAsg (tVar i) (gName j)) := pss_one (ps_set nd at_j (.inl loc_y) (pe_var at_i (.inl loc_n) nodebug noclass) (by rfl) (.inr loc_y))
    have short : i < σ0.length := by
      rw [J.len]
      exact (List.getElem?_eq_some_iff.mp at_i).1
    refine wpAny_mono (keep.run [] s6 _ H0 { nx := fun σ7 H7 => σ7 = (σ0.set i (some (.ref a))).set j (some (.ref a)) ∧ H0 = H7, rt := fun _ _ => False, bk := fun _ _ => False, ct := fun _ _ => False } J6 ⟨.ref a, by rw [List.getElem?_set_self short], rfl, rfl⟩) (fun f s7 z => ?_) (fun _ _ z => z.elim)
    match f, z with
    | .next, ⟨_, _, J7, e7, eH⟩ =>
      subst e7
      subst eH
      refine gone_ok (repin (q := (a, o5) :: pins) J7 I.ok rfl fun r m => ?_) nd at_i loc_n fun s8 J8 => ?_
      · refine List.mem_append_left _ ?_
        rcases List.mem_append.mp m with m | m
        · exact .tail _ (List.mem_append_left _ m)
        · cases m with
          | head => exact .head _
          | tail _ m => exact .tail _ (List.mem_append_right _ m)
      · have get8 := (J8.pin (a, o5) (List.mem_append_right _ (.head _))).1
        have J9 : Inv X pins (((σ0.set i (some (.ref a))).set j (some (.ref a))).set i none) H0 s8 := repin J8 I.ok rfl fun r m => by
          rcases List.mem_append.mp m with m | m
          · exact List.mem_append_left _ m
          · exact List.mem_append_right _ (.tail _ m)
        exact ⟨_, _, track J9 new get8 data5 na noloc nopin (exV_ok get8 kind5 data5), wish a na⟩
    | .brk, ⟨_, _, _, z⟩ => exact z.elim
    | .cont, ⟨_, _, _, z⟩ => exact z.elim
    | .ret _, ⟨_, _, _, _, _, z⟩ => exact z.elim
  · match f, z with
    | .next, ⟨σ1, H1, J1, z⟩ => exact wpAny_execs_nil ⟨σ1, H1, J1.ofTry I.ok, z⟩
    | .brk, ⟨σ1, H1, J1, z⟩ => exact ⟨σ1, H1, J1.ofTry I.ok, z⟩
    | .cont, ⟨σ1, H1, J1, z⟩ => exact ⟨σ1, H1, J1.ofTry I.ok, z⟩
    | .ret _, ⟨v, σ1, H1, J1, rel, z⟩ => exact ⟨v, σ1, H1, J1.ofTry I.ok, rel, z⟩
end
end Tg

set_option maxHeartbeats 2000000
namespace Tg
open PySem PySem.Spec PyProof.Rows L2
section
variable {X : Cx} {x1 x2 x3 x4 : Str} {c1 c2 c3 c4 : Value} {p1 p2 p3 p4 pos : Pos}
theorem tests_one (hc : Names X x1 c1) : Tests X (.Name x1 p1) (fun cls => PySem.W.exmOne X.K cls c1 = some true) := by
  intro a oe pn s σ H Q E I he mt h
  have LT : PySem.W.Looks (model X.prog X.w) s.heap (typeOf (.ref a)) oe.cls := fun A Q E s k q => wpAny_typeOf_ref (k _ _ he) q
  have LM := PySem.W.exm_one (M := model X.prog X.w) I.kIn LT mt
  have told := h c1 s (fun _ _ z => z) rfl rfl LM
  rcases hc with ⟨gl, nodebug, own | ⟨none_, boot, noname⟩⟩
  · exact ld_glob (X := X.suite a ((a, oe) :: pn)) I gl own told nodebug
  · exact ld_blt (X := X.suite a ((a, oe) :: pn)) I gl none_ boot told noname nodebug
/-- own classes named one after the other -/
structure Glb (X : Cx) (x : Str) (c : Value) : Prop where
  gl : Gl X x
  mg : X.mg x = some c
  db : (x == ("__debug__" : Str)) = false := by decide
theorem glb_args {a : Addr} {oe : Obj} {pn : List (Addr × Obj)} {s : Shared} {σ : L2.St} {H : Hp} {E : Value → Shared → Prop} {pos : Pos} (I : Inv (X.suite a ((a, oe) :: pn)) [] σ H s) :
    ∀ {xs : List (Str × Pos)} {cs : List Value} {Q : List Value → Shared → Prop}, Paired (fun x c => Glb X x.1 c) xs cs → Q cs s →
      wpAny (model X.prog X.w) (X.A.mark (some (.ref a))) (spliced (backTo pos (starEach (xs.map fun x => .Name x.1 x.2) X.env))) Q E s
  | _, _, Q, .nil, q => args_nil q
  | (x, p) :: xs, c :: cs, Q, .cons g r, q => by
    refine args_cons (ld_glob (X := X.suite a ((a, oe) :: pn)) I g.gl g.mg (glb_args I r q) g.db) rfl
theorem tests_tup {xs : List (Str × Pos)} {cs : List Value} {kt : Nat} (hp : Paired (fun x c => Glb X x.1 c) xs cs) (hl : cs.length ≤ sizeLine)
    (hm : ∀ {h : Heap} {a tp : Addr} {cls : Value}, X.K.In h → PySem.W.Looks (model X.prog X.w) h (typeOf (.ref a)) cls → h.get? tp = some { cls := .type "tuple", data := .seq cs.toArray } → PySem.W.exmAny X.K cls cs = some true → PySem.W.Looks (model X.prog X.w) h (excMatches (.ref a) (.ref tp)) true) :
    Tests X (.Tuple (xs.map fun x => .Name x.1 x.2) kt pos) (fun cls => PySem.W.exmAny X.K cls cs = some true) := by
  intro a oe pn s σ H Q E I he mt h
  refine wpAny_Tuple_spliced (glb_args I hp ⟨hl, ?_⟩)
  have kk : ∀ b o, s.heap.get? b = some o → (s.heap.push { cls := .type "tuple", data := .seq cs.toArray }).get? b = some o := fun b o e => Heap.get?_push_of_some _ e
  have LT : PySem.W.Looks (model X.prog X.w) (s.heap.push { cls := .type "tuple", data := .seq cs.toArray }) (typeOf (.ref a)) oe.cls := fun A Q E s k q => wpAny_typeOf_ref (k _ _ (kk _ _ he)) q
  exact h _ _ kk rfl rfl (hm (I.kIn.keeps kk) LT (Heap.get?_push_size _ rfl) mt)
theorem tests_2 {kt : Nat} (h1 : Glb X x1 c1) (h2 : Glb X x2 c2) : Tests X (.Tuple [.Name x1 p1, .Name x2 p2] kt pos) (fun cls => PySem.W.exmAny X.K cls [c1, c2] = some true) :=
  tests_tup (xs := [(x1, p1), (x2, p2)]) (.cons h1 (.cons h2 .nil)) (by show 2 ≤ sizeLine; decide) fun X LT hp mt => PySem.W.exm_tup2 X LT hp mt
theorem tests_3 {kt : Nat} (h1 : Glb X x1 c1) (h2 : Glb X x2 c2) (h3 : Glb X x3 c3) : Tests X (.Tuple [.Name x1 p1, .Name x2 p2, .Name x3 p3] kt pos) (fun cls => PySem.W.exmAny X.K cls [c1, c2, c3] = some true) :=
  tests_tup (xs := [(x1, p1), (x2, p2), (x3, p3)]) (.cons h1 (.cons h2 (.cons h3 .nil))) (by show 3 ≤ sizeLine; decide) fun X LT hp mt => PySem.W.exm_tup3 X LT hp mt
theorem tests_4 {kt : Nat} (h1 : Glb X x1 c1) (h2 : Glb X x2 c2) (h3 : Glb X x3 c3) (h4 : Glb X x4 c4) : Tests X (.Tuple [.Name x1 p1, .Name x2 p2, .Name x3 p3, .Name x4 p4] kt pos) (fun cls => PySem.W.exmAny X.K cls [c1, c2, c3, c4] = some true) :=
  tests_tup (xs := [(x1, p1), (x2, p2), (x3, p3), (x4, p4)]) (.cons h1 (.cons h2 (.cons h3 (.cons h4 .nil)))) (by show 4 ≤ sizeLine; decide) fun X LT hp mt => PySem.W.exm_tup4 X LT hp mt
end
/-! ### what is asked of it later: a field, isinstance -/
section
variable {X : Cx} {e : Expr} {te : TE} {pos : Pos} {n : Str}
/-- kept.f -/
def tExf (K : PySem.W.Frag) (f : Str) (te : TE) : TE := fun σ H Q => te σ H fun x H1 => ∃ (a C dd : Addr) (fs : List (Str × V)) (v : V), x = .ref a ∧ H1 a = some (ExV (.ref C) (some dd) a) ∧ XfC K C ∧ PySem.W.findIn K (.ref C) f = some none ∧ H1 dd = some (.xd fs) ∧ fs.lookup f = some v ∧ Q v H1
theorem exV_inst {a C dd : Addr} {fs : List (Str × V)} {pins : List (Addr × Obj)} {σ : L2.St} {H : Hp} {s : Shared} (I : Inv X pins σ H s) (ea : H a = some (ExV (.ref C) (some dd) a)) (ed : H dd = some (.xd fs)) :
    ∃ (oe od : Obj) (m : Str → Option Value), PySem.W.InstAt s.heap a oe C (some od) ∧ (∀ f, RelO (fs.lookup f) (m f)) ∧ ∀ x, PySem.W.lookIn x od = some (m x) := by
  obtain ⟨⟨oe, vs, he, hz, hd⟩, _, _⟩ := (show ObjOk X.prog X.w H s.heap a (ExV (.ref C) (some dd) a) from I.hok a _ ea)
  obtain ⟨m, ns, rel⟩ := (show ObjOk X.prog X.w H s.heap dd (.xd fs) from I.hok dd _ ed)
  obtain ⟨od, get, look⟩ := lookIn_ns ns
  exact ⟨oe, od, m, ⟨he, hz.1, by unfold PySem.W.notCls; rw [hd] <;> rfl, by rw [hz.2]; exact get⟩, rel, look⟩
theorem pe_exf (he : PE X e te) (base : attributeBase e n X.env (eval e X.env) = eval e X.env := by rfl) : PE X (.Attribute e n pos) (tExf X.K n te) := by
  constructor
  intro pins s σ H Q I read
  refine attr_of base (thn (he.run pins s σ H _ I read) fun u s1 z => ?_)
  obtain ⟨_, H1, J, ru, a, C, dd, fs, v, rfl, ea, T, none_, ed, is_v, told⟩ := z
  obtain rfl : u = .ref a := ru
  obtain ⟨oe, od, m, inst, rel, look⟩ := exV_inst J ea ed
  have there := rel n
  rw [is_v] at there
  obtain ⟨w, mw, rw_⟩ := RelO.some_of there
  exact HandSPX.exc_get J.kIn inst T.ga T.gg T.exC (PySem.W.findObj_own T.hdC none_ rfl ((look n).trans (congrArg some mw))) (handed_of rw_) ⟨v, H1, J.tok _, rw_, told⟩
theorem cls_some {K : PySem.W.Frag} {D : Addr} (h : PySem.W.hasDictIn K D = true) : (PySem.W.clsIn K D).isSome = true := by
  obtain ⟨cd, hc, _⟩ := PySem.W.any_some h
  rw [hc]
  rfl
/-- isinstance(kept, c) -/
def rIsV (K : PySem.W.Frag) : List V → Hp → VK → Prop := fun xs H Q => ∃ (a D dd : Addr) (fs : List (Str × V)) (c : V) (cv : Value) (b : Bool), xs = [.ref a, c] ∧ H a = some (ExV (.ref D) (some dd) a) ∧ H dd = some (.xd fs) ∧ ExcC K D ∧ ClsV c cv ∧ PySem.W.kitOne K (.ref D) cv = some b ∧ Q (.bl b) H
theorem call_isV : CallR X (.builtin "isinstance") (rIsV X.K) := by
  rintro pins s σ H _ us Q I rel ⟨a, D, dd, fs, c, cv, b, rfl, ea, ed, C, cls, kit, told⟩
  match us, rel with
  | [_, _], .cons ra (.cons rc .nil) =>
    cases ra
    cases cls.eq rc
    obtain ⟨_, _, _, inst, _⟩ := exV_inst I ea ed
    exact PySem.W.kia_one (PySem.W.kitx_exc (cls_some C.hd) C.hg C.hk C.hs C.ha C.hn C.ht C.hm) I.kIn inst kit (fun z => nomatch z) fun tk => ⟨.bl b, H, I.tok tk, rfl, told⟩
/-- isinstance(kept, (c1, c2, ..)) -/
def rIsVT (K : PySem.W.Frag) : List V → Hp → VK → Prop := fun xs H Q => ∃ (a D dd tp : Addr) (fs : List (Str × V)) (cs : List V) (us : List Value) (b : Bool), xs = [.ref a, .ref tp] ∧ H a = some (ExV (.ref D) (some dd) a) ∧ H dd = some (.xd fs) ∧ ExcC K D ∧
  H tp = some (.tup cs) ∧ Paired ClsV cs us ∧ PySem.W.kitAny K (.ref D) us = some b ∧ Q (.bl b) H
theorem call_isVT : CallR X (.builtin "isinstance") (rIsVT X.K) := by
  rintro pins s σ H _ us Q I rel ⟨a, D, dd, tp, fs, cs, ws, b, rfl, ea, ed, C, tup, cls, kit, told⟩
  match us, rel with
  | [_, _], .cons ra (.cons rt .nil) =>
    cases ra
    cases rt
    obtain ⟨_, _, _, inst, _⟩ := exV_inst I ea ed
    obtain ⟨_, items, ri, ⟨oc, od, dt, sl⟩, get, is_tup, m, is_seq⟩ := (show ObjOk X.prog X.w H s.heap tp (.tup cs) from I.hok tp _ tup)
    cases ClsV.all cls ri
    cases is_tup
    cases is_seq
    exact PySem.W.kia_tup (PySem.W.kitx_exc (cls_some C.hd) C.hg C.hk C.hs C.ha C.hn C.ht C.hm) I.kIn inst get kit (fun z => nomatch z) fun tk => ⟨.bl b, H, I.tok tk, rfl, told⟩
end
end Tg

set_option maxHeartbeats 2000000
namespace Tg
open PySem PySem.Spec PyProof.Rows L2
/-! ### class X(ValueError): def __init__(self, at): ValueError.__init__(self, "..") ; self.at = at -/
def inCls (s : Stmt) (i : Nat) : Stmt := match s with
  | .ClassDef _ _ _ body _ _ _ _ _ _ _ => body.getD i (.Pass ⟨0, 0, 0, 0⟩)
  | _ => .Pass ⟨0, 0, 0, 0⟩
/-- what __init__ leaves: the field in a new dict -/
def spErr (C : Addr) (f : Str) : Sp := fun vs H Q _ => ∃ (a : Addr) (v : V), vs = [.ref a, v] ∧ H a = some (exo a C none) ∧ ∀ dx, H dx = none → dx ≠ a → Q .non (upd (upd H dx (exd dx [(f, v)])) a (exo a C (some dx)))
/-- what raise X(v) then leads to -/
theorem err_read {C : Addr} {f : Str} {ta : TE} {σ : L2.St} {H : Hp} {Q : XK} (h : ta σ H fun v H1 => ∀ (d : Addr) (H' : Hp), Same H1 H' → H1 d = none → H' d = some (.xd [(f, v)]) → Q (.ref C) (some d) H')
    (mono : ∀ {Q Q' : VK}, (∀ v H1, Q v H1 → Q' v H1) → ta σ H Q → ta σ H Q') : tMkO C (spErr C f) [] (tCons ta tNil) σ H Q := by
  refine mono (fun v H1 q => ⟨by show 1 ≤ 1000; decide, fun a na => ?_⟩) h
  refine ⟨a, v, rfl, upd_same, fun dx nd da => ⟨rfl, dx, [(f, v)], upd_same, ?_, ?_, ?_⟩⟩
  · rw [upd_ne da, upd_same]
  · rw [upd_ne da] at nd
    exact nd
  · have nd' : H1 dx = none := by
      rw [upd_ne da] at nd
      exact nd
    refine q dx _ (fun b o e => ?_) nd' upd_same
    have nb : b ≠ dx := ne_of_none e nd'
    have nba : b ≠ a := ne_of_none e na
    rw [upd_ne nb, del_ne nba, upd_ne nba, upd_ne nb, upd_ne nba]
    exact e
end Tg

set_option maxHeartbeats 2000000
namespace Tg
open PySem PySem.Spec PyProof.Rows L2
/-! ### a call by keywords that may raise, in a try -/
section
variable {X : Cx} {CX : CXT} {k : Nat} {f : Addr} {fd : FuncData} {ps ks : List Str} {sp : Sp} {E : L2.St → XK} {x : Str} {p pos : Pos} {kws : List Keyword} {tk : TA} {g : List Value → List Value → List Value} {gV : List V → List V → List V}
theorem pe_kwS (F : FnOk X.prog X.w X.K X.mg X.base CX k f fd ps sp) (room : Room k X.A) (gl : Gl X x) (at_x : X.mg x = some (.ref f)) (kept : PySem.W.keepIn X.K (.ref f) = true) (binds : KBn X.K fd ps 0 ks g gV) (lets : ∀ σ, PassesAt CX X σ (E σ)) (vals : PK X kws tk)
    (named : (backToKw pos (keywordEach kws X.env)).all (·.1.isSome) = true := by rfl) (names : (backToKw pos (keywordEach kws X.env)).filterMap (·.1) = ks := by rfl) (nodebug : (x == ("__debug__" : Str)) = false := by decide)
    (nostar : ((backTo pos (starEach [] X.env)).any (·.1) || (backToKw pos (keywordEach kws X.env)).any (·.1.isNone)) = false := by rfl) : PE X (.Call (.Name x p) [] kws pos) (fun σ H Q => tk σ H fun zs H2 => zs.length = ks.length ∧ sp (gV [] zs) H2 Q (E σ)) := by
  constructor
  intro pins s σ H Q I read
  refine wpAny_Call_Name_kw (ld_glob I gl at_x (PySem.W.callWith_KW0 (h₀ := X.base) I.ok.mod.kin kept named (thn (vals.run pos pins s σ H _ I read) fun ws s2 y => ?_) nostar) nodebug)
  obtain ⟨zs, H2, J, rel, many, told⟩ := y
  rw [names]
  refine ⟨J.kIn, wpAny_call (codeAny_mono (F.run X.A X.stack s2 H2 ⟨[], ks.zip ws⟩ (g [] ws) (gV [] zs) Q (E σ) room J.env0 (binds.to s2 [] ws J.kIn rfl (rel.length.symm.trans many)) (binds.rel (vs := []) (us := []) .nil rel) told) fun a s' z => ?_)⟩
  match a, z with
  | .error e, z => exact lets σ pins H2 s2 e s' J z
  | .ok (.ret u), z => exact J.after z
end
end Tg

set_option maxHeartbeats 2000000
namespace Tg
open PySem PySem.Spec PyProof.Rows L2
/-! ### own errors, and classes whose __init__ may raise, as a caller needs them -/
section
variable (P : Program) (w : World) (K : PySem.W.Frag) (mg : Str → Option Value) (base : Heap)
/-- the error x, of the class C over ValueError, made of one thing that is its field fld -/
def CalE (k : Nat) (x : Str) (C : Addr) (fld : Str) : Prop := ∃ fI fdI, OexC K C ∧ PySem.W.findIn K (.ref C) "__init__" = some (some (.ref fI)) ∧ PySem.W.typeIn K (.ref fI) = some (.type "function") ∧
  FnOk P w K mg base CX0 k fI fdI ["self", fld] (spErr C fld) ∧ Binds K fdI ["self", fld] [] ∧ mg x = some (.ref C)
/-- a def that may raise -/
def CalR (k : Nat) (x : Str) (ps : List Str) (sp : Sp) : Prop := ∃ f fd, FnOk P w K mg base (L2.CX P w) k f fd ps sp ∧ mg x = some (.ref f) ∧ PySem.W.keepIn K (.ref f) = true ∧ Binds K fd ps []
def CalRK (k : Nat) (x : Str) (ps ks : List Str) (is : List Nat) (sp : Sp) : Prop := ∃ f fd, FnOk P w K mg base (L2.CX P w) k f fd ps sp ∧ mg x = some (.ref f) ∧ PySem.W.keepIn K (.ref f) = true ∧ KBn K fd ps 0 ks (fun _ ws => prm is ws) (fun _ zs => prm is zs)
/-- a class whose __init__ may raise -/
def CalRC (k : Nat) (x : Str) (C : Addr) (ps : List Str) (sp : Sp) : Prop := ∃ f fd, FnOk P w K mg base (L2.CX P w) k f fd ps sp ∧ mg x = some (.ref C) ∧ Mk K C f ∧ Binds K fd ps []
def CalRCK (k : Nat) (x : Str) (C : Addr) (ps ks : List Str) (is : List Nat) (sp : Sp) : Prop := ∃ f fd, FnOk P w K mg base (L2.CX P w) k f fd ps sp ∧ mg x = some (.ref C) ∧ Mk K C f ∧ KBn K fd ps 1 ks (fun us ws => us ++ prm is ws) (fun vs zs => vs ++ prm is zs)
end
section
variable {X : Cx} {k : Nat} {ps ks : List Str} {is : List Nat} {sp : Sp} {x fld : Str} {C : Addr} {e : Expr} {es : List Expr} {p pos : Pos} {kws : List Keyword} {ta : TE} {t tk : TA} {W : WX}
theorem pm_err (c : CalE X.prog X.w X.K X.mg X.base k x C fld) (room : Room (k + 1) X.A) (gl : Gl X x) (he : PE X e ta) (nodebug : (x == ("__debug__" : Str)) = false := by decide)
    (star : starEach [e] X.env = (false, eval e X.env) :: starEach [] X.env := by rfl) : PMk X (.Call (.Name x p) [e] [] pos) (tMkO C (spErr C fld) [] (tCons ta tNil)) := by
  obtain ⟨fI, fdI, T, iC, tI, F, b, m⟩ := c
  exact pmk_oex T iC tI F room b .nil (fun _ _ _ _ _ _ _ z => z.elim) gl m (pa_cons he pa_nil star) nodebug star
/-- raise x(e), out of the def -/
def tErr (C : Addr) (fld : Str) (ta : TE) (E : XK) : TS := fun _ σ H => ta σ H fun v H1 => ∀ (d : Addr) (H' : Hp), Same H1 H' → H1 d = none → H' d = some (.xd [(fld, v)]) → E (.ref C) (some d) H'
/-- a call that may raise, in a def that lets it out -/
def tCalR (sp : Sp) (E : XK) (t : TA) : TE := fun σ H Q => t σ H fun vs H1 => sp vs H1 Q E
theorem pe_calR {E : XK} (c : CalR X.prog X.w X.K X.mg X.base k x ps sp) (hr : Room k X.A) (gl : Gl X x) (lets : Passes (L2.CX X.prog X.w) X E) (ha : PA X (e :: es) t) (nodebug : (x == ("__debug__" : Str)) = false := by decide)
    (star : starEach (e :: es) X.env = (false, eval e X.env) :: starEach es X.env := by rfl) (plain : (backTo pos (starEach es X.env)).any (·.1) = false := by rfl) : PE X (.Call (.Name x p) (e :: es) [] pos) (tCall sp [] E t) := by
  obtain ⟨f, fd, F, m, kp, b⟩ := c
  exact pe_call F hr gl m kp b .nil lets ha nodebug star plain
/-- the same in a try -/
theorem pe_calT (c : CalR X.prog X.w X.K X.mg X.base k x ps sp) (hr : Room k X.A) (gl : Gl X x) (tks : Takes X W) (ha : PA X (e :: es) t) (nodebug : (x == ("__debug__" : Str)) = false := by decide)
    (star : starEach (e :: es) X.env = (false, eval e X.env) :: starEach es X.env := by rfl) (plain : (backTo pos (starEach es X.env)).any (·.1) = false := by rfl) : PE X (.Call (.Name x p) (e :: es) [] pos) (tCallS sp (WE W) t) := by
  obtain ⟨f, fd, F, m, kp, b⟩ := c
  exact pe_callS F hr gl m kp b (fun σ => passAt tks σ) ha nodebug star plain
def tKwT (n : Nat) (sp : Sp) (is : List Nat) (W : WX) (tk : TA) : TE := fun σ H Q => tk σ H fun zs H2 => zs.length = n ∧ sp (prm is zs) H2 Q (WE W σ)
theorem pe_calKT (c : CalRK X.prog X.w X.K X.mg X.base k x ps ks is sp) (hr : Room k X.A) (gl : Gl X x) (tks : Takes X W) (vals : PK X kws tk)
    (named : (backToKw pos (keywordEach kws X.env)).all (·.1.isSome) = true := by rfl) (names : (backToKw pos (keywordEach kws X.env)).filterMap (·.1) = ks := by rfl) (nodebug : (x == ("__debug__" : Str)) = false := by decide)
    (nostar : ((backTo pos (starEach [] X.env)).any (·.1) || (backToKw pos (keywordEach kws X.env)).any (·.1.isNone)) = false := by rfl) : PE X (.Call (.Name x p) [] kws pos) (tKwT ks.length sp is W tk) := by
  obtain ⟨f, fd, F, m, kp, b⟩ := c
  exact pe_kwS (E := WE W) F hr gl m kp b (fun σ => passAt tks σ) vals named names nodebug nostar
/-! ### C(..), whose __init__ may raise, in a try -/
theorem made_or_raised {CX : CXT} {f : Addr} {fd : FuncData} {pins : List (Addr × Obj)} {σ : L2.St} {H : Hp} {s : Shared} {Q : VK} {E : L2.St → XK} {us zs : List Value} {kwv : List (Str × Value)} {vs : List V} (M : Mk X.K C f) (F : FnOk X.prog X.w X.K X.mg X.base CX k f fd ps sp)
    (room : Room (k + 1) X.A) (lets : PassesAt CX X σ (E σ)) (I : Inv X pins σ H s) (bound : ∀ s2 : Shared, X.K.In s2.heap → BindsTo s2 fd ⟨.ref (s.heap.objs.size + 1) :: us, kwv⟩ (ps.zip zs)) (rel : Vals (.ref (s.heap.objs.size + 1) :: vs) zs)
    (told : ∀ a d, H a = none → H d = none → d ≠ a → sp (.ref a :: vs) (upd (upd H d (.own a)) a (.ins C d [])) (fun v H2 => v = .non ∧ Q (.ref a) H2) (E σ)) : wpAny (model X.prog X.w) X.A (call (.ref C) us kwv) (EP X pins σ Q) X.xe s := by
  have new := I.made (C := C)
  have now := told _ _ (I.hok.fresh (Nat.le_succ s.heap.objs.size)) (I.hok.fresh (Nat.le_refl s.heap.objs.size)) (Nat.ne_of_lt (Nat.lt_succ_self _))
  have ran := F.run _ X.stack _ _ _ zs _ _ (E σ) (room.make C us kwv) (new.env0.make C us kwv) (bound _ new.kIn) rel now
  refine wpAny_call (make_map (f := f) I.kIn M.makes M.init (beq_iff_eq.mp M.fn) (codeAny_mono ran fun out s' z => ?_))
  match out, z with
  | .error err, z => exact lets pins _ _ err s' new z
  | .ok (.ret u), z =>
    obtain ⟨_, H3, J, r, rfl, q⟩ := new.after z
    exact ⟨r, .ref (s.heap.objs.size + 1), H3, J, rfl, q⟩
def tMkT (C : Addr) (sp : Sp) (W : WX) (t : TA) : TE := fun σ H Q => t σ H fun vs H1 => ∀ a d, H1 a = none → H1 d = none → d ≠ a → sp (.ref a :: vs) (upd (upd H1 d (.own a)) a (.ins C d [])) (fun v H2 => v = .non ∧ Q (.ref a) H2) (WE W σ)
theorem pe_mkT (c : CalRC X.prog X.w X.K X.mg X.base k x C ps sp) (room : Room (k + 1) X.A) (gl : Gl X x) (tks : Takes X W) (ha : PA X (e :: es) t) (nodebug : (x == ("__debug__" : Str)) = false := by decide)
    (star : starEach (e :: es) X.env = (false, eval e X.env) :: starEach es X.env := by rfl) (plain : (backTo pos (starEach es X.env)).any (·.1) = false := by rfl) : PE X (.Call (.Name x p) (e :: es) [] pos) (tMkT C sp W t) := by
  obtain ⟨f, fd, F, m, M, b⟩ := c
  constructor
  intro pins s σ H Q I read
  refine wpAny_Call_Name_kw (ld_glob I gl m (PySem.W.callWith_K (h₀ := X.base) I.ok.mod.kin M.kp (thn (ha.run pos pins s σ H _ I read) fun us s1 y => ?_) star plain) nodebug)
  obtain ⟨vs, H1, J, rel, told⟩ := y
  refine ⟨J.kIn, made_or_raised (E := WE W) (zs := .ref (s1.heap.objs.size + 1) :: us) M F room (passAt tks σ) J (fun s2 kin => ?_) (.cons rfl rel) told⟩
  have many : (V.ref (s1.heap.objs.size + 1) :: vs).length = ps.length := F.len _ _ _ _ (told _ _ (J.hok.fresh (Nat.le_succ s1.heap.objs.size)) (J.hok.fresh (Nat.le_refl s1.heap.objs.size)) (Nat.ne_of_lt (Nat.lt_succ_self _)))
  have z := b s2 (.ref (s1.heap.objs.size + 1) :: us) kin (by rw [List.append_nil, List.length_cons, ← rel.length]; exact many)
  rw [List.append_nil] at z
  exact z
def tMkKT (C : Addr) (n : Nat) (sp : Sp) (is : List Nat) (W : WX) (tk : TA) : TE := fun σ H Q => tk σ H fun zs H1 => zs.length = n ∧ ∀ a d, H1 a = none → H1 d = none → d ≠ a → sp (.ref a :: prm is zs) (upd (upd H1 d (.own a)) a (.ins C d [])) (fun v H2 => v = .non ∧ Q (.ref a) H2) (WE W σ)
theorem pe_mkKT (c : CalRCK X.prog X.w X.K X.mg X.base k x C ps ks is sp) (room : Room (k + 1) X.A) (gl : Gl X x) (tks : Takes X W) (vals : PK X kws tk)
    (named : (backToKw pos (keywordEach kws X.env)).all (·.1.isSome) = true := by rfl) (names : (backToKw pos (keywordEach kws X.env)).filterMap (·.1) = ks := by rfl) (nodebug : (x == ("__debug__" : Str)) = false := by decide)
    (nostar : ((backTo pos (starEach [] X.env)).any (·.1) || (backToKw pos (keywordEach kws X.env)).any (·.1.isNone)) = false := by rfl) : PE X (.Call (.Name x p) [] kws pos) (tMkKT C ks.length sp is W tk) := by
  obtain ⟨f, fd, F, m, M, b⟩ := c
  constructor
  intro pins s σ H Q I read
  refine wpAny_Call_Name_kw (ld_glob I gl m (PySem.W.callWith_KW0 (h₀ := X.base) I.ok.mod.kin M.kp named (thn (vals.run pos pins s σ H _ I read) fun ws s1 y => ?_) nostar) nodebug)
  obtain ⟨zs, H1, J, rel, many, told⟩ := y
  rw [names]
  exact ⟨J.kIn, made_or_raised (E := WE W) (us := []) (zs := .ref (s1.heap.objs.size + 1) :: prm is ws) M F room (passAt tks σ) J (fun s2 kin => b.to s2 [.ref (s1.heap.objs.size + 1)] ws kin rfl (rel.length.symm.trans many)) (.cons rfl (prm_rel rel is)) told⟩
end
end Tg

/-! a derivation with a told precondition in the place of the one that is read off -/
namespace Tg
open PySem PySem.Spec PyProof.Rows L2
theorem pss_by {X : Cx} {rest : List Stmt} {u R : TS} (h : PSs X rest u) (hr : ∀ D σ H, R D σ H → u D σ H) : PSs X rest R := ⟨fun pins s σ H D I hw => h.run pins s σ H D I (hr D σ H hw)⟩
theorem pe_by {X : Cx} {e : Expr} {u R : TE} (h : PE X e u) (hr : ∀ σ H Q, R σ H Q → u σ H Q) : PE X e R := ⟨fun pins s σ H Q I hw => h.run pins s σ H Q I (hr σ H Q hw)⟩
theorem pt_by {X : Cx} {e : Expr} {u R : TT} (h : PT X e u) (hr : ∀ σ H Q, R σ H Q → u σ H Q) : PT X e R := ⟨fun pins s σ H Q I hw => h.run pins s σ H Q I (hr σ H Q hw)⟩
end Tg

namespace Tg
open PySem PySem.Spec PyProof.Rows L2
/-! ### promises of defs that are called where no repr is under way (str and repr of lists ask for it) -/
section
variable {P : Program} {w : World} {K : PySem.W.Frag} {mg : Str → Option Value} {base : Heap} {CX : CXT} {k : Nat} {f : Addr} {fd : FuncData} {ps : List Str} {sp : Sp}
/-- FnOk's promise, asked only where no repr is under way -/
structure FnG (P : Program) (w : World) (K : PySem.W.Frag) (mg : Str → Option Value) (base : Heap) (CX : CXT) (k : Nat) (f : Addr) (fd : FuncData) (ps : List Str) (sp : Sp) : Prop where
  arity : ∀ {zs : List V} {H : Hp} {Q : VK} {E : XK}, sp zs H Q E → zs.length = ps.length
  runs : ∀ {A : Around} {outer : List Env} {s : Shared} {H : Hp} {given : Args} {us : List Value} {zs : List V} {Q : VK} {E : XK}, A.guards = some [] → Room k A →
    Env0 P w K mg base A outer s H → BindsTo s fd given (ps.zip us) → Vals zs us → sp zs H Q E → codeAny (model P w) A (.call (.ref f) given) (CR CX outer P w H s Q E) s
theorem FnG.of (F : FnOk P w K mg base CX k f fd ps sp) : FnG P w K mg base CX k f fd ps sp := ⟨fun h => F.len _ _ _ _ h, fun _ r e b v h => F.run _ _ _ _ _ _ _ _ _ r e b v h⟩
end
section
variable {P : Program} {w : World} {K : PySem.W.Frag} {mg : Str → Option Value} {base : Heap}
/-- where a body ends: what its call hands back -/
theorem body_end {CX : CXT} {N : List Str} {qual : Str} {scope : Scope} {f : Addr} {cdv : Value} {A : Around} {outer : List Env} {s s' : Shared} {H : Hp} {Q : VK} {E : XK} {fl : Flow}
    (h : SP (cxOf CX P w K mg base N qual scope f cdv A outer s H E) [] { nx := fun _ H' => Q .non H', rt := Q } fl s') :
    CR CX outer P w H s Q E (match fl with | .ret u => .ok (.ret u) | .next => .ok (.ret .none) | x => .ok x) s' := by
  cases fl with
  | ret u =>
    obtain ⟨v, _, Hx, J, rv, z⟩ := h
    exact ⟨v, Hx, J.os, J.bare, J.base, J.hok, rv, z⟩
  | next =>
    obtain ⟨_, Hx, J, z⟩ := h
    exact ⟨V.non, Hx, J.os, J.bare, J.base, J.hok, rfl, z⟩
  | brk => exact h.elim fun _ z => z.elim fun _ y => y.2.elim
  | cont => exact h.elim fun _ z => z.elim fun _ y => y.2.elim
/-- a def by its body, where no repr is under way -/
theorem okG {x qual : Str} {st : Stmt} {f : Addr} {fd : FuncData} {N ps : List Str} {k : Nat} {sp : Sp} (F : Fun K x qual st f fd) (S : FnScope N ps (defScope st))
    (many : ∀ zs H Q E, sp zs H Q E → zs.length = ps.length)
    (bodies : ∀ (cdv : Value) (A : Around) (outer : List Env) (s : Shared) (H : Hp) (zs : List V) (Q : VK) (E : XK), A.guards = some [] → Room k (A.deeper (envOfC qual (defScope st) s.heap.objs.size f cdv)) → sp zs H Q E →
      ∃ t, PSs (cxOf CX0 P w K mg base N qual (defScope st) f cdv A outer s H E).nox (defBody st) t ∧ t { nx := fun _ H' => Q .non H', rt := Q } (start N zs) H) : FnG P w K mg base CX0 (k + 1) f fd ps sp := by
  obtain ⟨_, _, _, _, _, _, cdv, _, _, rfl, at_f, code⟩ := F.ex
  refine ⟨fun h => many _ _ _ _ h, fun {A outer s H given us zs Q E} hg room e0 binds rel h => ?_⟩
  have stays : ∀ b o, base.get? b = some o → s.heap.get? b = some o := fun b o z => (e0.bs b o z).1
  have written := e0.mod.kin.keeps stays
  have endless := e0.mod.nolimit.keeps stays
  have slots : ∀ y ∈ ps.zip us, (defScope st).names.lookup y.1 = some .local ∨ ((defScope st).names.lookup y.1 = some .cell ∧ ((cellsFrom (s.heap.objs.size + 1) (defScope st).names []).lookup y.1).isSome = true) := fun y hy =>
    (S.par y.1 (List.of_mem_zip hy).1).imp id fun z => ⟨z, PySem.W.cellsFrom_some _ _ _ (.inl z)⟩
  refine codeAny_call_function room.depth (written _ _ at_f) rfl S.co S.gen rfl (PySem.W.codeRec_of written code) (binds _ _ _ _ (wpAny_newFunctionEnv_cells S.kind slots fun env he s1 fresh => ?_))
  subst he
  obtain ⟨t, ht, read⟩ := bodies cdv A outer s H zs Q E hg (room.deeper _) h
  have I := inv_start (CX := CX0) (P := P) (w := w) (E := E) S room.hd e0 (many _ _ _ _ h) rel fresh
  refine ⟨endless.keeps fresh.toInCall.keep, codeAny_func (wpAny_mono (ht.nox.run [] s1 (start N zs) H _ I read) (fun fl s' z => ?_) fun _ _ z => z)⟩
  have told := body_end z
  cases fl with
  | ret u => exact told
  | next => exact told
  | brk => exact False.elim told
  | cont => exact False.elim told
end
section
variable {X : Cx} {CX : CXT} {k : Nat} {f : Addr} {fd : FuncData} {ps : List Str} {sp : Sp} {E : XK} {x : Str} {p pos : Pos} {e : Expr} {es : List Expr} {t : TA}
/-- the reading of f(e, ..) for such a def -/
abbrev tCallG (sp : Sp) (E : XK) (t : TA) : TE := fun σ H Q => t σ H fun zs H1 => sp zs H1 Q E
theorem pe_callG (F : FnG X.prog X.w X.K X.mg X.base CX k f fd ps sp) (quiet : X.A.guards = some []) (room : Room k X.A) (gl : Gl X x) (at_x : X.mg x = some (.ref f)) (kept : PySem.W.keepIn X.K (.ref f) = true)
    (binds : Binds X.K fd ps []) (lets : Passes CX X E) (args : PA X (e :: es) t) (nodebug : (x == ("__debug__" : Str)) = false := by decide)
    (one : starEach (e :: es) X.env = (false, eval e X.env) :: starEach es X.env := by rfl) (nostar : (backTo pos (starEach es X.env)).any (·.1) = false := by rfl) : PE X (.Call (.Name x p) (e :: es) [] pos) (tCallG sp E t) := by
  constructor
  intro pins s σ H Q I read
  refine wpAny_Call_Name_kw (ld_glob I gl at_x (PySem.W.callWith_K (h₀ := X.base) I.ok.mod.kin kept (thn (args.run pos pins s σ H _ I read) fun us s1 y => ?_) one nostar) nodebug)
  obtain ⟨zs, H1, J, rel, h⟩ := y
  have len : (us ++ []).length = ps.length := by
    rw [List.append_nil, ← rel.length]
    exact F.arity h
  have bound := binds s1 us J.kIn len
  rw [List.append_nil] at bound
  refine ⟨J.kIn, wpAny_call (codeAny_mono (F.runs (given := ⟨us, []⟩) quiet room J.env0 bound rel h) fun a s' z => ?_)⟩
  match a, z with
  | .error er, z => exact lets pins σ H1 s1 er s' J z
  | .ok (.ret u), z => exact J.after z
/-! ### str(x) of data -/
def rShow (K : PySem.W.Frag) : List V → Hp → VK → Prop := fun xs H Q => ∃ (a : Addr) (d : PyData), xs = [.ref a] ∧ Dp K H (.ref a) d ∧ d.showable = true ∧ d.hasDict = false ∧ d.depth ≤ 60 ∧ d.shown.length ≤ sizeLine ∧ Q (.str d.shown) H
theorem call_strD (deep : X.A.units + 64 < cLine) (quiet : X.A.guards = some []) : CallR X (.type "str") (rShow X.K) := by
  rintro pins s σ H _ _ Q I (_ | ⟨ra, rb⟩) ⟨a, d, e, dp, h1, h2, h3, h4, h⟩
  · exact nomatch e
  · obtain ⟨rfl, rfl⟩ := List.cons.inj e
    cases rb
    obtain ⟨as, rd⟩ := Dp.reads I d _ _ dp ra
    cases (show _ = Value.ref a from ra)
    exact str_of_reads rd h1 (fun z => absurd (h2.symm.trans z) (by decide)) quiet (by omega) (fun _ _ z => z) (fun hx u tk kp => ⟨.str d.shown, H, I.kept kp, ⟨u, rfl⟩, h⟩) h4
end
/-! ### the law's own head, for such a def -/
/-- a law's promise: of a list of at most 63 ints it gives True -/
def spScript (K : PySem.W.Frag) : Sp := fun zs H Q _ => ∃ (a : Addr) (ns : List Int), zs = [.ref a] ∧ SqL K H a (ns.map V.int) ∧ ns.length ≤ 63 ∧ ∀ Hx, Q (.bl true) Hx
section
variable {P : Program} {w : World} {K : PySem.W.Frag} {mg mb : Str → Option Value} {k : Nat} {fa a : Addr} {fd : FuncData} {x : Str} {s1 : Shared} {vs : List Value} {ns : List Int}
theorem law_from (KX : K.In s1.heap) (globals : s1.heap.Ns mainGlobals mg) (builtins : s1.heap.Ns builtinsNs mb) (boot : ∀ y : Str, y ≠ "__name__" → mb y = bootBuiltins y) (lim : s1.heap.NoLimit) (nogens : s1.gens = #[])
    (script : s1.heap.get? a = some { cls := .type "list", data := .seq vs.toArray }) (room : Room k callerA) (F : ∀ B : Heap, K.In B → B.Ns mainGlobals mg → FnG P w K mg B CX0 k fa fd [x] (spScript K))
    (bind : ∀ (s : Shared) (u : Value), BindsTo s fd ⟨[u], []⟩ [(x, u)]) (H : Hp) (only : Only H) (here : SqL K H a (ns.map V.int)) (few : ns.length ≤ 63) (fine : HOk P w H s1.heap) (alone : ∀ b, H b ≠ none → b = a ∧ K.lookup a = none) :
    codeAny (model P w) callerA (.call (.ref fa) ⟨[.ref a], []⟩) (fun r s' => r = .ok (.ret (.bool true)) ∧ OldK s1.heap s'.heap ∧ s'.os = s1.os ∧ AllBare s'.gens) s1 := by
  have free : ∀ {b : Addr}, (b = a → K.lookup a = none → False) → H b = none := fun {b} z => by
    cases hb : H b with
    | none => rfl
    | some u => exact ((fun y => z y.1 y.2) (alone b (by rw [hb]; exact fun e => nomatch e))).elim
  have dicts : ∀ {b : Addr} {m : Str → Option Value}, s1.heap.Ns b m → (hidT s1.heap H).Ns b m := fun {b m} y => by
    obtain ⟨o, es, ep, e, dd, r⟩ := y
    refine ⟨o, es, ep, hidT_get e (free fun z _ => ?_), dd, r⟩
    rw [z, script] at e
    cases e
    exact nomatch dd
  have kin : K.In (hidT s1.heap H) := fun b o e => hidT_get (KX b o e) (free fun z y => by
    rw [z, y] at e
    exact nomatch e)
  obtain ⟨mc, c1, c2⟩ := lim
  have e0 : Env0 P w K mg (hidT s1.heap H) callerA [] s1 H := {
    frames := rfl
    mod := ⟨kin, dicts globals, ⟨mb, dicts builtins, boot⟩, ⟨mc, dicts c1, c2⟩⟩
    bs := fun _ _ z => of_hidT z
    bsz := Nat.le_of_eq (hidT_size _ _)
    funs := trivial
    frf := fun b z => nomatch (show b ∈ ([] : List Addr) from z)
    hok := fine
    bare := .of_eq nogens }
  have run := (F _ kin (dicts globals)).runs (given := ⟨[.ref a], []⟩) (us := [.ref a]) (zs := [.ref a]) (Q := fun v _ => v = .bl true) (E := fun _ _ _ => False) rfl room e0 (bind s1 (.ref a)) (.cons rfl .nil) ⟨a, ns, rfl, here, few, fun _ => rfl⟩
  refine codeAny_mono run fun r s' told => ?_
  match r, told with
  | .error er, told => exact told.elim
  | .ok (.ret u), told =>
    obtain ⟨v, Hx, os, bare, un, fine2, rel, is_true⟩ := told
    cases (show v = .bl true from is_true)
    cases (show u = Value.bool true from rel)
    refine ⟨rfl, .of_keep fun b o e => ?_, os, bare⟩
    rcases only b with z | ⟨og, _, z⟩
    · exact un.keep b o e z (fun y => nomatch (show b ∈ ([] : List Addr) from y)) (by simp)
    · have still := (fine2 b _ (un.frzs b og _ z)).1
      cases e.symm.trans (fine b _ z).1
      exact still
end
theorem walk_g {l : PySem.W.OpenLaw} {k : Nat} {q : Program} {loose : List Str} {XP : (Str → Option Value) → Heap → Prop} {YP : World → Heap → Prop} {d : DefRec} {K : Params → PySem.W.Frag} {x : Str} (most : l.most = some 63) (plain : d.params.defaults = [])
    (room : Room k callerA) (inK : ∀ w h, YP w h → (K w.params).In h)
    (law : ∀ w mg fa h, (K w.params).In h → h.Ns mainGlobals mg → mg d.name = some (.ref fa) → ∃ fd : FuncData, (∀ (s : Shared) (v : Value), BindsTo s fd ⟨[v], []⟩ [(x, v)]) ∧ ∀ B : Heap, (K w.params).In B → B.Ns mainGlobals mg → FnG l.prog w (K w.params) mg B CX0 k fa fd [x] (spScript (K w.params))) :
    PySem.W.WalkO q loose XP YP l.row.toRowW d [] (fun f zs => PySem.call f zs) := by
  refine Att.attach_call most plain fun w _ s1 mg mb fa _ _ _ _ a vs ns G Y _ _ _ at_law script these few nogens => ?_
  have KX := inK w _ Y
  obtain ⟨fd, bind, F⟩ := law w mg fa _ KX G.T.g at_law
  have rel := vals_ints these
  have line : ns.length ≤ sizeLine := Nat.le_trans few (by decide)
  have go := law_from (ns := ns) KX G.T.g G.T.b G.T.builtins G.T.nolimit nogens script room F bind
  cases look : (K w.params).lookup a with
  | some o =>
    cases script.symm.trans (KX a o look)
    refine go (fun _ => none) (fun _ => .inl rfl) (.inr ⟨_, vs.toArray, _, look, rfl, rfl, rfl, ?_, ?_⟩) few (fun b u z => ((nomatch z : (none : Option HO) = some u → False) z).elim) (fun b z => absurd rfl z)
    · rw [List.size_toArray, these.length]
      exact line
    · rw [List.toList_toArray]
      exact rel
  | none =>
    obtain ⟨o, eo⟩ : ∃ o : HO, o = .frz { cls := .type "list", data := .seq vs.toArray } (.lst (ns.map V.int)) := ⟨_, rfl⟩
    have at_a : ∀ b, (if b = a then some o else none) = none ∨ (b = a ∧ (if b = a then some o else none) = some o) := fun b => by
      by_cases z : b = a
      · exact .inr ⟨z, if_pos z⟩
      · exact .inl (if_neg z)
    refine go (fun b => if b = a then some o else none) (fun b => ?_) (.inl (.inr ⟨_, (if_pos rfl).trans (congrArg some eo)⟩)) few (fun b u z => ?_) (fun b z => ?_)
    · rcases at_a b with z | ⟨_, z⟩
      · exact .inl z
      · exact .inr ⟨_, _, z.trans (congrArg some eo)⟩
    · rcases at_a b with y | ⟨e, y⟩
      · exact nomatch y.symm.trans z
      · cases y.symm.trans z
        subst e
        rw [eo]
        exact ⟨script, by rw [List.length_map]; exact line, vs, _, rel, script⟩
    · rcases at_a b with y | ⟨e, _⟩
      · exact absurd y z
      · exact ⟨e, look⟩
end Tg

/-! repr of own objects by their own __repr__, and {x!r} of data, where no repr is under way -/
namespace Tg
open PySem PySem.Spec PyProof.Rows L2
section
variable {prog : Program} {w : World} {A : Around} {E : Value → Shared → Prop} {s : Shared} {K : PySem.W.Frag} {x C f : Addr} {ox : Obj} {dx : Option Obj}
theorem repr_in {Q : Value → Shared → Prop} (room : A.in1.units < cLine) (inK : K.In s.heap) (I : PySem.W.InstAt s.heap x ox C dx) (at_ : PySem.W.findIn K (.ref C) "__repr__" = some (some (.ref f))) (fn : PySem.W.isFn K (.ref f) = true)
    (h : wpAny (model prog w) A.in1 (call (.ref f) [.ref x]) (fun r s' => ∃ y t, r = .str y t ∧ Q r s') E s) : wpAny (model prog w) A (call (.builtin "repr") [.ref x]) Q E s := by
  refine Calls.call_function_entry (id := "repr") PySem.F.kind_repr PySem.F.plain_repr PySem.F.entry_repr (PySem.F.args_repr1 (.ref x)) ?_
  unfold Builtin.«repr»
  refine wpAny_bind (m := oneArg "repr" _) (wpAny_pure (wpAny_bind (wpAny_cRoomFor room (wpAny_bind (wpAny_bind (I.type.here ((PySem.W.looks_findIn inK at_).here ?_)))))))
  show wpAny _ A.in1 (if (some (Value.ref f)).isNone = true then _ else _) _ E s
  rw [if_neg (fun z => nomatch z)]
  refine wpAny_bind (m := callSpecialIfBound? (.ref x) (Str.ofString "__repr__") _) (PySem.W.ifBound_K inK I at_ fn (wpAny_mono h (fun r s' told => ?_) fun _ _ y => y))
  obtain ⟨y, t, rfl, q⟩ := told
  refine wpAny_bind (m := isInstance (.str y t) (.type "str")) (wpAny_isInstance (T := "str") (typeIs_str _ y t) isSubtype_str_str ?_)
  first
    | exact wpAny_pure ⟨_, rfl, q⟩
    | (rw [if_pos rfl]; exact wpAny_pure ⟨_, rfl, q⟩)
    | (simp only [if_true]; exact wpAny_pure ⟨_, rfl, q⟩)
end
section
variable {X : Cx} {n : Nat}
def rReprO (C : Addr) (sp : Sp) (E : XK) : List V → Hp → VK → Prop := fun vs H Q => ∃ a dx fs, vs = [.ref a] ∧ H a = some (.ins C dx fs) ∧ sp [.ref a] H (fun v H' => ∃ y : Str, v = .str y ∧ Q v H') E
theorem cr_reprO {CX : CXT} {C f : Addr} {fd : FuncData} {sp : Sp} {E : XK} (F : FnG X.prog X.w X.K X.mg X.base CX n f fd ["self"] sp) (at_ : PySem.W.findIn X.K (.ref C) "__repr__" = some (some (.ref f))) (fn : PySem.W.isFn X.K (.ref f) = true) (hb : Binds X.K fd ["self"] []) (hx : Passes CX X E) (hr : Room (n + 1) X.A) (quiet : X.A.guards = some []) :
    CallR X (.builtin "repr") (rReprO C sp E) := by
  rintro pins s σ H vs us Q I r ⟨a, dx, fs, rfl, ha, told⟩
  obtain rfl : us = [.ref a] := by
    cases r with
    | cons p t => cases t; cases p; rfl
  obtain ⟨atA, J, _⟩ := ins_get I.hok ha
  obtain ⟨od, J, _⟩ := J.look
  have sb : Sub X n X.A.in1 := Sub.in1 ⟨hr, rfl⟩
  refine repr_in (by have := hr.units; show X.A.units + 1 < cLine; omega) I.kIn J at_ fn ?_
  have e0 : Env0 X.prog X.w X.K X.mg X.base X.A.in1 X.stack s H := by
    have env := I.env0
    exact ⟨sb.fr.symm ▸ env.frames, env.mod, env.bs, env.bsz, env.funs, env.frf, env.hok, env.bare⟩
  refine wpAny_call (codeAny_mono (F.runs (A := X.A.in1) (outer := X.stack) (s := s) (given := ⟨[.ref a], []⟩) (us := [.ref a]) (zs := [.ref a]) quiet sb.room e0 (by
    have z := hb s [.ref a] I.kIn rfl
    simpa using z) (.cons rfl .nil) told) fun r s' done => ?_)
  cases r with
  | error e => exact hx pins σ H s e s' I done
  | ok fl =>
    cases fl with
    | ret w =>
      obtain ⟨z, H', I', rz, y, ez, q⟩ := I.after done
      subst ez
      obtain ⟨t, rfl⟩ := rz
      exact ⟨y, t, rfl, .str y, H', I', ⟨t, rfl⟩, q⟩
    | next => exact False.elim done
    | brk => exact False.elim done
    | cont => exact False.elim done
/-- f'..' of two parts or more, by a name -/
def tJn (ts : List TE) : TE := fun σ H Q => tJs ts Str.empty σ H fun out H1 => Q (.str out) H1
theorem pe_jn {v1 v2 : Expr} {rest : List Expr} {ts : List TE} {pos : Pos} (h : PJ X (v1 :: v2 :: rest) ts) : PE X (.JoinedStr (v1 :: v2 :: rest) pos) (tJn ts) := pe_joined h
/-! ### {x!r} of data -/
def tFmtRD (K : PySem.W.Frag) (te : TE) : TE := fun σ H Q => te σ H fun x H1 => ∃ d : PyData, Dp K H1 x d ∧ d.showable = true ∧ d.hasDict = false ∧ d.depth ≤ 60 ∧ d.shown.length ≤ sizeLine ∧ Q (.str d.shown) H1
theorem pe_fmtRD {e : Expr} {te : TE} {pos : Pos} (deep : X.A.units + 64 < cLine) (quiet : X.A.guards = some []) (he : PE X e te) : PE X (.FormattedValue e 114 none pos) (tFmtRD X.K te) := by
  refine ⟨fun pins s σ H Q I h => ?_⟩
  refine wpAny_FormattedValue_repr (thn (he.run pins s σ H _ I h) fun v s1 ⟨x, H1, I1, r1, d, dp, h1, h2, h3, h4, q⟩ => ?_)
  obtain ⟨as, rd⟩ := Dp.reads I1 d x v dp r1
  cases dp with
  | non =>
    cases r1
    exact pyReprObj_none (wpAny_formatField_str ⟨.str "None", H1, I1.tok _, ⟨_, rfl⟩, q⟩ ⟨.str "None", H1, I1.tok _, ⟨_, rfl⟩, q⟩ h4)
  | bl b =>
    cases r1
    exact pyReprObj_bool (wpAny_formatField_str ⟨.str _, H1, I1.tok _, ⟨_, rfl⟩, q⟩ ⟨.str _, H1, I1.tok _, ⟨_, rfl⟩, q⟩ h4)
  | int i =>
    obtain ⟨t, rfl⟩ := r1
    exact pyReprObj_int (of_decide_eq_true h1) (wpAny_formatField_str ⟨.str _, H1, I1.tok _, ⟨_, rfl⟩, q⟩ ⟨.str _, H1, I1.tok _, ⟨_, rfl⟩, q⟩ h4)
  | str y =>
    obtain ⟨t, rfl⟩ := r1
    exact pyReprObj_str (wpAny_formatField_str ⟨.str _, H1, I1.tok _, ⟨_, rfl⟩, q⟩ ⟨.str _, H1, I1.tok _, ⟨_, rfl⟩, q⟩ h4) h4
  | lst _ _ =>
    cases r1
    exact pyReprObj_of_reads rd h1 (fun z => absurd (h2.symm.trans z) (by decide)) quiet (by omega) (fun _ _ z => z) (fun hx u tk kp => wpAny_formatField_str ⟨.str _, H1, I1.kept kp, ⟨_, rfl⟩, q⟩ ⟨.str _, H1, (I1.kept (t' := tk) kp).tok _, ⟨_, rfl⟩, q⟩ h4) h4
  | tup _ _ =>
    cases r1
    exact pyReprObj_of_reads rd h1 (fun z => absurd (h2.symm.trans z) (by decide)) quiet (by omega) (fun _ _ z => z) (fun hx u tk kp => wpAny_formatField_str ⟨.str _, H1, I1.kept kp, ⟨_, rfl⟩, q⟩ ⟨.str _, H1, (I1.kept (t' := tk) kp).tok _, ⟨_, rfl⟩, q⟩ h4) h4
end
theorem pe_fmtRDK {X : Cx} {e : Expr} {te : TE} {pos : Pos} (K : PySem.W.Frag) (deep : X.A.units + 64 < cLine) (quiet : X.A.guards = some []) (he : PE X e te) (hK : X.K = K := by rfl) : PE X (.FormattedValue e 114 none pos) (tFmtRD K te) := by
  subst hK
  exact pe_fmtRD deep quiet he
section
variable {P : Program} {w : World} {K : PySem.W.Frag} {mg : Str → Option Value} {base : Heap}
/-- a def that is called where no repr is under way -/
def CalG (P : Program) (w : World) (K : PySem.W.Frag) (mg : Str → Option Value) (base : Heap) (k : Nat) (x : Str) (ps : List Str) (sp : Sp) : Prop := ∃ f fd, FnG P w K mg base CX0 k f fd ps sp ∧ mg x = some (.ref f) ∧ PySem.W.keepIn K (.ref f) = true ∧ Binds K fd ps []
theorem pe_calG {X : Cx} {k : Nat} {x : Str} {ps : List Str} {sp : Sp} {e : Expr} {es : List Expr} {t : TA} {p pos : Pos} (c : CalG X.prog X.w X.K X.mg X.base k x ps sp) (quiet : X.A.guards = some []) (hr : Room k X.A) (gl : Gl X x) (ha : PA X (e :: es) t) (nodebug : (x == ("__debug__" : Str)) = false := by decide)
    (one : starEach (e :: es) X.env = (false, eval e X.env) :: starEach es X.env := by rfl) (nostar : (backTo pos (starEach es X.env)).any (·.1) = false := by rfl) : PE X (.Call (.Name x p) (e :: es) [] pos) (tCallG sp E0 t) := by
  obtain ⟨f, fd, F, hm, hk, hb⟩ := c
  exact pe_callG F quiet hr gl hm hk hb pass0 ha nodebug one nostar
end
end Tg

namespace Tg
open PySem PySem.Spec PyProof.Rows L2
/-! ### enumerate(t), t a tuple -/
set_option maxHeartbeats 1000000 in
theorem enum1_new {v : Value} {o : Obj} {Ok : Heap → Prop} (B : Begins v o Ok) :
    Meets (Builtin.«enumerate.__new__» ⟨[.type "enumerate", v], []⟩) (fun _ R s => Ok s.heap ∧ R (.ok (.ret (.ref (s.heap.push o).objs.size))) { s with heap := (s.heap.push o).push { cls := .type "enumerate", data := .fields #[.none, .bool false, .ref s.heap.objs.size, rawInt 0, .none, .none] } }) :=
  .of_wp fun prog w A R s want => by
    obtain ⟨hp, g, d, tk, os⟩ := s; obtain ⟨ok, want⟩ := want
    have isub := sub_enumerate
    have it0 : ∀ {A' : Around} {E : Value → Shared → Prop} {Q : Value → Shared → Prop}, Q (.ref hp.objs.size) ⟨hp.push o, g, d, tk, os⟩ → wpAny (model prog w) A' (pyIter v) Q E ⟨hp, g, d, tk, os⟩ := fun q => B.iter prog w _ _ ⟨hp, g, d, tk, os⟩ _ ok q
    wp_walk using it0
    apply wpAny_stack_any; intro fr; apply wpAny_pure
    split
    · rename_i c _ _ _ _ _
      cases (c == Value.type "enumerate") <;> (wp_walk using it0; exact ⟨_, rfl, want⟩)
    · wp_walk using it0; exact ⟨_, rfl, want⟩
theorem enum1_made {prog : Program} {w : World} {A : Around} {E : Value → Shared → Prop} {s : Shared} {v : Value} {o : Obj} {Ok : Heap → Prop} {Q : Value → Shared → Prop} (B : Begins v o Ok) (ok : Ok s.heap)
    (h : ∀ h', IsEnum h' (s.heap.objs.size + 1) s.heap.objs.size 0 .none → h'.get? s.heap.objs.size = some o → (∀ b o, s.heap.get? b = some o → h'.get? b = some o) → Q (.ref (s.heap.objs.size + 1)) { s with heap := h' }) :
    wpAny (model prog w) A (call (.type "enumerate") [v]) Q E s := by
  refine callType_new F.called_enumerate (by decide) (F.typeCall_enumerate_1 _) (F.newCall_enumerate_1 _) (fun obj => F.args_object_init_2 obj _) F.entry_enumerate_new (enum1_new B) ⟨ok, ?_⟩
  have more : (s.heap.push o).objs.size = s.heap.objs.size + 1 := by rw [Heap.size_push]
  show _ ∧ _
  rw [more]
  have he : IsEnum ((s.heap.push o).push { cls := .type "enumerate", data := .fields #[.none, .bool false, .ref s.heap.objs.size, rawInt 0, .none, .none] }) (s.heap.objs.size + 1) s.heap.objs.size 0 .none := by
    have z := Heap.get?_push_size (s.heap.push o) (o := { cls := .type "enumerate", data := .fields #[.none, .bool false, .ref s.heap.objs.size, rawInt 0, .none, .none] }) rfl
    rw [more] at z
    exact z
  exact ⟨⟨_, he, rfl⟩, h _ he (Heap.get?_push_of_some _ (Heap.get?_push_size _ B.free)) fun b o x => Heap.get?_push_of_some _ (Heap.get?_push_of_some _ x)⟩
/-- the tuple at a, each item with its place in a new pair -/
def IteT (K : PySem.W.Frag) (a : Addr) : It :=
  ⟨fun i H => ∃ (xs : List V) (x : V), SqT K H a xs ∧ xs[i]? = some x,
    fun i H v H' => ∃ T x, v = .ref T ∧ H T = none ∧ H' = upd H T (.tup [.int (i : Nat), x]) ∧ ∀ xs, SqT K H a xs → xs[i]? = some x,
    fun i H => ∃ xs : List V, SqT K H a xs ∧ xs.length = i⟩
theorem apart_ti {h : Heap} {a it : Addr} {items : Array Value} {i : Nat} (h1 : h.IsTuple a items) (h2 : h.IsTupleIter it a i) : a ≠ it := fun z => by
  obtain ⟨o, e, c, _⟩ := h1
  obtain ⟨o2, e2, c2, _⟩ := h2
  rw [z, e2] at e
  cases e
  rw [c2] at c
  exact absurd c (by decide)
theorem apart_te {h : Heap} {a e it : Addr} {items : Array Value} {k : Int} {old : Value} (h1 : h.IsTuple a items) (h2 : IsEnum h e it k old) : e ≠ a := fun z => by
  obtain ⟨o, e1, c, _⟩ := h1
  have h3 : h.get? a = _ := z ▸ h2
  rw [h3] at e1
  cases e1
  have c' : Value.type "enumerate" = Value.type "tuple" := c
  exact absurd c' (by decide)
theorem turn_enumT {P : Program} {w : World} {K : PySem.W.Frag} {elts : List Expr} {kk : Nat} {tpos : Pos} (a e it : Addr) :
    Turn P w K (.Tuple elts kk tpos) (IteT K a) [e, it] e (fun i h => (∃ old, IsEnum h e it (0 + (i : Int)) old) ∧ h.IsTupleIter it a i ∧ e ≠ it) where
  mem := List.mem_cons_self
  obj := fun i h st b hb => by
    obtain ⟨⟨old, he⟩, ⟨o, ho, _, hd⟩, _⟩ := st
    rw [List.mem_cons, List.mem_singleton] at hb
    rcases hb with rfl | rfl
    · exact ⟨_, he, fun v q => nomatch q⟩
    · exact ⟨o, ho, fun v q => by rw [hd] at q; cases q⟩
  keep := fun i h h' st k => ⟨st.1.imp fun old he => k e List.mem_cons_self _ he, st.2.1.at fun o q => k it (List.mem_cons_of_mem _ List.mem_cons_self) o q, st.2.2⟩
  item := by
    rintro X rfl rfl rfl hc i pins s σ H E I hf ⟨⟨old, he⟩, hit, hne⟩ ⟨xs, x, hq, hx⟩
    obtain ⟨its, rv, ist, _⟩ := I.tuple hq
    obtain ⟨u, hu, ru⟩ := Vals.get rv hx
    have isT : s.heap.IsTuple a its.toArray := ist
    have n1 := apart_ti isT hit
    have n2 := apart_te isT he
    have hil : i < its.toArray.size := by
      have := (List.getElem?_eq_some_iff.mp hu).1
      simpa using this
    have calm : X.A.in1.handled = none := by
      have := I.ok.hd hc
      simp [this]
    have G := GoesN.enumFrom (prog := X.prog) (w := X.w) (A := X.A) (elts := elts) (x1 := kk) (pos := tpos) 0 (Draws.tuple (prog := X.prog) (w := X.w) calm it a n1 its.toArray) e hne (by simp [hne, n2]) List.mem_cons_self
    refine G.goes i s _ E hil ⟨⟨old, he⟩, hit, isT⟩ fun v h' tk hy st' hk _ => ?_
    obtain ⟨T, t, u', ev, hT, hp, isp⟩ := hy
    obtain rfl : u' = u := by
      have z : its.toArray[i]? = some u' := hp
      rw [List.getElem?_toArray, hu] at z
      exact (Option.some.inj z).symm
    have new : ObjOk X.prog X.w (upd H T (.tup [.int (i : Nat), x])) h' T (.tup [.int (i : Nat), x]) := by
      refine ⟨by show 2 ≤ sizeLine; decide, [.int (0 + (i : Int)) t, u'], .cons ⟨_, by rw [Int.zero_add]⟩ (.cons ru .nil), isp⟩
    have J : Inv X pins σ (upd H T (.tup [.int (i : Nat), x])) { s with heap := h', toks := tk } := I.turnedNew (ch := [e, it]) (fun b ob hb q => hk b ob hb q) hf hT new
    refine ⟨.ref T, _, J, by rw [ev]; rfl, ⟨T, x, rfl, I.hok.fresh hT, rfl, fun ys hy => by rw [I.tuple_inj hy hq]; exact hx⟩, ⟨?_, st'.2.1, hne⟩, fun b hb => ?_⟩
    · obtain ⟨old2, he2⟩ := st'.1
      exact ⟨old2, he2⟩
    · have lt : b < s.heap.objs.size := by
        rw [List.mem_cons, List.mem_singleton] at hb
        rcases hb with rfl | rfl
        · exact Heap.lt_size he
        · obtain ⟨_, q, _⟩ := hit
          exact Heap.lt_size q
      rw [upd_ne (Nat.ne_of_lt (Nat.lt_of_lt_of_le lt hT))]
      exact (hf b hb).1
  done := by
    rintro X rfl rfl rfl hc i pins s σ H E I hf ⟨⟨old, he⟩, hit, hne⟩ ⟨xs, hq, hx⟩
    obtain ⟨its, rv, ist, _⟩ := I.tuple hq
    have isT : s.heap.IsTuple a its.toArray := ist
    have n1 := apart_ti isT hit
    have n2 := apart_te isT he
    have calm : X.A.in1.handled = none := by
      have := I.ok.hd hc
      simp [this]
    have ei : its.toArray.size = i := by
      rw [← hx, rv.length]
      simp
    have G := GoesN.enumFrom (prog := X.prog) (w := X.w) (A := X.A) (elts := elts) (x1 := kk) (pos := tpos) 0 (Draws.tuple (prog := X.prog) (w := X.w) calm it a n1 its.toArray) e hne (by simp [hne, n2]) List.mem_cons_self
    refine G.stops s _ E (by rw [ei]; exact ⟨⟨old, he⟩, hit, isT⟩) fun h' tk hk _ => ?_
    exact I.turnedL (t' := tk) (ch := [e, it]) (fun b ob hb q => hk b ob hb q) hf
  self := fun A i s Q E st q => by
    obtain ⟨⟨old, he⟩, _⟩ := st
    exact wpAny_pyIter_enum he q
end Tg

/-! enumerate(t) and enumerate(t, start=k), t a text -/
namespace Tg
open PySem PySem.Spec PyProof.Rows L2
/-- each sign of the text z in a new pair with its place, counted from c on -/
def ItS (z : Str) (c : Int) : It :=
  ⟨fun i _ => i < z.cps.size, fun i H v H' => ∃ T n, v = .ref T ∧ H T = none ∧ H' = upd H T (.tup [.int (c + (i : Int)), .str ⟨#[n]⟩]) ∧ z.cps[i]? = some n, fun i _ => z.cps.size = i⟩
theorem turn_enumS {P : Program} {w : World} {K : PySem.W.Frag} {elts : List Expr} {kk : Nat} {tpos : Pos} (z : Str) (tz : Tok) (c : Int) (e it : Addr) :
    Turn P w K (.Tuple elts kk tpos) (ItS z c) [e, it] e (fun i h => (∃ old, IsEnum h e it (c + (i : Int)) old) ∧ h.IsStrIter it (strIterType z) z tz i ∧ e ≠ it) where
  mem := List.mem_cons_self
  obj := fun i h st b hb => by
    obtain ⟨⟨old, he⟩, ⟨o, ho, _, hd⟩, _⟩ := st
    rw [List.mem_cons, List.mem_singleton] at hb
    rcases hb with rfl | rfl
    · exact ⟨_, he, fun _ q => nomatch q⟩
    · exact ⟨o, ho, fun _ q => by rw [hd] at q; cases q⟩
  keep := fun i h h' st k => by
    obtain ⟨⟨old, he⟩, ⟨o, ho, r⟩, ne⟩ := st
    exact ⟨⟨old, k e List.mem_cons_self _ he⟩, ⟨o, k it (List.mem_cons_of_mem _ List.mem_cons_self) _ ho, r⟩, ne⟩
  item := by
    rintro X rfl rfl rfl hc i pins s σ H E I hf ⟨⟨old, he⟩, hit, hne⟩ lt
    have calm : X.A.in1.handled = none := by
      have := I.ok.hd hc
      simp [this]
    have G := GoesN.enumFrom (prog := X.prog) (w := X.w) (A := X.A) (elts := elts) (x1 := kk) (pos := tpos) c (Draws.text (prog := X.prog) (w := X.w) calm it z tz) e hne (by simp [hne]) List.mem_cons_self
    refine G.goes i s _ E lt ⟨⟨old, he⟩, hit⟩ fun v h' tk hy st' hk _ => ?_
    obtain ⟨T, t, u, ev, hT, ⟨n, tn, hn, rfl⟩, isp⟩ := hy
    have new : ObjOk X.prog X.w (upd H T (.tup [.int (c + (i : Int)), .str ⟨#[n]⟩])) h' T (.tup [.int (c + (i : Int)), .str ⟨#[n]⟩]) :=
      ⟨Nat.le_trans (show 2 ≤ 1000 by decide) (by decide), [.int (c + (i : Int)) t, .str ⟨#[n]⟩ tn], .cons ⟨_, rfl⟩ (.cons ⟨_, rfl⟩ .nil), isp⟩
    have J : Inv X pins σ (upd H T (.tup [.int (c + (i : Int)), .str ⟨#[n]⟩])) { s with heap := h', toks := tk } := I.turnedNew (ch := [e, it]) (fun b ob hb q => hk b ob hb q) hf hT new
    refine ⟨.ref T, _, J, by rw [ev]; rfl, ⟨T, n, rfl, I.hok.fresh hT, rfl, hn⟩, ⟨st'.1, st'.2, hne⟩, fun b hb => ?_⟩
    have low : b < s.heap.objs.size := by
      rw [List.mem_cons, List.mem_singleton] at hb
      rcases hb with rfl | rfl
      · exact Heap.lt_size he
      · obtain ⟨_, q, _⟩ := hit
        exact Heap.lt_size q
    rw [upd_ne (Nat.ne_of_lt (Nat.lt_of_lt_of_le low hT))]
    exact (hf b hb).1
  done := by
    rintro X rfl rfl rfl hc i pins s σ H E I hf ⟨⟨old, he⟩, hit, hne⟩ ei
    have calm : X.A.in1.handled = none := by
      have := I.ok.hd hc
      simp [this]
    have G := GoesN.enumFrom (prog := X.prog) (w := X.w) (A := X.A) (elts := elts) (x1 := kk) (pos := tpos) c (Draws.text (prog := X.prog) (w := X.w) calm it z tz) e hne (by simp [hne]) List.mem_cons_self
    have ei' : z.cps.size = i := ei
    refine G.stops s _ E (by rw [ei']; exact ⟨⟨old, he⟩, hit⟩) fun h' tk hk _ => ?_
    exact I.turnedL (t' := tk) (ch := [e, it]) (fun b ob hb q => hk b ob hb q) hf
  self := fun A i s Q E st q => by
    obtain ⟨⟨old, he⟩, _⟩ := st
    exact wpAny_pyIter_enum he q
theorem walk_enumS {z : Str} {c : Int} : Walk (ItS z c) z.cps.size (fun _ => True) (fun i H v H' => ∃ T n, v = .ref T ∧ H T = none ∧ H' = upd H T (.tup [.int (c + (i : Int)), .str ⟨#[n]⟩]) ∧ z.cps[i]? = some n) :=
  ⟨fun _ _ hi _ => hi, fun _ _ => rfl, fun _ _ _ _ _ _ y => y⟩
def iEnumS (ta : TA) : TI := fun σ H R => ta σ H fun vs H1 => ∃ z, vs = [.str z] ∧ R (ItS z 0) H1
theorem pi_enumS {X : Cx} {e : Expr} {ta : TA} {p pos tpos : Pos} {elts : List Expr} {kk : Nat} (hg : Gl X "enumerate") (hm : X.mg "enumerate" = none) (ha : PA X [e] ta) (one : starEach [e] X.env = [(false, eval e X.env)] := by rfl) :
    PI X (.Tuple elts kk tpos) (.Call (.Name "enumerate" p) [e] [] pos) (iEnumS ta) := by
  constructor
  intro pins s σ H R I told
  refine Call_ (ld_blt I hg hm boot_enumerate (callWith_type1 (thn (ha.run pos pins s σ H _ I told) fun us s1 come => ?_) one rfl))
  obtain ⟨_, H1, I1, r1, z, rfl, q⟩ := come
  obtain ⟨u, rfl, tz, rfl⟩ := vals1 r1
  refine enum1_made (begins_text z tz) trivial fun h' he hit hk => wpAny_pyIter_enum he ?_
  have I2 := I1.kept (t' := s1.toks) hk
  refine ⟨s1.heap.objs.size + 1, [s1.heap.objs.size + 1, s1.heap.objs.size], _, _, H1, rfl, I2, turn_enumS z tz 0 (s1.heap.objs.size + 1) s1.heap.objs.size, ⟨⟨.none, he⟩, ⟨_, hit, rfl, rfl⟩, Nat.succ_ne_self _⟩, fun b hb => ?_, q⟩
  have late : s1.heap.objs.size ≤ b := by
    rw [List.mem_cons, List.mem_singleton] at hb
    rcases hb with rfl | rfl
    · exact Nat.le_succ _
    · exact Nat.le_refl _
  exact I1.fpOk late (I1.hok.fresh late)
/-- a built-in class called with keywords -/
theorem type_kw {M : Model} {A : Around} {E : Value → Shared → Prop} {s : Shared} {env : Env} {pos : Pos} {T : String} {e : Expr} {kws : List Keyword} {Q : Value → Shared → Prop}
    (h : wpAny M A (spliced (backTo pos (starEach [e] env))) (fun vs s1 => wpAny M A (evalAll ((backToKw pos (keywordEach kws env)).map (·.2))) (fun ks s2 => wpAny M A (call (.type T) vs (((backToKw pos (keywordEach kws env)).filterMap (·.1)).zip ks)) Q E s2) E s1) E s)
    (one : backTo pos (starEach [e] env) = (false, eval e env) :: backTo pos (starEach [] env)) (plain : (backTo pos (starEach [e] env)).any (·.1) = false) (named : (backToKw pos (keywordEach kws env)).all (·.1.isSome) = true) (nostar : (backToKw pos (keywordEach kws env)).any (·.1.isNone) = false) :
    wpAny M A (callWith pos (.type T) [] (backTo pos (starEach [e] env)) (backToKw pos (keywordEach kws env))) Q E s := by
  have args : wpAny M A (evalArgs (.type T) true (backTo pos (starEach [e] env)) (backToKw pos (keywordEach kws env))) (fun a s1 => wpAny M A (call (.type T) ([] ++ a.pos) a.kw) Q E s1) E s := by
    rw [one] at h ⊢
    exact evalArgs_kwB named h
  unfold callWith
  refine wpAny_bind (wpAny_holding (wpAny_mono args (fun a s1 told => wpAny_bind (wpAny_standAt ?_)) fun _ _ z => z))
  simp only [plain, nostar, Bool.or_false]
  exact wpAny_bind (wpAny_pure (wpAny_bind (wpAny_mono told (fun r s2 hr => wpAny_bind (wpAny_holding (wpAny_point (wpAny_pure hr)))) fun _ _ z => z)))
def iEnumSK (te tk : TE) : TI := fun σ H R => te σ H fun x H1 => tk σ H1 fun c H2 => ∃ (z : Str) (k : Int), x = .str z ∧ c = .int k ∧ -(2 ^ 63) ≤ k ∧ k < 2 ^ 63 ∧ R (ItS z k) H2
theorem pi_enumSK {X : Cx} {e ke : Expr} {te tk : TE} {p pos tpos kpos : Pos} {elts : List Expr} {kk : Nat} (hg : Gl X "enumerate") (hm : X.mg "enumerate" = none) (he : PE X e te) (hk : PE X ke tk) (one : starEach [e] X.env = (false, eval e X.env) :: starEach [] X.env := by rfl) :
    PI X (.Tuple elts kk tpos) (.Call (.Name "enumerate" p) [e] [⟨some "start", ke, kpos⟩] pos) (iEnumSK te tk) := by
  constructor
  intro pins s σ H R I told
  have first := (pa_cons he pa_nil one).run pos pins s σ H (fun vs H1 => ∃ x, vs = [x] ∧ tk σ H1 fun c H2 => ∃ (z : Str) (k : Int), x = .str z ∧ c = .int k ∧ -(2 ^ 63) ≤ k ∧ k < 2 ^ 63 ∧ R (ItS z k) H2) I (by
    show te σ H (fun x H1 => tNil σ H1 _)
    have ext : (fun x H1 => tk σ H1 fun c H2 => ∃ (z : Str) (k : Int), x = V.str z ∧ c = .int k ∧ -(2 ^ 63) ≤ k ∧ k < 2 ^ 63 ∧ R (ItS z k) H2) = fun x H1 => tNil σ H1 (fun xs H2 => ∃ y, x :: xs = [y] ∧ tk σ H2 fun c H3 => ∃ (z : Str) (k : Int), y = .str z ∧ c = .int k ∧ -(2 ^ 63) ≤ k ∧ k < 2 ^ 63 ∧ R (ItS z k) H3) := by
      funext x H1
      refine propext ⟨fun h => ⟨x, rfl, h⟩, fun h => ?_⟩
      obtain ⟨y, ey, h⟩ := h
      cases ey
      exact h
    rw [← ext]
    exact told)
  refine wpAny_Call_Name_kw (ld_blt I hg hm boot_enumerate (type_kw (thn first fun us s1 come => ?_) (by rw [one]; rfl) (by rw [one]; rfl) rfl rfl))
  obtain ⟨_, H1, I1, r1, x, rfl, q⟩ := come
  refine kws_cons (thn (hk.run pins s1 σ H1 _ I1 q) fun v s2 more => kws_nil ?_)
  obtain ⟨c, H2, I2, rc, z, k, rfl, rfl, k0, k1, q⟩ := more
  obtain ⟨u, rfl, tz, rfl⟩ := vals1 r1
  obtain ⟨tc, rfl⟩ := (show ∃ t, v = Value.int k t from rc)
  refine enum_begins_start (begins_text z tz) trivial k0 k1 fun h' he hit _ hk => wpAny_pyIter_enum he ?_
  have I3 := I2.kept (t' := s2.toks) hk
  refine ⟨s2.heap.objs.size + 1, [s2.heap.objs.size + 1, s2.heap.objs.size], _, _, H2, rfl, I3, turn_enumS z tz k (s2.heap.objs.size + 1) s2.heap.objs.size, ⟨⟨.none, by show IsEnum h' _ _ (k + ((0 : Nat) : Int)) _; rw [show k + ((0 : Nat) : Int) = k by omega]; exact he⟩, ⟨_, hit, rfl, rfl⟩, Nat.succ_ne_self _⟩, fun b hb => ?_, q⟩
  have late : s2.heap.objs.size ≤ b := by
    rw [List.mem_cons, List.mem_singleton] at hb
    rcases hb with rfl | rfl
    · exact Nat.le_succ _
    · exact Nat.le_refl _
  exact I2.fpOk late (I2.hok.fresh late)
end Tg

/-! x.rpartition(sign), where the sign is in x -/
namespace Tg
open PySem PySem.Spec PyProof.Rows L2
open Builtin.Str (lastOccurrence strSub)
section
variable {X : Cx}
theorem mt_rpart : MtR X "str.rpartition" (fun x xs H Q => ∃ (a b : Str) (i : Nat), x = .str a ∧ xs = [.str b] ∧ (b.length == 0) = false ∧ a.length ≤ sizeLine ∧ lastOccurrence a b 0 a.length = some i ∧
    ∀ p, H p = none → Q (.ref p) (upd H p (.tup [.str (strSub a 0 i), .str b, .str (strSub a (i + b.length) a.length)]))) := by
  rintro pins s σ H x xs v us Q I rx rs ⟨a, b, i, rfl, rfl, ne, small, last, q⟩
  obtain ⟨t, rfl⟩ := rx
  obtain ⟨u, rfl, tu, rfl⟩ := vals1 rs
  refine call_meets PySem.F.slot_str_rpartition (typeIs_str _ _ _) PySem.F.entry_str_rpartition (PySem.F.args_str_rpartition_2 _ _) (meets_str_rpartition a b t tu ne small) ?_
  rw [last]
  exact laid_parts I q
end
/-- the last c is where no c comes behind -/
theorem last_at {p q : List Nat} {c : Nat} (no : c ∉ q) : lastOccurrence ⟨(p ++ c :: q).toArray⟩ ⟨#[c]⟩ 0 (⟨(p ++ c :: q).toArray⟩ : Str).length = some p.length := by
  have at_p : StrLaws.At ⟨(p ++ c :: q).toArray⟩ ⟨#[c]⟩ (⟨(p ++ c :: q).toArray⟩ : Str).length p.length := (StrLaws.subAt_one _ c p.length).mpr (by
    show (p ++ c :: q).toArray.toList[p.length]? = some c
    rw [List.getElem?_append_right (Nat.le_refl _), Nat.sub_self]
    rfl)
  rcases StrLaws.last_spec ⟨(p ++ c :: q).toArray⟩ ⟨#[c]⟩ with ⟨_, none_at⟩ | ⟨i, e, at_i, later⟩
  · exact absurd at_p (none_at _)
  · rw [e]
    rcases Nat.lt_trichotomy i p.length with lt | eq | gt
    · exact absurd at_p (later _ lt)
    · rw [eq]
    · have got : (p ++ c :: q).toArray.toList[i]? = some c := (StrLaws.subAt_one _ c i).mp at_i
      have got' : (p ++ c :: q)[i]? = some c := got
      obtain ⟨d, rfl⟩ : ∃ d, i = p.length + 1 + d := ⟨i - (p.length + 1), by omega⟩
      rw [List.getElem?_append_right (by omega), show p.length + 1 + d - p.length = d + 1 by omega, List.getElem?_cons_succ] at got'
      exact absurd (List.mem_of_getElem? got') no
theorem sub_left (p q : List Nat) : strSub ⟨(p ++ q).toArray⟩ 0 p.length = ⟨p.toArray⟩ := by
  unfold strSub
  congr 1
  apply Array.toList_inj.mp
  simp
theorem sub_right (p q : List Nat) : strSub ⟨(p ++ q).toArray⟩ p.length (⟨(p ++ q).toArray⟩ : Str).length = ⟨q.toArray⟩ := by
  unfold strSub
  congr 1
  apply Array.toList_inj.mp
  simp [Str.length]
end Tg

/-! x.partition(" ") and x.rpartition(" ") of any text -/
namespace Tg
open PySem PySem.Spec PyProof.Rows L2
open Builtin.Str (lastOccurrence strSub)
open SX (S)
section
variable {X : Cx}
theorem mt_rpartA : MtR X "str.rpartition" (fun x xs H Q => ∃ a b : Str, x = .str a ∧ xs = [.str b] ∧ (b.length == 0) = false ∧ a.length ≤ sizeLine ∧
    ∀ p, H p = none → (∀ i, lastOccurrence a b 0 a.length = some i → Q (.ref p) (upd H p (.tup [.str (strSub a 0 i), .str b, .str (strSub a (i + b.length) a.length)]))) ∧
      (lastOccurrence a b 0 a.length = none → Q (.ref p) (upd H p (.tup [.str Str.empty, .str Str.empty, .str a])))) := by
  rintro pins s σ H x xs v us Q I rx rs ⟨a, b, rfl, rfl, ne, small, q⟩
  obtain ⟨t, rfl⟩ := rx
  obtain ⟨u, rfl, tu, rfl⟩ := vals1 rs
  refine call_meets PySem.F.slot_str_rpartition (typeIs_str _ _ _) PySem.F.entry_str_rpartition (PySem.F.args_str_rpartition_2 _ _) (meets_str_rpartition a b t tu ne small) ?_
  cases last : lastOccurrence a b 0 a.length with
  | some i => exact laid_parts I fun p np => (q p np).1 i last
  | none => exact laid_parts I fun p np => (q p np).2 last
theorem sub_take (l : List Nat) (i : Nat) : strSub (S l) 0 i = S (l.take i) := by
  unfold strSub
  congr 1
  apply Array.toList_inj.mp
  simp
theorem sub_drop (l : List Nat) (i : Nat) : strSub (S l) i (S l).length = S (l.drop i) := by
  unfold strSub
  congr 1
  apply Array.toList_inj.mp
  simp [Str.length]
  exact List.take_of_length_le (Nat.le_of_eq List.length_drop)
/-- what stands ahead of the last blank and behind it -/
theorem mt_rpartL : MtR X "str.rpartition" (fun x xs H Q => ∃ y : List Nat, x = .str (S y) ∧ xs = [.str " "] ∧ (S y).length ≤ sizeLine ∧
    ∀ (t : Addr) (p q r : List Nat), p.length ≤ y.length → (∀ u v, 32 ∉ v → y = u ++ 32 :: v → p = u) → H t = none → Q (.ref t) (upd H t (.tup [.str (S p), .str (S q), .str (S r)]))) := by
  rintro pins s σ H x xs v us Q I rx rs ⟨y, rfl, rfl, small, q⟩
  refine mt_rpartA pins s σ H _ _ v us Q I rx rs ⟨S y, " ", rfl, rfl, rfl, small, fun t nt => ⟨fun i hi => ?_, fun no => ?_⟩⟩
  · have e1 := sub_take y i
    have e2 := sub_drop y (i + (Str.ofString " ").length)
    rw [e1, e2]
    refine q t _ _ _ (List.length_take_le' _ _) (fun u v hv e => ?_) nt
    have la := last_at (p := u) (c := 32) hv
    rw [← e] at la
    have hi' : lastOccurrence ⟨y.toArray⟩ ⟨#[32]⟩ 0 (⟨y.toArray⟩ : Str).length = some i := hi
    rw [la] at hi'
    cases hi'
    rw [e]
    exact List.take_left
  · refine q t [] [] y (Nat.zero_le _) (fun u v hv e => ?_) nt
    have la := last_at (p := u) (c := 32) hv
    rw [← e] at la
    have no' : lastOccurrence ⟨y.toArray⟩ ⟨#[32]⟩ 0 (⟨y.toArray⟩ : Str).length = none := no
    rw [la] at no'
    cases no'
theorem has_blank : ∀ {y : List Nat}, 32 ∈ y → ∃ u v, 32 ∉ u ∧ y = u ++ 32 :: v
  | [], h => nomatch h
  | c :: y, h => by
    by_cases z : c = 32
    · exact ⟨[], y, (fun m => nomatch m), by rw [z]; rfl⟩
    · obtain ⟨u, v, hu, e⟩ := has_blank (y := y) ((List.mem_cons.mp h).resolve_left fun x => z x.symm)
      refine ⟨c :: u, v, fun m => ?_, by rw [e]; rfl⟩
      rcases List.mem_cons.mp m with m | m
      · exact z m.symm
      · exact hu m
theorem first_blank {u1 u2 r1 r2 : List Nat} (h1 : 32 ∉ u1) (h2 : 32 ∉ u2) (e : u1 ++ 32 :: r1 = u2 ++ 32 :: r2) : u1 = u2 ∧ r1 = r2 := by
  induction u1 generalizing u2 with
  | nil => cases u2 with
    | nil => exact ⟨rfl, (List.cons.inj e).2⟩
    | cons a u2 => exact absurd (List.mem_cons.mpr (.inl (List.cons.inj e).1)) h2
  | cons a u1 ih => cases u2 with
    | nil => exact absurd (List.mem_cons.mpr (.inl (List.cons.inj e).1.symm)) h1
    | cons b u2 =>
      obtain ⟨e1, e2⟩ := List.cons.inj e
      obtain ⟨a1, a2⟩ := ih (fun z => h1 (List.mem_cons_of_mem _ z)) (fun z => h2 (List.mem_cons_of_mem _ z)) e2
      exact ⟨by rw [e1, a1], a2⟩
/-- what stands ahead of the first blank and behind it -/
theorem mt_partL : MtR X "str.partition" (fun x xs H Q => ∃ y : List Nat, x = .str (S y) ∧ xs = [.str " "] ∧ (S y).length ≤ sizeLine ∧
    ∀ (t : Addr) (p q r : List Nat), p.length ≤ y.length → r.length ≤ y.length → (∀ u v, 32 ∉ u → y = u ++ 32 :: v → p = u ∧ r = v) → H t = none → Q (.ref t) (upd H t (.tup [.str (S p), .str (S q), .str (S r)]))) := by
  rintro pins s σ H x xs v us Q I rx rs ⟨y, rfl, rfl, small, q⟩
  refine mt_partition pins s σ H _ _ v us Q I rx rs ⟨S y, " ", rfl, rfl, rfl, small, fun t nt => ?_⟩
  by_cases h : 32 ∈ y
  · obtain ⟨u, v, hu, e⟩ := has_blank h
    have e2 : Txt.partition (S y) (Str.ofString " ") = (S u, S [32], S v) := by
      have e3 : S y = S u ++ S [32] ++ S v := by
        rw [SX.S_cat, SX.S_cat, e, List.append_assoc]
        rfl
      rw [e3]
      exact TL.partition_app (s := 32) (S := []) rfl hu
    rw [e2]
    refine q t _ _ _ (by rw [e, List.length_append]; omega) (by rw [e, List.length_append, List.length_cons]; omega) (fun u' v' hu' e' => first_blank hu hu' (e.symm.trans e')) nt
  · have e2 : Txt.partition (S y) (Str.ofString " ") = (S y, S [], S []) := TL.partition_none (s := 32) (S := []) rfl h
    rw [e2]
    refine q t _ _ _ (Nat.le_refl _) (Nat.zero_le _) (fun u v hu e => absurd ?_ h) nt
    rw [e]
    exact List.mem_append.mpr (.inr (List.mem_cons_self ..))
end
end Tg

/-! lines as lists of signs -/
namespace Tg
open PySem PySem.Spec PyProof.Rows L2
open SX (S)
open TL (numL)
/-- the sum of places times signs, from the place k on -/
def wsum (k : Nat) : List Nat → Nat
  | [] => 0
  | c :: r => k * c + wsum (k + 1) r
theorem wsum_snoc (c : Nat) : ∀ (k : Nat) (l : List Nat), wsum k (l ++ [c]) = wsum k l + (k + l.length) * c
  | k, [] => by show k * c + 0 = 0 + (k + 0) * c; rw [Nat.add_zero, Nat.add_zero, Nat.zero_add]
  | k, a :: l => by
    show k * a + wsum (k + 1) (l ++ [c]) = k * a + wsum (k + 1) l + (k + (l.length + 1)) * c
    rw [wsum_snoc c (k + 1) l, show k + 1 + l.length = k + (l.length + 1) by omega]
    omega
def chk (l : List Nat) : Nat := wsum 1 l % 999983
theorem num_S (n : Nat) : Str.ofString (toString ((n : Nat) : Int)) = S (numL n) := by
  rw [← TL.tl_num n]
/-- what stands ahead of the check -/
def ahead (n sg : Nat) (b : List Nat) : List Nat := numL n ++ [sg] ++ [32] ++ numL ((numL n).length + b.length) ++ [32] ++ b
def line (n sg : Nat) (b : List Nat) : List Nat := ahead n sg b ++ [32] ++ numL (chk (ahead n sg b))
/-- a sign that a body may have -/
def sok (c : Nat) : Bool := decide (32 ≤ c) && decide (c ≤ 126)
def bok (b : List Nat) : Bool := b.all sok
theorem lt_one (a c : Nat) : decide (([a] : List Nat) < [c]) = decide (a < c) := by
  by_cases h : a < c
  · rw [decide_eq_true h]
    exact decide_eq_true (List.Lex.rel h)
  · rw [decide_eq_false h]
    refine decide_eq_false fun z => h ?_
    cases z with
    | rel r => exact r
    | cons r => cases r
theorem no_blank_num (n : Nat) : 32 ∉ numL n := TL.numL_free (.inl (by decide))
/-- the head: the number and the sign -/
theorem head_no {n sg : Nat} (h : sg ≠ 32) : 32 ∉ numL n ++ [sg] := fun z => by
  rcases List.mem_append.mp z with z | z
  · exact no_blank_num n z
  · exact h (List.mem_singleton.mp z).symm
theorem part_1 {n sg : Nat} {b : List Nat} (h : sg ≠ 32) : Txt.partition (S (line n sg b)) (S [32]) = (S (numL n ++ [sg]), S [32], S (numL ((numL n).length + b.length) ++ [32] ++ (b ++ [32] ++ numL (chk (ahead n sg b))))) := by
  have e : S (line n sg b) = S (numL n ++ [sg]) ++ S [32] ++ S (numL ((numL n).length + b.length) ++ [32] ++ (b ++ [32] ++ numL (chk (ahead n sg b)))) := by
    rw [SX.S_cat, SX.S_cat]
    refine congrArg S ?_
    show ahead n sg b ++ [32] ++ numL (chk (ahead n sg b)) = _
    obtain ⟨d, ed⟩ : ∃ d, chk (ahead n sg b) = d := ⟨_, rfl⟩
    rw [ed]
    unfold ahead
    simp only [List.append_assoc]
  rw [e]
  exact TL.partition_app (s := 32) (S := []) rfl (by
    show 32 ∉ (numL n ++ [sg])
    exact head_no h)
theorem part_2 (m : Nat) (r : List Nat) : Txt.partition (S (numL m ++ [32] ++ r)) (S [32]) = (S (numL m), S [32], S r) := by
  have e : S (numL m ++ [32] ++ r) = S (numL m) ++ S [32] ++ S r := by rw [SX.S_cat, SX.S_cat]
  rw [e]
  exact TL.partition_app (s := 32) (S := []) rfl (no_blank_num m)
theorem last_3 (b : List Nat) (c : Nat) : Builtin.Str.lastOccurrence (S (b ++ [32] ++ numL c)) (S [32]) 0 (S (b ++ [32] ++ numL c)).length = some b.length := by
  have e : b ++ [32] ++ numL c = b ++ 32 :: numL c := by rw [List.append_assoc]; rfl
  rw [e]
  exact last_at (no_blank_num c)
theorem sub_3a (b : List Nat) (c : Nat) : Builtin.Str.strSub (S (b ++ [32] ++ numL c)) 0 b.length = S b := by
  rw [List.append_assoc]
  exact sub_left b _
theorem sub_3b (b : List Nat) (c : Nat) : Builtin.Str.strSub (S (b ++ [32] ++ numL c)) (b.length + (S [32]).length) (S (b ++ [32] ++ numL c)).length = S (numL c) := by
  have z := sub_right (b ++ [32]) (numL c)
  rw [List.length_append] at z
  exact z
/-- no number but 0 begins with 0 -/
theorem num_head {n : Nat} (h : 0 < n) : ∃ c r, numL n = c :: r ∧ c ≠ 48 := by
  refine Nat.strongRecOn (motive := fun n => 0 < n → ∃ c r, numL n = c :: r ∧ c ≠ 48) n (fun n ih h => ?_) h
  by_cases lt : n < 10
  · exact ⟨48 + n, [], TL.numL_lt lt, by omega⟩
  · obtain ⟨c, r, e, ne⟩ := ih (n / 10) (by omega) (by omega)
    exact ⟨c, r ++ [48 + n % 10], by rw [TL.numL_step (by omega), e]; rfl, ne⟩
theorem num_len {n k : Nat} (hk : 0 < k) (h : n < 10 ^ k) : (numL n).length ≤ k := TL.numL_len hk h
theorem num_pos (n : Nat) : 0 < (numL n).length := List.length_pos_iff.mpr (TL.numL_ne n)
theorem num_all (n : Nat) : ∀ c, c ∈ numL n → 48 ≤ c ∧ c ≤ 57 := fun c h => TL.numL_digits n c h
theorem chk_lt (l : List Nat) : chk l < 999983 := Nat.mod_lt _ (by decide)
end Tg

/-! texts as lists of signs: + , str(n), len, slices, signs -/
namespace Tg
open PySem PySem.Spec PyProof.Rows L2
open SX (S)
open TL (numL)
section
variable {X : Cx}
theorem lenSL (l : List Nat) : (S l).length = l.length := SX.S_len l
theorem size3000 {n : Nat} (h : n ≤ 3000) : n ≤ sizeLine := Nat.le_trans h (by decide)
theorem op_addL : OpR X (binaryOp .Add) (fun x y H Q => ∃ a b : List Nat, x = .str (S a) ∧ y = .str (S b) ∧ a.length + b.length ≤ 3000 ∧ Q (.str (S (a ++ b))) H) := by
  rintro pins s σ H x y v u Q I rx ry ⟨a, b, rfl, rfl, hz, q⟩
  refine op_add_str pins s σ H _ _ v u Q I rx ry ⟨S a, S b, rfl, rfl, ?_, ?_⟩
  · rw [lenSL, lenSL]
    exact size3000 hz
  · rw [SX.S_cat]
    exact q
theorem call_strL : CallR X (.type "str") (fun xs H Q => ∃ n : Nat, xs = [.int (n : Int)] ∧ n < 2 ^ 60 ∧ Q (.str (S (numL n))) H) := by
  rintro pins s σ H xs us Q I r ⟨n, rfl, hz, q⟩
  refine call_str_int pins s σ H _ us Q I r ⟨(n : Int), rfl, ?_, ?_⟩
  · rw [Int.natAbs_natCast]
    by_cases z : n = 0
    · subst z
      decide
    · exact Nat.lt_trans ((Nat.log2_lt z).mpr hz) (by decide)
  · have e : Str.ofString (toString ((n : Nat) : Int)) = S (numL n) := num_S n
    rw [e]
    exact q
theorem call_lenL : CallR X (.builtin "len") (fun xs H Q => ∃ a : List Nat, xs = [.str (S a)] ∧ a.length ≤ 3000 ∧ Q (.int (a.length : Int)) H) := by
  rintro pins s σ H xs us Q I r ⟨a, rfl, hz, q⟩
  refine call_len_str pins s σ H _ us Q I r ⟨S a, rfl, ?_, ?_⟩
  · rw [lenSL]
    exact size3000 hz
  · rw [lenSL]
    exact q
/-- a part of a list of signs -/
def cutL (l : List Nat) (lo hi : Option Int) : List Nat := (l.drop (HT.sIx l.length 0 lo)).take (HT.sIx l.length l.length hi - HT.sIx l.length 0 lo)
theorem cutS_L (l : List Nat) (lo hi : Option Int) : cutS (S l) lo hi = S (cutL l lo hi) := by
  unfold cutS cutL
  rw [lenSL]
theorem cutL_len (l : List Nat) (lo hi : Option Int) : (cutL l lo hi).length ≤ l.length := by
  unfold cutL
  simp only [List.length_drop, List.length_take]
  omega
theorem cutL_to (l : List Nat) (m : Nat) : cutL l none (some (m : Int)) = l.take m := by
  unfold cutL
  rw [HT.sIx_nat]
  show (l.drop 0).take (min m l.length - 0) = _
  rw [List.drop_zero, Nat.sub_zero]
  by_cases h : m ≤ l.length
  · rw [Nat.min_eq_left h]
  · rw [Nat.min_eq_right (by omega), List.take_length, List.take_of_length_le (by omega)]
theorem cutL_from (l : List Nat) (m : Nat) : cutL l (some (m : Int)) none = l.drop m := by
  unfold cutL
  rw [HT.sIx_nat]
  show (l.drop (min m l.length)).take (l.length - min m l.length) = _
  by_cases h : m ≤ l.length
  · rw [Nat.min_eq_left h, List.take_of_length_le (by rw [List.length_drop]; omega)]
  · rw [Nat.min_eq_right (by omega), List.drop_of_length_le (by omega : l.length ≤ m), List.drop_length, List.take_nil]
theorem cutL_mid (l : List Nat) (m k : Nat) : cutL l (some (m : Int)) (some ((m + k : Nat) : Int)) = (l.drop m).take k := by
  unfold cutL
  rw [HT.sIx_nat, HT.sIx_nat]
  by_cases h : m ≤ l.length
  · rw [Nat.min_eq_left h]
    by_cases h2 : m + k ≤ l.length
    · rw [Nat.min_eq_left h2, show m + k - m = k by omega]
    · rw [Nat.min_eq_right (by omega : l.length ≤ m + k), List.take_of_length_le (by rw [List.length_drop]; omega), List.take_of_length_le (by rw [List.length_drop]; omega)]
  · rw [Nat.min_eq_right (by omega : l.length ≤ m), Nat.min_eq_right (by omega : l.length ≤ m + k), List.drop_of_length_le (by omega : l.length ≤ m), List.drop_length, List.take_nil, List.take_nil]
def rSlL : V → Option Int → Option Int → Hp → VK → Prop := fun x lo hi H Q => ∃ l : List Nat, x = .str (S l) ∧ l.length ≤ 3000 ∧ Q (.str (S (cutL l lo hi))) H
theorem sl_strL : SlR X rSlL := by
  rintro pins s σ H x v vl vu lo hi sl Q I rx hs pl pu ⟨l, rfl, hz, q⟩
  refine sl_str pins s σ H _ v vl vu lo hi sl Q I rx hs pl pu ⟨S l, rfl, ?_, ?_⟩
  · rw [lenSL]
    exact size3000 hz
  · rw [cutS_L]
    exact q
end
end Tg

/-! len(x) of an own object by its own __len__ -/
namespace Tg
open PySem PySem.Spec PyProof.Rows L2
section
variable {prog : Program} {w : World} {A : Around} {E : Value → Shared → Prop} {s : Shared} {K : PySem.W.Frag} {x C f : Addr} {ox : Obj} {dx : Option Obj}
theorem len_in {Q : Value → Shared → Prop} (inK : K.In s.heap) (I : PySem.W.InstAt s.heap x ox C dx) (at_ : PySem.W.findIn K (.ref C) "__len__" = some (some (.ref f))) (fn : PySem.W.isFn K (.ref f) = true)
    (h : wpAny (model prog w) A.in1 (call (.ref f) [.ref x]) (fun r s' => ∃ n u, r = .int n u ∧ 0 ≤ n ∧ n < 2 ^ 63 ∧ Q (.int n s'.toks) { s' with toks := s'.toks + 1 }) E s) : wpAny (model prog w) A (call (.builtin "len") [.ref x]) Q E s := by
  refine Calls.call_function_entry (id := "len") kind_len plain_len entry_len (args_len1 (.ref x)) ?_
  unfold Builtin.«len»
  refine wpAny_bind (m := oneArg "len" _) (wpAny_pure (wpAny_bind (m := callSpecial? (.ref x) (Str.ofString "__len__")) ?_))
  unfold callSpecial?
  refine wpAny_bind (wpAny_bind (I.type.here ((PySem.W.looks_findIn inK at_).here ?_)))
  refine wpAny_holding (wpAny_bind ((PySem.W.bind_fn inK _ (beq_iff_eq.mp fn)).here ?_))
  refine wpAny_bind (wpAny_mono h (fun r s' told => ?_) fun _ _ y => y)
  obtain ⟨n, u, rfl, n0, n1, q⟩ := told
  refine wpAny_pure ?_
  refine wpAny_bind (wpAny_holding (wpAny_pure (wpAny_bind (wpAny_letGo ?_))))
  have lo : ¬ n < 0 := by omega
  have hi : ¬ n ≥ 2 ^ 63 := by omega
  change wpAny (model prog w) A.in1 (ite (n < 0) _ (ite (n ≥ 2 ^ 63) _ _)) _ E _
  rw [if_neg lo, if_neg hi]
  exact wpAny_bind (wpAny_mkInt (wpAny_pure ⟨_, rfl, q⟩))
end
section
variable {X : Cx} {n : Nat}
def rLenO (C : Addr) (sp : Sp) (E : XK) : List V → Hp → VK → Prop := fun vs H Q => ∃ a dx fs, vs = [.ref a] ∧ H a = some (.ins C dx fs) ∧ sp [.ref a] H (fun v H' => ∃ m : Nat, v = .int (m : Int) ∧ m < 2 ^ 60 ∧ Q v H') E
theorem cr_lenO {CX : CXT} {C f : Addr} {fd : FuncData} {sp : Sp} {E : XK} (F : FnOk X.prog X.w X.K X.mg X.base CX n f fd ["self"] sp) (at_ : PySem.W.findIn X.K (.ref C) "__len__" = some (some (.ref f))) (fn : PySem.W.isFn X.K (.ref f) = true) (hb : Binds X.K fd ["self"] []) (hx : Passes CX X E) (hr : Room (n + 1) X.A) :
    CallR X (.builtin "len") (rLenO C sp E) := by
  rintro pins s σ H vs us Q I r ⟨a, dx, fs, rfl, ha, told⟩
  obtain rfl : us = [.ref a] := by
    cases r with
    | cons p t => cases t; cases p; rfl
  obtain ⟨atA, J, _⟩ := ins_get I.hok ha
  obtain ⟨od, J, _⟩ := J.look
  have sb : Sub X n X.A.in1 := Sub.in1 ⟨hr, rfl⟩
  refine len_in I.kIn J at_ fn ?_
  have e0 : Env0 X.prog X.w X.K X.mg X.base X.A.in1 X.stack s H := by
    have env := I.env0
    exact ⟨sb.fr.symm ▸ env.frames, env.mod, env.bs, env.bsz, env.funs, env.frf, env.hok, env.bare⟩
  refine wpAny_call (codeAny_mono (F.run X.A.in1 X.stack s H ⟨[.ref a], []⟩ [.ref a] [.ref a] _ E sb.room e0 (by
    have z := hb s [.ref a] I.kIn rfl
    simpa using z) (.cons rfl .nil) told) fun r s' done => ?_)
  cases r with
  | error e => exact hx pins σ H s e s' I done
  | ok fl =>
    cases fl with
    | ret w =>
      obtain ⟨z, H', I', rz, m, ez, m60, q⟩ := I.after done
      subst ez
      obtain ⟨t, rfl⟩ := rz
      exact ⟨(m : Int), t, rfl, by omega, by omega, .int (m : Int), H', I'.tok _, ⟨_, rfl⟩, q⟩
    | next => exact False.elim done
    | brk => exact False.elim done
    | cont => exact False.elim done
end
end Tg

/-! texts that are lines, and texts near them that are none -/
namespace Tg
open PySem PySem.Spec PyProof.Rows L2
open TL (numL)
/-- signs of lines -/
def sgn (sg : Nat) : Prop := sg = 46 ∨ sg = 43 ∨ sg = 61
theorem sgn_ne {sg : Nat} (h : sgn sg) : sg ≠ 32 := by rcases h with rfl | rfl | rfl <;> decide
theorem sgn_dig {sg : Nat} (h : sgn sg) : ¬ (48 ≤ sg ∧ sg ≤ 57) := by rcases h with rfl | rfl | rfl <;> decide
/-- a text that is a line -/
def IsL (x : List Nat) : Prop := ∃ (n sg : Nat) (b : List Nat), n < 10 ^ 12 ∧ sgn sg ∧ bok b = true ∧ x = line n sg b
theorem cut1 {u1 u2 r1 r2 : List Nat} (h1 : 32 ∉ u1) (h2 : 32 ∉ u2) (e : u1 ++ 32 :: r1 = u2 ++ 32 :: r2) : u1 = u2 ∧ r1 = r2 := by
  induction u1 generalizing u2 with
  | nil => cases u2 with
    | nil => exact ⟨rfl, (List.cons.inj e).2⟩
    | cons a u2 => exact absurd (List.mem_cons.mpr (.inl (List.cons.inj e).1)) h2
  | cons a u1 ih => cases u2 with
    | nil => exact absurd (List.mem_cons.mpr (.inl (List.cons.inj e).1.symm)) h1
    | cons b u2 =>
      obtain ⟨e1, e2⟩ := List.cons.inj e
      obtain ⟨a1, a2⟩ := ih (fun z => h1 (List.mem_cons_of_mem _ z)) (fun z => h2 (List.mem_cons_of_mem _ z)) e2
      exact ⟨by rw [e1, a1], a2⟩
theorem cut9 {u1 u2 r1 r2 : List Nat} (h1 : 32 ∉ u1) (h2 : 32 ∉ u2) (e : r1 ++ 32 :: u1 = r2 ++ 32 :: u2) : r1 = r2 ∧ u1 = u2 := by
  have e' := congrArg List.reverse e
  simp only [List.reverse_append, List.reverse_cons, List.append_assoc, List.singleton_append] at e'
  obtain ⟨a, b⟩ := cut1 (by simpa using h1) (by simpa using h2) e'
  exact ⟨List.reverse_inj.mp b, List.reverse_inj.mp a⟩
theorem ahead_eq (n sg : Nat) (b : List Nat) : ahead n sg b = (numL n ++ [sg]) ++ 32 :: (numL ((numL n).length + b.length) ++ 32 :: b) := by
  unfold ahead
  simp only [List.cons_append, List.nil_append, List.append_assoc]
theorem line_tail (n sg : Nat) (b : List Nat) : line n sg b = ahead n sg b ++ 32 :: numL (chk (ahead n sg b)) := by
  unfold line
  rw [List.append_assoc]
  rfl
theorem line_eq (n sg : Nat) (b : List Nat) : line n sg b = (numL n ++ [sg]) ++ 32 :: (numL ((numL n).length + b.length) ++ 32 :: (b ++ 32 :: numL (chk (ahead n sg b)))) := by
  rw [line_tail]
  obtain ⟨d, ed⟩ : ∃ d, chk (ahead n sg b) = d := ⟨_, rfl⟩
  rw [ed, ahead_eq]
  simp only [List.cons_append, List.append_assoc, List.nil_append]
theorem snoc_inj {a b : List Nat} {x y : Nat} (h : a ++ [x] = b ++ [y]) : a = b ∧ x = y := by
  obtain ⟨h1, h2⟩ := List.append_inj' h rfl
  exact ⟨h1, (List.cons.inj h2).1⟩
/-- what stands ahead of the first blank, and behind it -/
theorem isl_1 {u r : List Nat} (hu : 32 ∉ u) (h : IsL (u ++ 32 :: r)) : ∃ (n sg : Nat) (b : List Nat), n < 10 ^ 12 ∧ sgn sg ∧ bok b = true ∧ u = numL n ++ [sg] ∧ r = numL ((numL n).length + b.length) ++ 32 :: (b ++ 32 :: numL (chk (ahead n sg b))) := by
  obtain ⟨n, sg, b, n12, hs, hb, e⟩ := h
  rw [line_eq] at e
  obtain ⟨e1, e2⟩ := cut1 hu (head_no (sgn_ne hs)) e
  exact ⟨n, sg, b, n12, hs, hb, e1, e2⟩
theorem isl_2 {u c t : List Nat} (hu : 32 ∉ u) (hc : 32 ∉ c) (h : IsL (u ++ 32 :: (c ++ 32 :: t))) : ∃ (n sg : Nat) (b : List Nat), n < 10 ^ 12 ∧ sgn sg ∧ bok b = true ∧ u = numL n ++ [sg] ∧ c = numL ((numL n).length + b.length) ∧ t = b ++ 32 :: numL (chk (ahead n sg b)) := by
  obtain ⟨n, sg, b, n12, hs, hb, e1, e2⟩ := isl_1 hu h
  obtain ⟨e3, e4⟩ := cut1 hc (no_blank_num _) e2
  exact ⟨n, sg, b, n12, hs, hb, e1, e3, e4⟩
/-- the head and the count stand: the body is as long -/
theorem isl_3 {n sg m : Nat} {t : List Nat} (hs : sg ≠ 32) (h : IsL ((numL n ++ [sg]) ++ 32 :: (numL m ++ 32 :: t))) : n < 10 ^ 12 ∧ sgn sg ∧ ∃ b, bok b = true ∧ m = (numL n).length + b.length ∧ t = b ++ 32 :: numL (chk (ahead n sg b)) := by
  obtain ⟨n', sg', b, n12, hs', hb, e1, e2, e3⟩ := isl_2 (head_no hs) (no_blank_num m) h
  obtain ⟨e4, e5⟩ := snoc_inj e1
  have e6 := TL.numL_inj e4
  subst e5
  subst e6
  exact ⟨n12, hs', b, hb, TL.numL_inj e2, e3⟩
theorem isl_body {n sg : Nat} {b v : List Nat} (hs : sg ≠ 32) (h : IsL ((numL n ++ [sg]) ++ 32 :: (numL ((numL n).length + b.length) ++ 32 :: v))) : ∃ b', b'.length = b.length ∧ v = b' ++ 32 :: numL (chk (ahead n sg b')) := by
  obtain ⟨_, _, b', _, e, e'⟩ := isl_3 hs h
  exact ⟨b', by omega, e'⟩
/-- all but the check stands -/
theorem isl_tail {n sg : Nat} {b v : List Nat} (hs : sg ≠ 32) (h : IsL (ahead n sg b ++ 32 :: v)) : v = numL (chk (ahead n sg b)) := by
  have e : ahead n sg b ++ 32 :: v = (numL n ++ [sg]) ++ 32 :: (numL ((numL n).length + b.length) ++ 32 :: (b ++ 32 :: v)) := by
    rw [ahead_eq]
    simp only [List.cons_append, List.append_assoc, List.nil_append]
  rw [e] at h
  obtain ⟨b', l, e'⟩ := isl_body hs h
  obtain ⟨e1, e2⟩ := List.append_inj e' l.symm
  rw [← e1] at e2
  exact (List.cons.inj e2).2
/-- the check is the check of all ahead of it -/
theorem isl_last {a : List Nat} {c : Nat} (h : IsL (a ++ 32 :: numL c)) : c = chk a := by
  obtain ⟨n, sg, b, n12, hs, hb, e⟩ := h
  rw [line_tail] at e
  obtain ⟨e1, e2⟩ := cut9 (no_blank_num c) (no_blank_num _) e
  rw [e1]
  exact TL.numL_inj e2
/-- what is cut off a line is none -/
theorem isl_cut {n sg : Nat} {b y z : List Nat} (hs : sg ≠ 32) (h : IsL y) (e : y ++ z = line n sg b) : z = [] := by
  obtain ⟨n', sg', b', n12, hs', hb, rfl⟩ := h
  have e0 : line n' sg' b' ++ z = (numL n' ++ [sg']) ++ 32 :: (numL ((numL n').length + b'.length) ++ 32 :: (b' ++ 32 :: (numL (chk (ahead n' sg' b')) ++ z))) := by
    rw [line_eq]
    obtain ⟨d, ed⟩ : ∃ d, chk (ahead n' sg' b') = d := ⟨_, rfl⟩
    rw [ed]
    simp only [List.cons_append, List.append_assoc, List.nil_append]
  rw [e0, line_eq n sg b] at e
  obtain ⟨e1, e2⟩ := cut1 (head_no (sgn_ne hs')) (head_no hs) e
  obtain ⟨e3, e4⟩ := snoc_inj e1
  have e3' := TL.numL_inj e3
  subst e4
  subst e3'
  obtain ⟨e5, e6⟩ := cut1 (no_blank_num _) (no_blank_num _) e2
  have e7 := TL.numL_inj e5
  obtain ⟨e8, e9⟩ := List.append_inj e6 (by omega)
  subst e8
  have e10 := congrArg List.length (List.cons.inj e9).2
  rw [List.length_append] at e10
  exact List.eq_nil_of_length_eq_zero (by omega)
/-! ### sums -/
theorem wsum_app : ∀ (k : Nat) (u v : List Nat), wsum k (u ++ v) = wsum k u + wsum (k + u.length) v
  | k, [], v => by show wsum k v = 0 + wsum (k + 0) v; rw [Nat.zero_add, Nat.add_zero]
  | k, a :: u, v => by
    show k * a + wsum (k + 1) (u ++ v) = k * a + wsum (k + 1) u + wsum (k + (u.length + 1)) v
    rw [wsum_app (k + 1) u v, show k + 1 + u.length = k + (u.length + 1) by omega]
    omega
theorem wsum_up : ∀ (k : Nat) (v : List Nat), wsum (k + 1) v = wsum k v + v.sum
  | _, [] => rfl
  | k, a :: v => by
    show (k + 1) * a + wsum (k + 1 + 1) v = k * a + wsum (k + 1) v + (a :: v).sum
    rw [wsum_up (k + 1) v, List.sum_cons, Nat.add_mul]
    omega
theorem wsum_le (M : Nat) : ∀ (k : Nat) (l : List Nat), k + l.length ≤ M → (∀ c, c ∈ l → c ≤ 126) → wsum k l ≤ l.length * (M * 126)
  | _, [], _, _ => Nat.zero_le _
  | k, a :: l, h, hc => by
    have h' : k + (l.length + 1) ≤ M := h
    have ih := wsum_le M (k + 1) l (by omega) (fun c z => hc c (List.mem_cons_of_mem _ z))
    have h1 : k * a ≤ M * 126 := Nat.mul_le_mul (by omega) (hc a (List.mem_cons_self ..))
    show k * a + wsum (k + 1) l ≤ (l.length + 1) * (M * 126)
    rw [Nat.add_mul]
    omega
theorem chk_small {l : List Nat} (h : l.length ≤ 60) (hc : ∀ c, c ∈ l → c ≤ 126) : chk l = wsum 1 l := by
  have z := wsum_le 61 1 l (by omega) hc
  unfold chk
  exact Nat.mod_eq_of_lt (by omega)
theorem bok_le {b : List Nat} (h : bok b = true) : ∀ c, c ∈ b → 32 ≤ c ∧ c ≤ 126 := fun c hc => by
  have z := List.all_eq_true.mp h c hc
  unfold sok at z
  simp only [Bool.and_eq_true, decide_eq_true_eq] at z
  exact z
theorem ahead_signs {n sg : Nat} {b : List Nat} (hs : sgn sg) (hb : bok b = true) : ∀ c, c ∈ ahead n sg b → 32 ≤ c ∧ c ≤ 126 := fun c hc => by
  unfold ahead at hc
  simp only [List.mem_append, List.mem_singleton] at hc
  rcases hc with ((((h | h) | h) | h) | h) | h
  · have := num_all _ c h
    omega
  · subst h
    rcases hs with rfl | rfl | rfl <;> decide
  · omega
  · have := num_all _ c h
    omega
  · omega
  · exact bok_le hb c h
theorem ahead_33 {n sg : Nat} {b : List Nat} (h : n < 10 ^ 12) (hb : b.length ≤ 16) : (ahead n sg b).length ≤ 33 := by
  have h1 : (numL n).length ≤ 12 := num_len (by decide) h
  have h2 : (numL ((numL n).length + b.length)).length ≤ 2 := num_len (by decide) (by omega)
  unfold ahead
  simp only [List.length_singleton, List.length_append]
  omega
/-- two texts with the same check, short ones -/
theorem same_sum {a a' : List Nat} (h : a.length ≤ 60) (h' : a'.length ≤ 60) (hc : ∀ c, c ∈ a → c ≤ 126) (hc' : ∀ c, c ∈ a' → c ≤ 126) (e : chk a = chk a') : wsum 1 a = wsum 1 a' := by
  rw [← chk_small h hc, ← chk_small h' hc']
  exact e
theorem sum_pos {v : List Nat} (h : ∀ c, c ∈ v → 32 ≤ c) (ne : v ≠ []) : 0 < v.sum := by
  cases v with
  | nil => exact absurd rfl ne
  | cons a r =>
    have := h a (List.mem_cons_self ..)
    rw [List.sum_cons]
    omega
/-! ### one sign more, fewer, another; two exchanged -/
section
variable {n sg : Nat} {b : List Nat}
/-- what lies near a line: the line itself or none -/
def Nr (n sg : Nat) (b x : List Nat) : Prop := x = line n sg b ∨ ¬ IsL x
theorem mem_mid {u v : List Nat} {c : Nat} {p : Nat → Prop} (hu : ∀ x, x ∈ u ++ v → p x) (hc : p c) : ∀ x, x ∈ u ++ c :: v → p x := fun x hx => by
  rcases List.mem_append.mp hx with h | h
  · exact hu x (List.mem_append.mpr (.inl h))
  · obtain rfl | h := List.mem_cons.mp h
    · exact hc
    · exact hu x (List.mem_append.mpr (.inr h))
theorem nr_ins (n12 : n < 10 ^ 12) (hs : sgn sg) (hb : bok b = true) (b16 : b.length ≤ 16) {u w : List Nat} {c : Nat} (c0 : 0 < c) (c1 : c ≤ 126) (e : u ++ w = line n sg b) : ¬ IsL (u ++ c :: w) := fun h => by
  have al := ahead_33 (sg := sg) n12 b16
  have as := ahead_signs (n := n) hs hb
  rw [line_tail] at e
  rcases List.append_eq_append_iff.mp e with ⟨s, e1, e2⟩ | ⟨s, e1, e2⟩
  · rw [e2] at h
    have h' : IsL ((u ++ c :: s) ++ 32 :: numL (chk (ahead n sg b))) := by
      rw [List.append_assoc]
      exact h
    have z := isl_last h'
    rw [e1, List.length_append] at al
    rw [e1] at as z
    have q := same_sum (by rw [List.length_append]; omega) (by rw [List.length_append, List.length_cons]; omega) (fun x hx => (as x hx).2) (mem_mid (p := fun x => x ≤ 126) (fun x hx => (as x hx).2) c1) z
    rw [wsum_app, wsum_app] at q
    have q2 : wsum (1 + u.length) (c :: s) = (1 + u.length) * c + wsum (1 + u.length + 1) s := rfl
    rw [q2, wsum_up (1 + u.length) s] at q
    have q3 : 0 < (1 + u.length) * c := Nat.mul_pos (by omega) c0
    omega
  · cases s with
    | nil =>
      rw [List.append_nil] at e1
      rw [List.nil_append] at e2
      rw [e1, ← e2] at h
      have h' : IsL ((ahead n sg b ++ [c]) ++ 32 :: numL (chk (ahead n sg b))) := by
        rw [List.append_assoc]
        exact h
      have z := isl_last h'
      have q := same_sum (by omega) (by rw [List.length_append, List.length_singleton]; omega) (fun x hx => (as x hx).2) (fun x hx => by
        obtain hx | hx := List.mem_append.mp hx
        · exact (as x hx).2
        · rw [List.mem_singleton.mp hx]
          exact c1) z
      rw [wsum_snoc] at q
      have q3 : 0 < (1 + (ahead n sg b).length) * c := Nat.mul_pos (by omega) c0
      omega
    | cons a s =>
      obtain ⟨ea, e3⟩ := List.cons.inj e2
      subst ea
      rw [e1] at h
      have h' : IsL (ahead n sg b ++ 32 :: (s ++ c :: w)) := by
        exact Eq.mp (congrArg IsL (List.append_assoc _ _ _)) h
      have z := congrArg List.length (isl_tail (sgn_ne hs) h')
      rw [show numL (chk (ahead n sg b)) = s ++ _ from e3, List.length_append, List.length_append, List.length_cons] at z
      omega
theorem dig_head {c : Nat} : ∃ d r, numL c = d :: r ∧ d ≠ 32 := by
  cases e : numL c with
  | nil => exact absurd e (TL.numL_ne c)
  | cons d r =>
    refine ⟨d, r, rfl, ?_⟩
    have := num_all c d (by rw [e]; exact List.mem_cons_self ..)
    omega
/-- the check's blank is at its place -/
theorem isl_blank (hs : sgn sg) {v : List Nat} {a : Nat} (h : IsL (ahead n sg b ++ a :: v)) : a = 32 := by
  have e : ahead n sg b ++ a :: v = (numL n ++ [sg]) ++ 32 :: (numL ((numL n).length + b.length) ++ 32 :: (b ++ a :: v)) := by
    rw [ahead_eq]
    simp only [List.cons_append, List.append_assoc, List.nil_append]
  rw [e] at h
  obtain ⟨b', l, e'⟩ := isl_body (sgn_ne hs) h
  obtain ⟨e1, e2⟩ := List.append_inj e' l.symm
  exact (List.cons.inj e2).1
theorem nr_del (n12 : n < 10 ^ 12) (hs : sgn sg) (hb : bok b = true) (b16 : b.length ≤ 16) {u w : List Nat} {a : Nat} (e : u ++ a :: w = line n sg b) : ¬ IsL (u ++ w) := fun h => by
  have al := ahead_33 (sg := sg) n12 b16
  have as := ahead_signs (n := n) hs hb
  rw [line_tail] at e
  rcases List.append_eq_append_iff.mp e with ⟨s, e1, e2⟩ | ⟨s, e1, e2⟩
  · cases s with
    | nil =>
      obtain ⟨ea, e3⟩ := List.cons.inj e2
      rw [List.append_nil] at e1
      rw [← e1, e3] at h
      obtain ⟨d, r, ed, ne⟩ := dig_head (c := chk (ahead n sg b))
      rw [ed] at h
      exact ne (isl_blank hs h)
    | cons x s =>
      obtain ⟨ea, e3⟩ := List.cons.inj e2
      subst ea
      rw [e3] at h
      have h' : IsL ((u ++ s) ++ 32 :: numL (chk (ahead n sg b))) := by
        rw [List.append_assoc]
        exact h
      have z := isl_last h'
      rw [e1, List.length_append, List.length_cons] at al
      rw [e1] at as z
      have q := same_sum (by rw [List.length_append, List.length_cons]; omega) (by rw [List.length_append]; omega) (fun x hx => (as x hx).2) (fun x hx => (as x (by
        obtain hx | hx := List.mem_append.mp hx
        · exact List.mem_append.mpr (.inl hx)
        · exact List.mem_append.mpr (.inr (List.mem_cons_of_mem _ hx)))).2) z
      rw [wsum_app, wsum_app] at q
      have q2 : wsum (1 + u.length) (a :: s) = (1 + u.length) * a + wsum (1 + u.length + 1) s := rfl
      rw [q2, wsum_up (1 + u.length) s] at q
      have a0 := (as a (List.mem_append.mpr (.inr (List.mem_cons_self ..)))).1
      have q3 : 0 < (1 + u.length) * a := Nat.mul_pos (by omega) (by omega)
      omega
  · cases s with
    | nil =>
      rw [List.append_nil] at e1
      obtain ⟨ea, e3⟩ := List.cons.inj e2
      rw [e1, ← e3] at h
      obtain ⟨d, r, ed, ne⟩ := dig_head (c := chk (ahead n sg b))
      rw [ed] at h
      exact ne (isl_blank hs h)
    | cons x s =>
      obtain ⟨ea, e3⟩ := List.cons.inj e2
      subst ea
      rw [e1] at h
      have h' : IsL (ahead n sg b ++ 32 :: (s ++ w)) := by
        exact Eq.mp (congrArg IsL (List.append_assoc _ _ _)) h
      have z := congrArg List.length (isl_tail (sgn_ne hs) h')
      rw [show numL (chk (ahead n sg b)) = s ++ _ from e3, List.length_append, List.length_append, List.length_cons] at z
      omega
theorem nr_rep (n12 : n < 10 ^ 12) (hs : sgn sg) (hb : bok b = true) (b16 : b.length ≤ 16) {u w : List Nat} {a c : Nat} (c1 : c ≤ 126) (e : u ++ a :: w = line n sg b) (h : IsL (u ++ c :: w)) : c = a := by
  have al := ahead_33 (sg := sg) n12 b16
  have as := ahead_signs (n := n) hs hb
  rw [line_tail] at e
  rcases List.append_eq_append_iff.mp e with ⟨s, e1, e2⟩ | ⟨s, e1, e2⟩
  · cases s with
    | nil =>
      obtain ⟨ea, e3⟩ := List.cons.inj e2
      rw [List.append_nil] at e1
      rw [← e1] at h
      rw [ea]
      exact isl_blank hs h
    | cons x s =>
      obtain ⟨ea, e3⟩ := List.cons.inj e2
      subst ea
      rw [e3] at h
      have h' : IsL ((u ++ c :: s) ++ 32 :: numL (chk (ahead n sg b))) := by
        rw [List.append_assoc]
        exact h
      have z := isl_last h'
      rw [e1, List.length_append, List.length_cons] at al
      rw [e1] at as z
      have q := same_sum (by rw [List.length_append, List.length_cons]; omega) (by rw [List.length_append, List.length_cons]; omega) (fun x hx => (as x hx).2) (mem_mid (p := fun x => x ≤ 126) (fun x hx => (as x (by
        obtain hx | hx := List.mem_append.mp hx
        · exact List.mem_append.mpr (.inl hx)
        · exact List.mem_append.mpr (.inr (List.mem_cons_of_mem _ hx)))).2) c1) z
      rw [wsum_app, wsum_app] at q
      have q2 : wsum (1 + u.length) (a :: s) = (1 + u.length) * a + wsum (1 + u.length + 1) s := rfl
      have q4 : wsum (1 + u.length) (c :: s) = (1 + u.length) * c + wsum (1 + u.length + 1) s := rfl
      rw [q2, q4] at q
      exact (Nat.eq_of_mul_eq_mul_left (show 0 < 1 + u.length by omega) (show (1 + u.length) * a = (1 + u.length) * c by omega)).symm
  · cases s with
    | nil =>
      rw [List.append_nil] at e1
      obtain ⟨ea, e3⟩ := List.cons.inj e2
      rw [e1] at h
      rw [← ea]
      exact isl_blank hs h
    | cons x s =>
      obtain ⟨ea, e3⟩ := List.cons.inj e2
      subst ea
      rw [e1] at h
      have h' : IsL (ahead n sg b ++ 32 :: (s ++ c :: w)) := by
        exact Eq.mp (congrArg IsL (List.append_assoc _ _ _)) h
      have z := isl_tail (sgn_ne hs) h'
      rw [e3] at z
      exact (List.cons.inj (List.append_cancel_left z)).1
/-- two neighbours exchanged -/
theorem nr_swap (n12 : n < 10 ^ 12) (hs : sgn sg) (hb : bok b = true) (b16 : b.length ≤ 16) {u w : List Nat} {a c : Nat} (e : u ++ a :: c :: w = line n sg b) (h : IsL (u ++ c :: a :: w)) : c = a := by
  have al := ahead_33 (sg := sg) n12 b16
  have as := ahead_signs (n := n) hs hb
  rw [line_tail] at e
  rcases List.append_eq_append_iff.mp e with ⟨s, e1, e2⟩ | ⟨s, e1, e2⟩
  · cases s with
    | nil =>
      obtain ⟨ea, e3⟩ := List.cons.inj e2
      rw [List.append_nil] at e1
      rw [← e1] at h
      rw [ea]
      exact isl_blank hs h
    | cons x s =>
      obtain ⟨ea, e3⟩ := List.cons.inj e2
      subst ea
      cases s with
      | nil =>
        obtain ⟨ec, e4⟩ := List.cons.inj e3
        subst ec
        -- the last sign ahead of the check's blank
        have h' : IsL ((u ++ [32]) ++ a :: w) := by
          rw [List.append_assoc]
          exact h
        by_cases bn : b = []
        · subst bn
          have e5 : ahead n sg [] = ((numL n ++ [sg]) ++ 32 :: numL ((numL n).length + 0)) ++ [32] := by
            rw [ahead_eq]
            simp only [List.append_assoc, List.cons_append, List.length_nil]
          rw [e5] at e1
          exact ((snoc_inj e1.symm).2).symm
        · obtain ⟨b0, x, eb⟩ : ∃ b0 x, b = b0 ++ [x] := ⟨b.dropLast, b.getLast bn, (List.dropLast_concat_getLast bn).symm⟩
          have e5 : ahead n sg b = ((numL n ++ [sg]) ++ 32 :: (numL ((numL n).length + b.length) ++ 32 :: b0)) ++ [x] := by
            rw [ahead_eq]
            obtain ⟨mm, em⟩ : ∃ mm, (numL n).length + b.length = mm := ⟨_, rfl⟩
            rw [em, eb]
            simp only [List.cons_append, List.append_assoc, List.nil_append]
          rw [e5] at e1
          obtain ⟨e6, e7⟩ := snoc_inj e1
          rw [← e6] at h
          have h2 : IsL ((numL n ++ [sg]) ++ 32 :: (numL ((numL n).length + b.length) ++ 32 :: (b0 ++ 32 :: a :: w))) := by
            have := h
            simp only [List.append_assoc, List.cons_append] at this ⊢
            exact this
          obtain ⟨b', l, e8⟩ := isl_body (sgn_ne hs) h2
          have e9 : (b0 ++ [32]) ++ a :: w = b' ++ 32 :: numL (chk (ahead n sg b')) := by
            rw [← e8]
            simp only [List.cons_append, List.nil_append, List.append_assoc]
          have l2 : (b0 ++ [32]).length = b'.length := by
            rw [l, eb, List.length_append, List.length_append]
            rfl
          exact ((List.cons.inj (List.append_inj e9 l2).2).1).symm
      | cons y s =>
        obtain ⟨ec, e4⟩ := List.cons.inj e3
        subst ec
        rw [e4] at h
        have h' : IsL ((u ++ c :: a :: s) ++ 32 :: numL (chk (ahead n sg b))) := by
          rw [List.append_assoc]
          exact h
        have z := isl_last h'
        rw [e1, List.length_append, List.length_cons, List.length_cons] at al
        rw [e1] at as z
        have q := same_sum (by rw [List.length_append, List.length_cons, List.length_cons]; omega) (by rw [List.length_append, List.length_cons, List.length_cons]; omega) (fun x hx => (as x hx).2) (fun x hx => (as x (by
          simp only [List.mem_append, List.mem_cons] at hx ⊢
          rcases hx with hx | hx | hx | hx
          · exact .inl hx
          · exact .inr (.inr (.inl hx))
          · exact .inr (.inl hx)
          · exact .inr (.inr (.inr hx)))).2) z
        rw [wsum_app, wsum_app] at q
        have q2 : wsum (1 + u.length) (a :: c :: s) = (1 + u.length) * a + ((1 + u.length + 1) * c + wsum (1 + u.length + 1 + 1) s) := rfl
        have q4 : wsum (1 + u.length) (c :: a :: s) = (1 + u.length) * c + ((1 + u.length + 1) * a + wsum (1 + u.length + 1 + 1) s) := rfl
        rw [q2, q4, Nat.add_mul (1 + u.length) 1 c, Nat.add_mul (1 + u.length) 1 a] at q
        omega
  · cases s with
    | nil =>
      rw [List.append_nil] at e1
      obtain ⟨ea, e3⟩ := List.cons.inj e2
      rw [e1] at h
      rw [← ea]
      exact isl_blank hs h
    | cons x s =>
      obtain ⟨ea, e3⟩ := List.cons.inj e2
      subst ea
      rw [e1] at h
      have h' : IsL (ahead n sg b ++ 32 :: (s ++ c :: a :: w)) := by
        exact Eq.mp (congrArg IsL (List.append_assoc _ _ _)) h
      have z := isl_tail (sgn_ne hs) h'
      rw [e3] at z
      exact (List.cons.inj (List.append_cancel_left z)).1
end
end Tg

/-! enumerate(zip(a, b)) and enumerate(zip(a, b), start=k), a and b lists -/
namespace Tg
open PySem PySem.Spec PyProof.Rows L2
/-- a zip, by the two fields of the tuple that it gave out -/
abbrev ZRec (h : Heap) (z TI TO : Addr) (f0 : Value) (f1 : Bool) : Prop := h.get? z = some { cls := .type "zip", dict := none, data := .fields #[f0, .bool f1, .bool false, .ref TI, .ref TO], slots := #[] }
/-- its tuple may stand, be gone, or never have been -/
def ZAny (h : Heap) (z TI TO : Addr) : Prop := ∃ f0 f1, ZRec h z TI TO f0 f1 ∧ (f0 = .none ∨ ∃ T : Addr, f0 = rawInt T)
/-- what next of a zip, and of an enumerate, runs; a value given back -/
abbrev runZ (z : Addr) := Builtin.«zip.__next__» ⟨[.ref z], []⟩
abbrev runE (e : Addr) := Builtin.«enumerate.__next__» ⟨[.ref e], []⟩
abbrev Back (Q : Value → Shared → Prop) : Fin → Shared → Prop := fun f s2 => ∃ v, f = .done (.ret v) ∧ Q v s2
section
variable {prog : Program} {w : World} {A : Around} {E : Value → Shared → Prop} {s : Shared} {z TI TO i1 i2 a b : Addr} {f0 : Value} {f1 : Bool}
/-- a field of a record, as the first step -/
theorem fstep {β : Type} {q : Addr} {i : Nat} {o : Obj} {fs : Array Value} {x : Value} {go : Value → Sem β} {Q : β → Shared → Prop} (h : s.heap.get? q = some o) (hd : o.data = .fields fs) (hx : fs[i]? = some x) (k : wpAny (model prog w) A (go x) Q E s) : wpAny (model prog w) A (field (.ref q) i >>= go) Q E s := wpAny_bind (wpAny_field h hd hx k)
theorem dead_load {T : Addr} {Q : Option Obj → Shared → Prop} (hT : s.heap.get? T = none) (q : Q none s) : wpAny (model prog w) A (loadIfAlive T) Q E s := by
  have q' : Q (s.heap.get? T) s := by
    rw [hT]
    exact q
  exact fun _ _ _ => q'
theorem z_free {Q : Bool → Shared → Prop} (hz : ZRec s.heap z TI TO f0 f1) (hf : f0 = .none ∨ ∃ T : Addr, f0 = rawInt T ∧ s.heap.get? T = none) (q : Q true s) : wpAny (model prog w) A (Builtin.SmallTypes.ownedTupleIsFree (.ref z)) Q E s := by
  rcases hf with rfl | ⟨T, rfl, hT⟩
  · exact fstep (q := z) (i := 0) (x := .none) hz rfl rfl (wpAny_pure q)
  · refine fstep (q := z) (i := 0) (x := rawInt T) hz rfl rfl (wpAny_bind (m := loadIfAlive (T : Int).toNat) ?_)
    rw [Int.toNat_natCast]
    exact dead_load hT (wpAny_pure q)
theorem z_item0 {j : Nat} {xs ys : Array Value} {x y u v : Value} {Q : Value → Shared → Prop} (P : ZipApart z TI TO i1 i2 a b) (hz : ZRec s.heap z TI TO f0 f1) (hf : f0 = .none ∨ ∃ T : Addr, f0 = rawInt T ∧ s.heap.get? T = none)
    (pI : IsPair s.heap TI (.ref i1) (.ref i2)) (pO : IsPair s.heap TO u v) (t1 : s.heap.IsListIter i1 a j) (t2 : s.heap.IsListIter i2 b j) (l1 : s.heap.IsList a xs) (l2 : s.heap.IsList b ys) (gx : xs[j]? = some x) (gy : ys[j]? = some y)
    (told : ∀ h', ZAny h' z TI TO → (∃ u v, IsPair h' TO u v) → h'.IsListIter i1 a (j + 1) → h'.IsListIter i2 b (j + 1) → IsPair h' s.heap.objs.size x y → h'.objs.size = s.heap.objs.size + 1 → (∀ c o, c ≠ z → c ≠ TO → c ≠ i1 → c ≠ i2 → s.heap.get? c = some o → h'.get? c = some o) → Q (.ref s.heap.objs.size) { s with heap := h' }) :
    wpAny (model prog w) A (runZ z) (Back Q) E s := by
  refine fstep (q := z) (i := 2) (x := .bool false) hz rfl rfl ?_
  refine fstep (q := z) (i := 3) (x := .ref TI) hz rfl rfl (wpAny_bind (wpAny_seqItems pI rfl ?_))
  refine wpAny_bind (m := Builtin.SmallTypes.ownedTupleIsFree (.ref z)) (z_free hz hf ?_)
  simp only [if_true]
  refine wpAny_bind (wpAny_rule (wpAny_bind (wpAny_field hz rfl (x := .ref TO) rfl (wpAny_bind (wpAny_setField_rec hz (by simp) fun g1 z1 b1 => ?_)))))
  replace z1 : ZRec g1 z TI TO .ellipsis f1 := z1
  refine wpAny_bind ?_
  simp only [List.forIn_nil, List.forIn_cons, List.zipIdx_nil, List.zipIdx_cons]
  refine wpAny_bind (wpAny_bind (wpAny_onRaise (wpAny_bind (m := Builtin.SmallTypes.nextOf (.ref i1)) ?_)))
  refine (wpAny_nextOf_list_item (t1.extBut b1.extBut P.i1z) (l1.extBut b1.extBut P.l1z) gx fun g2 t1' b2 => wpAny_pure ?_)
  have o2 : IsPair g2 TO u v := b2.extBut _ _ P.TOi1 (b1.extBut _ _ P.TOz pO)
  refine wpAny_bind (wpAny_seqItems o2 rfl (wpAny_bind (wpAny_updateSeq_pair o2 fun g3 o3 b3 => ?_)))
  replace o3 : IsPair g3 TO x v := o3
  refine wpAny_bind (wpAny_letGo (wpAny_pure (wpAny_bind (wpAny_bind (wpAny_onRaise (wpAny_bind (m := Builtin.SmallTypes.nextOf (.ref i2)) ?_))))))
  have t2' := ((t2.extBut b1.extBut P.i2z).extBut b2.extBut P.i12.symm).extBut b3.extBut P.TOi2.symm
  have l2' := ((l2.extBut b1.extBut P.l2z).extBut b2.extBut P.l2i1).extBut b3.extBut P.l2TO
  refine (wpAny_nextOf_list_item t2' l2' gy fun g4 t2'' b4 => wpAny_pure ?_)
  have o4 : IsPair g4 TO x v := b4.extBut _ _ P.TOi2 o3
  refine wpAny_bind (wpAny_seqItems o4 rfl (wpAny_bind (wpAny_updateSeq_pair o4 fun g5 o5 b5 => ?_)))
  replace o5 : IsPair g5 TO x y := o5
  refine wpAny_bind (wpAny_letGo (wpAny_pure (wpAny_pure (wpAny_bind (wpAny_seqItems o5 rfl (wpAny_bind (wpAny_newTuple ?_)))))))
  have size5 : g5.objs.size = s.heap.objs.size := by rw [b5.1, b4.1, b3.1, b2.1, b1.1]
  have z5 : ZRec g5 z TI TO .ellipsis f1 := b5.extBut _ _ P.TOz.symm (b4.extBut _ _ P.i2z.symm (b3.extBut _ _ P.TOz.symm (b2.extBut _ _ P.i1z.symm z1)))
  have zl : z < g5.objs.size := Heap.lt_size z5
  show wpAny _ _ (Builtin.SmallTypes.ownedTupleHandOut (.ref z) (.ref g5.objs.size) >>= _) _ _ _
  refine wpAny_bind ?_
  delta Builtin.SmallTypes.ownedTupleHandOut
  have z6 : ZRec (g5.push { cls := .type "tuple", data := .seq #[x, y] }) z TI TO .ellipsis f1 := Heap.get?_push_of_some _ z5
  refine wpAny_bind (wpAny_setField_rec z6 (by simp) fun g7 z7 b7 => ?_)
  replace z7 : ZRec g7 z TI TO (rawInt g5.objs.size) f1 := z7
  refine wpAny_setField_rec z7 (by simp) fun g8 z8 b8 => wpAny_pure ⟨_, rfl, ?_⟩
  replace z8 : ZRec g8 z TI TO (rawInt g5.objs.size) false := z8
  have up : ∀ c o, c ≠ z → g5.get? c = some o → g8.get? c = some o := fun c o ne q => b8.extBut _ _ ne (b7.extBut _ _ ne (Heap.get?_push_of_some _ q))
  have new : IsPair g8 g5.objs.size x y := b8.extBut _ _ (Nat.ne_of_gt zl) (b7.extBut _ _ (Nat.ne_of_gt zl) (Heap.get?_push_size _ rfl))
  have size8 : g8.objs.size = g5.objs.size + 1 := by rw [b8.1, b7.1, Heap.size_push]
  show Q (.ref g5.objs.size) _
  rw [size5] at new size8 ⊢
  exact told g8 ⟨_, _, z8, .inr ⟨_, rfl⟩⟩ ⟨_, _, up _ _ P.TOz o5⟩ ((((t1'.extBut b3.extBut P.TOi1.symm).extBut b4.extBut P.i12).extBut b5.extBut P.TOi1.symm).at fun o q => up _ o P.i1z q) ((t2''.extBut b5.extBut P.TOi2.symm).at fun o q => up _ o P.i2z q) new size8
    fun c o n1 n2 n3 n4 q => up c o n1 (b5.extBut _ _ n2 (b4.extBut _ _ n4 (b3.extBut _ _ n2 (b2.extBut _ _ n3 (b1.extBut _ _ n1 q)))))
theorem z_item {j : Nat} {xs ys : Array Value} {x y u v : Value} {Q : Value → Shared → Prop} (P : ZipApart z TI TO i1 i2 a b) (hz : ZAny s.heap z TI TO)
    (pI : IsPair s.heap TI (.ref i1) (.ref i2)) (pO : IsPair s.heap TO u v) (t1 : s.heap.IsListIter i1 a j) (t2 : s.heap.IsListIter i2 b j) (l1 : s.heap.IsList a xs) (l2 : s.heap.IsList b ys) (gx : xs[j]? = some x) (gy : ys[j]? = some y)
    (told : ∀ h', ZAny h' z TI TO → (∃ u v, IsPair h' TO u v) → h'.IsListIter i1 a (j + 1) → h'.IsListIter i2 b (j + 1) → IsPair h' s.heap.objs.size x y → h'.objs.size = s.heap.objs.size + 1 → (∀ c o, c ≠ z → c ≠ TO → c ≠ i1 → c ≠ i2 → s.heap.get? c = some o → h'.get? c = some o) → Q (.ref s.heap.objs.size) { s with heap := h' }) :
    wpAny (model prog w) A (runZ z) (Back Q) E s := by
  obtain ⟨f0, f1, hr, hf⟩ := hz
  rcases hf with rfl | ⟨T, rfl⟩
  · exact z_item0 P hr (.inl rfl) pI pO t1 t2 l1 l2 gx gy told
  · cases hT : s.heap.get? T with
    | none => exact z_item0 P hr (.inr ⟨T, rfl, hT⟩) pI pO t1 t2 l1 l2 gx gy told
    | some oT => exact zip_next_item_held P hr hT pI t1 t2 l1 l2 gx gy fun h' k1 k2 k3 k4 k5 k6 => told h' ⟨_, _, k1, .inr ⟨T, rfl⟩⟩ ⟨u, v, k6 _ _ P.TOz P.TOi1 P.TOi2 pO⟩ k2 k3 k4 k5 fun c o n1 _ n3 n4 q => k6 c o n1 n3 n4 q
theorem z_end0 {j : Nat} {xs ys : Array Value} {u v : Value} {Q : Fin → Shared → Prop} (hh : A.handled = none) (P : ZipApart z TI TO i1 i2 a b) (hz : ZRec s.heap z TI TO f0 f1) (hf : f0 = .none ∨ ∃ T : Addr, f0 = rawInt T ∧ s.heap.get? T = none)
    (pI : IsPair s.heap TI (.ref i1) (.ref i2)) (pO : IsPair s.heap TO u v) (t1 : s.heap.IsListIter i1 a j) (t2 : s.heap.IsListIter i2 b j) (l1 : s.heap.IsList a xs) (l2 : s.heap.IsList b ys) (over : xs[j]? = none ∨ ys[j]? = none)
    (told : ∀ h' e, (∀ c o, c ≠ z → c ≠ TO → c ≠ i1 → c ≠ i2 → s.heap.get? c = some o → h'.get? c = some o) → (∃ o, h'.get? e = some o ∧ o.cls = .type "StopIteration") → E (.ref e) { s with heap := h' }) :
    wpAny (model prog w) A (runZ z) Q E s := by
  refine fstep (q := z) (i := 2) (x := .bool false) hz rfl rfl ?_
  refine fstep (q := z) (i := 3) (x := .ref TI) hz rfl rfl (wpAny_bind (wpAny_seqItems pI rfl ?_))
  refine wpAny_bind (m := Builtin.SmallTypes.ownedTupleIsFree (.ref z)) (z_free hz hf ?_)
  simp only [if_true]
  refine wpAny_bind (wpAny_rule (wpAny_bind (wpAny_field hz rfl (x := .ref TO) rfl (wpAny_bind (wpAny_setField_rec hz (by simp) fun g1 z1 b1 => ?_)))))
  replace z1 : ZRec g1 z TI TO .ellipsis f1 := z1
  refine wpAny_bind ?_
  simp only [List.forIn_nil, List.forIn_cons, List.zipIdx_nil, List.zipIdx_cons]
  refine wpAny_bind (wpAny_bind (wpAny_onRaise (wpAny_bind (m := Builtin.SmallTypes.nextOf (.ref i1)) ?_)))
  have fin : ∀ (g : Heap) (e : Addr), (∀ c o, c ≠ TO → c ≠ i1 → c ≠ i2 → g1.get? c = some o → g.get? c = some o) → (∃ o, g.get? e = some o ∧ o.cls = .type "StopIteration") → wpAny (model prog w) A (setField (.ref z) 0 .none) (fun _ s2 => E (.ref e) s2) E { s with heap := g } := fun g e hg he => by
    have zg : ZRec g z TI TO .ellipsis f1 := hg _ _ P.TOz.symm P.i1z.symm P.i2z.symm z1
    obtain ⟨oe, hoe, hce⟩ := he
    have ez : e ≠ z := fun q => by
      subst q
      rw [zg] at hoe
      cases hoe
      simp at hce
    refine wpAny_setField_rec zg (by simp) fun g' _ b' => told g' e (fun c o n1 n2 n3 n4 q => b'.extBut _ _ n1 (hg c o n2 n3 n4 (b1.extBut _ _ n1 q))) ⟨oe, b'.extBut _ _ ez hoe, hce⟩
  cases gx : xs[j]? with
  | none =>
    refine (wpAny_nextOf_list_end hh (t1.extBut b1.extBut P.i1z) (l1.extBut b1.extBut P.l1z) gx fun g2 e b2 he => ?_)
    exact fin g2 e (fun c o _ n3 _ q => b2 _ _ n3 q) he
  | some x =>
    have gy : ys[j]? = none := over.resolve_left (by rw [gx]; exact fun q => nomatch q)
    refine (wpAny_nextOf_list_item (t1.extBut b1.extBut P.i1z) (l1.extBut b1.extBut P.l1z) gx fun g2 t1' b2 => wpAny_pure ?_)
    have o2 : IsPair g2 TO u v := b2.extBut _ _ P.TOi1 (b1.extBut _ _ P.TOz pO)
    refine wpAny_bind (wpAny_seqItems o2 rfl (wpAny_bind (wpAny_updateSeq_pair o2 fun g3 o3 b3 => ?_)))
    refine wpAny_bind (wpAny_letGo (wpAny_pure (wpAny_bind (wpAny_bind (wpAny_onRaise (wpAny_bind (m := Builtin.SmallTypes.nextOf (.ref i2)) ?_))))))
    have t2' := ((t2.extBut b1.extBut P.i2z).extBut b2.extBut P.i12.symm).extBut b3.extBut P.TOi2.symm
    have l2' := ((l2.extBut b1.extBut P.l2z).extBut b2.extBut P.l2i1).extBut b3.extBut P.l2TO
    refine (wpAny_nextOf_list_end hh t2' l2' gy fun g4 e b4 he => ?_)
    exact fin g4 e (fun c o n2 n3 n4 q => b4 _ _ n4 (b3.extBut _ _ n2 (b2.extBut _ _ n3 q))) he
theorem z_end {j : Nat} {xs ys : Array Value} {u v : Value} {Q : Fin → Shared → Prop} (hh : A.handled = none) (P : ZipApart z TI TO i1 i2 a b) (hz : ZAny s.heap z TI TO)
    (pI : IsPair s.heap TI (.ref i1) (.ref i2)) (pO : IsPair s.heap TO u v) (t1 : s.heap.IsListIter i1 a j) (t2 : s.heap.IsListIter i2 b j) (l1 : s.heap.IsList a xs) (l2 : s.heap.IsList b ys) (over : xs[j]? = none ∨ ys[j]? = none)
    (told : ∀ h' e, (∀ c o, c ≠ z → c ≠ TO → c ≠ i1 → c ≠ i2 → s.heap.get? c = some o → h'.get? c = some o) → (∃ o, h'.get? e = some o ∧ o.cls = .type "StopIteration") → E (.ref e) { s with heap := h' }) :
    wpAny (model prog w) A (runZ z) Q E s := by
  obtain ⟨f0, f1, hr, hf⟩ := hz
  rcases hf with rfl | ⟨T, rfl⟩
  · exact z_end0 hh P hr (.inl rfl) pI pO t1 t2 l1 l2 over told
  · cases hT : s.heap.get? T with
    | none => exact z_end0 hh P hr (.inr ⟨T, rfl, hT⟩) pI pO t1 t2 l1 l2 over told
    | some oT => exact zip_next_end_held hh P hr hT pI t1 t2 l1 l2 over fun h' e k1 k2 => told h' e (fun c o n1 _ n3 n4 q => k1 c o n1 n3 n4 q) k2
/-- a turn of enumerate over any iterator, whose own turn is told -/
theorem en_item {e it : Addr} {c : Int} {old : Value} {Mid : Value → Heap → Prop} {Q : Value → Shared → Prop} (he : IsEnum s.heap e it c old)
    (inner : ∀ Q1 : Value → Shared → Prop, (∀ x g, Mid x g → IsEnum g e it c old → Q1 x { s with heap := g }) → wpAny (model prog w) A (Builtin.SmallTypes.nextOf (.ref it)) Q1 E s)
    (told : ∀ x g h', Mid x g → IsEnumOut h' e it (c + 1) x g.objs.size → h'.get? g.objs.size = some { cls := .type "tuple", data := .seq #[.int c s.toks, x] } → h'.objs.size = g.objs.size + 1 → (∀ b o, b ≠ e → g.get? b = some o → h'.get? b = some o) → Q (.ref g.objs.size) { s with heap := h', toks := s.toks + 1 }) :
    wpAny (model prog w) A (runE e) (Back Q) E s := by
  obtain ⟨hp, gn, dr, tk, os⟩ := s
  refine fstep (q := e) (i := 2) (x := .ref it) he rfl rfl (wpAny_bind (inner _ fun x g mid e1 => ?_))
  show wpAny _ _ (field (.ref e) 3 >>= _) _ _ ⟨g, gn, dr, tk, os⟩
  refine wpAny_bind (wpAny_field e1 rfl (x := rawInt c) rfl ?_)
  show wpAny _ _ (field (.ref e) 4 >>= _) _ _ ⟨g, gn, dr, tk, os⟩
  refine wpAny_bind (wpAny_field e1 rfl (x := .none) rfl ?_)
  show wpAny _ _ (mkInt c >>= _) _ _ ⟨g, gn, dr, tk, os⟩
  refine wpAny_bind (wpAny_mkInt (wpAny_bind (m := setField (.ref e) 3 (rawInt (c + 1))) ?_))
  refine (wpAny_setField_rec (s := ⟨g, gn, dr, tk + 1, os⟩) e1 (by simp) fun g2 e2 b2 => ?_)
  replace e2 : IsEnum g2 e it (c + 1) old := e2
  show wpAny _ _ (setField (.ref e) 4 .none >>= _) _ _ ⟨g2, gn, dr, tk + 1, os⟩
  refine wpAny_bind (wpAny_setField_rec e2 (by simp) fun g3 e3 b3 => ?_)
  replace e3 : IsEnum g3 e it (c + 1) old := e3
  refine wpAny_bind (m := newTuple [.int c tk, x]) (wpAny_newTuple (s := ⟨g3, gn, dr, tk + 1, os⟩) ?_)
  have same3 : g3.objs.size = g.objs.size := (b3.1).trans b2.1
  obtain ⟨g4, eg4⟩ : ∃ g4, g3.push { cls := .type "tuple", data := .seq #[.int c tk, x] } = g4 := ⟨_, rfl⟩
  have keep4 : ∀ q o, g3.get? q = some o → g4.get? q = some o := fun q o h => by
    rw [← eg4]
    exact Heap.get?_push_of_some _ h
  have tup4 : g4.get? g.objs.size = some { cls := .type "tuple", data := .seq #[.int c tk, x] } := by
    rw [← eg4, ← same3]
    exact Heap.get?_push_size g3 rfl
  have size4 : g4.objs.size = g.objs.size + 1 := by rw [← eg4, Heap.size_push, same3]
  have e4 : IsEnum g4 e it (c + 1) old := keep4 _ _ e3
  have el : e < g.objs.size := Heap.lt_size e1
  show wpAny _ _ (Builtin.SmallTypes.ownedTupleIsFree (.ref e) >>= _) _ _ ⟨g3.push _, gn, dr, tk + 1, os⟩
  rw [eg4, same3]
  refine wpAny_bind (fstep (q := e) (i := 0) (x := .none) e4 rfl rfl (wpAny_pure ?_))
  simp only [if_true]
  refine wpAny_bind (wpAny_rule (wpAny_bind (wpAny_field e4 rfl (x := old) rfl (wpAny_bind (wpAny_setField_rec e4 (by simp) fun g5 e5 b5 => ?_)))))
  replace e5 : IsEnum g5 e it (c + 1) x := e5
  show wpAny _ _ (Builtin.SmallTypes.ownedTupleHandOut (.ref e) (.ref g.objs.size) >>= _) _ _ ⟨g5, gn, dr, tk + 1, os⟩
  refine wpAny_bind ?_
  delta Builtin.SmallTypes.ownedTupleHandOut
  refine wpAny_bind (wpAny_setField_rec e5 (by simp) fun g6 e6 b6 => ?_)
  replace e6 : IsEnumOut g6 e it (c + 1) x g.objs.size := e6
  refine wpAny_setField_rec e6 (by simp) fun g7 e7 b7 => wpAny_bind (wpAny_letGo (wpAny_pure ⟨_, rfl, ?_⟩))
  replace e7 : IsEnumOut g7 e it (c + 1) x g.objs.size := e7
  have out : ∀ q o, q ≠ e → g4.get? q = some o → g7.get? q = some o := fun q o ne h => b7.extBut _ _ ne (b6.extBut _ _ ne (b5.extBut _ _ ne h))
  exact told x g g7 mid e7 (out _ _ (Nat.ne_of_gt el) tup4) (by rw [b7.1, b6.1, b5.1, size4]) fun q o ne h => out q o ne (keep4 q o (b3.extBut _ _ ne (b2.extBut _ _ ne h)))
end
end Tg

namespace Tg
open PySem PySem.Spec PyProof.Rows L2
/-- both lists stand -/
abbrev Two (K : PySem.W.Frag) (H : Hp) (a b : Addr) (xs ys : List V) : Prop := SqL K H a xs ∧ SqL K H b ys
/-- the lists at a and b as they stand, each two in a new pair, that with its place, counted from c on, in another -/
def ItEz (K : PySem.W.Frag) (a b : Addr) (c : Int) : It :=
  ⟨fun i H => ∃ (xs ys : List V) (x y : V), Two K H a b xs ys ∧ xs[i]? = some x ∧ ys[i]? = some y,
    fun i H v H' => ∃ (U T : Addr) (x y : V), v = .ref T ∧ H U = none ∧ H T = none ∧ U ≠ T ∧ H' = upd (upd H U (.tup [x, y])) T (.tup [.int (c + (i : Int)), .ref U]) ∧ (∀ xs, SqL K H a xs → xs[i]? = some x) ∧ ∀ ys, SqL K H b ys → ys[i]? = some y,
    fun i H => ∃ xs ys : List V, Two K H a b xs ys ∧ (xs.length ≤ i ∨ ys.length ≤ i)⟩
def ZT (a b e z TI TO i1 i2 : Addr) (c : Int) (i : Nat) (h : Heap) : Prop := (∃ old, IsEnum h e z (c + (i : Int)) old) ∧ ZAny h z TI TO ∧ IsPair h TI (.ref i1) (.ref i2) ∧ (∃ u v, IsPair h TO u v) ∧ h.IsListIter i1 a i ∧ h.IsListIter i2 b i
theorem z_next {prog : Program} {w : World} {A : Around} {E : Value → Shared → Prop} {s : Shared} {z TI TO i1 i2 a b : Addr} {j : Nat} {xs ys : Array Value} {x y u v : Value} {Q : Value → Shared → Prop} (P : ZipApart z TI TO i1 i2 a b) (hz : ZAny s.heap z TI TO)
    (pI : IsPair s.heap TI (.ref i1) (.ref i2)) (pO : IsPair s.heap TO u v) (t1 : s.heap.IsListIter i1 a j) (t2 : s.heap.IsListIter i2 b j) (l1 : s.heap.IsList a xs) (l2 : s.heap.IsList b ys) (gx : xs[j]? = some x) (gy : ys[j]? = some y)
    (told : ∀ h', ZAny h' z TI TO → (∃ u v, IsPair h' TO u v) → h'.IsListIter i1 a (j + 1) → h'.IsListIter i2 b (j + 1) → IsPair h' s.heap.objs.size x y → h'.objs.size = s.heap.objs.size + 1 → (∀ c o, c ≠ z → c ≠ TO → c ≠ i1 → c ≠ i2 → s.heap.get? c = some o → h'.get? c = some o) → Q (.ref s.heap.objs.size) { s with heap := h' }) :
    wpAny (model prog w) A (Builtin.SmallTypes.nextOf (.ref z)) Q E s := by
  have ty : s.TypeIs (.ref z) "zip" := by
    obtain ⟨f0, f1, hr, _⟩ := hz
    exact ⟨_, hr, rfl⟩
  delta Builtin.SmallTypes.nextOf
  refine wpAny_bind (wpAny_callSpecial?_slot (name := Str.ofString "__next__") ty F.slot_zip_next (wpAny_call_entry F.slot_zip_next ty F.entry_zip_next ?_ (F.args_zip_next_1 _)))
  exact z_item P hz pI pO t1 t2 l1 l2 gx gy fun h' k1 k2 k3 k4 k5 k6 k7 => wpAny_pure (told h' k1 k2 k3 k4 k5 k6 k7)
theorem z_over {prog : Program} {w : World} {A : Around} {E : Value → Shared → Prop} {s : Shared} {z TI TO i1 i2 a b : Addr} {j : Nat} {xs ys : Array Value} {u v : Value} {Q : Value → Shared → Prop} (hh : A.handled = none) (P : ZipApart z TI TO i1 i2 a b) (hz : ZAny s.heap z TI TO)
    (pI : IsPair s.heap TI (.ref i1) (.ref i2)) (pO : IsPair s.heap TO u v) (t1 : s.heap.IsListIter i1 a j) (t2 : s.heap.IsListIter i2 b j) (l1 : s.heap.IsList a xs) (l2 : s.heap.IsList b ys) (over : xs[j]? = none ∨ ys[j]? = none)
    (told : ∀ h' e, (∀ c o, c ≠ z → c ≠ TO → c ≠ i1 → c ≠ i2 → s.heap.get? c = some o → h'.get? c = some o) → (∃ o, h'.get? e = some o ∧ o.cls = .type "StopIteration") → E (.ref e) { s with heap := h' }) :
    wpAny (model prog w) A (Builtin.SmallTypes.nextOf (.ref z)) Q E s := by
  have ty : s.TypeIs (.ref z) "zip" := by
    obtain ⟨f0, f1, hr, _⟩ := hz
    exact ⟨_, hr, rfl⟩
  delta Builtin.SmallTypes.nextOf
  refine wpAny_bind (wpAny_callSpecial?_slot (name := Str.ofString "__next__") ty F.slot_zip_next (wpAny_call_entry F.slot_zip_next ty F.entry_zip_next ?_ (F.args_zip_next_1 _)))
  exact z_end (A := A.in1) (by first | exact hh | (show A.in1.handled = none; exact hh)) P hz pI pO t1 t2 l1 l2 over told
theorem mem6 {q e z TI TO i1 i2 : Addr} (h : q ∈ [e, z, TI, TO, i1, i2]) : q = e ∨ q = z ∨ q = TI ∨ q = TO ∨ q = i1 ∨ q = i2 := by simpa using h
theorem mem46 {q e z TI TO i1 i2 : Addr} (h : q ∈ [z, TO, i1, i2]) : q ∈ [e, z, TI, TO, i1, i2] := by
  have h' : q = z ∨ q = TO ∨ q = i1 ∨ q = i2 := by simpa using h
  rcases h' with rfl | rfl | rfl | rfl <;> simp
theorem gt_ne {a b : Nat} (h : b < a) : (a : Addr) ≠ b := Nat.ne_of_gt h
theorem turn_enumZ {P : Program} {w : World} {K : PySem.W.Frag} {elts : List Expr} {kk : Nat} {tpos : Pos} {a b e z TI TO i1 i2 : Addr} (c : Int) (D : ZipApart z TI TO i1 i2 a b) (ez : e ≠ z) (eI : e ≠ TI) (eO : e ≠ TO) (e1 : e ≠ i1) (e2 : e ≠ i2) :
    Turn P w K (.Tuple elts kk tpos) (ItEz K a b c) [e, z, TI, TO, i1, i2] e (ZT a b e z TI TO i1 i2 c) where
  mem := List.mem_cons_self
  obj := fun i h st q hq => by
    obtain ⟨⟨old, he⟩, ⟨f0, f1, hz, _⟩, hI, ⟨u, v, hO⟩, ⟨o1, g1, _, d1⟩, ⟨o2, g2, _, d2⟩⟩ := st
    rcases mem6 hq with rfl | rfl | rfl | rfl | rfl | rfl
    · exact ⟨_, he, fun _ z => nomatch z⟩
    · exact ⟨_, hz, fun _ z => nomatch z⟩
    · exact ⟨_, hI, fun _ z => nomatch z⟩
    · exact ⟨_, hO, fun _ z => nomatch z⟩
    · exact ⟨o1, g1, fun _ z => by rw [d1] at z; cases z⟩
    · exact ⟨o2, g2, fun _ z => by rw [d2] at z; cases z⟩
  keep := fun i h h' st k => by
    obtain ⟨⟨old, he⟩, ⟨f0, f1, hz, hf⟩, hI, ⟨u, v, hO⟩, t1, t2⟩ := st
    exact ⟨⟨old, k e (by simp) _ he⟩, ⟨f0, f1, k z (by simp) _ hz, hf⟩, k TI (by simp) _ hI, ⟨u, v, k TO (by simp) _ hO⟩, t1.at fun _ q => k i1 (by simp) _ q, t2.at fun _ q => k i2 (by simp) _ q⟩
  item := by
    rintro X rfl rfl rfl hc i pins s σ H E I hf ⟨⟨old, he⟩, hz, hI, ⟨u0, v0, hO⟩, t1, t2⟩ ⟨xs, ys, x, y, ⟨hqx, hqy⟩, hx, hy⟩
    obtain ⟨m1, rv1, p1, _⟩ := I.list hqx
    obtain ⟨m2, rv2, p2, _⟩ := I.list hqy
    obtain ⟨⟨u1, hu1, ru1⟩, ⟨u2, hu2, ru2⟩⟩ := And.intro (rv1.get hx) (rv2.get hy)
    have ty : s.TypeIs (.ref e) "enumerate" := ⟨_, he, rfl⟩
    have el : e < s.heap.objs.size := Heap.lt_size he
    have cells : ∀ q, q ∈ [e, z, TI, TO, i1, i2] → q < s.heap.objs.size := fun q hq => by
      obtain ⟨f0, f1, hz, _⟩ := hz
      rcases mem6 hq with rfl | rfl | rfl | rfl | rfl | rfl
      · exact el
      · exact Heap.lt_size hz
      · exact Heap.lt_size hI
      · exact Heap.lt_size hO
      · obtain ⟨_, g1, _⟩ := t1
        exact Heap.lt_size g1
      · obtain ⟨_, g2, _⟩ := t2
        exact Heap.lt_size g2
    unfold pyNext
    refine wpAny_bind (wpAny_attempt (wpAny_callSpecial?_slot (name := Str.ofString "__next__") ty F.slot_enumerate_next (wpAny_call_entry F.slot_enumerate_next ty F.entry_enumerate_next
      (en_item (Mid := fun v g => v = .ref s.heap.objs.size ∧ ZAny g z TI TO ∧ (∃ u v, IsPair g TO u v) ∧ g.IsListIter i1 a (i + 1) ∧ g.IsListIter i2 b (i + 1) ∧ IsPair g s.heap.objs.size u1 u2 ∧ g.objs.size = s.heap.objs.size + 1 ∧ ∀ c o, c ≠ z → c ≠ TO → c ≠ i1 → c ≠ i2 → s.heap.get? c = some o → g.get? c = some o) he
        (fun Q1 told => z_next D hz hI hO t1 t2 p1.isList p2.isList (x := u1) (y := u2) (by simpa using hu1) (by simpa using hu2) fun g k1 k2 k3 k4 k5 k6 k7 => told _ g ⟨rfl, k1, k2, k3, k4, k5, k6, k7⟩ (k7 _ _ ez eO e1 e2 he))
        fun v g h' mid out hT hsz hk => wpAny_pure ?_) (F.args_enumerate_next_1 _))))
    obtain ⟨rfl, k1, k2, k3, k4, k5, k6, k7⟩ := mid
    rw [k6] at hT hsz out
    refine ⟨_, rfl, wpAny_letOwnedTupleGo_enum (s := { s with heap := h', toks := s.toks + 1 }) (by rw [k6]; exact out) fun h2 he2 sb => ?_⟩
    have up : ∀ q o, q ≠ e → g.get? q = some o → h2.get? q = some o := fun q o ne h => sb.extBut _ _ ne (hk q o ne h)
    have ne1 : s.heap.objs.size ≠ e := Nat.ne_of_gt el
    have ne2 : s.heap.objs.size + 1 ≠ e := Nat.ne_of_gt (Nat.lt_succ_of_lt el)
    have n1 : ObjOk X.prog X.w (upd H s.heap.objs.size (.tup [x, y])) g s.heap.objs.size (.tup [x, y]) := ⟨by show 2 ≤ sizeLine; decide, [u1, u2], .cons ru1 (.cons ru2 .nil), ⟨_, k5, rfl, _, rfl⟩⟩
    have I1 : Inv X pins σ (upd H s.heap.objs.size (.tup [x, y])) { s with heap := g } := I.turnedNew (t' := s.toks) (ch := [z, TO, i1, i2]) (fun q o hb h => k7 q o (fun y => hb (by simp [y])) (fun y => hb (by simp [y])) (fun y => hb (by simp [y])) (fun y => hb (by simp [y])) h) (fun q hq => hf q (mem46 hq)) (Nat.le_refl _) n1
    have hT2 : h2.get? (s.heap.objs.size + 1) = some { cls := .type "tuple", data := .seq #[.int (c + (i : Int)) s.toks, .ref s.heap.objs.size] } := sb.extBut _ _ ne2 hT
    have n2 : ObjOk X.prog X.w (upd (upd H s.heap.objs.size (.tup [x, y])) (s.heap.objs.size + 1) (.tup [.int (c + (i : Int)), .ref s.heap.objs.size])) h2 (s.heap.objs.size + 1) (.tup [.int (c + (i : Int)), .ref s.heap.objs.size]) :=
      ⟨by show 2 ≤ sizeLine; decide, [.int (c + (i : Int)) s.toks, .ref s.heap.objs.size], .cons ⟨_, rfl⟩ (.cons rfl .nil), ⟨_, hT2, rfl, _, rfl⟩⟩
    have fe : FpOk X pins (upd H s.heap.objs.size (.tup [x, y])) e := ⟨by rw [upd_ne ne1.symm]; exact (hf e (by simp)).1, (hf e (by simp)).2⟩
    have I2 : Inv X pins σ (upd (upd H s.heap.objs.size (.tup [x, y])) (s.heap.objs.size + 1) (.tup [.int (c + (i : Int)), .ref s.heap.objs.size])) { s with heap := h2, toks := s.toks + 1 } :=
      I1.turnedNew (t' := s.toks + 1) (ch := [e]) (fun q o hb h => up q o (fun y => hb (by simp [y])) h) (fun q hq => by rw [List.mem_singleton.mp hq]; exact fe) (by show g.objs.size ≤ _; omega) n2
    refine ⟨.ref (s.heap.objs.size + 1), _, I2, by rw [k6]; rfl, ⟨s.heap.objs.size, s.heap.objs.size + 1, x, y, rfl, I.hok.fresh (Nat.le_refl _), I.hok.fresh (Nat.le_succ _), Nat.ne_of_lt (Nat.lt_succ_self _), rfl, fun l hl => by rw [I.list_inj hl hqx]; exact hx, fun l hl => by rw [I.list_inj hl hqy]; exact hy⟩, ⟨⟨.ref s.heap.objs.size, ?_⟩, ?_, ?_, ?_, ?_, ?_⟩, fun q hq => ?_⟩
    · have e0 : c + ((i + 1 : Nat) : Int) = c + (i : Int) + 1 := by omega
      rw [e0]
      exact he2
    · obtain ⟨f0, f1, hr, hf0⟩ := k1
      exact ⟨f0, f1, up _ _ ez.symm hr, hf0⟩
    · exact up _ _ eI.symm (k7 _ _ D.TIz D.TITO D.TIi1 D.TIi2 hI)
    · obtain ⟨u, v, hp⟩ := k2
      exact ⟨u, v, up _ _ eO.symm hp⟩
    · exact k3.at fun _ h => up _ _ e1.symm h
    · exact k4.at fun _ h => up _ _ e2.symm h
    · have lt := cells q hq
      rw [upd_ne (Nat.ne_of_lt (Nat.lt_succ_of_lt lt)), upd_ne (Nat.ne_of_lt lt)]
      exact (hf q hq).1
  done := by
    rintro X rfl rfl rfl hc i pins s σ H E I hf ⟨⟨old, he⟩, hz, hI, ⟨u0, v0, hO⟩, t1, t2⟩ ⟨xs, ys, ⟨hqx, hqy⟩, over⟩
    obtain ⟨m1, rv1, p1, _⟩ := I.list hqx
    obtain ⟨m2, rv2, p2, _⟩ := I.list hqy
    have ty : s.TypeIs (.ref e) "enumerate" := ⟨_, he, rfl⟩
    have ll1 := rv1.length
    have ll2 := rv2.length
    have no : m1.toArray[i]? = none ∨ m2.toArray[i]? = none := over.imp (fun q => by simp; omega) (fun q => by simp; omega)
    unfold pyNext
    refine wpAny_bind (wpAny_attempt (wpAny_callSpecial?_slot (name := Str.ofString "__next__") ty F.slot_enumerate_next (wpAny_call_entry F.slot_enumerate_next ty F.entry_enumerate_next ?_ (F.args_enumerate_next_1 _))))
    refine fstep (q := e) (i := 2) (x := .ref z) he rfl rfl (wpAny_bind (z_over (A := X.A.in1) (I.ok.hd hc) D hz hI hO t1 t2 p1.isList p2.isList no fun h' x keeps stop => ?_))
    obtain ⟨o, ho, hcl⟩ := stop
    refine wpAny_bind (wpAny_isInstance (T := "StopIteration") (b := true) ⟨o, ho, hcl⟩ isSubtype_stop (wpAny_pure ⟨rfl, ?_⟩))
    exact I.turnedL (t' := s.toks) (ch := [z, TO, i1, i2]) (fun q o hb h => keeps q o (fun y => hb (by simp [y])) (fun y => hb (by simp [y])) (fun y => hb (by simp [y])) (fun y => hb (by simp [y])) h) (fun q hq => hf q (mem46 hq))
  self := fun A i s Q E st q => by
    obtain ⟨⟨_, he⟩, _⟩ := st
    exact wpAny_pyIter_enum he q
theorem walk_enumZ {K : PySem.W.Frag} {a b : Addr} {c : Int} {xs ys : List V} {n : Nat} (hn : n = min xs.length ys.length) : Walk (ItEz K a b c) n (fun H => SqL K H a xs ∧ SqL K H b ys) (fun i H v H' => ∃ (U T : Addr) (x y : V), v = .ref T ∧ H U = none ∧ H T = none ∧ U ≠ T ∧ H' = upd (upd H U (.tup [x, y])) T (.tup [.int (c + (i : Int)), .ref U]) ∧ xs[i]? = some x ∧ ys[i]? = some y) := by
  subst hn
  refine ⟨fun i _ hi q => ?_, fun _ q => ⟨xs, ys, q, by omega⟩, fun i H v H' _ q y => ?_⟩
  · have g1 : i < xs.length := by omega
    have g2 : i < ys.length := by omega
    exact ⟨xs, ys, _, _, q, List.getElem?_eq_getElem g1, List.getElem?_eq_getElem g2⟩
  · obtain ⟨U, T, x, z, h1, h2, h3, h4, h5, h6, h7⟩ := y
    exact ⟨U, T, x, z, h1, h2, h3, h4, h5, h6 xs q.1, h7 ys q.2⟩
section
set_option maxHeartbeats 1000000
theorem enz_new (z TI TO : Addr) :
    Meets (Builtin.«enumerate.__new__» ⟨[.type "enumerate", .ref z], []⟩) (fun _ R s => IsZip s.heap z TI TO .none ∧ R (.ok (.ret (.ref s.heap.objs.size))) { s with heap := s.heap.push { cls := .type "enumerate", data := .fields #[.none, .bool false, .ref z, rawInt 0, .none, .none] } }) :=
  .of_wp fun prog w A R s want => by
    obtain ⟨hp, g, d, tk, os⟩ := s; obtain ⟨hz, want⟩ := want
    have isub := sub_enumerate
    have it0 : ∀ {A' : Around} {E : Value → Shared → Prop} {Q : Value → Shared → Prop}, Q (.ref z) ⟨hp, g, d, tk, os⟩ → wpAny (model prog w) A' (pyIter (.ref z)) Q E ⟨hp, g, d, tk, os⟩ := fun q => wpAny_pyIter_zip hz q
    wp_walk using it0
    apply wpAny_stack_any; intro fr; apply wpAny_pure
    split
    · rename_i c _ _ _ _ _
      cases (c == Value.type "enumerate") <;> (wp_walk using it0; exact ⟨_, rfl, want⟩)
    · wp_walk using it0; exact ⟨_, rfl, want⟩
theorem enz_newK (z TI TO : Addr) (k : Int) (t : Tok) (fits : Builtin.SmallTypes.fitsIndex k = true) :
    Meets (Builtin.«enumerate.__new__» ⟨[.type "enumerate", .ref z], [(Str.ofString "start", .int k t)]⟩) (fun _ R s => IsZip s.heap z TI TO .none ∧ R (.ok (.ret (.ref s.heap.objs.size))) { s with heap := s.heap.push { cls := .type "enumerate", data := .fields #[.none, .bool false, .ref z, rawInt k, .none, .none] } }) :=
  .of_wp fun prog w A R s want => by
    obtain ⟨hp, g, d, tk, os⟩ := s; obtain ⟨hz, want⟩ := want
    have isub := sub_enumerate
    have nf : (!Builtin.SmallTypes.fitsIndex k) = false := by rw [fits]; rfl
    have it0 : ∀ {A' : Around} {E : Value → Shared → Prop} {Q : Value → Shared → Prop}, Q (.ref z) ⟨hp, g, d, tk, os⟩ → wpAny (model prog w) A' (pyIter (.ref z)) Q E ⟨hp, g, d, tk, os⟩ := fun q => wpAny_pyIter_zip hz q
    have w1 : (Str.ofString "start" == ("start" : Str)) = true := by decide +kernel
    have w2 : (Str.ofString "start" != ("start" : Str)) = false := by decide +kernel
    have w3 : (Str.ofString "start" != ("iterable" : Str)) = true := by decide +kernel
    have w4 : (("start" : Str) == Str.ofString "start") = true := by decide +kernel
    have w5 : (("iterable" : Str) == Str.ofString "start") = false := by decide +kernel
    wp_walk using it0
    apply wpAny_stack_any; intro fr; apply wpAny_pure
    split
    · rename_i c _ _ _ _ _
      cases (c == Value.type "enumerate") <;> (wp_walk using it0; exact ⟨_, rfl, want⟩)
    · wp_walk using it0; exact ⟨_, rfl, want⟩
end
section
variable {prog : Program} {w : World} {A : Around} {E : Value → Shared → Prop} {s : Shared}
theorem enz_made {z TI TO : Addr} {Q : Value → Shared → Prop} (hz : IsZip s.heap z TI TO .none)
    (h : ∀ h', IsEnum h' s.heap.objs.size z 0 .none → (∀ b o, s.heap.get? b = some o → h'.get? b = some o) → Q (.ref s.heap.objs.size) { s with heap := h' }) : wpAny (model prog w) A (call (.type "enumerate") [.ref z]) Q E s := by
  refine callType_new F.called_enumerate (by decide) (F.typeCall_enumerate_1 _) (F.newCall_enumerate_1 _) (fun obj => F.args_object_init_2 obj _) F.entry_enumerate_new (enz_new z TI TO) ⟨hz, ?_⟩
  have he : IsEnum (s.heap.push { cls := .type "enumerate", data := .fields #[.none, .bool false, .ref z, rawInt 0, .none, .none] }) s.heap.objs.size z 0 .none := Heap.get?_push_size _ rfl
  exact ⟨⟨_, he, rfl⟩, h _ he fun b o x => Heap.get?_push_of_some _ x⟩
theorem enz_madeK {z TI TO : Addr} {k : Int} {t : Tok} {Q : Value → Shared → Prop} (hz : IsZip s.heap z TI TO .none) (k0 : -(2 ^ 63) ≤ k) (k1 : k < 2 ^ 63)
    (h : ∀ h', IsEnum h' s.heap.objs.size z k .none → (∀ b o, s.heap.get? b = some o → h'.get? b = some o) → Q (.ref s.heap.objs.size) { s with heap := h' }) : wpAny (model prog w) A (call (.type "enumerate") [.ref z] [(Str.ofString "start", .int k t)]) Q E s := by
  refine callType_newKw F.called_enumerate (by decide) (F.typeCall_enumerate_start _ _) (F.newCall_enumerate_start _ _) (fun obj => F.args_object_init_start obj _ _) F.entry_enumerate_new (enz_newK z TI TO k t (fits_start k0 k1)) ⟨hz, ?_⟩
  have he : IsEnum (s.heap.push { cls := .type "enumerate", data := .fields #[.none, .bool false, .ref z, rawInt k, .none, .none] }) s.heap.objs.size z k .none := Heap.get?_push_size _ rfl
  exact ⟨⟨_, he, rfl⟩, h _ he fun b o x => Heap.get?_push_of_some _ x⟩
end
def iEnumZ (K : PySem.W.Frag) (ta : TA) : TI := fun σ H R => ta σ H fun vs H1 => ∃ a b xs ys, vs = [.ref a, .ref b] ∧ SqL K H1 a xs ∧ SqL K H1 b ys ∧ R (ItEz K a b 0) H1
def iEnumZK (K : PySem.W.Frag) (ta : TA) (tk : TE) : TI := fun σ H R => ta σ H fun vs H1 => ∃ a b xs ys, vs = [.ref a, .ref b] ∧ SqL K H1 a xs ∧ SqL K H1 b ys ∧ tk σ H1 fun c H2 => ∃ k : Int, c = .int k ∧ -(2 ^ 63) ≤ k ∧ k < 2 ^ 63 ∧ R (ItEz K a b k) H2
section
variable {X : Cx} {e e2 ke : Expr} {ta : TA} {tk : TE} {p p2 pos pos2 tpos kpos : Pos} {elts : List Expr} {kk : Nat}
theorem pi_enumZ (gl : Gl X "enumerate") (nl : X.mg "enumerate" = none) (gz : Gl X "zip") (nz : X.mg "zip" = none) (args : PA X [e, e2] ta)
    (star : starEach [e, e2] X.env = (false, eval e X.env) :: starEach [e2] X.env := by rfl) (plain : (backTo pos2 (starEach [e2] X.env)).any (·.1) = false := by rfl)
    (whole : starEach [.Call (.Name "zip" p2) [e, e2] [] pos2] X.env = (false, eval (.Call (.Name "zip" p2) [e, e2] [] pos2) X.env) :: starEach [] X.env := by rfl) :
    PI X (.Tuple elts kk tpos) (.Call (.Name "enumerate" p) [.Call (.Name "zip" p2) [e, e2] [] pos2] [] pos) (iEnumZ X.K ta) := by
  constructor
  intro pins s σ H R I told
  refine Call_ (ld_blt I gl nl boot_enumerate (PyProof.Rows.callWith_type1 (args_cons (Call_ (ld_blt I gz nz boot_zip (PyProof.Rows.callWith_type1 (thn (args.run pos2 pins s σ H _ I told) fun us s1 come => ?_) star plain))) whole) whole))
  obtain ⟨_, H1, I1, r1, a, b, xs, ys, rfl, hqx, hqy, q⟩ := come
  obtain ⟨u1, u2, rfl, ra, rb⟩ := vals2 r1
  cases ra
  cases rb
  obtain ⟨l1, rv1, p1, _⟩ := I1.list hqx
  obtain ⟨l2, rv2, p2, _⟩ := I1.list hqy
  have la := p1.lt
  have lb := p2.lt
  refine call_zip_2 p1.isList p2.isList fun h' hz hTI hTO t1 t2 hsz hk => args_nil (enz_made (s := { s1 with heap := h' }) hz fun h2 he hk2 => wpAny_pyIter_enum he ?_)
  have sz : ({ s1 with heap := h' } : Shared).heap.objs.size = s1.heap.objs.size + 5 := hsz
  rw [sz] at he ⊢
  have I2 : Inv X pins σ H1 { s1 with heap := h2 } := I1.kept (t' := s1.toks) fun b u x => hk2 b u (hk b u x)
  refine ⟨s1.heap.objs.size + 5, [s1.heap.objs.size + 5, s1.heap.objs.size + 4, s1.heap.objs.size + 2, s1.heap.objs.size + 3, s1.heap.objs.size, s1.heap.objs.size + 1], _, _, H1, rfl, I2,
    turn_enumZ 0 (PySem.W.ktu_apart s1.heap.objs.size a b la lb) (gt_ne (by omega)) (gt_ne (by omega)) (gt_ne (by omega)) (gt_ne (by omega)) (gt_ne (by omega)), ⟨⟨.none, he⟩, ⟨.none, false, hk2 _ _ hz, .inl rfl⟩, hk2 _ _ hTI, ⟨_, _, hk2 _ _ hTO⟩, t1.at fun _ x => hk2 _ _ x, t2.at fun _ x => hk2 _ _ x⟩, fun d hd => ?_, q⟩
  have late : s1.heap.objs.size ≤ d := by
    rcases mem6 hd with rfl | rfl | rfl | rfl | rfl | rfl <;> omega
  exact I1.fpOk late (I1.hok.fresh late)
theorem pi_enumZK (gl : Gl X "enumerate") (nl : X.mg "enumerate" = none) (gz : Gl X "zip") (nz : X.mg "zip" = none) (args : PA X [e, e2] ta) (hk : PE X ke tk)
    (star : starEach [e, e2] X.env = (false, eval e X.env) :: starEach [e2] X.env := by rfl) (plain : (backTo pos2 (starEach [e2] X.env)).any (·.1) = false := by rfl)
    (whole : starEach [.Call (.Name "zip" p2) [e, e2] [] pos2] X.env = (false, eval (.Call (.Name "zip" p2) [e, e2] [] pos2) X.env) :: starEach [] X.env := by rfl) :
    PI X (.Tuple elts kk tpos) (.Call (.Name "enumerate" p) [.Call (.Name "zip" p2) [e, e2] [] pos2] [⟨some "start", ke, kpos⟩] pos) (iEnumZK X.K ta tk) := by
  constructor
  intro pins s σ H R I told
  refine wpAny_Call_Name_kw (ld_blt I gl nl boot_enumerate (type_kw (args_cons (Call_ (ld_blt I gz nz boot_zip (PyProof.Rows.callWith_type1 (thn (args.run pos2 pins s σ H _ I told) fun us s1 come => ?_) star plain))) whole) (by rw [whole]; rfl) (by rw [whole]; rfl) rfl rfl))
  obtain ⟨_, H1, I1, r1, a, b, xs, ys, rfl, hqx, hqy, q⟩ := come
  obtain ⟨u1, u2, rfl, ra, rb⟩ := vals2 r1
  cases ra
  cases rb
  obtain ⟨l1, rv1, p1, _⟩ := I1.list hqx
  obtain ⟨l2, rv2, p2, _⟩ := I1.list hqy
  have la := p1.lt
  have lb := p2.lt
  refine call_zip_2 p1.isList p2.isList fun h' hz hTI hTO t1 t2 hsz hk1 => args_nil ?_
  have I2 : Inv X pins σ H1 { s1 with heap := h' } := I1.kept (t' := s1.toks) hk1
  obtain ⟨N, eN⟩ : ∃ N, s1.heap.objs.size = N := ⟨_, rfl⟩
  have fps : ∀ d ∈ [N + 4, N + 2, N + 3, N, N + 1], FpOk X pins H1 d := fun d hd => by
    have late : s1.heap.objs.size ≤ d := by
      have hd' : d = N + 4 ∨ d = N + 2 ∨ d = N + 3 ∨ d = N ∨ d = N + 1 := by simpa using hd
      omega
    exact I1.fpOk late (I1.hok.fresh late)
  rw [eN] at hz hTI hTO t1 t2 la lb ⊢
  have objs : ∀ d ∈ [N + 4, N + 2, N + 3, N, N + 1], ∃ o, h'.get? d = some o ∧ ∀ v, o.data ≠ .cell v := fun d hd => by
    obtain ⟨o1, g1, _, d1⟩ := t1
    obtain ⟨o2, g2, _, d2⟩ := t2
    have hd' : d = N + 4 ∨ d = N + 2 ∨ d = N + 3 ∨ d = N ∨ d = N + 1 := by simpa using hd
    rcases hd' with rfl | rfl | rfl | rfl | rfl
    · exact ⟨_, hz, fun _ z => nomatch z⟩
    · exact ⟨_, hTI, fun _ z => nomatch z⟩
    · exact ⟨_, hTO, fun _ z => nomatch z⟩
    · exact ⟨o1, g1, fun _ z => by rw [d1] at z; cases z⟩
    · exact ⟨o2, g2, fun _ z => by rw [d2] at z; cases z⟩
  have I3 := I2.pinned fps objs
  refine kws_cons (thn (hk.run _ _ σ H1 _ I3 q) fun v s2 more => kws_nil ?_)
  obtain ⟨c, H2, I4, rc, k, rfl, k0, k1, q2⟩ := more
  obtain ⟨tc, rfl⟩ := (show ∃ t, v = Value.int k t from rc)
  have same : ∀ d o, d ∈ [N + 4, N + 2, N + 3, N, N + 1] → h'.get? d = some o → s2.heap.get? d = some o ∧ H2 d = none := fun d o hd g => by
    have z := I4.pin (d, o) (List.mem_append_right _ (List.mem_append_right _ (mem_pinsAt hd g)))
    exact ⟨z.1, z.2.1⟩
  have hz2 : IsZip s2.heap (N + 4) (N + 2) (N + 3) .none := (same _ _ (by simp) hz).1
  refine enz_madeK hz2 k0 k1 fun h2 he hk2 => wpAny_pyIter_enum he ?_
  have I5 : Inv X pins σ H2 { s2 with heap := h2 } := (Inv.unpinned I4).kept (t' := s2.toks) hk2
  have big : N + 4 < s2.heap.objs.size := Heap.lt_size hz2
  have old : ∀ d ∈ [N + 4, N + 2, N + 3, N, N + 1], FpOk X pins H2 d := fun d hd => by
    obtain ⟨o, g, _⟩ := objs d hd
    exact ⟨(same d o hd g).2, (fps d hd).2⟩
  refine ⟨s2.heap.objs.size, [s2.heap.objs.size, N + 4, N + 2, N + 3, N, N + 1], _, _, H2, rfl, I5,
    turn_enumZ k (PySem.W.ktu_apart N a b la lb) (gt_ne (by omega)) (gt_ne (by omega)) (gt_ne (by omega)) (gt_ne (by omega)) (gt_ne (by omega)), ⟨⟨.none, ?_⟩, ⟨.none, false, hk2 _ _ hz2, .inl rfl⟩, hk2 _ _ (same _ _ (by simp) hTI).1, ⟨_, _, hk2 _ _ (same _ _ (by simp) hTO).1⟩, t1.at fun _ x => hk2 _ _ (same _ _ (by simp) x).1, t2.at fun _ x => hk2 _ _ (same _ _ (by simp) x).1⟩, fun d hd => ?_, q2⟩
  · show IsEnum h2 _ _ (k + ((0 : Nat) : Int)) _
    rw [show k + ((0 : Nat) : Int) = k by omega]
    exact he
  · obtain rfl | hd := List.mem_cons.mp hd
    · have I6 := Inv.unpinned I4
      exact I6.fpOk (Nat.le_refl _) (I6.hok.fresh (Nat.le_refl _))
    · exact old d hd
end
end Tg

/-! an own == that may say True or False, of an instance and anything; an instance looked for in a list of None and texts -/
namespace Tg
open PySem PySem.Spec PyProof.Rows L2
/-- what such an own == promises: R tells what it says -/
def spEqB (R : Addr → V → Bool → Hp → Prop) : Sp := fun vs H Q _ => ∃ (a : Addr) (y : V) (b : Bool), vs = [.ref a, y] ∧ R a y b H ∧ ∀ H', Ext H H' → Q (.bl b) H'
section
variable {X : Cx} {n : Nat} {CX : CXT} {C f : Addr} {fd : FuncData} {ps : List Str} {R : Addr → V → Bool → Hp → Prop} {E : XK}
/-- the own == called with an instance and a thing, somewhere below the running body -/
theorem own_said (F : FnOk X.prog X.w X.K X.mg X.base CX n f fd ps (spEqB R)) (hb : Binds X.K fd ps []) (hx : Passes CX X E) {A : Around} {pins : List (Addr × Obj)} {s : Shared} {σ : L2.St} {H : Hp} {a : Addr} {y : V} {u : Value} {b : Bool}
    (sb : Sub X n A) (I : Inv X pins σ H s) (ry : RelV y u) (r : R a y b H) :
    wpAny (model X.prog X.w) A (call (.ref f) [.ref a, u]) (fun v s' => v = .bool b ∧ ∃ H', Inv X pins σ H' s' ∧ Ext H H') X.xe s := by
  have hsp : spEqB R [.ref a, y] H (fun v H' => v = .bl b ∧ Ext H H') E := ⟨a, y, b, rfl, r, fun H' e => ⟨rfl, e⟩⟩
  have env := I.env0
  have e0 : Env0 X.prog X.w X.K X.mg X.base A X.stack s H := ⟨sb.fr.symm ▸ env.frames, env.mod, env.bs, env.bsz, env.funs, env.frf, env.hok, env.bare⟩
  have two := F.len _ _ _ _ hsp
  have bound := hb s [.ref a, u] I.kIn (by simpa using two)
  rw [List.append_nil] at bound
  refine wpAny_call (codeAny_mono (F.run A X.stack s H ⟨[.ref a, u], []⟩ [.ref a, u] [.ref a, y] _ E sb.room e0 bound (.cons rfl (.cons ry .nil)) hsp) fun o s' told => ?_)
  match o, told with
  | .error er, told => exact hx pins σ H s er s' I told
  | .ok (.ret v), told =>
    obtain ⟨z, H', J, rz, ez, ex⟩ := I.after told
    subst ez
    exact ⟨rz, H', J, ex⟩
/-- a == y -/
def rEqB (K : PySem.W.Frag) (C : Addr) (R : Addr → V → Bool → Hp → Prop) : R2 := fun x y H Q => ∃ (a dx : Addr) (fs : List (Str × V)) (t : Value) (b : Bool), x = .ref a ∧ H a = some (.ins C dx fs) ∧ TyX K H y t ∧ PySem.W.notFirst K C t = true ∧ R a y b H ∧ ∀ H', Ext H H' → Q (.bl b) H'
theorem op_eqB (F : FnOk X.prog X.w X.K X.mg X.base CX n f fd ps (spEqB R)) (hs : PySem.W.findIn X.K (.ref C) "__eq__" = some (some (.ref f))) (hf : PySem.W.isFn X.K (.ref f) = true) (hb : Binds X.K fd ps []) (hx : Passes CX X E) (hr : Room n X.A) : OpR X (compareOp .Eq) (rEqB X.K C R) := by
  rintro pins s σ H x y v u Q I rx ry ⟨a, dx, fs, t, b, rfl, ha, ty, nf, r, q⟩
  cases rx
  obtain ⟨mI, J0, _⟩ := ins_get I.hok ha
  obtain ⟨od, J, _⟩ := J0.look
  obtain ⟨m, hF⟩ := I.fr
  obtain ⟨P, Z, p, _⟩ := kit_of I ry ty
  show wpAny (model X.prog X.w) X.A (richCompare .Eq (.ref a) u) (EP X pins σ Q) X.xe s
  refine PySem.W.cmp_K (op := .Eq) hr.units0 hF I.ok.mod.kin J (Z.ty _ _ I.kIn p) nf hs hf (wpAny_mono (own_said F hb hx ⟨hr, rfl⟩ I ry r) (fun w s' told => ?_) fun _ _ z => z)
  obtain ⟨rfl, H', I', ex⟩ := told
  exact ⟨.bl b, H', I', rfl, q H' ex⟩
/-- None and texts: what stands ahead of == -/
theorem eq_back {T id : String} {A : Around} {pins : List (Addr × Obj)} {s : Shared} {σ : L2.St} {H : Hp} {a dx : Addr} {fs : List (Str × V)} {y : V} {u : Value} {b : Bool} (F : FnOk X.prog X.w X.K X.mg X.base CX n f fd ps (spEqB R))
    (hs : PySem.W.findIn X.K (.ref C) "__eq__" = some (some (.ref f))) (hf : PySem.W.isFn X.K (.ref f) = true) (hb : Binds X.K fd ps []) (hx : Passes CX X E) (sb : Sub X n A) (I : Inv X pins σ H s) (ry : RelV y u)
    (ha : H a = some (.ins C dx fs)) (r : R a y b H) (ty : s.TypeIs u T) (nos : PySem.W.subIn X.K (.ref C) (.type T) = some false) (slot : Slot T (cmpInfo .Eq).2.1 id)
    (dec : ∀ Q' : Value → Shared → Prop, Q' .notImplemented s → wpAny (model X.prog X.w) A (call (.builtin id) [u, .ref a]) Q' X.xe s) :
    wpAny (model X.prog X.w) A (richCompare .Eq u (.ref a)) (fun v s' => v = .bool b ∧ ∃ H', Inv X pins σ H' s' ∧ Ext H H') X.xe s := by
  obtain ⟨mI, J0, _⟩ := ins_get I.hok ha
  obtain ⟨od, J, _⟩ := J0.look
  have two : wpAny (model X.prog X.w) A (tryCompare (.ref a) "__eq__" u) (fun w s' => ∃ v, w = some v ∧ v = .bool b ∧ ∃ H', Inv X pins σ H' s' ∧ Ext H H') X.xe s := by
    unfold tryCompare
    refine wpAny_bind (PySem.W.ifBound_K I.kIn J hs hf (wpAny_mono (own_said F hb hx sb I ry r) (fun v s' told => ?_) fun _ _ z => z))
    obtain ⟨rfl, more⟩ := told
    exact wpAny_pure ⟨_, rfl, rfl, more⟩
  rcases hi : cmpInfo CmpOp.Eq with ⟨sym, nm, rn⟩
  obtain ⟨_, rfl, rfl⟩ : sym = "==" ∧ nm = "__eq__" ∧ rn = "__eq__" := by
    cases hi
    exact ⟨rfl, rfl, rfl⟩
  rw [hi] at slot
  simp only [richCompare, hi, ty.oneThing_none]
  refine wpAny_holding (wpAny_bind (wpAny_cRoomFor sb.room.units0 ?_))
  refine wpAny_bind (wpAny_typeOf ty (wpAny_bind (J.type.here ?_)))
  rw [show (Value.type T != Value.ref C) = true from by simp]
  simp only [if_true]
  refine wpAny_bind ((PySem.W.looks_subIn I.kIn nos).here ?_)
  simp only [if_true, if_false, Bool.not_false, Bool.false_eq_true]
  refine wpAny_bind (m := tryCompare u _ (.ref a)) (wpAny_tryCompare_declines ty slot (dec _ ⟨rfl, ?_⟩))
  refine wpAny_bind (m := tryCompare (.ref a) _ u) (wpAny_mono two (fun w s' told => ?_) fun _ _ z => z)
  obtain ⟨v, rfl, more⟩ := told
  exact wpAny_pure more
end
section
open MeetsSeq MeetsSeq2 MeetsSeq3 SeqRoads2 SeqAt
open AutoSeq1 (wpAny_loadPart')
theorem str_no_own (z : Str) (u : Tok) (l C dx : Addr) : Meets (Builtin.«str.__eq__» ⟨[.str z u, .ref l], []⟩) (fun _ R s => s.heap.get? l = some (PySem.W.instObj C dx) ∧ R (.ok (.ret .notImplemented)) s) :=
  .of_wp fun pr wd A0 R0 s0 told => by
    obtain ⟨hp, gn, dr, tk, os⟩ := s0
    obtain ⟨hl, h⟩ := told
    unfold PySem.W.instObj at hl
    wp_walk using wpAny_loadPart' hl, wpAny_load hl
    exact ⟨_, rfl, h⟩
variable {A : Around} {prog : Program} {w : World} {R : Result → Shared → Prop}
/-- looked for in a list, item by item, and not found -/
theorem seek_loop {l : Addr} {x : Value} (N : Nat) (I : Nat → Shared → Prop)
    (turn : ∀ i s, I i s → ∃ (items : Array Value) (n : Nat), s.heap.get? l = some { cls := .type "list", data := .seq items n } ∧ items.size = N ∧ ∀ h : i < items.size, wpAny (model prog w) A.in1 (eqBool items[i] x) (fun r s' => r = false ∧ I (i + 1) s') (fun e s' => R (.error e) s') s)
    (fin : ∀ s, I N s → R (.ok (.ret (.bool false))) s) (k : Nat) : ∀ i : Nat, N - i = k → i ≤ N → ∀ s, I i s →
      wpAny (model prog w) A.in1 (Builtin.«list.__contains__.loop» ⟨[.ref l, x, rawInt i], []⟩) (GQ.FinOf prog w A R) (fun e s' => R (.error e) s') s := by
  induction k with
  | zero =>
    intro i hk hi s h
    obtain ⟨items, n, at_l, size, _⟩ := turn _ _ h
    obtain rfl : i = N := by omega
    have done := fin s h
    obtain ⟨hp, gn, dr, tk, os⟩ := s
    wp_walk using wpAny_loadPart' at_l
    have none_there : items[((i : Nat) : Int).toNat]? = none := by simp; omega
    rw [none_there]
    wp_walk
    exact done
  | succ k ih =>
    intro i hk hi s h
    obtain ⟨items, n, at_l, size, step⟩ := turn _ _ h
    have lt : i < items.size := by omega
    have said := step lt
    obtain ⟨hp, gn, dr, tk, os⟩ := s
    wp_walk using wpAny_loadPart' at_l
    have there : items[((i : Nat) : Int).toNat]? = some items[i] := by simp [lt]
    have next : ((i : Int) + 1) = ((i + 1 : Nat) : Int) := by omega
    rw [there]
    refine wpAny_bind (wpAny_mono said (fun r s2 h2 => ?_) fun _ _ z => z)
    obtain ⟨rfl, h2⟩ := h2
    have more := ih (i + 1) (by omega) (by omega) s2 h2
    obtain ⟨hp2, gn2, dr2, tk2, os2⟩ := s2
    wp_walk
    rw [next]
    refine ⟨plainId_quiet plain_contains_loop _, codeAny_builtin entry_contains_loop ?_⟩
    rw [A.under_plainId plain_contains_loop _]
    exact more
theorem seek_none {E : Value → Shared → Prop} {s : Shared} {Q : Value → Shared → Prop} {l : Addr} {x : Value} (N : Nat) (I : Nat → Shared → Prop)
    (turn : ∀ i s, I i s → ∃ (items : Array Value) (n : Nat), s.heap.get? l = some { cls := .type "list", data := .seq items n } ∧ items.size = N ∧ ∀ h : i < items.size, wpAny (model prog w) A.in1 (eqBool items[i] x) (fun r s' => r = false ∧ I (i + 1) s') E s)
    (fin : ∀ s, I N s → Q (.bool false) s) (h : I 0 s) : wpAny (model prog w) A (compareOp .In x (.ref l)) Q E s := by
  obtain ⟨items, n, at_l, _, _⟩ := turn _ _ h
  show wpAny _ A (do return .bool (← contains (.ref l) x)) Q E s
  refine wpAny_bind (wpAny_contains_slot (T := "list") ⟨_, at_l, rfl⟩ PySem.F.slot_list_contains (GQ.call_here PySem.F.slot_list_contains ⟨_, at_l, rfl⟩ PySem.F.entry_list_contains (PySem.F.args_list_contains_2 _ _) ?_))
  have loop := seek_loop (R := wants (fun v s' => wpAny (model prog w) A (truthy v) (fun r s'' => wpAny (model prog w) A (pure (Value.bool r)) Q E s'') E s') E) N I turn (fun s' q => wpAny_truthy_bool (wpAny_pure (fin s' q))) _ 0 rfl (Nat.zero_le _) s h
  obtain ⟨hp, gn, dr, tk, os⟩ := s
  wp_walk using wpAny_loadPart' at_l
  refine ⟨plainId_quiet plain_contains_loop _, codeAny_builtin entry_contains_loop ?_⟩
  rw [A.under_plainId plain_contains_loop _]
  exact loop
end
section
variable {X : Cx} {n : Nat} {CX : CXT} {C f : Addr} {fd : FuncData} {ps : List Str} {R : Addr → V → Bool → Hp → Prop} {E : XK}
/-- a in [None, 'text'], of which it is neither -/
def rSeek (C : Addr) (R : Addr → V → Bool → Hp → Prop) : R2 := fun x y H Q => ∃ (a dx l : Addr) (fs : List (Str × V)) (z : Str), x = .ref a ∧ y = .ref l ∧ H a = some (.ins C dx fs) ∧ H l = some (.lst [.non, .str z]) ∧
  (∀ H', Ext H H' → R a .non false H' ∧ R a (.str z) false H') ∧ ∀ H', Ext H H' → Q (.bl false) H'
theorem op_seek (F : FnOk X.prog X.w X.K X.mg X.base CX n f fd ps (spEqB R)) (hs : PySem.W.findIn X.K (.ref C) "__eq__" = some (some (.ref f))) (hf : PySem.W.isFn X.K (.ref f) = true) (hb : Binds X.K fd ps []) (hx : Passes CX X E) (hr : Room (n + 1) X.A)
    (no1 : PySem.W.subIn X.K (.ref C) (.type "NoneType") = some false) (no2 : PySem.W.subIn X.K (.ref C) (.type "str") = some false) : OpR X (compareOp .In) (rSeek C R) := by
  rintro pins s σ H x y v u Q I rx ry ⟨a, dx, l, fs, z, rfl, rfl, ha, hl, r, q⟩
  cases rx
  cases ry
  have sb : Sub X n X.A.in1 := Sub.in1 ⟨hr, rfl⟩
  refine seek_none 2 (fun _ s' => ∃ H', Inv X pins σ H' s' ∧ Ext H H') (fun i s' told => ?_) (fun s' ⟨H', I', ex⟩ => ⟨.bl false, H', I', rfl, q H' ex⟩) ⟨H, I, Ext.rfl'⟩
  obtain ⟨H', I', ex⟩ := told
  obtain ⟨_, its, k, rel, at_l⟩ := (show ObjOk X.prog X.w H' s'.heap l (.lst [.non, .str z]) from I'.hok l _ (ex _ _ hl))
  obtain ⟨u1, u2, rfl, r1, r2⟩ := vals2 rel
  cases (show u1 = Value.none from r1)
  obtain ⟨tz, rfl⟩ := (show ∃ t, u2 = Value.str z t from r2)
  obtain ⟨mA, J, _⟩ := ins_get I'.hok (ex _ _ ha)
  obtain ⟨od, J, _⟩ := J.look
  refine ⟨_, k, at_l, rfl, fun lt => ?_⟩
  have truth : ∀ (u : Value), (u == Value.ref a) = false → (∀ q w, u ≠ .float q w) → wpAny (model X.prog X.w) X.A.in1 (richCompare .Eq u (.ref a)) (fun v s2 => v = .bool false ∧ ∃ H2, Inv X pins σ H2 s2 ∧ Ext H' H2) X.xe s' →
      wpAny (model X.prog X.w) X.A.in1 (eqBool u (.ref a)) (fun r s2 => r = false ∧ ∃ H2, Inv X pins σ H2 s2 ∧ Ext H H2) X.xe s' := fun u ne nf h => by
    unfold eqBool
    refine wpAny_holding (wpAny_ite_split (fun z => absurd (ne.symm.trans z) (by decide)) fun _ => ?_)
    cases u <;> first | exact absurd rfl (nf _ _) | (refine wpAny_bind (wpAny_mono h (fun v s2 told => ?_) fun _ _ z => z); obtain ⟨rfl, H2, I2, e2⟩ := told; exact wpAny_truthy_bool ⟨rfl, H2, I2, ex.trans e2⟩)
  match i, lt with
  | 0, _ =>
    refine truth .none rfl (fun _ _ z => nomatch z) (eq_back F hs hf hb hx sb I' (y := .non) rfl (ex _ _ ha) (r H' ex).1 (T := "NoneType") rfl no1 PySem.F.slot_NoneType_eq fun Q' hq => ?_)
    exact call_gives PySem.F.slot_NoneType_eq rfl PySem.F.entry_NoneType_eq (PySem.F.args_NoneType_eq_2 _ _) (SeqAt.NoneType___eq___none_ref_0 a) hq
  | 1, _ =>
    refine truth (.str z tz) rfl (fun _ _ z => nomatch z) (eq_back F hs hf hb hx sb I' (y := .str z) ⟨tz, rfl⟩ (ex _ _ ha) (r H' ex).2 (T := "str") (typeIs_str _ _ _) no2 PySem.F.slot_str_eq fun Q' hq => ?_)
    exact call_meets PySem.F.slot_str_eq (typeIs_str _ _ _) PySem.F.entry_str_eq (PySem.F.args_str_eq_2 _ _) (str_no_own z tz a C dx) ⟨J.at_, hq⟩
end
end Tg

/-! a != b of an own class with an own __eq__ and no __ne__, where the own == says True -/
namespace Tg
open PySem PySem.Spec PyProof.Rows L2
/-- what stands of such a class -/
structure NeC (K : PySem.W.Frag) (C f : Addr) : Prop where
  cls : ∃ (nm q : Str) (N : Addr) (bs : List Value) (hd : Bool) (sn : List Str) (sub : List Value) (ab : Bool) (col : Option Bool) (dd : Option Addr) (k0 k1 k2 k3 k5 : Option Value) (id : String),
    K.lookup C = some (excClassObj nm q C N bs [.type "object"] hd sn sub ab col dd k0 k1 k2 k3 k5 id) ∧ PySem.W.nsOkIn K N = true ∧ PySem.W.nsIn K N "__eq__" = some (some (.ref f)) ∧ PySem.W.nsIn K N "__ne__" = some none
  fn : ∃ o, K.lookup f = some o ∧ o.cls = .type "function"
/-- a name that stands in a written namespace -/
theorem ns_has {K : PySem.W.Frag} {h : Heap} {N : Addr} {x : Str} {v : Value} (inK : K.In h) (okN : PySem.W.nsOkIn K N = true) (e : PySem.W.nsIn K N x = some (some v)) : h.nsMap N x = some v := by
  obtain ⟨ob, es, ep, stands, isD, _, tells⟩ : h.Ns N (h.nsMap N) := .of_isNs (PySem.W.isNs_of_in inK okN)
  rw [← tells]
  unfold PySem.W.nsIn at e
  cases lk : K.lookup N with
  | none =>
    rw [lk] at e
    cases e
  | some ob2 =>
    have same := (inK N ob2 lk).symm.trans stands
    cases same
    obtain ⟨c, d, dt, sl⟩ := ob
    obtain rfl : dt = .dict es ep := isD
    rw [lk] at e
    dsimp only at e
    unfold nsFind findBy
    rw [← Array.find?_toList]
    cases fnd : es.toList.find? (·.key.isStr x) with
    | none =>
      rw [fnd] at e
      dsimp only at e
      split at e <;> cases e
    | some en =>
      rw [fnd] at e
      cases e
      rfl
section
variable {X : Cx} {n : Nat}
def rNeG (C : Addr) (R : Addr → Addr → Hp → Prop) : R2 := fun x y H Q => DIns C R x y H ∧ ∀ H', Ext H H' → Q (.bl false) H'
theorem op_neG {CX : CXT} {C f : Addr} {fd : FuncData} {ps : List Str} {R : Addr → Addr → Hp → Prop} {E : XK} (F : FnOk X.prog X.w X.K X.mg X.base CX n f fd ps (spEq R)) (N : NeC X.K C f) (hb : Binds X.K fd ps []) (hx : Passes CX X E) (hr : Room (n + 1) X.A) :
    OpR X (compareOp .NotEq) (rNeG C R) := by
  rintro pins s σ H x y v u Q I rx ry ⟨⟨a, b, dx, dy, fs, gs, rfl, rfl, ha, hb', holds⟩, q⟩
  cases rx
  cases ry
  obtain ⟨atA, J, _⟩ := ins_get I.hok ha
  obtain ⟨atB, J', _⟩ := ins_get I.hok hb'
  obtain ⟨od, J, _⟩ := J.look
  obtain ⟨odB, J', _⟩ := J'.look
  have there : ∀ p o, X.K.lookup p = some o → s.heap.get? p = some o := fun p o h => I.kIn p o h
  obtain ⟨nm, qn, Ns, bs, hd, sn, sub, ab, col, dd, k0, k1, k2, k3, k5, id_, eC, okN, eE, eN⟩ := N.cls
  obtain ⟨of, eF, cF⟩ := N.fn
  have own : s.heap.OwnEqNoNe a C f "object" [.type "object"] := by
    refine ⟨_, of, nm, qn, Ns, bs, hd, sn, sub, ab, col, dd, k0, k1, k2, k3, k5, id_, s.heap.nsMap Ns, _, J.at_, J.cls, there _ _ eC, .of_isNs (PySem.W.isNs_of_in I.kIn okN), ?_, there _ _ eF, cF, PySem.F.cmp_object.mro, PySem.F.cmp_object.eq.lookup, PySem.W.nsMap_none_of_in I.kIn okN eN⟩
    exact ns_has I.kIn okN eE
  have sb : Sub X n X.A.in1 := Sub.in1 ⟨hr, rfl⟩
  refine compareOp_ne_ownEq PySem.F.cmp_object own J'.at_ J'.cls (by have := hr.units; omega) ?_
  have hsp : spEq R [.ref a, .ref b] H (fun v H' => v = .bl true ∧ Ext H H') E := ⟨a, b, rfl, holds, fun H' e => ⟨rfl, e⟩⟩
  have e0 : Env0 X.prog X.w X.K X.mg X.base X.A.in1 X.stack s H := by
    have env := I.env0
    exact ⟨sb.fr.symm ▸ env.frames, env.mod, env.bs, env.bsz, env.funs, env.frf, env.hok, env.bare⟩
  have len2 := F.len _ _ _ _ hsp
  refine wpAny_call (codeAny_mono (F.run X.A.in1 X.stack s H ⟨[.ref a, .ref b], []⟩ [.ref a, .ref b] [.ref a, .ref b] _ E sb.room e0 (by
    have z := hb s [.ref a, .ref b] I.kIn (by simpa using len2)
    simpa using z) (.cons rfl (.cons rfl .nil)) hsp) fun r s' told => ?_)
  cases r with
  | error e => exact hx pins σ H s e s' I told
  | ok fl =>
    cases fl with
    | ret w =>
      obtain ⟨z, H', I', rz, ez, ex⟩ := I.after told
      subst ez
      cases rz
      exact ⟨true, rfl, .bl false, H', I', rfl, q H' ex⟩
    | next => exact False.elim told
    | brk => exact False.elim told
    | cont => exact False.elim told
end
end Tg

/-! a != b of an own class with an own __eq__ and no __ne__, b anything, where the own == may say True or False -/
namespace Tg
open PySem PySem.Spec PyProof.Rows L2
section
variable {prog : Program} {w : World} {A : Around} {E : Value → Shared → Prop} {s : Shared} {C a f : Addr} {B : String} {bm : List Value} {u : Value}
theorem ne_entry (O : s.heap.OwnEqNoNe a C f B bm) (room : A.units < cLine) {Q : Fin → Shared → Prop} (run : wpAny (model prog w) A (call (.ref f) [.ref a, u]) (fun v s' => ∃ b, v = .bool b ∧ Q (.done (.ret (.bool (!b)))) s') E s) :
    wpAny (model prog w) A (Builtin.«object.__ne__» ⟨[.ref a, u], []⟩) Q E s := by
  have said : wpAny (model prog w) A (callSpecialIfBound? (.ref a) (Str.ofString "__eq__") [u]) (fun r s' => ∃ b, r = some (.bool b) ∧ Q (.done (.ret (.bool (!b)))) s') E s := by
    refine wpAny_callSpecialIfBound?_own O.ownEq (wpAny_mono run (fun v s' told => ?_) fun _ _ e => e)
    obtain ⟨b, rfl, q⟩ := told
    exact ⟨b, rfl, q⟩
  delta Builtin.«object.__ne__»
  repeat (first
    | with_reducible refine wpAny_cRoomFor room ?_
    | (refine wpAny_bind (m := callSpecialIfBound? (.ref a) (Str.ofString "__eq__") [u]) (wpAny_mono said (fun r s' told => by
          obtain ⟨b, rfl, q⟩ := told
          repeat (first | exact q | exact wpAny_pure q | exact wpAny_truthy_bool q | (refine wpAny_bind (m := truthy (.bool _)) (wpAny_truthy_bool ?_)) | wp_step)) fun _ _ e => e))
    | wp_step)
theorem ne_tried (FB : CmpFacts B bm) (O : s.heap.OwnEqNoNe a C f B bm) (room : A.units + 1 < cLine) {Q : Option Value → Shared → Prop} (run : wpAny (model prog w) A.in1 (call (.ref f) [.ref a, u]) (fun v s' => ∃ b, v = .bool b ∧ Q (some (.bool (!b))) s') E s) :
    wpAny (model prog w) A (tryCompare (.ref a) "__ne__" u) Q E s := by
  obtain ⟨o, of, nm, q, N, bs, hd, sn, sub, ab, col, dd, k0, k1, k2, k3, k5, id_, mN, yv, ha, hc, hC, hn, _, _, _, _, _, none_⟩ := id O
  unfold tryCompare
  refine wpAny_bind (wpAny_callSpecialIfBound?_inst ha hc hC hn none_ FB.mro FB.ne (wpAny_call (codeAny_call_builtin FB.ne.plain F.cmpEntry_ne (wpAny_check_slot_inst F.cmpKind_ne F.cmpSplit_ne (F.cmpArgs_ne _ _) FB.hasObject ha hc hC (ne_entry (A := A.in1) O room (wpAny_mono run (fun v s' told => ?_) fun _ _ e => e))))))
  obtain ⟨b, rfl, z⟩ := told
  exact ⟨b, rfl, wpAny_pure z⟩
end
section
variable {X : Cx} {n : Nat} {CX : CXT} {C f : Addr} {fd : FuncData} {ps : List Str} {R : Addr → V → Bool → Hp → Prop} {E : XK}
/-- a != y -/
def rNeB (K : PySem.W.Frag) (C : Addr) (R : Addr → V → Bool → Hp → Prop) : R2 := fun x y H Q => ∃ (a dx : Addr) (fs : List (Str × V)) (t : Value) (b : Bool), x = .ref a ∧ H a = some (.ins C dx fs) ∧ TyX K H y t ∧ PySem.W.notFirst K C t = true ∧ R a y b H ∧ ∀ H', Ext H H' → Q (.bl (!b)) H'
theorem op_neB (F : FnOk X.prog X.w X.K X.mg X.base CX n f fd ps (spEqB R)) (N : NeC X.K C f) (hb : Binds X.K fd ps []) (hx : Passes CX X E) (hr : Room (n + 1) X.A) : OpR X (compareOp .NotEq) (rNeB X.K C R) := by
  rintro pins s σ H x y v u Q I rx ry ⟨a, dx, fs, t, b, rfl, ha, ty, nf, r, q⟩
  cases rx
  obtain ⟨mI, J0, _⟩ := ins_get I.hok ha
  obtain ⟨od, J, _⟩ := J0.look
  obtain ⟨P, Z, p, _⟩ := kit_of I ry ty
  have look : PySem.W.Looks (model X.prog X.w) s.heap (typeOf u) t := Z.ty _ _ I.kIn p
  have there : ∀ c o, X.K.lookup c = some o → s.heap.get? c = some o := fun c o h => I.kIn c o h
  obtain ⟨nm, qn, Ns, bs, hd, sn, sub, ab, col, dd, k0, k1, k2, k3, k5, id_, eC, okN, eE, eN⟩ := N.cls
  obtain ⟨of, eF, cF⟩ := N.fn
  have own : s.heap.OwnEqNoNe a C f "object" [.type "object"] :=
    ⟨_, of, nm, qn, Ns, bs, hd, sn, sub, ab, col, dd, k0, k1, k2, k3, k5, id_, s.heap.nsMap Ns, _, J.at_, J.cls, there _ _ eC, .of_isNs (PySem.W.isNs_of_in I.kIn okN), ns_has I.kIn okN eE, there _ _ eF, cF, PySem.F.cmp_object.mro, PySem.F.cmp_object.eq.lookup, PySem.W.nsMap_none_of_in I.kIn okN eN⟩
  have units := hr.units
  have two : wpAny (model X.prog X.w) X.A (tryCompare (.ref a) "__ne__" u) (fun w s' => ∃ v, w = some v ∧ v = .bool (!b) ∧ ∃ H', Inv X pins σ H' s' ∧ Ext H H') X.xe s := by
    refine ne_tried PySem.F.cmp_object own (by omega) (wpAny_mono (own_said F hb hx (Sub.in1 ⟨hr, rfl⟩) I ry r) (fun w s' told => ?_) fun _ _ z => z)
    obtain ⟨rfl, more⟩ := told
    exact ⟨b, rfl, _, rfl, rfl, more⟩
  show wpAny (model X.prog X.w) X.A (richCompare .NotEq (.ref a) u) (EP X pins σ Q) X.xe s
  unfold richCompare
  simp only [oneThing_ref]
  refine wpAny_holding (wpAny_bind (wpAny_cRoomFor (by omega) ?_))
  rw [cmpInfo_NotEq]
  dsimp only
  refine wpAny_bind (J.type.here (wpAny_bind (look.here ?_)))
  have last : ∀ rest : Option Value → Sem Value, (∀ v, rest (some v) = pure v) → wpAny (model X.prog X.w) X.A (tryCompare (.ref a) "__ne__" u >>= rest) (EP X pins σ Q) X.xe s := fun rest hrest => by
    refine wpAny_bind (wpAny_mono two (fun w s' told => ?_) fun _ _ z => z)
    obtain ⟨v, rfl, rfl, H', I', ex⟩ := told
    rw [hrest]
    exact wpAny_pure ⟨.bl (!b), H', I', rfl, q H' ex⟩
  unfold PySem.W.notFirst at nf
  by_cases same : t = .ref C
  · rw [same, show (Value.ref C != Value.ref C) = false from by simp]
    simp only [if_false, Bool.false_eq_true]
    refine wpAny_bind ?_
    refine wpAny_pure ?_
    simp only [if_false, Bool.false_eq_true]
    exact last _ fun v => rfl
  · have ne : (Value.ref C != t) = true := by
      rw [bne_iff_ne]
      exact fun z => same z.symm
    have nos : PySem.W.subIn X.K t (.ref C) = some false := by
      have k : (t == Value.ref C) = false := by
        rw [beq_eq_false_iff_ne]
        exact same
      rw [k, Bool.false_or] at nf
      exact eq_of_beq nf
    rw [ne]
    simp only [if_true]
    refine wpAny_bind ((PySem.W.looks_subIn I.kIn nos).here ?_)
    simp only [if_false, Bool.false_eq_true]
    exact last _ fun v => rfl
end
end Tg

set_option maxHeartbeats 2000000
namespace Tg
open PySem PySem.Spec PyProof.Rows L2
/-! ### x = [f(..) for ..], which a callee's exception ends in some turn -/
/-- what the comprehension does with an exception of its block -/
def compGone (M : Model) (A : Around) (E : Value → Shared → Prop) (ce : Env) (x : Value) (s' : Shared) : Prop :=
  ∃ m, s'.heap.Ns ce.locals m ∧ ∀ h', Heap.SameBut ce.locals s'.heap h' → wpAny M A (passOn "comprehension.variables-let-go" x ce : Sem Value) (fun _ _ => False) E { s' with heap := h' }
def compEnds (M : Model) (A : Around) (E : Value → Shared → Prop) (ce : Env) : Result → Shared → Prop
  | .ok _, _ => False
  | .error x, s' => compGone M A E ce x s'
theorem comp_gone {M : Model} {A : Around} {E : Value → Shared → Prop} {s : Shared} {env : Env} {e : Expr} {scope : Scope} {pos : Pos} {newAcc first : Sem Value} {g : Comprehension} {gs : List Comprehension} {cl : List (Str × Addr)} {use : Option (Value → Sem Unit)} {Q : Value → Shared → Prop}
    (one : clausesOf e = g :: gs) (plain : ∀ x, foldedSetIterable g.iter env x = pure x) (clos : closureFor scope env = pure cl) (kind : scope.kind = .function) (names : ∀ x ∈ scope.names, x.2 = .local → scope.names.lookup x.1 = some .local)
    (run : wpAny M A first (fun x s1 => wpAny M A (pyIter x) (fun it s2 => wpAny M A newAcc (fun acc s3 => wpAny M A (newFunctionEnv scope env.globals cl [] env.qual none .none (some env)) (fun ce s4 =>
      codeAny M A (.compStart e 0 it acc { ce with scope := relabel scope env }) (compEnds M A E { ce with scope := relabel scope env }) s4) E s3) E s2) E s1) E s) : wpAny M A (comprehension e scope env pos newAcc false first use) Q E s := by
  have thru : ∀ {α : Type} {t : Sem α} {Q1 Q2 : α → Shared → Prop} {s1 : Shared}, wpAny M A t Q1 E s1 → (∀ a s2, Q1 a s2 → Q2 a s2) → wpAny M A t Q2 E s1 := fun h k => wpAny_mono h k fun _ _ z => z
  unfold comprehension
  rw [clos, one]
  refine wpAny_bind (thru run fun x s1 k1 => wpAny_bind (wpAny_standAt (wpAny_bind (wpAny_of_eq (plain x) (wpAny_bind (wpAny_holding (thru k1 fun it s2 k2 => ?_)))))))
  refine wpAny_standIf (wpAny_bind (thru k2 fun acc s3 k3 => wpAny_bind (wpAny_pure (wpAny_bind (thru k3 fun ce s4 k4 => ?_)))))
  dsimp only
  refine wpAny_holding (wpAny_bind (wpAny_attempt (wpAny_holding (wpAny_run (codeAny_mono k4 fun r s' z => ?_)))))
  match r, z with
  | .error x, ⟨m, hn, z⟩ =>
    refine wpAny_bind (wpAny_holding (wpAny_comp_letGo (cenv := { ce with scope := relabel scope env }) kind _ s' m (fun y hy hl => ?_) hn fun h' m' _ sb => thru (z h' sb) fun _ _ f => f.elim))
    exact lookup_relabel_local (names y (List.mem_filter.mp (List.mem_reverse.mp hy)).1 hl)
/-- the frames stand over less ground -/
theorem frames_less {h h' B B' : Heap} : ∀ {l : List Env}, h.FunFrames B l → (∀ b, B.get? b = none → B'.get? b = none) → (∀ b, b ∈ frs l → h'.get? b = h.get? b) → h'.FunFrames B' l
  | [], _, _, _ => True.intro
  | env :: rest, ⟨k, ⟨L, o, ef, n, e, nf⟩, fr⟩, less, same => by
    have mem : L ∈ frs (env :: rest) := List.mem_filterMap.mpr ⟨env, List.mem_cons_self .., ef⟩
    refine ⟨k, ⟨L, o, ef, less L n, (same L mem).trans e, nf⟩, frames_less fr less fun b hb => same b ?_⟩
    obtain ⟨x, hx, q⟩ := List.mem_filterMap.mp hb
    exact List.mem_filterMap.mpr ⟨x, List.mem_cons_of_mem _ hx, q⟩
/-- an exception that is held, the block's own dict changed -/
theorem held_less {h h' B B' : Heap} {l : List Env} {a C L : Addr} {Z : Obj → Prop} {o : Obj} (x : HandSPX.HeldZ B l a Z L h) (hC : h.get? C = some o) (nf : ∀ vs, o.data ≠ .fields vs) (hl : C ∉ frs l) (less : ∀ b, B.get? b = none → B'.get? b = none)
    (up : ∀ b o, B'.get? b = some o → b ≠ C ∧ B.get? b = some o) (same : ∀ b, b ≠ C → h'.get? b = h.get? b) : HandSPX.HeldZ B' l a Z L h' := by
  obtain ⟨st, na, fr, oe, vs, T, oT, ts, he, hz, hd, h1, nT, Ta, hT, dT, h3⟩ := x
  have aC : a ≠ C := fun z => by
    rw [z, hC] at he
    exact nf _ (by rw [Option.some.inj he]; exact hd)
  have TC : T ≠ C := fun z => by
    rw [z, hC] at hT
    exact nf _ (by rw [Option.some.inj hT]; exact dT)
  refine ⟨fun b u e => ?_, less a na, frames_less fr less fun b hb => same b fun z => hl (z ▸ hb), oe, vs, T, oT, ts, (same a aC).trans he, hz, hd, h1, less T nT, Ta, (same T TC).trans hT, dT, h3⟩
  obtain ⟨bC, q⟩ := up b u e
  exact (same b bC).trans (st b u q)
/-- behind a callee's exception: the state without it, told whole -/
theorem call_out {X : Cx} {E : XK} {pins : List (Addr × Obj)} {σ : L2.St} {H : Hp} {s s' : Shared} {u : Value} (I : Inv X pins σ H s) (c : L2.CX X.prog X.w X.stack H s E u s') :
    ∃ (a : Addr) (B G : Heap) (H' : Hp) (cls : Value) (d : Option Addr), u = .ref a ∧ Inv X pins σ H' { s with heap := G, gens := s'.gens, drawn := s'.drawn, toks := s'.toks } ∧ (∀ b o, G.get? b = some o → s'.heap.get? b = some o ∧ (b ∉ frs X.stack → B.get? b = some o)) ∧
      HandSPX.FlyingZ B X.stack a (Zc cls d) s'.heap ∧ H' a = none ∧ s'.os = s.os ∧ AllBare s'.gens ∧ E cls d H' ∧ ∀ b o, s.heap.get? b = some o → H b = none → b ∉ frs X.stack → B.get? b = some o ∧ H' b = none := by
  obtain ⟨a, B, H', cls, d, e, fl, hok, ub, na, os, ag, w⟩ := c
  obtain ⟨G, yes, no⟩ := restrict s'.heap fun b => if b ∈ frs X.stack then true else (B.get? b).isSome
  have inB : ∀ b o, B.get? b = some o → G.get? b = some o := fun b o q => by
    refine (yes b ?_).trans (fl.1 b o q)
    split
    · rfl
    · rw [q]
      rfl
  have inF : ∀ b, b ∈ frs X.stack → G.get? b = s'.heap.get? b := fun b hb => yes b (if_pos hb)
  have inG : ∀ b o, G.get? b = some o → s'.heap.get? b = some o ∧ (b ∉ frs X.stack → B.get? b = some o) := fun b o q => by
    by_cases hb : b ∈ frs X.stack
    · exact ⟨(inF b hb).symm.trans q, fun z => absurd hb z⟩
    · cases k : B.get? b with
      | none =>
        have z := no b (by rw [if_neg hb, k]; rfl)
        rw [q] at z
        cases z
      | some v =>
        have z := inB b v k
        rw [q] at z
        cases z
        exact ⟨fl.1 b o k, fun _ => rfl⟩
  refine ⟨a, B, G, H', cls, d, e, I.call (ch := []) ⟨fun b o q n hb _ => inB b o (ub.keep b o q n hb), ?_, fun b o q n _ => ub.free b o q n, ?_, ub.tups, ub.frzs, ub.tbls⟩ (hok.kept inB) ag (fun _ z => nomatch z), inG, fl, na, os, ag, w, fun b o q n hb => ⟨ub.keep b o q n hb, ub.free b o q n⟩⟩
  · intro b o q _ hb _
    obtain ⟨sl, z⟩ := ub.slot b o q hb
    exact ⟨sl, (inF b hb).trans z⟩
  · intro b o q _
    by_cases hb : b ∈ frs X.stack
    · obtain ⟨sl, z⟩ := ub.slot b o q hb
      exact ⟨_, (inF b hb).trans z⟩
    · obtain ⟨v, z⟩ := ub.there b o q hb
      exact ⟨v, inB b v z⟩
/-- a callee's exception leaves the block -/
theorem block_gone {X : Cx} {W : WX} {E : XK} {pins : List (Addr × Obj)} {σ : L2.St} {H : Hp} {s s' : Shared} {ce : Env} {u : Value} {m : Str → Option Value} (hs : X.stack = X.env :: X.outer) (hf : X.env.frame = some X.env.locals) (tk : Takes X W) (hW : ∀ cls d H', E cls d H' → W cls d σ H')
    (I : Inv X pins σ H s) (cf : ce.frame = X.env.frame) (hn : s.heap.Ns ce.locals m) (fp : FpOk X pins H ce.locals) (c : L2.CX X.prog X.w X.stack H s E u s') :
    notedBy (model X.prog X.w) X.A ce (compGone (model X.prog X.w) X.A X.xe ce) u s' := by
  obtain ⟨C, eC⟩ : ∃ C, ce.locals = C := ⟨_, rfl⟩
  rw [eC] at hn fp
  obtain ⟨a, B, G, H', cls, d, rfl, J, inG, fl, na, os, ag, w, old⟩ := call_out I c
  obtain ⟨oC, es, ep, gC, dC, look⟩ := hn
  have nf : ∀ vs, oC.data ≠ .fields vs := fun vs z => by
    rw [dC] at z
    cases z
  have Cst : C ∉ frs X.stack := fun hm => by
    rw [hs] at hm
    obtain ⟨x, hx, q⟩ := List.mem_filterMap.mp hm
    obtain rfl | hx := List.mem_cons.mp hx
    · rw [hf] at q
      exact fp.2.1 (Option.some.inj q).symm
    · exact fp.2.2.1 (List.mem_filterMap.mpr ⟨x, hx, q⟩)
  obtain ⟨BC, HC⟩ := old C oC gC fp.1 Cst
  have gC' : s'.heap.get? C = some oC := fl.1 _ _ BC
  have hfr : X.A.frames = some (X.env :: X.outer) := by rw [J.ok.frames, hs]
  have note : ∀ e, noteFrame e ce = noteFrame e X.env := fun e => by
    unfold noteFrame PySem.frameOf
    rw [cf]
  unfold notedBy
  rw [note]
  rw [hs] at fl
  refine HandSPX.looks_onZ Zc.steady hfr hf fl fun h1 held up1 => ?_
  obtain ⟨sl, g1⟩ := up1 C oC gC' nf
  refine ⟨m, by rw [eC]; exact ⟨_, es, ep, g1, dC, look⟩, fun h2 sb => ?_⟩
  rw [eC] at sb
  obtain ⟨B2, by2, bn2⟩ := restrict B fun b => decide (b ≠ C)
  have b2 : ∀ b o, B2.get? b = some o → b ≠ C ∧ B.get? b = some o := fun b o q => by
    by_cases z : b = C
    · have := bn2 b (by rw [z]; exact decide_eq_false (fun n => n rfl))
      rw [q] at this
      cases this
    · exact ⟨z, (by2 b (decide_eq_true z)).symm.trans q⟩
  have less : ∀ b, B.get? b = none → B2.get? b = none := fun b n => by
    cases q : B2.get? b with
    | none => rfl
    | some o =>
      rw [(b2 b o q).2] at n
      cases n
  have held2 := held_less held g1 (fun vs z => nf vs z) (by rw [← hs]; exact Cst) less b2 sb.2
  obtain ⟨G2, gy2, gn2⟩ := restrict G fun b => decide (b ≠ C)
  have J2 := J.turned (h' := G2) (t' := s'.toks) (it := C) (fun b o bC q => (gy2 b (decide_eq_true bC)).trans q) HC fp.2.1 fp.2.2.2.1 fp.2.2.2.2.1 fp.2.2.2.2.2
  have g2 : ∀ b o, G2.get? b = some o → b ≠ C ∧ G.get? b = some o := fun b o q => by
    by_cases z : b = C
    · have := gn2 b (by rw [z]; exact decide_eq_false (fun n => n rfl))
      rw [q] at this
      cases this
    · exact ⟨z, (gy2 b (decide_eq_true z)).symm.trans q⟩
  unfold PySem.passOn
  obtain ⟨oe, vs, T, oT, ts, he, hz, hd, v1, nT, Ta, hT, dT, t3⟩ := held2.2.2.2
  refine wpAny_bind (wpAny_field he hd v1 ?_)
  have nn : ¬ (Value.ref T == Value.none) = true := by simp
  rw [if_neg nn]
  refine wpAny_bind ?_
  rw [cf, hf]
  refine HandSPX.setFlight_onZ held2 fun h3 held3 up3 => wpAny_throw (tk _ _ ?_)
  refine ⟨a, B2, _, pins, σ, H', cls, d, rfl, J2, fun b o q hb => ?_, fun b o q n => ?_, .inr (.inr (by rw [hs]; exact held3)), na, os, ag, hW _ _ _ w⟩
  · obtain ⟨bC, q⟩ := g2 b o q
    exact (by2 b (decide_eq_true bC)).trans ((inG b o q).2 hb)
  · obtain ⟨bC, q⟩ := g2 b o q
    obtain ⟨l1, q1⟩ := up1 b o (inG b o q).1 n
    have q2 := (sb.2 b bC).trans q1
    obtain ⟨l3, q3⟩ := up3 b _ q2 n
    exact ⟨l3, q3⟩
/-- the block's context, where a callee's exception is wished for -/
abbrev blkE (X : Cx) (E : XK) (s : Shared) (H : Hp) (scope : Scope) (ce : Env) (fp : List Addr) : Cx :=
  (X.blk s H scope ce fp).wish fun u s' => ∃ (pins : List (Addr × Obj)) (σ : L2.St) (H1 : Hp) (s1 : Shared), Inv (X.blk s H scope ce fp) pins σ H1 s1 ∧ L2.CX X.prog X.w X.stack H1 s1 E u s'
theorem blk_lets {X : Cx} {E : XK} {s : Shared} {H : Hp} {scope : Scope} {ce : Env} {fp : List Addr} : Passes (L2.CX X.prog X.w) (blkE X E s H scope ce fp) E := fun pins σ H1 s1 _ _ I c => ⟨pins, σ, H1, s1, I.unwish, c⟩
section
variable {X : Cx} {E : XK} {W0 : WX} {elt tg iter : Expr} {ifs : List Expr} {scope : Scope} {own : List (Str × Nat)} {wi : TI} {g : TG} {tt : TT} {te : TE}
theorem lcN_core {pins : List (Addr × Obj)} {s : Shared} {σ : L2.St} {H : Hp} {pos from_ : Pos} {use : Option (Value → Sem Unit)} {Qf : Value → Shared → Prop} (hs : X.stack = X.env :: X.outer) (hf : X.env.frame = some X.env.locals) (tk : Takes X W0) (hW : ∀ cls d σ' H', E cls d H' → W0 cls d σ' H')
    (calm : X.calm = true) (nd : X.N.Nodup) (I : Inv X pins σ H s) (pi : PI X tg iter wi) (ok : BlkOk X.N X.env.scope scope own)
    (pg : ∀ (s : Shared) (H : Hp) (C : Addr) (cl : List (Str × Addr)) (fp : List Addr), PG (X.blk s H scope (compEnvC scope cl C X.env) fp) tg g)
    (pt : ∀ (s : Shared) (H : Hp) (C : Addr) (cl : List (Str × Addr)) (fp : List Addr), PTs (X.blk s H scope (compEnvC scope cl C X.env) fp) ifs tt)
    (pe : ∀ (s : Shared) (H : Hp) (C : Addr) (cl : List (Str × Addr)) (fp : List Addr), PE (blkE X E s H scope (compEnvC scope cl C X.env) fp) elt te)
    (plain : ∀ x, foldedSetIterable iter X.env x = pure x) (read : tLc wi g tt te (own.map (·.2)) σ H fun _ _ => False) :
    wpAny (model X.prog X.w) X.A (comprehension (.ListComp elt [⟨tg, iter, ifs, 0⟩] scope pos) scope X.env from_ (newList []) false (eval iter X.env) use) Qf X.xe s := by
  have free : ∀ y ∈ scope.names, y.2 = .free → ∃ c, X.env.cells.lookup y.1 = some c := fun y hy e => (ok.free y hy e).elim (fun k => I.ok.has _ (.inl k)) fun k => I.ok.has _ (.inr k)
  refine comp_gone (use := use) rfl plain (closure_ok free) ok.kind (fun y hy e => by rw [ok.uniq y hy, e]) (thn (pi.run pins s σ H _ I read) fun xv s1 k1 => thn k1 fun itv s2 k2 => ?_)
  obtain ⟨it, fp, tn, J, H2, rfl, I2, T, st2, f2, q⟩ := k2
  refine wpAny_newObj_type (newEnv_comp ?_) (Nat.zero_le sizeLine)
  obtain ⟨D, eD⟩ : ∃ D, s2.heap.objs.size = D := ⟨_, rfl⟩
  obtain ⟨W, ⟨m0, w0⟩, turn⟩ := q D (I2.hok.fresh (Nat.le_of_eq eD))
  obtain ⟨s3, e3⟩ : ∃ s3 : Shared, ({ s2 with heap := s2.heap.push { cls := .type "list", data := .seq ([] : List Value).toArray } } : Shared) = s3 := ⟨_, rfl⟩
  have heap3 : s3.heap = s2.heap.push { cls := .type "list", data := .seq ([] : List Value).toArray } := congrArg Shared.heap e3.symm
  have old3 : ∀ b o, s2.heap.get? b = some o → s3.heap.get? b = some o := fun b o e => heap3 ▸ Heap.get?_push_of_some _ e
  have In3 : Inv X pins σ (upd H2 D (.lst [])) s3 := by
    subst e3
    refine I2.laid (t' := s2.toks) old3 (Nat.le_of_eq eD) ⟨Nat.zero_le _, [], 0, .nil, ?_⟩
    subst eD
    exact Heap.get?_push_size s2.heap rfl
  have there : ∀ b ∈ fp, b < s2.heap.objs.size := fun b hb => Heap.lt_size (T.obj _ _ st2 b hb).choose_spec.1
  have fresh3 : ∀ b ∈ fp, FpOk X pins (upd H2 D (.lst [])) b ∧ b < s3.heap.objs.size := fun b hb => by
    have lt := there b hb
    have bD : b ≠ D := fun z => Nat.lt_irrefl D (by rw [← eD] at z ⊢; rw [z] at lt; exact lt)
    exact ⟨⟨(upd_ne bD).trans (f2 b hb).1, (f2 b hb).2⟩, by rw [heap3, Heap.size_push]; exact Nat.lt_succ_of_lt lt⟩
  have st3 : tn 0 s3.heap := T.keep _ _ _ st2 fun b _ o e => old3 b o e
  have I4 := block_start In3 ok nd fresh3
  obtain ⟨H3, eH3⟩ : ∃ H3, upd H2 D (.lst []) = H3 := ⟨_, rfl⟩
  rw [eH3] at In3 I4 w0 fresh3
  have no3 : ∀ b ∈ fp, H3 b = none := fun b hb => (fresh3 b hb).1.1
  have g1 := pg s3 H3 s3.heap.objs.size (cellsFrom (s3.heap.objs.size + 1) scope.names (cloFrom X.env.cells scope.names [])) fp
  have t1 := pt s3 H3 s3.heap.objs.size (cellsFrom (s3.heap.objs.size + 1) scope.names (cloFrom X.env.cells scope.names [])) fp
  have x1 := pe s3 H3 s3.heap.objs.size (cellsFrom (s3.heap.objs.size + 1) scope.names (cloFrom X.env.cells scope.names [])) fp
  obtain ⟨ce, ece⟩ : ∃ ce, compEnvC scope (cellsFrom (s3.heap.objs.size + 1) scope.names (cloFrom X.env.cells scope.names [])) s3.heap.objs.size X.env = ce := ⟨_, rfl⟩
  have cL : ce.locals = s3.heap.objs.size := ece ▸ rfl
  have cF : ce.frame = X.env.frame := ece ▸ rfl
  rw [e3, eD]
  show codeAny _ _ (.compStart _ 0 (.ref it) (.ref D) (compEnvC scope (cellsFrom (s3.heap.objs.size + 1) scope.names (cloFrom X.env.cells scope.names [])) s3.heap.objs.size X.env)) (compEnds _ _ _ (compEnvC scope (cellsFrom (s3.heap.objs.size + 1) scope.names (cloFrom X.env.cells scope.names [])) s3.heap.objs.size X.env)) _
  rw [ece] at I4 g1 t1 x1 ⊢
  obtain ⟨s4, e4⟩ : ∃ s4 : Shared, ({ s3 with heap := pushCells (s3.heap.push { cls := .type "dict", data := .dict #[] }) scope.names } : Shared) = s4 := ⟨_, rfl⟩
  rw [e4] at I4 ⊢
  have st4 : tn 0 s4.heap := T.keep _ _ _ st3 fun b _ o e => e4 ▸ pushCells_keeps _ _ _ _ (Heap.get?_push_of_some _ e)
  obtain ⟨Y, eY⟩ : ∃ Y : Cx, X.blk s3 H3 scope ce fp = Y := ⟨_, rfl⟩
  have free1 : ∀ {σ1 : L2.St} {H1 : Hp} {s1 : Shared}, Inv (X.blk s3 H3 scope ce fp) [] σ1 H1 s1 → (∀ b ∈ fp, H1 b = none) → ∀ b ∈ fp, FpOk (X.blk s3 H3 scope ce fp) [] H1 b := fun {σ1 H1 s1} J1 n b hb =>
    ⟨n b hb, (J1.ok.exf b hb).1, J1.ok.exfs b hb, .inl hb, (fun x c e => (J1.ok.exf b hb).2 x c e), fun p hp => nomatch (show p ∈ ([] : List (Addr × Obj)) from hp)⟩
  have back : ∀ {pins1 : List (Addr × Obj)} {σ1 : L2.St} {H1 : Hp} {s1 : Shared}, Inv (X.blk s3 H3 scope ce fp) pins1 σ1 H1 s1 → Inv X pins σ H1 s1 := fun J1 =>
    In3.call' (ch := fp) J1.os J1.base J1.hok J1.bare fun b hb => ⟨(fresh3 b hb).1.2.2.2.1, (fresh3 b hb).1.2.1, (fresh3 b hb).1.2.2.2.2.1, (fresh3 b hb).1.2.2.2.2.2⟩
  have loop : codeAny (model X.prog X.w) X.A (.compLoop (.ListComp elt [⟨tg, iter, ifs, 0⟩] scope pos) 0 (.ref it) (.ref D) ce) (compEnds (model X.prog X.w) X.A X.xe ce) s4 := by
    refine compLoop_any (fun n s1 => ∃ i H1, Inv (X.blk s3 H3 scope ce fp) [] (wipe σ (own.map (·.2))) H1 s1 ∧ tn i s1.heap ∧ (∀ b ∈ fp, H1 b = none) ∧ W i n H1) ?_ m0 ⟨0, H3, I4, st4, no3, w0⟩
    rintro n s5 ⟨i, H5, J5, st5, n5, w5⟩
    obtain ⟨_, no⟩ | ⟨go, Nx, less, step⟩ := turn i n H5 w5
    · exact no.elim
    have item := T.item (X.blk s3 H3 scope ce fp) rfl rfl rfl calm i [] s5 _ H5 (fun _ _ => False) J5 (free1 J5 n5) st5 go
    refine thnF item fun r s6 ⟨u, hr, k6⟩ => ?_
    subst hr
    refine thnF k6 fun _ s7 ⟨x, H7, I7, r7, y7, st7, n7⟩ => ?_
    have pinned := I7.pinned (free1 I7 n7) (T.obj _ _ st7)
    refine thnF (g1.run _ s7 _ H7 x u _ pinned r7 (step x H7 y7)) fun _ s8 ⟨σ8, H8, I8, w8, q8⟩ => ?_
    refine thnF (t1.run _ s8 σ8 H8 _ I8 q8) fun b s9 ⟨H9, I9, q9⟩ => ?_
    have next : ∀ {s1 : Shared} {H1 : Hp}, Inv (X.blk s3 H3 scope ce fp) ([] ++ pinsAt fp s7.heap) σ8 H1 s1 → Nx H1 → ∃ m, m < n ∧ ∃ i H1, Inv (X.blk s3 H3 scope ce fp) [] (wipe σ (own.map (·.2))) H1 s1 ∧ tn i s1.heap ∧ (∀ b ∈ fp, H1 b = none) ∧ W i m H1 := fun {s1 H1} J1 nx => by
      obtain ⟨m1, lt, wn⟩ := less H1 nx
      have kept : ∀ b ∈ fp, ∀ o, s7.heap.get? b = some o → s1.heap.get? b = some o ∧ H1 b = none := fun b hb o e => by
        obtain ⟨z1, z2, _⟩ := J1.pin (b, o) (List.mem_append_right _ (List.mem_append_right _ (mem_pinsAt hb e)))
        exact ⟨z1, z2⟩
      have len : (wipe σ (own.map (·.2))).length = σ8.length := w8 ▸ wipe_length ..
      refine ⟨m1, lt, i + 1, H1, (J1.unpinned (pins := [])).weak len (fun j v e => (wipe_some (w8 ▸ e)).1), T.keep _ _ _ st7 fun b hb o e => (kept b hb o e).1, fun b hb => ?_, wn⟩
      obtain ⟨o, e, -⟩ := T.obj _ _ st7 b hb
      exact (kept b hb o e).2
    cases b with
    | false => exact next I9 q9
    | true =>
      refine wpAny_mono (x1.run _ s9 σ8 H9 _ (I9.wish _) q9) (fun z s10 ⟨yv, H10, I10, r10, acc, hD10, hz10, nx⟩ => ?_) fun e s1 ⟨pins1, σ1, H1, s2', J1, c⟩ => ?_
      · exact app_ok (X := X.blk s3 H3 scope ce fp) I10.unwish hD10 hz10 r10 fun s11 I11 => next I11 nx
      · have noC : H1 ce.locals = none := J1.free
        obtain ⟨m, hn, _⟩ := J1.loc
        refine block_gone hs hf tk (hW · · σ ·) (back J1) cF hn ?_ c
        rw [cL] at noC ⊢
        exact In3.fpOk (Nat.le_refl _) noC
  exact codeAny_compStart_list loop (T.self _ 0 _ _ _ st4 loop)
/-- x = [f(..) for ..], x a local, ended by a callee's exception -/
theorem ps_setLcN {y : Str} {py pos spos : Pos} (hs : X.stack = X.env :: X.outer) (hf : X.env.frame = some X.env.locals) (tk : Takes X W0) (hW : ∀ cls d σ' H', E cls d H' → W0 cls d σ' H')
    (calm : X.calm = true) (nd : X.N.Nodup) (sw : swapsWith (.ListComp elt [⟨tg, iter, ifs, 0⟩] scope pos) (some (.Name y py)) spos.line X.env = pure true) (pi : PI X tg iter wi) (ok : BlkOk X.N X.env.scope scope own)
    (pg : ∀ (s : Shared) (H : Hp) (C : Addr) (cl : List (Str × Addr)) (fp : List Addr), PG (X.blk s H scope (compEnvC scope cl C X.env) fp) tg g)
    (pt : ∀ (s : Shared) (H : Hp) (C : Addr) (cl : List (Str × Addr)) (fp : List Addr), PTs (X.blk s H scope (compEnvC scope cl C X.env) fp) ifs tt)
    (pe : ∀ (s : Shared) (H : Hp) (C : Addr) (cl : List (Str × Addr)) (fp : List Addr), PE (blkE X E s H scope (compEnvC scope cl C X.env) fp) elt te)
    (plain : ∀ x, foldedSetIterable iter X.env x = pure x := by intro _; rfl) :
    PS X (.Assign [.Name y py] (.ListComp elt [⟨tg, iter, ifs, 0⟩] scope pos) spos) (fun _ σ H => tLc wi g tt te (own.map (·.2)) σ H fun _ _ => False) := by
  refine ⟨fun pins s σ H D I read => ?_⟩
  rw [exec_Assign_Name_used _ _ _ _ sw]
  refine wpAny_bind <| wpAny_standAt <| wpAny_bind ?_
  change wpAny _ X.A (do let _ ← comprehension (.ListComp elt [⟨tg, iter, ifs, 0⟩] scope pos) scope X.env (firstIterPos [⟨tg, iter, ifs, 0⟩] pos) (newList []) false (eval iter X.env) (some (assign (.Name y py) X.env))) _ _ s
  exact wpAny_bind (lcN_core (Qf := fun _ _ => False) hs hf tk hW calm nd I pi ok pg pt pe plain read |> fun z => wpAny_mono z (fun _ _ f => f.elim) fun _ _ e => e)
end
end Tg

namespace Tg
open PySem PySem.Spec PyProof.Rows L2
/-! ### the text -/
def topS (i : Nat) : Stmt := PySem.Challenge.pw_timegranary_k42_logs_written.main.body.getD i (.Pass ⟨0, 0, 0, 0⟩)
abbrev sMixed : Stmt := topS 23
abbrev sPurse : Stmt := topS 24
abbrev sDraw : Stmt := topS 25
theorem scMixed : FnScope ["_law_cell", "_law_k", "_law_number"] ["_law_cell", "_law_k"] (defScope sMixed) := ⟨rfl, rfl, rfl, by decide +kernel, rfl, by decide +kernel, by decide +kernel⟩
theorem scPurse : FnScope ["_law_script", "_law_at", "_law_cell", "_law_cut", "_law_k"] ["_law_script", "_law_at"] (defScope sPurse) := ⟨rfl, rfl, rfl, by decide +kernel, rfl, by decide +kernel, by decide +kernel⟩
theorem scDraw : FnScope ["_law_purse_here", "_law_out_of", "_law_drawn", "_law_number", "_law_k"] ["_law_purse_here", "_law_out_of"] (defScope sDraw) := ⟨rfl, rfl, rfl, by decide +kernel, rfl, by decide +kernel, by decide +kernel⟩
/-! ### purses: what is drawn from -/
/-- a purse at p, from which at most n were drawn -/
def Pu (H : Hp) (p : Addr) (n : Nat) : Prop := ∃ a c k : Int, H p = some (.lst [.int a, .int c, .int k]) ∧ 0 ≤ k ∧ k ≤ n
theorem Pu.same {H H' : Hp} {p : Addr} {n : Nat} (s : Same H H') (h : Pu H p n) : Pu H' p n := by
  obtain ⟨a, c, k, e, r⟩ := h
  exact ⟨a, c, k, s _ _ e, r⟩
theorem Pu.ne {H : Hp} {p l : Addr} {n : Nat} (d : Pu H p n) (h : H l = none) : l ≠ p := fun z => by
  obtain ⟨_, _, _, z2, _⟩ := d
  rw [z, z2] at h
  cases h
theorem Pu.kt {H H' : Hp} {p : Addr} {n : Nat} (d : Pu H p n) (k : Kp p H H') : KT H H' := by
  obtain ⟨_, _, _, z2, _⟩ := d
  exact KT.kp k z2 nfix_lst
theorem Pu.mono {H : Hp} {p : Addr} {n m : Nat} (d : Pu H p n) (h : n ≤ m) : Pu H p m := by
  obtain ⟨a, c, k, e, r0, r1⟩ := d
  exact ⟨a, c, k, e, r0, by omega⟩
section
variable {P : Program} {w : World} {K : PySem.W.Frag} {mg : Str → Option Value} {base : Heap}
def spMixed : Sp := fun vs H Q _ => ∃ c k : Int, vs = [.int c, .int k] ∧ 0 ≤ k ∧ k < 2 ^ 40 ∧ ∀ v : Int, Q (.int v) H
theorem ok_mixed {f : Addr} {fd : FuncData} {k : Nat} (F : Fun K "_law_mixed" "_law_mixed" sMixed f fd) : FnOk P w K mg base CX0 (k + 1) f fd ["_law_cell", "_law_k"] spMixed := by
  refine F.ok scMixed (fun vs H Q E h => ?_) (fun cdv A outer s H vs Q E hr h => ?_)
  · obtain ⟨c, k, rfl, _⟩ := h
    rfl
  · obtain ⟨c, k, rfl, k0, k1, q⟩ := h
    refine ⟨_, pss_cons (ps_set (i := 2) scMixed.nd rfl (.inl rfl) (pe_op op_mod (pe_op op_add (pe_op op_add (pe_op op_add (pe_op op_mul (pv 0) pe_int) (pe_op op_mul (pe_op op_mul pe_int (pv 1)) (pv 1))) (pv 1)) pe_int) pe_int))
      (pss_cons (ps_set (i := 2) scMixed.nd rfl (.inl rfl) (pe_op op_mod (pe_op op_add (pe_op op_mul (pv 2) (pv 2)) pe_int) pe_int))
      (pss_one (ps_ret (pe_op op_mod (pe_op op_mul (pv 2) pe_int) pe_int)))), ?_⟩
    refine ⟨_, rfl, _, _, rfl, rfl, .inr ⟨by decide, by decide⟩, _, rfl, _, _, rfl, rfl, .inl ⟨by decide, by decide⟩, _, rfl, _, _, rfl, rfl, .inr ⟨by omega, by omega⟩, _, _, rfl, rfl, _, rfl, _, _, rfl, rfl, _, _, rfl, rfl, _, _, rfl, rfl, (by show (0 : Int) < 2147483647; decide), ?_⟩
    generalize (c * 1103515245 + 7919 * k * k + k + 1) = y
    have y0 := Int.emod_nonneg y (show (2147483647 : Int) ≠ 0 by decide)
    have y1 := Int.emod_lt_of_pos y (show (0 : Int) < 2147483647 by decide)
    refine ⟨_, rfl, _, rfl, _, _, rfl, rfl, .inl ⟨by omega, by omega⟩, _, _, rfl, rfl, _, _, rfl, rfl, (by show (0 : Int) < 2147483629; decide), ?_⟩
    exact ⟨_, rfl, _, _, rfl, rfl, .inr ⟨by decide, by decide⟩, _, _, rfl, rfl, (by show (0 : Int) < 2147483587; decide), q _⟩
def spDraw : Sp := fun vs H Q _ => ∃ (p : Addr) (n : Nat) (m : Int), vs = [.ref p, .int m] ∧ Pu H p n ∧ n < 2 ^ 38 ∧ 0 < m ∧ m < 2 ^ 50 ∧
  ∀ (v : Int) (H' : Hp), Kp p H H' → Pu H' p (n + 2) → 0 ≤ v → v < m → Q (.int v) H'
theorem ok_draw {f : Addr} {fd : FuncData} {k : Nat} (F : Fun K "_law_draw" "_law_draw" sDraw f fd) (C_mixed : Cal P w K mg base k "_law_mixed" ["_law_cell", "_law_k"] spMixed) (m_range : mg "range" = none) :
    FnOk P w K mg base CX0 (k + 1) f fd ["_law_purse_here", "_law_out_of"] spDraw := by
  refine F.ok scDraw (fun vs H Q E h => ?_) (fun cdv A outer s H vs Q E hr h => ?_)
  · obtain ⟨p, n, m, rfl, _⟩ := h
    rfl
  · obtain ⟨p, n, m, rfl, ⟨a, c, k, hp, k0, k1⟩, hn, m0, m1, q⟩ := h
    refine ⟨_, pss_cons (ps_if (pt_cmpR op_gt (pe_ix ix_list (pv 0) pe_int (fun _ _ => rfl)) pe_int (nomark _))
        (pss_cons (ps_set (i := 2) scDraw.nd rfl (.inl rfl) (pe_op op_mod (pe_ix ix_list (pv 0) pe_int (fun _ _ => rfl)) (pv 1)))
        (pss_cons (ps_asg (pe_op op_fdivW (pe_ix ix_list (pv 0) pe_int (fun _ _ => rfl)) (pv 1)) (pg_sub (pv 0) pe_int set_list))
        (pss_one (ps_ret (pv 2)))))
        pss_nil)
      (pss_cons (ps_set (i := 3) scDraw.nd rfl (.inl rfl) pe_int)
      (pss_cons (ps_for PassesOwn.never rfl (pi_range1 (by rfl) m_range (pa_cons (pe_op op_add pe_int (pe_op op_fdiv (pe_bits (pv 1)) pe_int)) pa_nil)) (pg_name (i := 4) scDraw.nd rfl (.inl rfl))
        (pss_cons (ps_asg (pe_op op_add (pe_ix ix_list (pv 0) pe_int (fun _ _ => rfl)) pe_int) (pg_sub (pv 0) pe_int set_list))
        (pss_one (ps_set (i := 3) scDraw.nd rfl (.inl rfl) (pe_op op_add (pe_op op_mul (pv 3) pe_int) (pe_cal C_mixed (hr.mono (by omega)) (by rfl) (pa_cons (pe_ix ix_list (pv 0) pe_int (fun _ _ => rfl)) (pa_cons (pe_ix ix_list (pv 0) pe_int (fun _ _ => rfl)) pa_nil))))))))
      (pss_one (ps_ret (pe_op op_mod (pv 3) (pv 1)))))), ?_⟩
    have e0 := Int.emod_nonneg a (show m ≠ 0 by omega)
    have e1 := Int.emod_lt_of_pos a m0
    refine ⟨_, rfl, p, _, 0, .int a, rfl, rfl, SqL.of hp, rfl, _, _, rfl, rfl, _, rfl, ite2 (fun g => ?_) (fun g => ?_)⟩
    · refine ⟨_, rfl, p, _, 0, .int a, rfl, rfl, SqL.of hp, rfl, _, rfl, _, _, rfl, rfl, m0, ?_⟩
      refine ⟨_, rfl, p, _, 0, .int a, rfl, rfl, SqL.of hp, rfl, _, rfl, _, _, rfl, rfl, wide_div (b := 50) m0 (by omega) (by decide) (by decide), _, rfl, p, _, 0, 0, rfl, rfl, hp, rfl, _, rfl, ?_⟩
      exact q _ _ Kp.put ⟨_, _, _, upd_same, k0, by omega⟩ e0 e1
    · have b0 : Builtin.Int.intBits m ≤ 50 := intBits_le_iff.mpr (by omega)
      refine ⟨_, rfl, _, rfl, _, _, rfl, rfl, ⟨by decide, by decide⟩, _, _, rfl, rfl, _, rfl, ?_, ?_, ?_⟩
      · omega
      · omega
      · obtain ⟨cn, ec⟩ : ∃ cn : Nat, (1 + ((Builtin.Int.intBits m : Nat) : Int) / 30).toNat = cn := ⟨_, rfl⟩
        have c2 : cn ≤ 2 := by omega
        rw [ec]
        refine for_range (n := cn) (fun i σ H2 => ∃ (num k' : Int) (z : Option V), σ = [some (.ref p), some (.int m), none, some (.int num), z] ∧ Kp p H H2 ∧ H2 p = some (.lst [.int a, .int c, .int k']) ∧ 0 ≤ k' ∧ k' ≤ n + i) ?_ ?_ ?_
        · exact ⟨0, k, none, rfl, Kp.refl _ _, hp, k0, by omega⟩
        · rintro i σ H2 hi ⟨num, k', z, rfl, kp, h2, k0', k1'⟩
          refine ⟨_, rfl, p, _, 2, .int k', rfl, rfl, SqL.of h2, rfl, _, _, rfl, rfl, _, rfl, p, _, 2, 2, rfl, rfl, h2, rfl, ?_⟩
          have h3 : (upd H2 p (.lst [.int a, .int c, .int (k' + 1)])) p = some (.lst [.int a, .int c, .int (k' + 1)]) := upd_same
          refine ⟨_, rfl, _, _, rfl, rfl, .inr ⟨by decide, by decide⟩, _, rfl, p, _, 1, .int c, rfl, rfl, SqL.of h3, rfl, _, rfl, p, _, 2, .int (k' + 1), rfl, rfl, SqL.of h3, rfl, c, k' + 1, rfl, by omega, by omega, fun v => ?_⟩
          exact ⟨_, _, rfl, rfl, _, _, _, rfl, kp.trans Kp.put, h3, by omega, by omega⟩
        · rintro σ H2 ⟨num, k', z, rfl, kp, h2, k0', k1'⟩
          refine ⟨_, rfl, _, rfl, _, _, rfl, rfl, m0, ?_⟩
          exact q _ _ kp ⟨_, _, _, h2, k0', by omega⟩ (Int.emod_nonneg _ (by omega)) (Int.emod_lt_of_pos _ m0)
def spPurse (K : PySem.W.Frag) : Sp := fun vs H Q _ => ∃ (sa : Addr) (ns : List Int) (at_ : Int), vs = [.ref sa, .int at_] ∧ SqL K H sa (ns.map V.int) ∧ ns.length ≤ 63 ∧ 0 ≤ at_ ∧ at_ ≤ 1000 ∧
  ∀ (p : Addr) (H' : Hp), Same H H' → H p = none → Pu H' p 1000000 → Q (.ref p) H'
theorem cut_ints (ns : List Int) (lo hi : Option Int) : ∃ ms : List Int, cutV (ns.map V.int) lo hi = ms.map V.int ∧ ms.length ≤ ns.length := by
  unfold cutV
  refine ⟨(ns.drop (HT.sIx (ns.map V.int).length 0 lo)).take (HT.sIx (ns.map V.int).length (ns.map V.int).length hi - HT.sIx (ns.map V.int).length 0 lo), ?_, ?_⟩
  · rw [List.map_take, List.map_drop]
  · rw [List.length_take, List.length_drop]
    omega
theorem ok_purse {f : Addr} {fd : FuncData} {k : Nat} (F : Fun K "_law_purse" "_law_purse" sPurse f fd) (m_range : mg "range" = none) (m_max : mg "max" = none) :
    FnOk P w K mg base CX0 (k + 1) f fd ["_law_script", "_law_at"] (spPurse K) := by
  refine F.ok scPurse (fun vs H Q E h => ?_) (fun cdv A outer s H vs Q E hr h => ?_)
  · obtain ⟨sa, ns, at_, rfl, _⟩ := h
    rfl
  · obtain ⟨sa, ns, at_, rfl, hS, hl, a0, a1, q⟩ := h
    refine ⟨_, pss_cons (ps_set (i := 2) scPurse.nd rfl (.inl rfl) (pe_ix ix_list (pe_op op_cat (pe_slice sl_list (pv 0) (po_some (pv 1)) (po_some (pe_op op_add (pv 1) pe_int))) (pe_lst (pa_cons pe_int pa_nil))) pe_int (fun _ _ => rfl)))
      (pss_cons (ps_set (i := 3) scPurse.nd rfl (.inl rfl) (pe_op op_pow pe_int pe_int))
      (pss_cons (ps_for PassesOwn.never rfl (pi_range1 (by rfl) m_range (pa_cons pe_int pa_nil)) (pg_name (i := 4) scPurse.nd rfl (.inl rfl))
        (pss_one (ps_set (i := 3) scPurse.nd rfl (.inl rfl) (pe_op op_mulW (pv 3) (pv 3)))))
      (pss_one (ps_ret (pe_lst (pa_cons (pe_op op_mod (pe_callB (call_max2 rfl) (by rfl) m_max boot_max (pa_cons (pe_op op_sub (pv 2) (pe_op op_pow pe_int pe_int)) (pa_cons pe_int pa_nil))) (pv 3)) (pa_cons (pe_op op_mod (pv 2) pe_int) (pa_cons (pe_op op_mul pe_int (pv 1)) pa_nil)))))))), ?_⟩
    obtain ⟨ms, em, lm⟩ := cut_ints ns (some at_) (some (at_ + 1))
    refine ⟨_, rfl, _, rfl, at_, rfl, _, rfl, _, _, rfl, rfl, at_ + 1, rfl, sa, _, rfl, hS, fun l1 n1 => ?_⟩
    rw [em]
    refine ⟨by show 1 ≤ sizeLine; decide, fun l2 n2 => ?_⟩
    have s1 : Same H (upd H l1 (.lst (ms.map V.int))) := same_new n1
    have s2 := same_new (o := .lst [.int 0]) n2
    have m1 : (upd (upd H l1 (.lst (ms.map V.int))) l2 (.lst [.int 0])) l1 = some (.lst (ms.map V.int)) := s2 _ _ upd_same
    refine ⟨l1, l2, _, _, rfl, rfl, m1, upd_same, ?_, fun l3 n3 => ?_⟩
    · rw [List.length_map]
      exact Nat.le_of_lt (small1000 (by show ms.length + 1 ≤ 1000; omega))
    · have s3 := same_new (o := .lst (ms.map V.int ++ [.int 0])) n3
      obtain ⟨c, ec⟩ : ∃ c : Int, atI (ms.map V.int ++ [.int 0]) 0 = some (.int c) := by
        cases ms with
        | nil => exact ⟨0, rfl⟩
        | cons x r =>
          refine ⟨x, ?_⟩
          show atI _ ((0 : Nat) : Int) = _
          exact atI_nat rfl
      have s4 : Same H (upd (upd (upd H l1 (.lst (ms.map V.int))) l2 (.lst [.int 0])) l3 (.lst (ms.map V.int ++ [.int 0]))) := (s1.trans s2).trans s3
      refine ⟨l3, _, 0, .int c, rfl, rfl, SqL.of upd_same, ec, ?_⟩
      refine ⟨10, 60, rfl, rfl, ⟨by decide, by decide, by decide⟩, ?_⟩
      revert s4
      generalize upd (upd (upd H l1 (.lst (ms.map V.int))) l2 (.lst [.int 0])) l3 (.lst (ms.map V.int ++ [.int 0])) = H4
      intro s4
      refine ⟨5, rfl, by decide, by decide, for_range (n := 5) (fun i σ H2 => ∃ (x : Int) (y : Option V), σ = [some (.ref sa), some (.int at_), some (.int c), some (.int x), y] ∧ H2 = H4 ∧ 0 < x ∧ x.natAbs < 2 ^ (200 * 2 ^ i)) ?_ ?_ ?_⟩
      · exact ⟨_, none, rfl, rfl, by decide, by decide⟩
      · rintro i σ H2 hi ⟨x, y, rfl, rfl, hx, hb⟩
        refine ⟨_, rfl, _, rfl, x, x, rfl, rfl, ?_, x * x, _, rfl, rfl, Int.mul_pos hx hx, ?_⟩
        · have h7 : 2 ^ i ≤ 2 ^ 6 := Nat.pow_le_pow_right (by decide) (by omega)
          have h0 : 0 < 2 ^ i := Nat.pow_pos (by decide)
          exact wide_mul hb hb (by omega) (by omega) (by omega)
        · have e := wide_lt hb hb
          rw [show 200 * 2 ^ (i + 1) = 200 * 2 ^ i + 200 * 2 ^ i by rw [Nat.pow_succ]; omega]
          exact e
      · rintro σ H2 ⟨x, y, rfl, rfl, hx, _⟩
        refine ⟨_, rfl, 10, 18, rfl, rfl, ⟨by decide, by decide, by decide⟩, _, _, rfl, rfl, _, _, rfl, _, rfl, _, _, rfl, rfl, hx, _, rfl, _, _, rfl, rfl, (by show (0 : Int) < 2147483647; decide), _, rfl, _, _, rfl, rfl, .inl ⟨by decide, by decide⟩, by show 3 ≤ sizeLine; decide, fun p np => ?_⟩
        exact q p _ (s4.trans (same_new np)) (s4.free np) ⟨_, _, _, upd_same, by omega, by omega⟩
end
theorem if_n {c : Bool} {A B : Prop} (h : c = false) (b : B) : if c = true then A else B := by
  subst h
  exact if_f b
theorem if_y {c : Bool} {A B : Prop} (h : c = true) (a : A) : if c = true then A else B := by
  subst h
  exact if_t a
theorem vi_ne {i j : Int} (h : i ≠ j) : decide (V.int i = V.int j) = false := decide_eq_false fun z => h (V.int.inj z)
theorem at_pred {xs : List V} {i : Nat} {v : V} (h : xs[i]? = some v) : atI xs (((i + 1 : Nat) : Int) - 1) = some v := by
  rw [show (((i + 1 : Nat) : Int) - 1) = ((i : Nat) : Int) by omega]
  exact atI_nat h
/-! ### numbers or None -/
section
variable {P : Program} {w : World} {K : PySem.W.Frag} {mg : Str → Option Value} {base : Heap}
end
set_option maxHeartbeats 1000000
abbrev sClass : Stmt := topS 26
abbrev NCl : List Str := ["_law_caught", "_law_some", "_law_words", "_law_found", "_law_word", "_law_truth"]
theorem scClass : FnScope NCl ["_law_caught"] (defScope sClass) := ⟨rfl, rfl, rfl, by decide +kernel, rfl, by decide +kernel, by decide +kernel⟩
/-- what the top has of the nine classes -/
structure Nine (K : PySem.W.Frag) (mg : Str → Option Value) (CB CD CG CK CL CO CN CP CT : Addr) : Prop where
  mB : mg "NoBody" = some (.ref CB)
  mD : mg "NoDeed" = some (.ref CD)
  mG : mg "NoGrain" = some (.ref CG)
  mK : mg "NoKeep" = some (.ref CK)
  mL : mg "NoLog" = some (.ref CL)
  mO : mg "NoOrder" = some (.ref CO)
  mN : mg "NoNumber" = some (.ref CN)
  mP : mg "NoPlace" = some (.ref CP)
  mT : mg "NoText" = some (.ref CT)
  mi : mg "isinstance" = none
  mV : mg "ValueError" = none
  kB : PySem.W.kitOne K (.ref CB) (.ref CB) = some true
  kD : PySem.W.kitOne K (.ref CB) (.ref CD) = some false
  kG : PySem.W.kitOne K (.ref CB) (.ref CG) = some false
  kK : PySem.W.kitOne K (.ref CB) (.ref CK) = some false
  kL : PySem.W.kitOne K (.ref CB) (.ref CL) = some false
  kO : PySem.W.kitOne K (.ref CB) (.ref CO) = some false
  kN : PySem.W.kitOne K (.ref CB) (.ref CN) = some false
  kP : PySem.W.kitOne K (.ref CB) (.ref CP) = some false
  kT : PySem.W.kitOne K (.ref CB) (.ref CT) = some false
  kV : PySem.W.kitOne K (.ref CB) (.type "ValueError") = some true
  xc : ExcC K CB
  xf : XfC K CB
  no : PySem.W.findIn K (.ref CB) "body" = some none
  ex : PySem.W.exmOne K (.ref CB) (.ref CB) = some true
/-- the words whose truth is one -/
def pick : List Str → List Bool → List Str
  | x :: xs, true :: bs => x :: pick xs bs
  | _ :: xs, false :: bs => pick xs bs
  | _, _ => []
theorem pick_take : ∀ {xs : List Str} {bs : List Bool} {i : Nat} {x : Str} {b : Bool}, xs[i]? = some x → bs[i]? = some b → pick (xs.take (i + 1)) (bs.take (i + 1)) = pick (xs.take i) (bs.take i) ++ (if b = true then [x] else [])
  | [], _, i, x, b, h, _ => by simp at h
  | _ :: _, [], i, x, b, _, h => by simp at h
  | y :: xs, c :: bs, 0, x, b, h1, h2 => by
    simp only [List.getElem?_cons_zero, Option.some.injEq] at h1 h2
    subst h1
    subst h2
    cases c <;> rfl
  | y :: xs, c :: bs, i + 1, x, b, h1, h2 => by
    rw [List.getElem?_cons_succ] at h1 h2
    have ih := pick_take (xs := xs) (bs := bs) h1 h2
    rw [List.take_succ_cons, List.take_succ_cons, List.take_succ_cons, List.take_succ_cons]
    cases c with
    | false => exact ih
    | true =>
      show y :: pick _ _ = y :: (pick _ _ ++ _)
      rw [ih]
theorem pick_len : ∀ (xs : List Str) (bs : List Bool), (pick xs bs).length ≤ xs.length
  | [], _ => Nat.zero_le _
  | _ :: _, [] => Nat.zero_le _
  | x :: xs, true :: bs => Nat.succ_le_succ (pick_len xs bs)
  | x :: xs, false :: bs => Nat.le_succ_of_le (pick_len xs bs)
def nineW : List Str := ["body", "deed", "grain", "keep", "log", "order", "number", "place", "text"]
def nineT : List Bool := [true, false, false, false, false, false, false, false, false]
section
variable {P : Program} {w : World} {K : PySem.W.Frag} {mg : Str → Option Value} {base : Heap} {C CB CD CG CK CL CO CN CP CT : Addr}
def spClass (CB : Addr) : Sp := fun vs H Q _ => ∃ (a d : Addr) (fs : List (Str × V)), vs = [.ref a] ∧ H a = some (ExV (.ref CB) (some d) a) ∧ H d = some (.xd fs) ∧ ∀ H', Same H H' → Q (.str "body") H'
theorem ok_class {f : Addr} {fd : FuncData} {k : Nat} (F : Fun K "_law_class" "_law_class" sClass f fd) (N9 : Nine K mg CB CD CG CK CL CO CN CP CT) (m_zip : mg "zip" = none) (m_len : mg "len" = none) : FnOk P w K mg base CX0 (k + 1) f fd ["_law_caught"] (spClass CB) := by
  refine F.ok scClass (fun vs H Q E h => ?_) (fun cdv A outer s H vs Q E hr h => ?_)
  · obtain ⟨a, d, fs, rfl, _⟩ := h
    rfl
  · obtain ⟨a, d, fs, rfl, ha, hd, q⟩ := h
    refine ⟨_, pss_cons (ps_if (pt_cmpR op_isN (pv 0) pe_non (nomark _))
        (pss_one (ps_ret pe_str))
        pss_nil)
      (pss_cons (ps_set (i := 1) scClass.nd rfl (.inl rfl) (pe_lst (pa_cons (pe_callB call_isV (by rfl) N9.mi PyProof.Rows.boot_isinstance (pa_cons (pv 0) (pa_cons (pe_glob (v := .ref CB) (by rfl) N9.mB rfl) pa_nil))) (pa_cons (pe_callB call_isV (by rfl) N9.mi PyProof.Rows.boot_isinstance (pa_cons (pv 0) (pa_cons (pe_glob (v := .ref CD) (by rfl) N9.mD rfl) pa_nil))) (pa_cons (pe_callB call_isV (by rfl) N9.mi PyProof.Rows.boot_isinstance (pa_cons (pv 0) (pa_cons (pe_glob (v := .ref CG) (by rfl) N9.mG rfl) pa_nil))) pa_nil)))))
      (pss_cons (ps_set (i := 1) scClass.nd rfl (.inl rfl) (pe_op op_cat (pv 1) (pe_lst (pa_cons (pe_callB call_isV (by rfl) N9.mi PyProof.Rows.boot_isinstance (pa_cons (pv 0) (pa_cons (pe_glob (v := .ref CK) (by rfl) N9.mK rfl) pa_nil))) (pa_cons (pe_callB call_isV (by rfl) N9.mi PyProof.Rows.boot_isinstance (pa_cons (pv 0) (pa_cons (pe_glob (v := .ref CL) (by rfl) N9.mL rfl) pa_nil))) (pa_cons (pe_callB call_isV (by rfl) N9.mi PyProof.Rows.boot_isinstance (pa_cons (pv 0) (pa_cons (pe_glob (v := .ref CO) (by rfl) N9.mO rfl) pa_nil))) pa_nil))))))
      (pss_cons (ps_set (i := 1) scClass.nd rfl (.inl rfl) (pe_op op_cat (pv 1) (pe_lst (pa_cons (pe_callB call_isV (by rfl) N9.mi PyProof.Rows.boot_isinstance (pa_cons (pv 0) (pa_cons (pe_glob (v := .ref CN) (by rfl) N9.mN rfl) pa_nil))) (pa_cons (pe_callB call_isV (by rfl) N9.mi PyProof.Rows.boot_isinstance (pa_cons (pv 0) (pa_cons (pe_glob (v := .ref CP) (by rfl) N9.mP rfl) pa_nil))) (pa_cons (pe_callB call_isV (by rfl) N9.mi PyProof.Rows.boot_isinstance (pa_cons (pv 0) (pa_cons (pe_glob (v := .ref CT) (by rfl) N9.mT rfl) pa_nil))) pa_nil))))))
      (pss_cons (ps_set (i := 2) scClass.nd rfl (.inl rfl) (pe_lst (pa_cons pe_str (pa_cons pe_str (pa_cons pe_str (pa_cons pe_str (pa_cons pe_str (pa_cons pe_str (pa_cons pe_str (pa_cons pe_str (pa_cons pe_str pa_nil)))))))))))
      (pss_cons (ps_setLc (i := 3) (own := [("_law_word", 4), ("_law_truth", 5)]) (g := gTup K 2 _) rfl scClass.nd rfl rfl (sw_true rfl rfl rfl (by decide +kernel)) (pi_zip (by rfl) m_zip (pa_cons (pv 2) (pa_cons (pv 1) pa_nil))) (blkOk_by (own := [("_law_word", 4), ("_law_truth", 5)]) (N := NCl) (sc := defScope sClass) (by decide +kernel)) (fun _ _ _ _ _ => (pg_tup rfl (pgs_cons (pg_name (i := 4) scClass.nd rfl (.inl rfl)) (pgs_cons (pg_name (i := 5) scClass.nd rfl (.inl rfl)) pgs_nil)))) (fun _ _ _ _ _ => pts_one (pt_val (pv 5))) (fun _ _ _ _ _ => (pv 4)))
      (pss_cons (ps_if (pt_cmpR op_ne (pe_callB call_len_seq (by rfl) m_len (by decide +kernel) (pa_cons (pv 3) pa_nil)) pe_int (nomark _))
        (pss_one (ps_ret pe_str))
        pss_nil)
      (pss_one (ps_ret (pe_ix ix_list (pv 3) pe_int (fun _ _ => rfl)))))))))), ?_⟩
    refine ⟨_, rfl, rfl, _, rfl, if_n (decide_eq_false (fun z => nomatch z)) ?_⟩
    refine ⟨_, rfl, a, CB, d, fs, .ref CB, .ref CB, true, rfl, ha, hd, N9.xc, .own _, N9.kB, _, rfl, a, CB, d, fs, .ref CD, .ref CD, false, rfl, ha, hd, N9.xc, .own _, N9.kD, _, rfl, a, CB, d, fs, .ref CG, .ref CG, false, rfl, ha, hd, N9.xc, .own _, N9.kG, by show 3 ≤ sizeLine; decide, fun l1 n1 => ?_⟩
    have s1 := same_new (o := .lst [.bl true, .bl false, .bl false]) n1
    have ha1 := s1 _ _ ha
    have hd1 := s1 _ _ hd
    refine ⟨_, rfl, _, rfl, a, CB, d, fs, .ref CK, .ref CK, false, rfl, ha1, hd1, N9.xc, .own _, N9.kK, _, rfl, a, CB, d, fs, .ref CL, .ref CL, false, rfl, ha1, hd1, N9.xc, .own _, N9.kL, _, rfl, a, CB, d, fs, .ref CO, .ref CO, false, rfl, ha1, hd1, N9.xc, .own _, N9.kO, by show 3 ≤ sizeLine; decide, fun l2 n2 => ?_⟩
    have s2 := same_new (o := .lst [.bl false, .bl false, .bl false]) n2
    refine ⟨l1, l2, _, _, rfl, rfl, s2 _ _ upd_same, upd_same, (by show 3 + 3 ≤ sizeLine; decide), fun l3 n3 => ?_⟩
    have s3 := same_new (o := .lst ([.bl true, .bl false, .bl false] ++ [.bl false, .bl false, .bl false])) n3
    have s13 := (s1.trans s2).trans s3
    have ha3 := s13 _ _ ha
    have hd3 := s13 _ _ hd
    refine ⟨_, rfl, _, rfl, a, CB, d, fs, .ref CN, .ref CN, false, rfl, ha3, hd3, N9.xc, .own _, N9.kN, _, rfl, a, CB, d, fs, .ref CP, .ref CP, false, rfl, ha3, hd3, N9.xc, .own _, N9.kP, _, rfl, a, CB, d, fs, .ref CT, .ref CT, false, rfl, ha3, hd3, N9.xc, .own _, N9.kT, by show 3 ≤ sizeLine; decide, fun l4 n4 => ?_⟩
    have s4 := same_new (o := .lst [.bl false, .bl false, .bl false]) n4
    refine ⟨l3, l4, _, _, rfl, rfl, s4 _ _ upd_same, upd_same, (by show 6 + 3 ≤ sizeLine; decide), fun l5 n5 => ?_⟩
    have s5 := same_new (o := .lst (nineT.map V.bl)) n5
    have s15 := (s13.trans s4).trans s5
    obtain ⟨H5, e5⟩ : ∃ H5, upd (upd (upd (upd (upd H l1 (.lst [.bl true, .bl false, .bl false])) l2 (.lst [.bl false, .bl false, .bl false])) l3 (.lst ([.bl true, .bl false, .bl false] ++ [.bl false, .bl false, .bl false]))) l4 (.lst [.bl false, .bl false, .bl false])) l5 (.lst (nineT.map V.bl)) = H5 := ⟨_, rfl⟩
    have h5 : H5 l5 = some (.lst (nineT.map V.bl)) := by
      rw [← e5]
      exact upd_same
    have sH5 : Same H H5 := by
      rw [← e5]
      exact s15
    refine ⟨by show 9 ≤ sizeLine; decide, fun l6 n60 => ?_⟩
    have n6 : H5 l6 = none := by
      rw [← e5]
      exact n60
    have s6 : Same H5 (upd (upd (upd (upd (upd (upd H l1 (.lst [.bl true, .bl false, .bl false])) l2 (.lst [.bl false, .bl false, .bl false])) l3 (.lst ([.bl true, .bl false, .bl false] ++ [.bl false, .bl false, .bl false]))) l4 (.lst [.bl false, .bl false, .bl false])) l5 (.lst (nineT.map V.bl))) l6 (.lst (nineW.map V.str))) := by
      rw [e5]
      exact same_new n6
    have h6 : (upd (upd (upd (upd (upd (upd H l1 (.lst [.bl true, .bl false, .bl false])) l2 (.lst [.bl false, .bl false, .bl false])) l3 (.lst ([.bl true, .bl false, .bl false] ++ [.bl false, .bl false, .bl false]))) l4 (.lst [.bl false, .bl false, .bl false])) l5 (.lst (nineT.map V.bl))) l6 (.lst (nineW.map V.str))) l6 = some (.lst (nineW.map V.str)) := upd_same
    obtain ⟨H6, e6⟩ : ∃ H6, upd (upd (upd (upd (upd (upd H l1 (.lst [.bl true, .bl false, .bl false])) l2 (.lst [.bl false, .bl false, .bl false])) l3 (.lst ([.bl true, .bl false, .bl false] ++ [.bl false, .bl false, .bl false]))) l4 (.lst [.bl false, .bl false, .bl false])) l5 (.lst (nineT.map V.bl))) l6 (.lst (nineW.map V.str)) = H6 := ⟨_, rfl⟩
    have g6 : H6 l6 = some (.lst (nineW.map V.str)) := by
      rw [← e6]
      exact h6
    have g5 : H6 l5 = some (.lst (nineT.map V.bl)) := by
      rw [← e6]
      exact s6 _ _ h5
    have sH6 : Same H H6 := by
      rw [← e6]
      exact sH5.trans s6
    refine ⟨_, rfl, _, rfl, l6, l5, nineW.map V.str, nineT.map V.bl, rfl, SqL.of h6, SqL.of (s6 _ _ h5), fun D nD0 => ?_⟩
    have nD : H6 D = none := by
      rw [← e6]
      exact nD0
    refine lc_it (walk_zip (K := K) (a := l6) (b := l5) (xs := nineW.map V.str) (ys := nineT.map V.bl) (n := 9) rfl) (fun j Hc => Same H6 Hc ∧ Hc D = some (.lst ((pick (nineW.take j) (nineT.take j)).map V.str))) ?_ ?_ ?_ ?_
    · rw [← e6]
      exact ⟨same_new nD0, upd_same⟩
    · rintro j Hc _ ⟨sc, _⟩
      exact ⟨SqL.of (sc _ _ g6), SqL.of (sc _ _ g5)⟩
    · rintro j x Hc Hd hj ⟨sc, hD⟩ ⟨t, x1, x2, rfl, nt, rfl, f1, f2⟩
      replace f1 : (nineW.map V.str)[j]? = some x1 := f1
      replace f2 : (nineT.map V.bl)[j]? = some x2 := f2
      rw [List.getElem?_map] at f1 f2
      obtain ⟨z, hz, rfl⟩ := Option.map_eq_some_iff.mp f1
      obtain ⟨b, hb, rfl⟩ := Option.map_eq_some_iff.mp f2
      have st := same_new (o := .tup [V.str z, V.bl b]) nt
      refine ⟨t, _, rfl, SqT.of upd_same, rfl, _, _, rfl, _, _, rfl, rfl, rfl, _, rfl, b, rfl, ?_⟩
      have pt := pick_take hz hb
      cases b with
      | false =>
        refine if_f ⟨sc.trans st, ?_⟩
        rw [pt, if_neg (by decide), List.append_nil]
        exact st _ _ hD
      | true =>
        refine if_t ⟨_, rfl, _, st _ _ hD, ?_, same_put nD (sc.trans st), ?_⟩
        · rw [List.length_map]
          have := pick_len (nineW.take j) (nineT.take j)
          rw [List.length_take] at this
          exact small1000 (by omega)
        · rw [upd_same, pt, List.map_append]
          rfl
    · rintro Hc ⟨sc, hD⟩
      have hD1 : Hc D = some (.lst [.str "body"]) := hD
      refine ⟨_, rfl, D, _, rfl, .inl (SqL.of hD1), rfl, _, rfl, if_n (by show (!decide (V.int 1 = V.int 1)) = false; decide) ?_⟩
      exact ⟨_, rfl, D, _, 0, .str "body", rfl, rfl, SqL.of hD1, rfl, q _ (sH6.trans sc)⟩
end
end Tg

namespace Tg
open PySem PySem.Spec PyProof.Rows L2
open SX (S)
open TL (numL)
abbrev sCheck : Stmt := topS 2
abbrev sWC : Stmt := topS 3
abbrev sBody : Stmt := topS 18
abbrev NCheck : List Str := ["line", "place", "sign"]
abbrev NBody : List Str := ["text", "sign"]
theorem scCheck : FnScope NCheck ["line"] (defScope sCheck) := ⟨rfl, rfl, rfl, by decide +kernel, rfl, by decide +kernel, by decide +kernel⟩
theorem scWC : FnScope ["line"] ["line"] (defScope sWC) := ⟨rfl, rfl, rfl, by decide +kernel, rfl, by decide +kernel, by decide +kernel⟩
theorem scBody : FnScope NBody ["text"] (defScope sBody) := ⟨rfl, rfl, rfl, by decide +kernel, rfl, by decide +kernel, by decide +kernel⟩
/-- places times signs -/
def prods (k : Nat) : List Nat → List Int
  | [] => []
  | c :: r => ((k : Int) * (c : Int)) :: prods (k + 1) r
theorem prods_len : ∀ (k : Nat) (l : List Nat), (prods k l).length = l.length
  | _, [] => rfl
  | k, _ :: r => congrArg (· + 1) (prods_len (k + 1) r)
theorem prods_at : ∀ {k : Nat} {l : List Nat} {j c : Nat}, l[j]? = some c → (prods k l)[j]? = some (((k + j : Nat) : Int) * (c : Int))
  | _, [], _, _, h => nomatch h
  | k, a :: r, 0, c, h => by
    cases h
    rfl
  | k, a :: r, j + 1, c, h => by
    have z := prods_at (k := k + 1) (l := r) h
    rw [show k + 1 + j = k + (j + 1) by omega] at z
    exact z
theorem prods_sum : ∀ (k : Nat) (l : List Nat), (prods k l).sum = ((wsum k l : Nat) : Int)
  | _, [] => rfl
  | k, c :: r => by
    show (k : Int) * (c : Int) + (prods (k + 1) r).sum = ((k * c + wsum (k + 1) r : Nat) : Int)
    rw [prods_sum (k + 1) r, Int.natCast_add, Int.natCast_mul]
theorem z1000 {n : Nat} (h : n ≤ 1000) : n ≤ sizeLine := Nat.le_trans h (by decide)
theorem log_nat {n : Nat} (h : n < 2 ^ 60) : ((n : Nat) : Int).natAbs.log2 < 1920 := by
  rw [Int.natAbs_natCast]
  by_cases z : n = 0
  · subst z
    decide
  · exact Nat.lt_trans ((Nat.log2_lt z).mpr h) (by decide)
section
variable {P : Program} {w : World} {K : PySem.W.Frag} {mg : Str → Option Value} {base : Heap} {f : Addr} {fd : FuncData} {k : Nat}
def spCheck : Sp := fun vs H Q _ => ∃ l : List Nat, vs = [.str (S l)] ∧ l.length ≤ 400 ∧ ∀ H', Same H H' → Q (.int ((chk l : Nat) : Int)) H'
theorem ok_check {t1 : Tok} (F : Fun K "check" "check" sCheck f fd) (m_sum : mg "sum" = none) (m_enumerate : mg "enumerate" = none) (m_ord : mg "ord" = none) (g_CHECK_REST : mg "CHECK_REST" = some (.int 999983 t1)) : FnOk P w K mg base CX0 (k + 1) f fd ["line"] spCheck := by
  refine F.ok scCheck (fun vs H Q E h => ?_) (fun cdv A outer s H vs Q E hr h => ?_)
  · obtain ⟨l, rfl, _⟩ := h
    rfl
  · obtain ⟨l, rfl, l400, q⟩ := h
    refine ⟨_, pss_one (ps_ret (pe_op op_mod (pe_callB (cr_sum rfl) (by rfl) m_sum (by decide +kernel) (pa_cons (pe_lc (own := [("place", 1), ("sign", 2)]) (g := gTup K 2 _) (tt := tYes) rfl scCheck.nd (pi_enumSK (by rfl) m_enumerate (pv 0) pe_int) (blkOk_by (own := [("place", 1), ("sign", 2)]) (N := NCheck) (sc := defScope sCheck) (by decide +kernel)) (fun _ _ _ _ _ => (pg_tup rfl (pgs_cons (pg_name (i := 1) scCheck.nd rfl (.inl rfl)) (pgs_cons (pg_name (i := 2) scCheck.nd rfl (.inl rfl)) pgs_nil)))) (fun _ _ _ _ _ => pts_nil) (fun _ _ _ _ _ => (pe_op op_mul (pv 1) (pe_callB call_ord (by rfl) m_ord (by decide +kernel) (pa_cons (pv 2) pa_nil))))) pa_nil)) (pe_glob (v := .int 999983) rfl g_CHECK_REST ⟨_, rfl⟩))), ?_⟩
    have sz : (S l).cps.size = l.length := by simp
    refine ⟨_, rfl, S l, 1, rfl, rfl, by decide, by decide, fun D nD => lc_it walk_enumS (fun j Hc => Same H Hc ∧ Hc D = some (.lst (((prods 1 l).take j).map V.int))) ⟨same_new nD, upd_same⟩ (fun _ _ _ _ => trivial) ?_ ?_⟩
    · rintro j v Hc Hc' hj ⟨sc, hD⟩ ⟨T, n, rfl, nT, rfl, en⟩
      have en' : l[j]? = some n := by
        rw [← Array.getElem?_toList] at en
        exact en
      have jl : j < l.length := (List.getElem?_eq_some_iff.mp en').1
      have sT : Same Hc (upd Hc T (.tup [.int (1 + (j : Int)), .str ⟨#[n]⟩])) := same_new nT
      refine ⟨T, _, rfl, SqT.of upd_same, rfl, _, _, rfl, _, [], rfl, rfl, rfl, ?_⟩
      unfold tYes
      dsimp only
      rw [if_pos rfl]
      refine ⟨_, rfl, _, rfl, _, rfl, rfl, _, _, rfl, rfl, .inl ⟨by omega, by omega⟩, _, sT _ _ hD, ?_, same_put nD (sc.trans sT), ?_⟩
      · rw [List.length_map, List.length_take, prods_len]
        exact small1000 (by omega)
      · rw [upd_same, take_snoc (prods_at (k := 1) en'), List.map_append]
        show some (HO.lst (_ ++ [V.int ((1 + (j : Int)) * ((n : Nat) : Int))])) = some (HO.lst (_ ++ [V.int (((1 + j : Nat) : Int) * (n : Int))]))
        rw [show (1 + (j : Int)) = ((1 + j : Nat) : Int) by omega]
    · rintro H2 ⟨s2, hD⟩
      rw [sz, ← prods_len 1 l, List.take_length] at hD
      refine ⟨D, _, rfl, SqL.of hD, _, _, rfl, rfl, (by show (0 : Int) < 999983; decide), ?_⟩
      rw [prods_sum]
      exact q H2 s2
end
theorem yes_b {σ : L2.St} {H : Hp} {Q : Bool → Hp → Prop} (h : Q true H) : tYes σ H Q := h
theorem z3000 {n : Nat} (h : n ≤ 3000) : n ≤ sizeLine := Nat.le_trans h (by decide)
theorem len_S (l : List Nat) : (S l).length = l.length := SX.S_len l
theorem chk_len (l : List Nat) : (numL (chk l)).length ≤ 6 := num_len (by decide) (Nat.lt_trans (chk_lt l) (by decide))
section
variable {P : Program} {w : World} {K : PySem.W.Frag} {mg : Str → Option Value} {base : Heap} {f : Addr} {fd : FuncData} {k : Nat}
def spWC : Sp := fun vs H Q _ => ∃ l : List Nat, vs = [.str (S l)] ∧ l.length ≤ 400 ∧ ∀ H', Same H H' → Q (.str (S (l ++ [32] ++ numL (chk l)))) H'
theorem ok_wc (F : Fun K "with_check" "with_check" sWC f fd) (C_check : Cal P w K mg base k "check" ["line"] spCheck) : FnOk P w K mg base CX0 (k + 1) f fd ["line"] spWC := by
  refine F.ok scWC (fun vs H Q E h => ?_) (fun cdv A outer s H vs Q E hr h => ?_)
  · obtain ⟨l, rfl, _⟩ := h
    rfl
  · obtain ⟨l, rfl, l400, q⟩ := h
    have cl := chk_len l
    refine ⟨_, pss_one (ps_ret (pe_jn (.cons (pe_fmt (pv 0)) (.cons pe_str (.cons (pe_fmt (pe_cal C_check (hr.mono (by omega)) (by rfl) (pa_cons (pv 0) pa_nil))) .nil))))), ?_⟩
    have e1 : (Str.empty ++ S l) = S l := Str.empty_append _
    have e2 : (S l ++ Str.ofString " ") = S (l ++ [32]) := SX.S_cat l [32]
    refine ⟨_, rfl, .inl ⟨S l, rfl, z3000 (by rw [len_S]; omega), _, rfl, z3000 (by rw [e1, len_S]; omega), _, rfl, z3000 (by rw [e1, e2, len_S, List.length_append]; show _ + 1 ≤ _; omega), ?_⟩⟩
    refine ⟨_, rfl, l, rfl, l400, fun H1 s1 => .inr ⟨_, rfl, log_nat (Nat.lt_trans (chk_lt l) (by decide)), _, rfl, ?_, ?_⟩⟩
    · rw [e1, e2, num_S, SX.S_cat, len_S, List.length_append, List.length_append]
      exact z3000 (by show _ + 1 + _ ≤ _; omega)
    · rw [e1, e2, num_S, SX.S_cat]
      exact q H1 s1
def spBody : Sp := fun vs H Q _ => ∃ b : List Nat, vs = [.str (S b)] ∧ b.length ≤ 400 ∧ ∀ H', Same H H' → Q (.bl (bok b)) H'
theorem ok_body (F : Fun K "is_body" "is_body" sBody f fd) (m_all : mg "all" = none) : FnOk P w K mg base CX0 (k + 1) f fd ["text"] spBody := by
  refine F.ok scBody (fun vs H Q E h => ?_) (fun cdv A outer s H vs Q E hr h => ?_)
  · obtain ⟨b, rfl, _⟩ := h
    rfl
  · obtain ⟨b, rfl, l400, q⟩ := h
    refine ⟨_, pss_one (ps_ret (pe_callB (cr_all rfl) (by rfl) m_all PyProof.Rows.boot_all (pa_cons (pe_lc (own := [("sign", 1)]) (g := gName 1) (tt := tYes) rfl scBody.nd (pi_str (pv 0)) (blkOk_by (N := NBody) (sc := defScope sBody) (by decide +kernel))
        (fun _ _ _ _ _ => pg_name (i := 1) scBody.nd rfl (Or.inl rfl)) (fun _ _ _ _ _ => pts_nil) (fun _ _ _ _ _ => pe_chain op_le_str op_le_str pe_str (pv 1) pe_str)) pa_nil))), ?_⟩
    have sz : (S b).cps.size = b.length := by simp
    refine ⟨_, rfl, S b, rfl, fun D nD => lc_it walk_str (fun j Hc => Same H Hc ∧ Hc D = some (.lst (((b.take j).map sok).map V.bl))) ⟨same_new nD, upd_same⟩ (fun _ _ _ _ => trivial) ?_ ?_⟩
    · rintro j v Hp0 Hc hj ⟨sc, hD⟩ ⟨rfl, c, ec, rfl⟩
      have ec' : b[j]? = some c := by
        rw [← Array.getElem?_toList] at ec
        exact ec
      have jl : j < b.length := (List.getElem?_eq_some_iff.mp ec').1
      refine ⟨rfl, yes_b (if_t ?_)⟩
      have fin : ∀ x : Bool, x = sok c → ∃ acc, Hc D = some (.lst acc) ∧ acc.length < sizeLine ∧ Same H (upd Hc D (.lst (acc ++ [V.bl x]))) ∧ (upd Hc D (.lst (acc ++ [V.bl x]))) D = some (.lst (((b.take (j + 1)).map sok).map V.bl)) := fun x ex => by
        refine ⟨_, hD, ?_, same_put nD sc, ?_⟩
        · rw [List.length_map, List.length_map, List.length_take]
          exact small1000 (by omega)
        · rw [upd_same, take_snoc ec', List.map_append, List.map_append, ex]
          rfl
      refine ⟨_, rfl, _, _, rfl, rfl, !decide (c < 32), congrArg (fun z => V.bl (!z)) (lt_one c 32), ?_⟩
      by_cases g : c < 32
      · rw [decide_eq_true g]
        exact fin _ (by unfold sok; rw [decide_eq_false (by omega : ¬ 32 ≤ c)]; rfl)
      · rw [decide_eq_false g]
        refine ⟨_, _, rfl, rfl, ?_⟩
        have e : (!decide ((S [126]).cps.toList < (⟨#[c]⟩ : Str).cps.toList)) = !decide (126 < c) := congrArg (fun z => !z) (lt_one 126 c)
        refine fin _ (e.trans ?_)
        unfold sok
        rw [decide_eq_true (by omega : 32 ≤ c)]
        by_cases g2 : c ≤ 126
        · rw [decide_eq_true g2, decide_eq_false (by omega)]
          rfl
        · rw [decide_eq_false g2, decide_eq_true (by omega)]
          rfl
    · rintro H2 ⟨s2, hD⟩
      rw [sz, List.take_length] at hD
      refine ⟨D, b.map sok, rfl, SqL.of hD, ?_⟩
      rw [List.all_map]
      exact q H2 s2
end
abbrev sErB : Stmt := inCls (topS 8) 0
abbrev sErL : Stmt := inCls (topS 7) 0
abbrev sLine : Stmt := topS 19
theorem scErB : FnScope ["self", "body"] ["self", "body"] (defScope sErB) := ⟨rfl, rfl, rfl, by decide +kernel, rfl, by decide +kernel, by decide +kernel⟩
theorem scLine : FnScope ["number", "body", "sign"] ["number", "body", "sign"] (defScope sLine) := ⟨rfl, rfl, rfl, by decide +kernel, rfl, by decide +kernel, by decide +kernel⟩
theorem pss_dead {X : Cx} {b : List Stmt} : PSs X b (fun _ _ _ => False) := ⟨fun _ _ _ _ _ _ h => h.elim⟩
theorem num12 {n : Nat} (h : n < 10 ^ 12) : (numL n).length ≤ 12 := num_len (by decide) h
theorem ahead_len {n sg : Nat} {b : List Nat} (h : n < 10 ^ 12) (hb : b.length ≤ 300) : (ahead n sg b).length ≤ 330 := by
  have h1 := num12 h
  have h2 : (numL ((numL n).length + b.length)).length ≤ 6 := num_len (by decide) (by omega)
  unfold ahead
  simp only [List.length_singleton, List.length_append]
  omega
section
variable {P : Program} {w : World} {K : PySem.W.Frag} {mg : Str → Option Value} {base : Heap} {f : Addr} {fd : FuncData} {k : Nat} {CB : Addr}
theorem ok_errB (F : Fun K "__init__" "NoBody.__init__" sErB f fd) (T : OexC K CB) (hno : PySem.W.findIn K (.ref CB) "body" = some none) (mV : mg "ValueError" = none)
    (vV : PySem.W.findCls K (.type "ValueError") (.type "type") "__init__" = some (.val (.builtin "ValueError.__init__"))) : FnOk P w K mg base CX0 (k + 1) f fd ["self", "body"] (spErr CB "body") := by
  refine F.ok scErB (fun vs H Q E h => ?_) (fun cdv A outer s H vs Q E hr h => ?_)
  · obtain ⟨a, v, rfl, _⟩ := h
    rfl
  · obtain ⟨a, v, rfl, ha, q⟩ := h
    refine ⟨_, pss_cons (ps_expr (pe_veinit (by rfl) mV vV (pa_cons (pv 0) (pa_cons pe_str pa_nil)))) (pss_one (ps_ost (pv 0) (pv 1))), ?_⟩
    exact ⟨_, rfl, a, CB, _, rfl, by show 1 ≤ 1000; decide, T, ha, _, rfl, _, rfl, a, CB, rfl, T, hno, .inl ⟨ha, fun dx nd da => q dx nd da⟩⟩
abbrev FLine (K : PySem.W.Frag) (f : Addr) (fd : FuncData) : Prop := FunD K "line_of" "line_of" (defArgs sLine) (defBody sLine) (defScope sLine) [] [("sign", .str ".")] f fd
/-- what line_of is asked of -/
def spLine : Sp := fun vs H Q _ => ∃ (n sg : Nat) (b : List Nat), vs = [.int (n : Int), .str (S b), .str (S [sg])] ∧ n < 10 ^ 12 ∧ b.length ≤ 300 ∧ bok b = true ∧ ∀ H', Same H H' → Q (.str (S (line n sg b))) H'
theorem ok_line (F : FLine K f fd) (C_is_body : Cal P w K mg base k "is_body" ["text"] spBody) (C_with_check : Cal P w K mg base k "with_check" ["line"] spWC) (m_len : mg "len" = none) (m_str : mg "str" = none) : FnOk P w K mg base CX0 (k + 1) f fd ["number", "body", "sign"] spLine := by
  refine F.ok scLine (fun vs H Q E h => ?_) (fun cdv A outer s H vs Q E hr h => ?_)
  · obtain ⟨n, sg, b, rfl, _⟩ := h
    rfl
  · obtain ⟨n, sg, b, rfl, n12, b300, hb, q⟩ := h
    refine ⟨_, pss_cons (ps_if (pt_not (pt_val (pe_cal C_is_body (hr.mono (by omega)) (by rfl) (pa_cons (pv 1) pa_nil))))
        (pss_one ps_dead)
        pss_nil)
      (pss_one (ps_ret (pe_cal C_with_check (hr.mono (by omega)) (by rfl) (pa_cons (pe_jn (.cons (pe_fmt (pv 0)) (.cons (pe_fmt (pv 2)) (.cons pe_str (.cons (pe_fmt (pe_op op_add (pe_callB call_len_str (by rfl) m_len (by decide +kernel) (pa_cons (pe_callTy call_str_int (by rfl) m_str (by decide +kernel) (pa_cons (pv 0) pa_nil)) pa_nil)) (pe_callB call_len_str (by rfl) m_len (by decide +kernel) (pa_cons (pv 1) pa_nil)))) (.cons pe_str (.cons (pe_fmt (pv 1)) .nil))))))) pa_nil)))), ?_⟩
    have h1 := num12 n12
    have h2 : (numL ((numL n).length + b.length)).length ≤ 6 := num_len (by decide) (by omega)
    have ln : (Str.ofString (toString ((n : Nat) : Int))).length = (numL n).length := by rw [num_S, len_S]
    have em : (((Str.ofString (toString ((n : Nat) : Int))).length : Nat) : Int) + (((S b).length : Nat) : Int) = (((numL n).length + b.length : Nat) : Int) := by
      rw [ln, len_S]
      omega
    have e0 : (Str.empty ++ Str.ofString (toString ((n : Nat) : Int))) = S (numL n) := by rw [Str.empty_append, num_S]
    have e1 : S (numL n) ++ S [sg] = S (numL n ++ [sg]) := SX.S_cat _ _
    have e2 : S (numL n ++ [sg]) ++ Str.ofString " " = S (numL n ++ [sg] ++ [32]) := SX.S_cat _ [32]
    have e3 : S (numL n ++ [sg] ++ [32]) ++ Str.ofString (toString ((((Str.ofString (toString ((n : Nat) : Int))).length : Nat) : Int) + (((S b).length : Nat) : Int))) = S (numL n ++ [sg] ++ [32] ++ numL ((numL n).length + b.length)) := by rw [em, num_S, SX.S_cat]
    have e4 : S (numL n ++ [sg] ++ [32] ++ numL ((numL n).length + b.length)) ++ Str.ofString " " = S (numL n ++ [sg] ++ [32] ++ numL ((numL n).length + b.length) ++ [32]) := SX.S_cat _ [32]
    have e5 : S (numL n ++ [sg] ++ [32] ++ numL ((numL n).length + b.length) ++ [32]) ++ S b = S (ahead n sg b) := SX.S_cat _ _
    have al := ahead_len (sg := sg) n12 b300
    have small : ∀ l : List Nat, l.length ≤ 3000 → (S l).length ≤ sizeLine := fun l h => by
      rw [len_S]
      exact z3000 h
    have lg : ((n : Nat) : Int).natAbs.log2 < 1920 := log_nat (Nat.lt_trans n12 (by decide))
    refine ⟨_, rfl, b, rfl, by omega, fun H1 s1 => ⟨true, congrArg V.bl hb, if_f ?_⟩⟩
    refine ⟨_, rfl, .inr ⟨_, rfl, lg, _, rfl, by rw [e0]; exact small _ (by omega), ?_⟩⟩
    refine ⟨_, rfl, .inl ⟨S [sg], rfl, small _ (by show 1 ≤ 3000; decide), _, rfl, by rw [e0, e1]; exact small _ (by rw [List.length_append]; show _ + 1 ≤ _; omega), ?_⟩⟩
    refine ⟨_, rfl, by rw [e0, e1, e2]; exact small _ (by simp only [List.length_append, List.length_singleton]; omega), ?_⟩
    refine ⟨_, rfl, _, rfl, lg, _, rfl, z3000 (by rw [ln]; omega), _, rfl, _, rfl, small _ (by omega), _, _, rfl, rfl, .inr ⟨_, rfl, ?_, _, rfl, ?_, ?_⟩⟩
    · rw [em]
      exact log_nat (Nat.lt_of_le_of_lt (show _ ≤ 400 by omega) (by decide))
    · rw [e0, e1, e2, e3]
      exact small _ (by simp only [List.length_append, List.length_singleton]; omega)
    · refine ⟨_, rfl, by rw [e0, e1, e2, e3, e4]; exact small _ (by simp only [List.length_append, List.length_singleton]; omega), ?_⟩
      refine ⟨_, rfl, .inl ⟨S b, rfl, small _ (by omega), _, rfl, by rw [e0, e1, e2, e3, e4, e5]; exact small _ (by omega), ?_⟩⟩
      rw [e0, e1, e2, e3, e4, e5]
      exact ⟨ahead n sg b, rfl, by omega, fun H2 s2 => q H2 (s1.trans s2)⟩
def spLineN (CB : Addr) : Sp := fun vs H _ E => ∃ (v : V) (b : List Nat) (u : V), vs = [v, .str (S b), u] ∧ b.length ≤ 400 ∧ bok b = false ∧ ∀ (d : Addr) (H' : Hp), Same H H' → H d = none → H' d = some (.xd [("body", .str (S b))]) → E (.ref CB) (some d) H'
theorem ok_lineN (F : FLine K f fd) (C_is_body : Cal P w K mg base k "is_body" ["text"] spBody) (C_err : CalE P w K mg base k "NoBody" CB "body") : FnOk P w K mg base (L2.CX P w) (k + 2) f fd ["number", "body", "sign"] (spLineN CB) := by
  refine F.ok (CX := L2.CX P w) scLine (fun vs H Q E h => ?_) (fun cdv A outer s H vs Q E hr h => ?_)
  · obtain ⟨v, b, u, rfl, _⟩ := h
    rfl
  · obtain ⟨v, b, u, rfl, b400, hb, q⟩ := h
    refine ⟨_, pss_cons (ps_if (pt_not (pt_val (pe_cal C_is_body (hr.mono (by omega)) (by rfl) (pa_cons (pv 1) pa_nil)))) (pss_one (ps_raise rfl (takes_of rfl rfl rfl rfl) (pm_err C_err hr (by rfl) (pv 1)))) pss_nil) pss_dead, ?_⟩
    exact ⟨_, rfl, b, rfl, b400, fun H1 s1 => ⟨false, congrArg V.bl hb, if_t (err_read ⟨_, rfl, fun d H' s' nd hd => q d H' (s1.trans s') (s1.free nd) hd⟩ fun {Q Q'} hq ⟨v, e, q⟩ => ⟨v, e, hq _ _ q⟩)⟩⟩
end
end Tg

namespace Tg
open PySem PySem.Spec PyProof.Rows L2
open SX (S)
open TL (numL)
theorem cut_head (l : List Nat) (c : Nat) : cutS (S (l ++ [c])) none (some (-1)) = S l := by
  unfold cutS
  rw [len_S, List.length_append]
  show (⟨((l ++ [c]).drop 0 |>.take (((-1 : Int) + ((l.length + 1 : Nat) : Int)).toNat - 0)).toArray⟩ : Str) = _
  rw [show ((-1 : Int) + ((l.length + 1 : Nat) : Int)).toNat - 0 = l.length by omega, List.drop_zero, List.take_left']
  rfl
theorem cut_last (l : List Nat) (c : Nat) : cutS (S (l ++ [c])) (some (-1)) none = S [c] := by
  unfold cutS
  rw [len_S, List.length_append]
  show (⟨(((l ++ [c]).drop ((-1 : Int) + ((l.length + 1 : Nat) : Int)).toNat).take (l.length + 1 - ((-1 : Int) + ((l.length + 1 : Nat) : Int)).toNat)).toArray⟩ : Str) = _
  rw [show ((-1 : Int) + ((l.length + 1 : Nat) : Int)).toNat = l.length by omega, List.drop_left', show l.length + 1 - l.length = 1 by omega]
  · rfl
  · rfl
theorem str_ne {a b : Str} (h : a ≠ b) : decide (V.str a = V.str b) = false := decide_eq_false fun z => h (V.str.inj z)
section
variable {P : Program} {w : World} {K : PySem.W.Frag} {mg : Str → Option Value} {base : Heap} {f : Addr} {fd : FuncData} {k : Nat} {CB : Addr}
end
abbrev sSign : Stmt := topS 27
abbrev sLL : Stmt := topS 29
theorem scSign : FnScope ["_law_purse_here", "_law_signs", "_law_few"] ["_law_purse_here"] (defScope sSign) := ⟨rfl, rfl, rfl, by decide +kernel, rfl, by decide +kernel, by decide +kernel⟩
theorem scLL : FnScope ["_law_number", "_law_sign_here", "_law_body_here", "_law_many", "_law_ahead", "_law_total", "_law_at", "_law_letter"] ["_law_number", "_law_sign_here", "_law_body_here"] (defScope sLL) := ⟨rfl, rfl, rfl, by decide +kernel, rfl, by decide +kernel, by decide +kernel⟩
theorem at_is {α : Type} {l : List α} {v : Int} (h0 : 0 ≤ v) (h1 : v < (l.length : Int)) : ∃ c, c ∈ l ∧ atI l v = some c := by
  obtain ⟨i, rfl⟩ : ∃ i : Nat, v = (i : Int) := ⟨v.toNat, by omega⟩
  have il : i < l.length := by omega
  exact ⟨l[i], List.getElem_mem il, atI_nat (List.getElem?_eq_getElem il)⟩
section
variable {P : Program} {w : World} {K : PySem.W.Frag} {mg : Str → Option Value} {base : Heap} {f : Addr} {fd : FuncData} {k : Nat}
def few : Str := " 0123456789.+= ="
def many : Str := " !\"#$&'()*+,-./0123456789:;<=>?@ABCDEFGHIJKLMNOPQRSTUVWXYZ[\\]^`abcdefghijklmnopqrstuvwxyz{|}~"
theorem few_ok : few.cps.toList.all sok = true := by decide +kernel
theorem many_ok : many.cps.toList.all sok = true := by decide +kernel
def spSign : Sp := fun vs H Q _ => ∃ (p : Addr) (n : Nat), vs = [.ref p] ∧ Pu H p n ∧ n < 2 ^ 37 ∧ ∀ (c : Nat) (H' : Hp), Kp p H H' → Pu H' p (n + 4) → sok c = true → Q (.str (S [c])) H'
theorem ok_sign (F : Fun K "_law_sign" "_law_sign" sSign f fd) (L_draw : Cal P w K mg base k "_law_draw" ["_law_purse_here", "_law_out_of"] spDraw) (m_len : mg "len" = none) : FnOk P w K mg base CX0 (k + 1) f fd ["_law_purse_here"] spSign := by
  refine F.ok scSign (fun vs H Q E h => ?_) (fun cdv A outer s H vs Q E hr h => ?_)
  · obtain ⟨p, n, rfl, _⟩ := h
    rfl
  · obtain ⟨p, n, rfl, pu, n37, q⟩ := h
    refine ⟨_, pss_cons (ps_set (i := 1) scSign.nd rfl (.inl rfl) pe_str)
      (pss_cons (ps_set (i := 2) scSign.nd rfl (.inl rfl) pe_str)
      (pss_cons (ps_if (pt_cmpR op_eq (pe_cal L_draw (hr.mono (by omega)) (by rfl) (pa_cons (pv 0) (pa_cons pe_int pa_nil))) pe_int (nomark _))
        (pss_one (ps_ret (pe_ix ix_str (pv 2) (pe_cal L_draw (hr.mono (by omega)) (by rfl) (pa_cons (pv 0) (pa_cons (pe_callB call_len_str (by rfl) m_len (by decide +kernel) (pa_cons (pv 2) pa_nil)) pa_nil))) (fun _ _ => rfl))))
        pss_nil)
      (pss_one (ps_ret (pe_ix ix_str (pv 1) (pe_cal L_draw (hr.mono (by omega)) (by rfl) (pa_cons (pv 0) (pa_cons (pe_callB call_len_str (by rfl) m_len (by decide +kernel) (pa_cons (pv 1) pa_nil)) pa_nil))) (fun _ _ => rfl)))))), ?_⟩
    have l1 : few.length = 16 := by decide +kernel
    have l2 : many.length ≤ 100 ∧ 0 < many.length := by decide +kernel
    have z1 : few.length ≤ sizeLine := by rw [l1]; decide
    have z2 : many.length ≤ sizeLine := Nat.le_trans l2.1 (by decide)
    refine ⟨_, rfl, p, n, 2, rfl, pu, by omega, by decide, by decide, fun w2 H1 k1 p1 _ _ => ⟨rfl, _, rfl, ite2 (fun g => ?_) (fun g => ?_)⟩⟩
    · refine ⟨_, rfl, _, rfl, _, rfl, few, rfl, z1, p, n + 2, _, rfl, p1, by omega, by rw [l1]; decide, by rw [l1]; decide, fun v H2 k2 p2 v0 v1 => ?_⟩
      obtain ⟨c, cm, ce⟩ := at_is (l := few.cps.toList) v0 (by
        have e : few.cps.toList.length = few.length := rfl
        rw [e]
        exact v1)
      exact ⟨few, v, c, rfl, rfl, z1, ce, q c H2 (k1.trans k2) p2 (List.all_eq_true.mp few_ok c cm)⟩
    · refine ⟨_, rfl, _, rfl, _, rfl, many, rfl, z2, p, n + 2, _, rfl, p1, by omega, by omega, by omega, fun v H2 k2 p2 v0 v1 => ?_⟩
      obtain ⟨c, cm, ce⟩ := at_is (l := many.cps.toList) v0 (by
        have e : many.cps.toList.length = many.length := rfl
        rw [e]
        exact v1)
      exact ⟨many, v, c, rfl, rfl, z2, ce, q c H2 (k1.trans k2) p2 (List.all_eq_true.mp many_ok c cm)⟩
def RLL : TS := fun D σ H => ∃ (v0 v1 v2 v3 v5 v6 v7 : Option V) (a : List Nat), σ = [v0, v1, v2, v3, some (.str (S a)), v5, v6, v7] ∧ a.length ≤ 400 ∧ ∀ H', Same H H' → D.rt (.str (S (a ++ [32] ++ numL (chk a)))) H'
theorem ll_2 {cdv : Value} {A : Around} {outer : List Env} {s : Shared} {H0 : Hp} {E : XK} (hr : Room k (A.deeper (envOfC "_law_line" (defScope sLL) s.heap.objs.size f cdv))) (m_str : mg "str" = none) (m_enumerate : mg "enumerate" = none) (m_ord : mg "ord" = none) :
    PSs (cxOf CX0 P w K mg base ["_law_number", "_law_sign_here", "_law_body_here", "_law_many", "_law_ahead", "_law_total", "_law_at", "_law_letter"] "_law_line" (defScope sLL) f cdv A outer s H0 E).nox ((defBody sLL).drop 2) RLL := by
  refine pss_by (pss_cons (ps_set (i := 5) scLL.nd rfl (.inl rfl) pe_int)
      (pss_cons (ps_for PassesOwn.never rfl (pi_enumS (by rfl) m_enumerate (pa_cons (pv 4) pa_nil)) (pg_tup rfl (pgs_cons (pg_name (i := 6) scLL.nd rfl (.inl rfl)) (pgs_cons (pg_name (i := 7) scLL.nd rfl (.inl rfl)) pgs_nil)))
        (pss_one (ps_set (i := 5) scLL.nd rfl (.inl rfl) (pe_op op_add (pv 5) (pe_op op_mul (pe_op op_add (pv 6) pe_int) (pe_callB call_ord (by rfl) m_ord (by decide +kernel) (pa_cons (pv 7) pa_nil)))))))
      (pss_one (ps_ret (pe_op op_add_str (pe_op op_add_str (pv 4) pe_str) (pe_callTy call_str_int (by rfl) m_str (by decide +kernel) (pa_cons (pe_op op_mod (pv 5) pe_int) pa_nil))))))) ?_
  rintro D σ H ⟨v0, v1, v2, v3, v5, v6, v7, a, rfl, a400, q⟩
  have sz : (S a).cps.size = a.length := by simp
  have cl := chk_len a
  refine ⟨_, rfl, S a, rfl, for_it walk_enumS (fun j σ Hc => ∃ z6 z7 : Option V, σ = [v0, v1, v2, v3, some (.str (S a)), some (.int ((wsum 1 (a.take j) : Nat) : Int)), z6, z7] ∧ Same H Hc) ⟨v6, v7, rfl, Same.refl _⟩ (fun _ _ _ _ _ => trivial) ?_ ?_⟩
  · rintro j x σ Hc Hc' hj ⟨z6, z7, rfl, sc⟩ ⟨T, c, rfl, nT, rfl, ec⟩
    have ec' : a[j]? = some c := by
      rw [← Array.getElem?_toList] at ec
      exact ec
    have jl : j < a.length := (List.getElem?_eq_some_iff.mp ec').1
    have sT : Same Hc (upd Hc T (.tup [.int (0 + (j : Int)), .str ⟨#[c]⟩])) := same_new nT
    refine ⟨T, _, rfl, SqT.of upd_same, rfl, _, _, rfl, _, _, rfl, rfl, ?_⟩
    refine ⟨_, rfl, _, rfl, _, _, rfl, rfl, _, rfl, _, rfl, rfl, _, _, rfl, rfl, .inl ⟨by omega, by omega⟩, _, _, rfl, rfl, ?_⟩
    refine ⟨some (.int (0 + (j : Int))), some (.str ⟨#[c]⟩), ?_, sc.trans sT⟩
    have e : ((wsum 1 (a.take (j + 1)) : Nat) : Int) = ((wsum 1 (a.take j) : Nat) : Int) + (0 + (j : Int) + 1) * ((c : Nat) : Int) := by
      rw [take_snoc ec', wsum_snoc, List.length_take, Nat.min_eq_left (by omega), Int.natCast_add, Int.natCast_mul]
      congr 2
      omega
    rw [e]
    rfl
  · rintro σ Hc ⟨z6, z7, rfl, sc⟩
    rw [sz, List.take_length]
    have e1 : S a ++ Str.ofString " " = S (a ++ [32]) := SX.S_cat a [32]
    have em : ((wsum 1 a : Nat) : Int) % 999983 = ((chk a : Nat) : Int) := rfl
    have e2 : S (a ++ [32]) ++ Str.ofString (toString (((wsum 1 a : Nat) : Int) % 999983)) = S (a ++ [32] ++ numL (chk a)) := by rw [em, num_S, SX.S_cat]
    refine ⟨_, rfl, _, _, rfl, rfl, z3000 (by rw [len_S]; show _ + 1 ≤ _; omega), _, rfl, _, _, rfl, rfl, (by show (0 : Int) < 999983; decide), _, rfl, ?_, _, _, rfl, rfl, ?_, ?_⟩
    · show (((wsum 1 a : Nat) : Int) % 999983).natAbs.log2 < 1920
      rw [em]
      exact log_nat (Nat.lt_trans (chk_lt a) (by decide))
    · show (S a ++ Str.ofString " ").length + (Str.ofString (toString (((wsum 1 a : Nat) : Int) % 999983))).length ≤ sizeLine
      rw [e1, em, num_S, len_S, len_S, List.length_append]
      exact z3000 (by show _ + 1 + _ ≤ _; omega)
    · show D.rt (.str (S a ++ Str.ofString " " ++ Str.ofString (toString (((wsum 1 a : Nat) : Int) % 999983)))) Hc
      rw [e1, e2]
      exact q Hc sc
def spLL : Sp := fun vs H Q _ => ∃ (n sg : Nat) (b : List Nat), vs = [.int (n : Int), .str (S [sg]), .str (S b)] ∧ n < 10 ^ 12 ∧ b.length ≤ 300 ∧ ∀ H', Same H H' → Q (.str (S (line n sg b))) H'
theorem ok_ll (F : Fun K "_law_line" "_law_line" sLL f fd) (m_len : mg "len" = none) (m_str : mg "str" = none) (m_enumerate : mg "enumerate" = none) (m_ord : mg "ord" = none) : FnOk P w K mg base CX0 (k + 1) f fd ["_law_number", "_law_sign_here", "_law_body_here"] spLL := by
  refine F.ok scLL (fun vs H Q E h => ?_) (fun cdv A outer s H vs Q E hr h => ?_)
  · obtain ⟨n, sg, b, rfl, _⟩ := h
    rfl
  · obtain ⟨n, sg, b, rfl, n12, b300, q⟩ := h
    have tail := ll_2 (P := P) (w := w) (K := K) (base := base) (cdv := cdv) (outer := outer) (H0 := H) (E := E) hr m_str m_enumerate m_ord
    refine ⟨_, pss_cons (ps_set (i := 3) scLL.nd rfl (.inl rfl) (pe_callTy call_str_int (by rfl) m_str (by decide +kernel) (pa_cons (pe_op op_add (pe_callB call_len_str (by rfl) m_len (by decide +kernel) (pa_cons (pe_callTy call_str_int (by rfl) m_str (by decide +kernel) (pa_cons (pv 0) pa_nil)) pa_nil)) (pe_callB call_len_str (by rfl) m_len (by decide +kernel) (pa_cons (pv 2) pa_nil))) pa_nil)))
      (pss_cons (ps_set (i := 4) scLL.nd rfl (.inl rfl) (pe_op op_add_str (pe_op op_add_str (pe_op op_add_str (pe_op op_add_str (pe_op op_add_str (pe_callTy call_str_int (by rfl) m_str (by decide +kernel) (pa_cons (pv 0) pa_nil)) (pv 1)) pe_str) (pv 3)) pe_str) (pv 2)))
      tail), ?_⟩
    have h1 := num12 n12
    have h2 : (numL ((numL n).length + b.length)).length ≤ 6 := num_len (by decide) (by omega)
    have ln : (Str.ofString (toString ((n : Nat) : Int))).length = (numL n).length := by rw [num_S, len_S]
    have em : (((Str.ofString (toString ((n : Nat) : Int))).length : Nat) : Int) + (((S b).length : Nat) : Int) = (((numL n).length + b.length : Nat) : Int) := by
      rw [ln, len_S]
      omega
    have al := ahead_len (sg := sg) n12 b300
    have cl := chk_len (ahead n sg b)
    have lg : ((n : Nat) : Int).natAbs.log2 < 1920 := log_nat (Nat.lt_trans n12 (by decide))
    refine ⟨_, rfl, _, rfl, lg, _, rfl, z3000 (by rw [ln]; omega), _, rfl, S b, rfl, z3000 (by rw [len_S]; omega), _, _, rfl, rfl, ?_⟩
    refine ⟨_, rfl, ?_, ?_⟩
    · show ((((Str.ofString (toString ((n : Nat) : Int))).length : Nat) : Int) + (((S b).length : Nat) : Int)).natAbs.log2 < 1920
      rw [em]
      exact log_nat (Nat.lt_of_le_of_lt (show _ ≤ 400 by omega) (by decide))
    · have e0 : Str.ofString (toString ((((Str.ofString (toString ((n : Nat) : Int))).length : Nat) : Int) + (((S b).length : Nat) : Int))) = S (numL ((numL n).length + b.length)) := by rw [em, num_S]
      have w1 : S (numL n) ++ S [sg] = S (numL n ++ [sg]) := SX.S_cat _ _
      have w2 : S (numL n ++ [sg]) ++ Str.ofString " " = S (numL n ++ [sg] ++ [32]) := SX.S_cat _ [32]
      have w3 : S (numL n ++ [sg] ++ [32]) ++ S (numL ((numL n).length + b.length)) = S (numL n ++ [sg] ++ [32] ++ numL ((numL n).length + b.length)) := SX.S_cat _ _
      have w4 : S (numL n ++ [sg] ++ [32] ++ numL ((numL n).length + b.length)) ++ Str.ofString " " = S (numL n ++ [sg] ++ [32] ++ numL ((numL n).length + b.length) ++ [32]) := SX.S_cat _ [32]
      have w5 : S (numL n ++ [sg] ++ [32] ++ numL ((numL n).length + b.length) ++ [32]) ++ S b = S (ahead n sg b) := SX.S_cat _ _
      have s1 : (S [sg]).length = 1 := rfl
      have s2 : (Str.ofString " ").length = 1 := rfl
      refine ⟨_, rfl, _, rfl, lg, _, rfl, _, _, rfl, rfl, z3000 (by rw [ln, s1]; omega), _, _, rfl, rfl, z3000 (by rw [strLen_append, ln, s1, s2]; omega), _, rfl, _, _, rfl, rfl, ?_, _, _, rfl, rfl, ?_, _, rfl, _, _, rfl, rfl, ?_, ?_⟩
      · show _ + (Str.ofString (toString ((((Str.ofString (toString ((n : Nat) : Int))).length : Nat) : Int) + (((S b).length : Nat) : Int)))).length ≤ sizeLine
        rw [e0, strLen_append, strLen_append, ln, s1, s2, len_S]
        exact z3000 (by omega)
      · show (Str.ofString (toString ((n : Nat) : Int)) ++ S [sg] ++ Str.ofString " " ++ Str.ofString (toString ((((Str.ofString (toString ((n : Nat) : Int))).length : Nat) : Int) + (((S b).length : Nat) : Int)))).length + (Str.ofString " ").length ≤ sizeLine
        rw [e0, strLen_append, strLen_append, strLen_append, ln, s1, s2, len_S]
        exact z3000 (by omega)
      · show (Str.ofString (toString ((n : Nat) : Int)) ++ S [sg] ++ Str.ofString " " ++ Str.ofString (toString ((((Str.ofString (toString ((n : Nat) : Int))).length : Nat) : Int) + (((S b).length : Nat) : Int))) ++ Str.ofString " ").length + (S b).length ≤ sizeLine
        rw [e0, strLen_append, strLen_append, strLen_append, strLen_append, ln, s1, s2, len_S, len_S]
        exact z3000 (by omega)
      · have key : Str.ofString (toString ((n : Nat) : Int)) ++ S [sg] ++ Str.ofString " " ++ Str.ofString (toString ((((Str.ofString (toString ((n : Nat) : Int))).length : Nat) : Int) + (((S b).length : Nat) : Int))) ++ Str.ofString " " ++ S b = S (ahead n sg b) := by rw [e0, num_S, w1, w2, w3, w4, w5]
        exact ⟨some (.int (n : Int)), some (.str (S [sg])), some (.str (S b)), some (.str (Str.ofString (toString ((((Str.ofString (toString ((n : Nat) : Int))).length : Nat) : Int) + (((S b).length : Nat) : Int))))), none, none, none, ahead n sg b, congrArg (fun z => [some (V.int (n : Int)), some (.str (S [sg])), some (.str (S b)), some (.str (Str.ofString (toString ((((Str.ofString (toString ((n : Nat) : Int))).length : Nat) : Int) + (((S b).length : Nat) : Int))))), some (.str z), none, none, none]) key, by omega, fun H' s' => q H' s'⟩
end
abbrev sLB : Stmt := topS 28
abbrev NLB : List Str := ["_law_purse_here", "_law_most", "_law_way", "_law_many", "_law_k"]
theorem scLB : FnScope NLB ["_law_purse_here", "_law_most"] (defScope sLB) := ⟨rfl, rfl, rfl, by decide +kernel, rfl, by decide +kernel, by decide +kernel⟩
theorem join_ones : ∀ b : List Nat, TL.joinL [] (b.map fun c => [c]) = b
  | [] => rfl
  | [c] => rfl
  | c :: d :: r => by
    show [c] ++ ([] ++ TL.joinL [] ((d :: r).map fun c => [c])) = c :: d :: r
    rw [join_ones (d :: r)]
    rfl
theorem ones_sum : ∀ b : List Nat, ((b.map fun c => S [c]).map (·.length)).sum = b.length
  | [] => rfl
  | c :: r => by
    show (S [c]).length + ((r.map fun c => S [c]).map (·.length)).sum = r.length + 1
    rw [ones_sum r, show (S [c]).length = 1 from rfl]
    omega
theorem bok_take {l : List Nat} (h : bok l = true) (n : Nat) : bok (l.take n) = true := List.all_eq_true.mpr fun c hc => List.all_eq_true.mp h c (List.mem_of_mem_take hc)
theorem cut_take (l : List Nat) (m : Nat) : cutS (S l) none (some (m : Int)) = S (l.take m) := by
  unfold cutS
  rw [len_S, HT.sIx_nat]
  show (⟨((l.drop 0).take (min m l.length - 0)).toArray⟩ : Str) = _
  rw [List.drop_zero, Nat.sub_zero]
  congr 2
  by_cases h : m ≤ l.length
  · rw [Nat.min_eq_left h]
  · rw [Nat.min_eq_right (by omega), List.take_length, List.take_of_length_le (by omega)]
/-- the bodies that are written out -/
def eight : List Str := ["", " ", "0", "1. 4 abc 77", " 3", "7 ", "put a=b 5 6", "12"]
theorem eight_ok : ∀ z, z ∈ eight → bok z.cps.toList = true ∧ z.length ≤ 20 := by
  intro z hz
  have all : eight.all (fun z => bok z.cps.toList && decide (z.length ≤ 20)) = true := by decide +kernel
  have := List.all_eq_true.mp all z hz
  rw [Bool.and_eq_true] at this
  exact ⟨this.1, of_decide_eq_true this.2⟩
section
variable {P : Program} {w : World} {K : PySem.W.Frag} {mg : Str → Option Value} {base : Heap} {f : Addr} {fd : FuncData} {k : Nat}
def spLB : Sp := fun vs H Q _ => ∃ (p : Addr) (n m : Nat), vs = [.ref p, .int (m : Int)] ∧ Pu H p n ∧ n < 2 ^ 36 ∧ m ≤ 200 ∧ ∀ (b : List Nat) (H' : Hp), Kp p H H' → Pu H' p (n + 1000) → b.length ≤ m → bok b = true → Q (.str (S b)) H'
theorem ok_lb (F : Fun K "_law_body" "_law_body" sLB f fd) (L_draw : Cal P w K mg base k "_law_draw" ["_law_purse_here", "_law_out_of"] spDraw) (L_sign : Cal P w K mg base k "_law_sign" ["_law_purse_here"] spSign) (m_range : mg "range" = none) : FnOk P w K mg base CX0 (k + 1) f fd ["_law_purse_here", "_law_most"] spLB := by
  refine F.ok scLB (fun vs H Q E h => ?_) (fun cdv A outer s H vs Q E hr h => ?_)
  · obtain ⟨p, n, m, rfl, _⟩ := h
    rfl
  · obtain ⟨p, n, m, rfl, pu, n36, m200, q⟩ := h
    refine ⟨_, pss_cons (ps_set (i := 2) scLB.nd rfl (.inl rfl) (pe_cal L_draw (hr.mono (by omega)) (by rfl) (pa_cons (pv 0) (pa_cons pe_int pa_nil))))
      (pss_cons (ps_if (pt_cmpR op_eq (pv 2) pe_int (nomark _))
        (pss_one (ps_ret (pe_slice sl_str (pe_ix ix_list (pe_lst (pa_cons pe_str (pa_cons pe_str (pa_cons pe_str (pa_cons pe_str (pa_cons pe_str (pa_cons pe_str (pa_cons pe_str (pa_cons pe_str pa_nil))))))))) (pe_cal L_draw (hr.mono (by omega)) (by rfl) (pa_cons (pv 0) (pa_cons pe_int pa_nil))) (fun _ _ => rfl)) po_none (po_some (pv 1)))))
        pss_nil)
      (pss_cons (ps_set (i := 3) scLB.nd rfl (.inl rfl) (pe_cal L_draw (hr.mono (by omega)) (by rfl) (pa_cons (pv 0) (pa_cons (pe_op op_add (pv 1) pe_int) pa_nil))))
      (pss_one (ps_ret (pe_bm PySem.F.plainAttrs_str PySem.F.slot_str_join PySem.F.type_str_join mt_join pe_str (pa_cons (pe_lc (own := [("_law_k", 4)]) (g := (gName 4)) (tt := tYes) rfl scLB.nd (pi_range1 (by rfl) m_range (pa_cons (pv 3) pa_nil)) (blkOk_by (own := [("_law_k", 4)]) (N := NLB) (sc := defScope sLB) (by decide +kernel)) (fun _ _ _ _ _ => (pg_name (i := 4) scLB.nd rfl (.inl rfl))) (fun _ _ _ _ _ => pts_nil) (fun _ _ _ _ _ => (pe_cal L_sign (hr.mono (by omega)) (by rfl) (pa_cons (pv 0) pa_nil)))) pa_nil)))))), ?_⟩
    refine ⟨_, rfl, p, n, 4, rfl, pu, by omega, by decide, by decide, fun wy H1 k1 p1 _ _ => ?_⟩
    refine ⟨_, rfl, rfl, _, rfl, ite2 (fun g => ?_) (fun g => ?_)⟩
    · refine ⟨(by show 8 ≤ sizeLine; decide), fun l nl => ?_⟩
      have sl := same_new (o := .lst (eight.map V.str)) nl
      have lp : l ≠ p := p1.ne nl
      refine ⟨_, rfl, p, n + 2, 8, rfl, p1.same sl, by omega, by decide, by decide, fun v H2 k2 p2 v0 v1 => ?_⟩
      obtain ⟨c, cm, ce⟩ := at_is (l := eight.map V.str) v0 v1
      obtain ⟨z, hz, rfl⟩ := List.mem_map.mp cm
      obtain ⟨z1, z2⟩ := eight_ok z hz
      refine ⟨l, _, _, .str z, rfl, rfl, SqL.of (k2 _ _ lp upd_same), ce, _, rfl, _, rfl, z, rfl, z3000 (by omega), ?_⟩
      have e : cutS z none (some (m : Int)) = S (z.cps.toList.take m) := cut_take z.cps.toList m
      rw [e]
      have zl : z.cps.toList.length ≤ 20 := z2
      exact q _ H2 (k1.trans ((Kp.of sl).trans k2)) (p2.mono (by omega)) (Nat.le_trans (List.length_take_le _ _) (by omega)) (bok_take z1 m)
    · refine ⟨_, rfl, _, rfl, _, _, rfl, rfl, p, n + 2, _, rfl, p1, by omega, by omega, by omega, fun v H2 k2 p2 v0 v1 => ?_⟩
      obtain ⟨u, rfl⟩ : ∃ u : Nat, v = (u : Int) := ⟨v.toNat, by omega⟩
      have um : u ≤ m := by omega
      refine ⟨rfl, _, rfl, _, rfl, by omega, by omega, fun D nD => ?_⟩
      have Dp : D ≠ p := p2.ne nD
      refine lc_range (lo := 0) (n := u) (fun j Hc => ∃ b : List Nat, b.length = j ∧ bok b = true ∧ Kp p H2 Hc ∧ Pu Hc p (n + 4 + 4 * j) ∧ Hc D = some (.lst ((b.map fun c => S [c]).map V.str))) ⟨[], rfl, rfl, Kp.of (same_new nD), p2.same (same_new nD), upd_same⟩ ?_ ?_
      · rintro j Hc hj ⟨b, bl, bo, kc, pc, hD⟩
        refine ⟨rfl, yes_b (if_t ?_)⟩
        refine ⟨_, rfl, p, _, rfl, pc, by omega, fun c H3 k3 p3 sc => ⟨_, k3 _ _ Dp hD, ?_, b ++ [c], ?_, ?_, ?_, ?_, ?_⟩⟩
        · rw [List.length_map, List.length_map]
          exact small1000 (by omega)
        · rw [List.length_append, bl]
          rfl
        · show (b ++ [c]).all sok = true
          rw [List.all_append, show b.all sok = true from bo]
          simp [sc]
        · exact fun y o hy h => by
            rw [upd_ne (ne_of_none h nD)]
            exact (kc.trans k3) y o hy h
        · obtain ⟨x1, x2, x3, hp, y1, y2⟩ := p3
          exact ⟨x1, x2, x3, by rw [upd_ne (Ne.symm Dp)]; exact hp, y1, by omega⟩
        · rw [upd_same, List.map_append, List.map_append]
          rfl
      · rintro H3 ⟨b, bl, bo, kc, pc, hD⟩
        refine ⟨_, D, b.map fun c => S [c], rfl, rfl, .inl (SqL.of hD), ?_, ?_⟩
        · rw [ones_sum, List.length_map]
          show _ + _ * 0 ≤ _
          omega
        · have e : Txt.join (S []) (b.map fun c => S [c]) = S b := by
            have z := SX.join_S [] (b.map fun c => [c])
            rw [List.map_map, join_ones] at z
            exact z
          have e' : Txt.join (Str.ofString "") (b.map fun c => S [c]) = S b := e
          rw [e']
          exact q b H3 (k1.trans (k2.trans kc)) (pc.mono (by omega)) (by omega) bo
end
theorem cut_rest (l : List Nat) (m : Nat) : cutS (S l) (some (m : Int)) none = S (l.drop m) := by
  unfold cutS
  rw [len_S, HT.sIx_nat]
  show (⟨((l.drop (min m l.length)).take (l.length - min m l.length)).toArray⟩ : Str) = _
  congr 2
  by_cases h : m ≤ l.length
  · rw [Nat.min_eq_left h, List.take_of_length_le (by rw [List.length_drop]; omega)]
  · rw [Nat.min_eq_right (by omega), List.drop_of_length_le (by omega : l.length ≤ m), List.drop_length, List.take_nil]
section
variable {P : Program} {w : World} {K : PySem.W.Frag} {mg : Str → Option Value} {base : Heap} {f : Addr} {fd : FuncData} {k : Nat}
end
theorem str_S {l : List Nat} (h : ∀ c, c ∈ l → c < 0x110000) : PyData.strOk (S l) = true := by
  show ((S l).cps.all fun c => decide (c < 0x110000)) = true
  rw [← Array.all_toList]
  exact List.all_eq_true.mpr fun c hc => decide_eq_true (h c hc)
/-- what a line tells, as data -/
def told3 (n sg : Nat) (b : List Nat) : PyData := .tuple [.int (n : Int), .str (S [sg]), .str (S b)]
theorem told_form {n sg : Nat} {b : List Nat} (hs : sgn sg) (hb : bok b = true) : SeqAt.shaped (told3 n sg b) = true ∧ PyData.eqv (told3 n sg b) (told3 n sg b) = true := by
  have h1 : PyData.strOk (S [sg]) = true := str_S fun c hc => by
    rw [List.mem_singleton.mp hc]
    rcases hs with rfl | rfl | rfl <;> decide
  have h2 : PyData.strOk (S b) = true := str_S fun c hc => by
    have z := List.all_eq_true.mp hb c hc
    unfold sok at z
    simp only [Bool.and_eq_true, decide_eq_true_eq] at z
    omega
  constructor
  · refine shaped_of ?_ (by show 1 ≤ 64; decide)
    show (true && (PyData.strOk (S [sg]) && (PyData.strOk (S b) && true))) = true
    rw [h1, h2]
    rfl
  · show (((n : Int) == (n : Int)) && ((S [sg] == S [sg]) && ((S b == S b) && true))) = true
    rw [beq_self_eq_true, beq_self_eq_true, beq_self_eq_true]
    rfl
section
variable {P : Program} {w : World} {K : PySem.W.Frag} {mg : Str → Option Value} {base : Heap} {f : Addr} {fd : FuncData} {k : Nat} {cdv : Value} {A : Around} {outer : List Env} {s : Shared} {H0 : Hp} {E : XK}
end
theorem at_of {CX : CXT} {X : Cx} {E : XK} (h : Passes CX X E) (σ : L2.St) : PassesAt CX X σ E := fun pins H s e s' I z => h pins σ H s e s' I z
section
variable {P : Program} {w : World} {K : PySem.W.Frag} {mg : Str → Option Value} {base : Heap} {f : Addr} {fd : FuncData} {k : Nat} {CB : Addr} {fl : Addr} {fdl : FuncData} {g1 g2 g3 : List Value → List Value → List Value}
end
end Tg

namespace Tg
open PySem PySem.Spec PyProof.Rows L2
open SX (S)
open TL (numL)
/-- texts as values -/
def txts (ys : List (List Nat)) : List V := ys.map fun y => V.str (S y)
theorem txts_len (ys : List (List Nat)) : (txts ys).length = ys.length := List.length_map ..
theorem txts_snoc (ys : List (List Nat)) (y : List Nat) : txts ys ++ [V.str (S y)] = txts (ys ++ [y]) := by
  unfold txts
  rw [List.map_append]
  rfl
theorem kp_put {p l : Addr} {H Hc : Hp} {o : HO} (k : Kp p H Hc) (n : H l = none) : Kp p H (upd Hc l o) := fun y o' hy h => by
  rw [upd_ne (ne_of_none h n)]
  exact k y o' hy h
theorem pu_put {p l : Addr} {H : Hp} {o : HO} {n : Nat} (h : Pu H p n) (lp : l ≠ p) : Pu (upd H l o) p n := by
  obtain ⟨x1, x2, x3, hp, y1, y2⟩ := h
  exact ⟨x1, x2, x3, by rw [upd_ne (Ne.symm lp)]; exact hp, y1, y2⟩
theorem txts_cat (xs ys : List (List Nat)) : txts xs ++ txts ys = txts (xs ++ ys) := by
  unfold txts
  rw [List.map_append]
/-- the rows of a log: number, sign, body -/
abbrev Rec3 := Nat × Nat × List Nat
def ROk (r : Rec3) : Prop := r.1 < 10 ^ 12 ∧ sgn r.2.1 ∧ bok r.2.2 = true ∧ r.2.2.length ≤ 24
def rln (r : Rec3) : List Nat := line r.1 r.2.1 r.2.2
def rtup (r : Rec3) : HO := .tup [.int (r.1 : Int), .str (S [r.2.1]), .str (S r.2.2)]
theorem sg_eq (a c : Nat) : decide (V.str (S [a]) = V.str (S [c])) = decide (a = c) := by
  by_cases h : a = c
  · rw [decide_eq_true h, h]
    exact decide_eq_true rfl
  · rw [decide_eq_false h]
    exact decide_eq_false fun z => h (List.cons.inj (SX.S_inj (V.str.inj z))).1
theorem int_eq (a c : Nat) : decide (V.int (a : Int) = V.int (c : Int)) = decide (a = c) := by
  by_cases h : a = c
  · rw [decide_eq_true h, h]
    exact decide_eq_true rfl
  · rw [decide_eq_false h]
    exact decide_eq_false fun z => h (by have := V.int.inj z; omega)
/-- a list of tuples of rows -/
def RwL (H : Hp) (xs : List V) (rs : List Rec3) : Prop := xs.length = rs.length ∧ ∀ (i : Nat) (r : Rec3), rs[i]? = some r → ∃ t : Addr, xs[i]? = some (V.ref t) ∧ H t = some (rtup r)
theorem RwL.same {H H' : Hp} {xs : List V} {rs : List Rec3} (h : RwL H xs rs) (s : Same H H') : RwL H' xs rs := ⟨h.1, fun i r e => by
  obtain ⟨t, e1, e2⟩ := h.2 i r e
  exact ⟨t, e1, s _ _ e2⟩⟩
theorem RwL.nil {H : Hp} : RwL H [] [] := ⟨rfl, fun i r e => by simp at e⟩
theorem RwL.snoc {H : Hp} {xs : List V} {rs : List Rec3} {t : Addr} {r : Rec3} (h : RwL H xs rs) (ht : H t = some (rtup r)) : RwL H (xs ++ [V.ref t]) (rs ++ [r]) := by
  refine ⟨by rw [List.length_append, List.length_append, h.1]; rfl, fun i r' e => ?_⟩
  by_cases lt : i < rs.length
  · rw [List.getElem?_append_left lt] at e
    obtain ⟨t', e1, e2⟩ := h.2 i r' e
    exact ⟨t', by rw [List.getElem?_append_left (by rw [h.1]; exact lt)]; exact e1, e2⟩
  · rw [List.getElem?_append_right (by omega)] at e
    have i0 : i - rs.length = 0 := by
      have := (List.getElem?_eq_some_iff.mp e).1
      rw [List.length_singleton] at this
      omega
    rw [i0] at e
    cases e
    exact ⟨t, by rw [List.getElem?_append_right (by rw [h.1]; omega), h.1, i0]; rfl, ht⟩
theorem RwL.put {Hc : Hp} {xs : List V} {rs : List Rec3} {D : Addr} {o : HO} (h : RwL Hc xs rs) (no : ∀ us, Hc D ≠ some (.tup us)) : RwL (upd Hc D o) xs rs := ⟨h.1, fun i r e => by
  obtain ⟨t, e1, e2⟩ := h.2 i r e
  refine ⟨t, e1, ?_⟩
  rw [upd_ne fun z => no _ (by rw [← z, e2]; rfl)]
  exact e2⟩
theorem txts_at {rs : List Rec3} {j : Nat} {x : V} (h : (txts (rs.map rln))[j]? = some x) : ∃ r, rs[j]? = some r ∧ x = .str (S (rln r)) := by
  unfold txts at h
  rw [List.map_map, List.getElem?_map] at h
  obtain ⟨r, hr, rfl⟩ := Option.map_eq_some_iff.mp h
  exact ⟨r, hr, rfl⟩
/-! marks, and what stands behind the last one -/
open SX (S)
open TL (numL)
def isM (rs : List Rec3) (i : Nat) : Bool := match rs[i]? with
  | some r => decide (r.2.1 = 61)
  | none => false
/-- the places of marks -/
def mks (rs : List Rec3) (m : Nat) : List Nat := (List.range m).filter (isM rs)
theorem mks_succ (rs : List Rec3) (m : Nat) : mks rs (m + 1) = mks rs m ++ (if isM rs m = true then [m] else []) := by
  unfold mks
  rw [List.range_succ, List.filter_append]
  congr 1
  by_cases h : isM rs m = true
  · rw [if_pos h, List.filter_cons, if_pos h, List.filter_nil]
  · rw [if_neg h, List.filter_cons, if_neg h, List.filter_nil]
theorem mks_len (rs : List Rec3) (m : Nat) : (mks rs m).length ≤ m := by
  have := List.length_filter_le (isM rs) (List.range m)
  rw [List.length_range] at this
  exact this
theorem mks_mem {rs : List Rec3} {m i : Nat} (h : i ∈ mks rs m) : i < m ∧ isM rs i = true := by
  obtain ⟨h1, h2⟩ := List.mem_filter.mp h
  exact ⟨List.mem_range.mp h1, h2⟩
/-- the last mark: none ahead of m, or the one at i and none behind it -/
theorem mks_last (rs : List Rec3) : ∀ m, (mks rs m = [] ∧ ∀ i, i < m → isM rs i = false) ∨ ∃ ks i, mks rs m = ks ++ [i] ∧ i < m ∧ isM rs i = true ∧ ∀ j, i < j → j < m → isM rs j = false
  | 0 => .inl ⟨rfl, fun i h => by omega⟩
  | m + 1 => by
    rw [mks_succ]
    by_cases h : isM rs m = true
    · rw [if_pos h]
      exact .inr ⟨_, m, rfl, by omega, h, fun j h1 h2 => by omega⟩
    · rw [if_neg h, List.append_nil]
      have h' : isM rs m = false := Bool.eq_false_iff.mpr h
      rcases mks_last rs m with ⟨e, no⟩ | ⟨ks, i, e, lt, hi, no⟩
      · refine .inl ⟨e, fun i hi => ?_⟩
        rcases Nat.lt_or_ge i m with z | z
        · exact no i z
        · rw [show i = m by omega]
          exact h'
      · refine .inr ⟨ks, i, e, by omega, hi, fun j h1 h2 => ?_⟩
        rcases Nat.lt_or_ge j m with z | z
        · exact no j h1 z
        · rw [show j = m by omega]
          exact h'
/-- where the program begins, and where the law does; the mark's body -/
def begP (rs : List Rec3) (m : Nat) : Nat := (mks rs m).getLast?.getD 0
theorem cutV_to (l : List V) (m : Nat) : cutV l none (some (m : Int)) = l.take m := by
  unfold cutV
  rw [HT.sIx_nat]
  show (l.drop 0).take (min m l.length - 0) = _
  rw [List.drop_zero, Nat.sub_zero]
  by_cases h : m ≤ l.length
  · rw [Nat.min_eq_left h]
  · rw [Nat.min_eq_right (by omega), List.take_length, List.take_of_length_le (by omega)]
theorem cutV_from (l : List V) {m : Nat} (h : m ≤ l.length) : cutV l (some (m : Int)) none = l.drop m := by
  unfold cutV
  rw [HT.sIx_nat, Nat.min_eq_left h]
  exact List.take_of_length_le (by rw [List.length_drop]; exact Nat.le_refl _)
theorem txts_map (zs : List (List Nat)) : txts zs = (zs.map S).map V.str := by
  unfold txts
  rw [List.map_map]
  rfl
theorem txts_take (zs : List (List Nat)) (m : Nat) : (txts zs).take m = txts (zs.take m) := by
  unfold txts
  rw [List.map_take]
theorem txts_drop (zs : List (List Nat)) (m : Nat) : (txts zs).drop m = txts (zs.drop m) := by
  unfold txts
  rw [List.map_drop]
theorem sum_le : ∀ {zs : List (List Nat)}, (∀ z, z ∈ zs → z.length ≤ 100) → ((zs.map S).map (·.length)).sum ≤ zs.length * 100
  | [], _ => Nat.zero_le _
  | z :: zs, h => by
    have ih := sum_le (zs := zs) fun y hy => h y (List.mem_cons_of_mem _ hy)
    have h0 := h z (List.mem_cons_self ..)
    show (S z).length + ((zs.map S).map (·.length)).sum ≤ (zs.length + 1) * 100
    rw [SX.S_len, Nat.add_mul]
    omega
theorem joinL_len : ∀ (ps : List (List Nat)), (∀ p, p ∈ ps → p.length ≤ 100) → (TL.joinL [10] ps).length ≤ ps.length * 101
  | [], _ => Nat.zero_le _
  | [p], h => by
    have := h p (List.mem_cons_self ..)
    show p.length ≤ 1 * 101
    omega
  | p :: q :: r, h => by
    have ih := joinL_len (q :: r) fun y hy => h y (List.mem_cons_of_mem _ hy)
    have h0 := h p (List.mem_cons_self ..)
    show (p ++ ([10] ++ TL.joinL [10] (q :: r))).length ≤ (r.length + 1 + 1) * 101
    rw [List.length_append, List.length_append, List.length_singleton]
    rw [List.length_cons] at ih
    omega
theorem RwL.take {H : Hp} {xs : List V} {rs : List Rec3} (h : RwL H xs rs) (m : Nat) : RwL H (xs.take m) (rs.take m) := by
  refine ⟨by rw [List.length_take, List.length_take, h.1], fun i r e => ?_⟩
  have lt := (List.getElem?_eq_some_iff.mp e).1
  rw [List.length_take] at lt
  rw [List.getElem?_take_of_lt (by omega)] at e ⊢
  exact h.2 i r e
theorem RwL.drop {H : Hp} {xs : List V} {rs : List Rec3} (h : RwL H xs rs) (m : Nat) : RwL H (xs.drop m) (rs.drop m) := by
  refine ⟨by rw [List.length_drop, List.length_drop, h.1], fun i r e => ?_⟩
  rw [List.getElem?_drop] at e ⊢
  exact h.2 _ r e
/-- the number of the last row -/
def lastN (rs : List Rec3) : Nat := match rs.getLast? with
  | some r => r.1
  | none => 0
theorem lastN_snoc (rs : List Rec3) (r : Rec3) : lastN (rs ++ [r]) = r.1 := by
  unfold lastN
  rw [List.getLast?_append, List.getLast?_singleton]
  rfl
end Tg

namespace Tg
open PySem PySem.Spec PyProof.Rows L2
open SX (S)
open TL (numL)
abbrev sLI : Stmt := inCls (topS 20) 0
abbrev sLN : Stmt := inCls (topS 20) 2
abbrev sWr : Stmt := inCls (topS 20) 3
abbrev sBu : Stmt := inCls (topS 20) 4
abbrev sMk : Stmt := inCls (topS 20) 5
abbrev sLS : Stmt := inCls (topS 20) 6
abbrev sTx : Stmt := inCls (topS 20) 7
abbrev sTr : Stmt := inCls (topS 20) 8
abbrev sLW : Stmt := topS 21
abbrev NBu : List Str := ["self", "bodies", "told", "signs", "lines", "number", "body", "sign"]
abbrev NTx : List Str := ["self", "line"]
theorem scLI : FnScope ["self"] ["self"] (defScope sLI) := ⟨rfl, rfl, rfl, by decide +kernel, rfl, by decide +kernel, by decide +kernel⟩
theorem scLN : FnScope ["self"] ["self"] (defScope sLN) := ⟨rfl, rfl, rfl, by decide +kernel, rfl, by decide +kernel, by decide +kernel⟩
theorem scWr : FnScope ["self", "body", "line"] ["self", "body"] (defScope sWr) := ⟨rfl, rfl, rfl, by decide +kernel, rfl, by decide +kernel, by decide +kernel⟩
theorem scBu : FnScope NBu ["self", "bodies"] (defScope sBu) := ⟨rfl, rfl, rfl, by decide +kernel, rfl, by decide +kernel, by decide +kernel⟩
theorem scMk : FnScope ["self", "body", "line"] ["self", "body"] (defScope sMk) := ⟨rfl, rfl, rfl, by decide +kernel, rfl, by decide +kernel, by decide +kernel⟩
theorem scLS : FnScope ["self"] ["self"] (defScope sLS) := ⟨rfl, rfl, rfl, by decide +kernel, rfl, by decide +kernel, by decide +kernel⟩
theorem scTx : FnScope NTx ["self"] (defScope sTx) := ⟨rfl, rfl, rfl, by decide +kernel, rfl, by decide +kernel, by decide +kernel⟩
theorem scTr : FnScope ["self"] ["self"] (defScope sTr) := ⟨rfl, rfl, rfl, by decide +kernel, rfl, by decide +kernel, by decide +kernel⟩
theorem scLW : FnScope ["lines", "number", "begin", "log"] ["lines", "number", "begin"] (defScope sLW) := ⟨rfl, rfl, rfl, by decide +kernel, rfl, by decide +kernel, by decide +kernel⟩
/-- what the class Log is by the top -/
structure TLog (K : PySem.W.Frag) (C : Addr) : Prop where
  cl : Cls K C
  nn : NoAttr K C "number"
  nk : NoAttr K C "kept"
  nb : NoAttr K C "begin"
/-- line_of, as it is called here -/
structure CLine (P : Program) (w : World) (K : PySem.W.Frag) (mg : Str → Option Value) (base : Heap) (k : Nat) (f : Addr) (fd : FuncData) (g1 g3 : List Value → List Value → List Value) : Prop where
  F : FnOk P w K mg base CX0 k f fd ["number", "body", "sign"] spLine
  m : mg "line_of" = some (.ref f)
  kpt : PySem.W.keepIn K (.ref f) = true
  b1 : KBn K fd ["number", "body", "sign"] 2 [] g1 (fun vs _ => vs ++ [.str "."])
  b3 : KBn K fd ["number", "body", "sign"] 2 ["sign"] g3 (fun vs zs => vs ++ zs)
/-- a log: its own object and its list, its lines, its number, where its last mark is -/
def LgO (C : Addr) (H : Hp) (a l : Addr) (xs : List V) (n b : Nat) : Prop := (∃ dx, H a = some (.ins C dx [("number", .int (n : Int)), ("kept", .ref l), ("begin", .int (b : Int))])) ∧ H l = some (.lst xs)
theorem LgO.same {C : Addr} {H H' : Hp} {a l : Addr} {xs : List V} {n b : Nat} (h : LgO C H a l xs n b) (s : Same H H') : LgO C H' a l xs n b := by
  obtain ⟨⟨dx, e1⟩, e2⟩ := h
  exact ⟨⟨dx, s _ _ e1⟩, s _ _ e2⟩
theorem LgO.ne {C : Addr} {H : Hp} {a l : Addr} {xs : List V} {n b : Nat} (h : LgO C H a l xs n b) : a ≠ l := fun z => by
  obtain ⟨⟨dx, e1⟩, e2⟩ := h
  rw [z, e2] at e1
  cases e1
/-- all but a log stands -/
def Kl (a l : Addr) (H H' : Hp) : Prop := ∀ b o, b ≠ a → b ≠ l → H b = some o → H' b = some o
theorem Kl.trans {a l : Addr} {H H1 H2 : Hp} (h : Kl a l H H1) (h' : Kl a l H1 H2) : Kl a l H H2 := fun b o n1 n2 e => h' b o n1 n2 (h b o n1 n2 e)
theorem Kl.of {a l : Addr} {H H1 : Hp} (h : Same H H1) : Kl a l H H1 := fun b o _ _ e => h b o e
theorem Kl.a {a l : Addr} {H : Hp} {o : HO} : Kl a l H (upd H a o) := fun b u n1 _ e => by
  rw [upd_ne n1]
  exact e
theorem Kl.l {a l : Addr} {H : Hp} {o : HO} : Kl a l H (upd H l o) := fun b u _ n2 e => by
  rw [upd_ne n2]
  exact e
/-- what was not there ahead -/
theorem Kl.same {a l : Addr} {H0 H H1 : Hp} (h : Kl a l H H1) (s : Same H0 H) (na : H0 a = none) (nl : H0 l = none) : Same H0 H1 := fun b o e => h b o (ne_of_none e na) (ne_of_none e nl) (s b o e)
theorem none_of {H H1 : Hp} {b : Addr} (s : Same H H1) (n : H1 b = none) : H b = none := by
  cases hx : H b with
  | none => rfl
  | some o =>
    rw [s _ _ hx] at n
    cases n
/-- the lines of a deed of several bodies -/
def brows (n : Nat) (bs : List (List Nat)) : List Rec3 := bs.mapIdx fun i b => (n + 1 + i, (if i + 1 = bs.length then 46 else 43), b)
theorem brows_len (n : Nat) (bs : List (List Nat)) : (brows n bs).length = bs.length := List.length_mapIdx
theorem brows_at {n : Nat} {bs : List (List Nat)} {i : Nat} {b : List Nat} (h : bs[i]? = some b) : (brows n bs)[i]? = some (n + 1 + i, (if i + 1 = bs.length then 46 else 43), b) := by
  unfold brows
  rw [List.getElem?_mapIdx, h]
  rfl
/-- their signs -/
def sgV (m : Nat) : List V := List.replicate (m - 1) (.str (S [43])) ++ [.str (S [46])]
theorem sgV_len (m : Nat) : (sgV m).length = m - 1 + 1 := by
  unfold sgV
  simp only [List.length_replicate, List.length_append, List.length_singleton]
theorem sgV_at {m i : Nat} (h : i < m) : (sgV m)[i]? = some (.str (S [if i + 1 = m then 46 else 43])) := by
  unfold sgV
  by_cases e : i + 1 = m
  · rw [if_pos e, List.getElem?_append_right (by rw [List.length_replicate]; omega), List.length_replicate, show i - (m - 1) = 0 by omega]
    rfl
  · rw [if_neg e, List.getElem?_append_left (by rw [List.length_replicate]; omega), List.getElem?_replicate, if_pos (by omega)]
theorem flat_one (k : Nat) (v : V) : (List.replicate k [v]).flatten = List.replicate k v := by
  induction k with
  | zero => rfl
  | succ k ih =>
    rw [List.replicate_succ, List.replicate_succ, List.flatten_cons, ih]
    rfl
/-- lines, each with a line end -/
def nls (zs : List (List Nat)) : List (List Nat) := zs.map fun z => z ++ [10]
theorem join_nl : ∀ (zs : List (List Nat)) (t : List Nat), TL.joinL [] (nls zs) ++ t = TL.joinL [10] (zs ++ [t])
  | [], t => rfl
  | [z], t => by
    show (z ++ [10]) ++ t = z ++ ([10] ++ t)
    rw [List.append_assoc]
  | z :: y :: r, t => by
    have ih := join_nl (y :: r) t
    show ((z ++ [10]) ++ ([] ++ TL.joinL [] (nls (y :: r)))) ++ t = z ++ ([10] ++ TL.joinL [10] ((y :: r) ++ [t]))
    rw [← ih]
    simp only [List.nil_append, List.append_assoc]
theorem join_nl0 (zs : List (List Nat)) : TL.joinL [] (nls zs) = TL.joinL [10] (zs ++ [[]]) := by
  have e := join_nl zs []
  rw [List.append_nil] at e
  exact e
theorem sum_nls : ∀ {zs : List (List Nat)}, (∀ z, z ∈ zs → z.length ≤ 100) → (((nls zs).map S).map (·.length)).sum ≤ zs.length * 101
  | [], _ => Nat.zero_le _
  | z :: zs, h => by
    have ih := sum_nls (zs := zs) fun y hy => h y (List.mem_cons_of_mem _ hy)
    have h0 := h z (List.mem_cons_self ..)
    show (S (z ++ [10])).length + (((nls zs).map S).map (·.length)).sum ≤ (zs.length + 1) * 101
    rw [SX.S_len, List.length_append, List.length_singleton, Nat.add_mul]
    omega
section
variable {P : Program} {w : World} {K : PySem.W.Frag} {mg : Str → Option Value} {base : Heap} {f : Addr} {fd : FuncData} {k : Nat} {C : Addr} {fl : Addr} {fdl : FuncData} {g1 g3 : List Value → List Value → List Value}
def spLI (C : Addr) : Sp := fun vs H Q _ => ∃ (p dx : Addr), vs = [.ref p] ∧ H p = some (.ins C dx []) ∧ ∀ (l : Addr) (H' : Hp), H l = none → H' p = some (.ins C dx [("number", .int 0), ("kept", .ref l), ("begin", .int 0)]) → H' l = some (.lst []) → (∀ b o, b ≠ p → H b = some o → H' b = some o) → Q .non H'
theorem ok_li (F : Fun K "__init__" "Log.__init__" sLI f fd) (T : TLog K C) : FnOk P w K mg base CX0 (k + 1) f fd ["self"] (spLI C) := by
  refine F.ok scLI (fun vs H Q E h => ?_) (fun cdv A outer s H vs Q E hr h => ?_)
  · obtain ⟨p, dx, rfl, _⟩ := h
    rfl
  · obtain ⟨p, dx, rfl, hp, q⟩ := h
    refine ⟨_, pss_cons (ps_fld (pv 0) pe_int rfl)
      (pss_cons (ps_fld (pv 0) (pe_lst pa_nil) rfl)
      (pss_one (ps_fld (pv 0) pe_int rfl))), ?_⟩
    refine ⟨_, rfl, p, C, dx, [], rfl, hp, T.cl, T.nn, (by show 0 < 1000; decide), ?_⟩
    refine ⟨Nat.zero_le _, fun l nl => ?_⟩
    have lp : p ≠ l := ne_of_none upd_same nl
    have nl' : H l = none := by
      rw [upd_ne lp.symm] at nl
      exact nl
    refine ⟨_, rfl, p, C, dx, _, rfl, (by rw [upd_ne lp]; exact upd_same), T.cl, T.nk, (by show 1 < 1000; decide), ?_⟩
    refine ⟨_, rfl, p, C, dx, _, rfl, upd_same, T.cl, T.nb, (by show 2 < 1000; decide), ?_⟩
    refine q l _ nl' upd_same ?_ fun b o hb e => ?_
    · rw [upd_ne lp.symm, upd_ne lp.symm, upd_same]
    · rw [upd_ne hb, upd_ne hb, upd_ne (ne_of_none e nl'), upd_ne hb]
      exact e
def spLW (C : Addr) : Sp := fun vs H Q _ => ∃ (l : Addr) (xs : List V) (n b : Nat), vs = [.ref l, .int (n : Int), .int (b : Int)] ∧ H l = some (.lst xs) ∧ ∀ (a l' : Addr) (H' : Hp), Same H H' → H a = none → H l' = none → LgO C H' a l' xs n b → Q (.ref a) H'
theorem ok_lw (F : Fun K "log_with" "log_with" sLW f fd) (T : TLog K C) (K_Log : CalC P w K mg base k "Log" C ["self"] (spLI C)) (m_list : mg "list" = none) : FnOk P w K mg base CX0 (k + 2) f fd ["lines", "number", "begin"] (spLW C) := by
  refine F.ok scLW (fun vs H Q E h => ?_) (fun cdv A outer s H vs Q E hr h => ?_)
  · obtain ⟨l, xs, n, b, rfl, _⟩ := h
    rfl
  · obtain ⟨l, xs, n, b, rfl, hl, q⟩ := h
    refine ⟨_, pss_cons (ps_set (i := 3) scLW.nd rfl (.inl rfl) (pe_calC0 K_Log (hr.mono (by omega)) (by rfl)))
      (pss_cons (ps_fld (pv 3) (pe_callTy call_list_of (by rfl) m_list (by decide +kernel) (pa_cons (pv 0) pa_nil)) rfl)
      (pss_cons (ps_fld (pv 3) (pv 1) rfl)
      (pss_cons (ps_fld (pv 3) (pv 2) rfl)
      (pss_one (ps_ret (pv 3)))))), ?_⟩
    intro a dx na nd da
    refine ⟨a, dx, rfl, upd_same, fun l1 H1 nl1 h1 h2 h3 => ⟨rfl, ?_⟩⟩
    have s1 : Same H H1 := fun y o e => by
      have ya : y ≠ a := ne_of_none e na
      have yd : y ≠ dx := ne_of_none e nd
      refine h3 y o ya ?_
      rw [upd_ne ya, upd_ne yd]
      exact e
    refine ⟨_, rfl, l, xs, rfl, .inl (SqL.of (s1 _ _ hl)), fun l2 nl2 => ?_⟩
    have la : a ≠ l2 := ne_of_none h1 nl2
    have aH : ∀ y o, H y = some o → y ≠ a := fun y o e => ne_of_none e na
    have nl2H : H l2 = none := by
      cases hx : H l2 with
      | none => rfl
      | some o =>
        rw [s1 _ _ hx] at nl2
        cases nl2
    refine ⟨_, rfl, a, C, dx, _, rfl, (by rw [upd_ne la]; exact h1), T.cl, T.nk, (by show 3 < 1000; decide), ?_⟩
    refine ⟨_, rfl, _, rfl, a, C, dx, _, rfl, upd_same, T.cl, T.nn, (by show 3 < 1000; decide), ?_⟩
    refine ⟨_, rfl, _, rfl, a, C, dx, _, rfl, upd_same, T.cl, T.nb, (by show 3 < 1000; decide), ?_⟩
    refine ⟨_, rfl, q a l2 _ (fun y o e => ?_) na nl2H ⟨⟨dx, ?_⟩, ?_⟩⟩
    · rw [upd_ne (aH y o e), upd_ne (aH y o e), upd_ne (aH y o e), upd_ne (ne_of_none (s1 y o e) nl2)]
      exact s1 y o e
    · rw [upd_same]
      rfl
    · rw [upd_ne la.symm, upd_ne la.symm, upd_ne la.symm, upd_same]
def spLN (C : Addr) : Sp := fun vs H Q _ => ∃ (a l : Addr) (xs : List V) (n b : Nat), vs = [.ref a] ∧ LgO C H a l xs n b ∧ Q (.int (xs.length : Int)) H
theorem ok_ln (F : Fun K "__len__" "Log.__len__" sLN f fd) (T : TLog K C) (m_len : mg "len" = none) : FnOk P w K mg base CX0 (k + 1) f fd ["self"] (spLN C) := by
  refine F.ok scLN (fun vs H Q E h => ?_) (fun cdv A outer s H vs Q E hr h => ?_)
  · obtain ⟨a, l, xs, n, b, rfl, _⟩ := h
    rfl
  · obtain ⟨a, l, xs, n, b, rfl, ⟨⟨dx, ha⟩, hl⟩, q⟩ := h
    refine ⟨_, pss_one (ps_ret (pe_callB call_len_seq (by rfl) m_len (by decide +kernel) (pa_cons (pe_fld (pv 0) rfl) pa_nil))), ?_⟩
    exact ⟨_, rfl, a, C, dx, _, .ref l, rfl, ha, T.cl, T.nk, rfl, l, xs, rfl, .inl (SqL.of hl), q⟩
def spLS (C : Addr) : Sp := fun vs H Q _ => ∃ (a l : Addr) (xs : List V) (n b : Nat), vs = [.ref a] ∧ LgO C H a l xs n b ∧ ∀ (l' : Addr) (H' : Hp), Same H H' → H l' = none → H' l' = some (.lst xs) → Q (.ref l') H'
theorem ok_ls (F : Fun K "lines" "Log.lines" sLS f fd) (T : TLog K C) (m_list : mg "list" = none) : FnOk P w K mg base CX0 (k + 1) f fd ["self"] (spLS C) := by
  refine F.ok scLS (fun vs H Q E h => ?_) (fun cdv A outer s H vs Q E hr h => ?_)
  · obtain ⟨a, l, xs, n, b, rfl, _⟩ := h
    rfl
  · obtain ⟨a, l, xs, n, b, rfl, ⟨⟨dx, ha⟩, hl⟩, q⟩ := h
    refine ⟨_, pss_one (ps_ret (pe_callTy call_list_of (by rfl) m_list (by decide +kernel) (pa_cons (pe_fld (pv 0) rfl) pa_nil))), ?_⟩
    exact ⟨_, rfl, a, C, dx, _, .ref l, rfl, ha, T.cl, T.nk, rfl, l, xs, rfl, .inl (SqL.of hl), fun l2 n2 => q l2 _ (same_new n2) n2 upd_same⟩
/-- a line behind the others -/
def spWr (C : Addr) : Sp := fun vs H Q _ => ∃ (a l : Addr) (xs : List V) (n g : Nat) (b : List Nat), vs = [.ref a, .str (S b)] ∧ LgO C H a l xs n g ∧ xs.length ≤ 900 ∧ n + 1 < 10 ^ 12 ∧ b.length ≤ 300 ∧ bok b = true ∧ ∀ H', Kl a l H H' → LgO C H' a l (xs ++ [.str (S (line (n + 1) 46 b))]) (n + 1) g → Q (.str (S (line (n + 1) 46 b))) H'
theorem ok_wr (F : Fun K "write" "Log.write" sWr f fd) (T : TLog K C) (L : CLine P w K mg base k fl fdl g1 g3) : FnOk P w K mg base CX0 (k + 1) f fd ["self", "body"] (spWr C) := by
  refine F.ok scWr (fun vs H Q E h => ?_) (fun cdv A outer s H vs Q E hr h => ?_)
  · obtain ⟨a, l, xs, n, g, b, rfl, _⟩ := h
    rfl
  · obtain ⟨a, l, xs, n, g, b, rfl, lo, x9, n12, b3, bo, q⟩ := h
    refine ⟨_, pss_cons (ps_set (i := 2) scWr.nd rfl (.inl rfl) (pe_callN L.F (hr.mono (by omega)) (by rfl) L.m L.kpt L.b1 pass0 (pa_cons (pe_op op_add (pe_fld (pv 0) rfl) pe_int) (pa_cons (pv 1) pa_nil)) pk_nil))
      (pss_cons (ps_expr (pe_bm PySem.F.plainAttrs_list PySem.F.slot_list_append PySem.F.type_list_append mt_append (pe_fld (pv 0) rfl) (pa_cons (pv 2) pa_nil)))
      (pss_cons (ps_fldaug (pv 0) pe_int in_add)
      (pss_one (ps_ret (pv 2))))), ?_⟩
    have ne := lo.ne
    obtain ⟨⟨dx, ha⟩, hl⟩ := lo
    refine ⟨_, rfl, a, C, dx, _, .int n, rfl, ha, T.cl, T.nn, rfl, _, _, rfl, rfl, _, rfl, rfl, rfl, n + 1, 46, b, rfl, n12, b3, bo, fun H1 s1 => ?_⟩
    have ha1 := s1 _ _ ha
    have hl1 := s1 _ _ hl
    refine ⟨_, rfl, a, C, dx, _, .ref l, rfl, ha1, T.cl, T.nk, rfl, .inl ⟨rfl, _, SqL.of hl1⟩, _, rfl, l, xs, _, rfl, rfl, hl1, small1000 (by omega), ?_⟩
    have ha2 : upd H1 l (.lst (xs ++ [.str (S (line (n + 1) 46 b))])) a = some (.ins C dx [("number", .int (n : Int)), ("kept", .ref l), ("begin", .int (g : Int))]) := by
      rw [upd_ne ne]
      exact ha1
    refine ⟨_, rfl, a, C, dx, _, .int n, rfl, ha2, T.cl, T.nn, rfl, _, _, rfl, rfl, dx, _, ha2, (by show 3 < 1000; decide), ?_⟩
    refine ⟨_, rfl, q _ ((Kl.of s1).trans (Kl.l.trans Kl.a)) ⟨⟨dx, ?_⟩, ?_⟩⟩
    · rw [upd_same]
      rfl
    · rw [upd_ne ne.symm, upd_same]
/-- a mark behind the others -/
def spMk (C : Addr) : Sp := fun vs H Q _ => ∃ (a l : Addr) (xs : List V) (n g : Nat) (b : List Nat), vs = [.ref a, .str (S b)] ∧ LgO C H a l xs n g ∧ xs.length ≤ 900 ∧ n < 10 ^ 12 ∧ b.length ≤ 300 ∧ bok b = true ∧ ∀ H', Kl a l H H' → LgO C H' a l (xs ++ [.str (S (line n 61 b))]) n xs.length → Q (.str (S (line n 61 b))) H'
theorem ok_mk {t2 : Tok} (F : Fun K "mark" "Log.mark" sMk f fd) (T : TLog K C) (L : CLine P w K mg base k fl fdl g1 g3) (g_MARKS : mg "MARKS" = some (.str "=" t2)) (m_len : mg "len" = none) : FnOk P w K mg base CX0 (k + 1) f fd ["self", "body"] (spMk C) := by
  refine F.ok scMk (fun vs H Q E h => ?_) (fun cdv A outer s H vs Q E hr h => ?_)
  · obtain ⟨a, l, xs, n, g, b, rfl, _⟩ := h
    rfl
  · obtain ⟨a, l, xs, n, g, b, rfl, lo, x9, n12, b3, bo, q⟩ := h
    refine ⟨_, pss_cons (ps_set (i := 2) scMk.nd rfl (.inl rfl) (pe_callN L.F (hr.mono (by omega)) (by rfl) L.m L.kpt L.b3 pass0 (pa_cons (pe_fld (pv 0) rfl) (pa_cons (pv 1) pa_nil)) (pk_cons (pe_glob (v := .str "=") rfl g_MARKS ⟨_, rfl⟩) pk_nil)))
      (pss_cons (ps_fld (pv 0) (pe_callB call_len_seq (by rfl) m_len (by decide +kernel) (pa_cons (pe_fld (pv 0) rfl) pa_nil)) rfl)
      (pss_cons (ps_expr (pe_bm PySem.F.plainAttrs_list PySem.F.slot_list_append PySem.F.type_list_append mt_append (pe_fld (pv 0) rfl) (pa_cons (pv 2) pa_nil)))
      (pss_one (ps_ret (pv 2))))), ?_⟩
    have ne := lo.ne
    obtain ⟨⟨dx, ha⟩, hl⟩ := lo
    refine ⟨_, rfl, a, C, dx, _, .int n, rfl, ha, T.cl, T.nn, rfl, _, rfl, rfl, rfl, n, 61, b, rfl, n12, b3, bo, fun H1 s1 => ?_⟩
    have ha1 := s1 _ _ ha
    have hl1 := s1 _ _ hl
    refine ⟨_, rfl, a, C, dx, _, .ref l, rfl, ha1, T.cl, T.nk, rfl, l, _, rfl, .inl (SqL.of hl1), _, rfl, a, C, dx, _, rfl, ha1, T.cl, T.nb, (by show 3 < 1000; decide), ?_⟩
    refine ⟨_, rfl, a, C, dx, _, .ref l, rfl, upd_same, T.cl, T.nk, rfl, .inl ⟨rfl, _, SqL.of (by rw [upd_ne ne.symm]; exact hl1)⟩, _, rfl, l, xs, _, rfl, rfl, (by rw [upd_ne ne.symm]; exact hl1), small1000 (by omega), ?_⟩
    refine ⟨_, rfl, q _ ((Kl.of s1).trans (Kl.a.trans Kl.l)) ⟨⟨dx, ?_⟩, ?_⟩⟩
    · rw [upd_ne ne, upd_same]
      rfl
    · rw [upd_same]
/-- the log's text -/
def spTx (C : Addr) : Sp := fun vs H Q _ => ∃ (a l : Addr) (zs : List (List Nat)) (n g : Nat), vs = [.ref a] ∧ LgO C H a l (txts zs) n g ∧ zs.length ≤ 100 ∧ (∀ z, z ∈ zs → z.length ≤ 100) ∧ ∀ H', Same H H' → Q (.str (S (TL.joinL [10] (zs ++ [[]])))) H'
theorem ok_tx (F : Fun K "text" "Log.text" sTx f fd) (T : TLog K C) : FnOk P w K mg base CX0 (k + 1) f fd ["self"] (spTx C) := by
  refine F.ok scTx (fun vs H Q E h => ?_) (fun cdv A outer s H vs Q E hr h => ?_)
  · obtain ⟨a, l, zs, n, g, rfl, _⟩ := h
    rfl
  · obtain ⟨a, l, zs, n, g, rfl, ⟨⟨dx, ha⟩, hl⟩, z100, each, q⟩ := h
    refine ⟨_, pss_one (ps_ret (pe_bm PySem.F.plainAttrs_str PySem.F.slot_str_join PySem.F.type_str_join mt_join pe_str (pa_cons (pe_lc (own := [("line", 1)]) (g := (gName 1)) (tt := tYes) rfl scTx.nd (pi_list (pe_fld (pv 0) rfl)) (blkOk_by (own := [("line", 1)]) (N := NTx) (sc := defScope sTx) (by decide +kernel)) (fun _ _ _ _ _ => (pg_name (i := 1) scTx.nd rfl (.inl rfl))) (fun _ _ _ _ _ => pts_nil) (fun _ _ _ _ _ => (pe_jn (.cons (pe_fmt (pv 1)) (.cons pe_str .nil))))) pa_nil))), ?_⟩
    refine ⟨rfl, _, rfl, a, C, dx, _, .ref l, rfl, ha, T.cl, T.nk, rfl, l, rfl, ⟨_, SqL.of hl⟩, fun B nB => lc_list (K := K) (a := l) (xs := txts zs) (fun i Hd => Same H Hd ∧ Hd B = some (.lst (txts (nls (zs.take i))))) ⟨same_new nB, upd_same⟩ (fun j Hd _ h => SqL.of (h.1 _ _ hl)) ?_ ?_⟩
    · rintro j x Hd hj ⟨sc, hB⟩
      unfold txts at hj
      rw [List.getElem?_map] at hj
      obtain ⟨y, hy, rfl⟩ := Option.map_eq_some_iff.mp hj
      have jl : j < zs.length := (List.getElem?_eq_some_iff.mp hy).1
      have y100 := each y (List.mem_of_getElem? hy)
      have e1 : (Str.empty ++ S y) = S y := Str.empty_append _
      have e2 : S y ++ Str.ofString "\n" = S (y ++ [10]) := SX.S_cat y [10]
      refine ⟨rfl, yes_b (if_t ?_)⟩
      refine ⟨_, rfl, .inl ⟨S y, rfl, z3000 (by rw [len_S]; omega), _, rfl, z3000 (by rw [e1, len_S]; omega), _, rfl, z3000 (by rw [e1, e2, len_S, List.length_append]; show _ + 1 ≤ _; omega), ?_⟩⟩
      refine ⟨_, hB, ?_, same_put nB sc, ?_⟩
      · unfold nls
        rw [txts_len, List.length_map, List.length_take]
        exact small1000 (by omega)
      · rw [upd_same, take_snoc hy, e1, e2]
        unfold nls
        rw [List.map_append, ← txts_cat]
        rfl
    · rintro Hd ⟨sc, hB⟩
      rw [txts_len, List.take_length, txts_map] at hB
      have sl := sum_nls each
      have nl : (nls zs).length = zs.length := List.length_map ..
      refine ⟨_, B, (nls zs).map S, rfl, rfl, .inl (SqL.of hB), ?_, ?_⟩
      · rw [List.length_map]
        show _ + _ * 0 ≤ _
        omega
      · rw [show Txt.join (Str.ofString "") ((nls zs).map S) = S (TL.joinL [] (nls zs)) from SX.join_S [] _, join_nl0]
        exact q Hd sc
/-- from the last mark on -/
def spTr (C : Addr) : Sp := fun vs H Q _ => ∃ (a l : Addr) (xs : List V) (n g : Nat), vs = [.ref a] ∧ LgO C H a l xs n g ∧ g ≤ xs.length ∧ ∀ (a' l' : Addr) (H' : Hp), Same H H' → H a' = none → H l' = none → LgO C H' a' l' (xs.drop g) n 0 → Q (.ref a') H'
theorem ok_tr (F : Fun K "trimmed" "Log.trimmed" sTr f fd) (T : TLog K C) (C_log_with : Cal P w K mg base k "log_with" ["lines", "number", "begin"] (spLW C)) : FnOk P w K mg base CX0 (k + 1) f fd ["self"] (spTr C) := by
  refine F.ok scTr (fun vs H Q E h => ?_) (fun cdv A outer s H vs Q E hr h => ?_)
  · obtain ⟨a, l, xs, n, g, rfl, _⟩ := h
    rfl
  · obtain ⟨a, l, xs, n, g, rfl, ⟨⟨dx, ha⟩, hl⟩, gx, q⟩ := h
    refine ⟨_, pss_one (ps_ret (pe_cal C_log_with (hr.mono (by omega)) (by rfl) (pa_cons (pe_slice sl_list (pe_fld (pv 0) rfl) (po_some (pe_fld (pv 0) rfl)) po_none) (pa_cons (pe_fld (pv 0) rfl) (pa_cons pe_int pa_nil))))), ?_⟩
    refine ⟨_, rfl, a, C, dx, _, .ref l, rfl, ha, T.cl, T.nk, rfl, _, rfl, a, C, dx, _, .int g, rfl, ha, T.cl, T.nb, rfl, (g : Int), rfl, l, xs, rfl, SqL.of hl, fun l1 n1 => ?_⟩
    rw [cutV_from xs gx]
    have s1 := same_new (o := .lst (xs.drop g)) n1
    refine ⟨_, rfl, a, C, dx, _, .int n, rfl, s1 _ _ ha, T.cl, T.nn, rfl, l1, xs.drop g, n, 0, rfl, upd_same, fun a' l' H' s' na nl lo => ?_⟩
    have old : ∀ y, upd H l1 (.lst (xs.drop g)) y = none → H y = none := fun y e => by
      cases hx : H y with
      | none => rfl
      | some o =>
        rw [s1 _ _ hx] at e
        cases e
    exact q a' l' H' (s1.trans s') (old _ na) (old _ nl) lo
/-- the lines of several bodies, one deed -/
def spBu (C : Addr) : Sp := fun vs H Q _ => ∃ (a l p : Addr) (xs : List V) (n g : Nat) (bs : List (List Nat)), vs = [.ref a, .ref p] ∧ LgO C H a l xs n g ∧ H p = some (.lst (txts bs)) ∧ xs.length ≤ 800 ∧ bs.length ≤ 100 ∧ n + bs.length < 10 ^ 12 ∧ (∀ b, b ∈ bs → b.length ≤ 300 ∧ bok b = true) ∧
  ∀ (D : Addr) (H' : Hp), Kl a l H H' → H D = none → H' D = some (.lst (txts ((brows n bs).map rln))) → LgO C H' a l (xs ++ txts ((brows n bs).map rln)) (n + bs.length) g → Q (.ref D) H'
theorem ok_bu {t1 t2 : Tok} (F : Fun K "bundle" "Log.bundle" sBu f fd) (T : TLog K C) (L : CLine P w K mg base k fl fdl g1 g3) (g_GOES : mg "GOES" = some (.str "+" t1)) (g_ENDS : mg "ENDS" = some (.str "." t2)) (m_len : mg "len" = none) (m_list : mg "list" = none) (m_zip : mg "zip" = none) (m_enumerate : mg "enumerate" = none) : FnOk P w K mg base CX0 (k + 1) f fd ["self", "bodies"] (spBu C) := by
  refine F.ok scBu (fun vs H Q E h => ?_) (fun cdv A outer s H vs Q E hr h => ?_)
  · obtain ⟨a, l, p, xs, n, g, bs, rfl, _⟩ := h
    rfl
  · obtain ⟨a, l, p, xs, n, g, bs, rfl, lo, hp, x8, b1, n12, each, q⟩ := h
    refine ⟨_, pss_cons (ps_set (i := 2) scBu.nd rfl (.inl rfl) (pe_callTy call_list_of (by rfl) m_list (by decide +kernel) (pa_cons (pv 1) pa_nil)))
      (pss_cons (ps_set (i := 3) scBu.nd rfl (.inl rfl) (pe_op op_cat (pe_op op_rep (pe_lst (pa_cons (pe_glob (v := .str "+") rfl g_GOES ⟨_, rfl⟩) pa_nil)) (pe_op op_sub (pe_callB call_len_seq (by rfl) m_len (by decide +kernel) (pa_cons (pv 2) pa_nil)) pe_int)) (pe_lst (pa_cons (pe_glob (v := .str ".") rfl g_ENDS ⟨_, rfl⟩) pa_nil))))
      (pss_cons (ps_setLc (i := 4) (own := [("number", 5), ("body", 6), ("sign", 7)]) (g := gTup K 2 (gCons (gName 5) (gCons (gTup K 2 (gCons (gName 6) (gCons (gName 7) gNil))) gNil))) (tt := tYes) rfl scBu.nd rfl rfl (sw_true rfl rfl rfl (by decide +kernel)) (pi_enumZK (by rfl) m_enumerate (by rfl) m_zip (pa_cons (pv 2) (pa_cons (pv 3) pa_nil)) (pe_op op_add (pe_fld (pv 0) rfl) pe_int)) (blkOk_by (own := [("number", 5), ("body", 6), ("sign", 7)]) (N := NBu) (sc := defScope sBu) (by decide +kernel)) (fun _ _ _ _ _ => (pg_tup rfl (pgs_cons (pg_name (i := 5) scBu.nd rfl (.inl rfl)) (pgs_cons (pg_tup rfl (pgs_cons (pg_name (i := 6) scBu.nd rfl (.inl rfl)) (pgs_cons (pg_name (i := 7) scBu.nd rfl (.inl rfl)) pgs_nil))) pgs_nil)))) (fun _ _ _ _ _ => pts_nil) (fun _ _ _ _ _ => (pe_callN L.F (hr.mono (by omega)) (by rfl) L.m L.kpt L.b3 pass0 (pa_cons (pv 5) (pa_cons (pv 6) pa_nil)) (pk_cons (pv 7) pk_nil))))
      (pss_cons (ps_expr (pe_bm PySem.F.plainAttrs_list PySem.F.slot_list_extend PySem.F.type_list_extend mt_extend (pe_fld (pv 0) rfl) (pa_cons (pv 4) pa_nil)))
      (pss_cons (ps_fldaug (pv 0) (pe_callB call_len_seq (by rfl) m_len (by decide +kernel) (pa_cons (pv 4) pa_nil)) in_add)
      (pss_one (ps_ret (pv 4))))))), ?_⟩
    have ne := lo.ne
    obtain ⟨⟨dx, ha⟩, hl⟩ := lo
    refine ⟨_, rfl, p, _, rfl, .inl (SqL.of hp), fun p1 np1 => ?_⟩
    have s1 := same_new (o := .lst (txts bs)) np1
    refine ⟨(by show 1 ≤ sizeLine; decide), fun d1 nd1 => ?_⟩
    have s2 := s1.trans (same_new (o := .lst [V.str (Str.ofString "+")]) nd1)
    have h1 : upd (upd H p1 (.lst (txts bs))) d1 (.lst [V.str (Str.ofString "+")]) p1 = some (.lst (txts bs)) := same_new nd1 _ _ upd_same
    refine ⟨_, rfl, p1, _, rfl, .inl (SqL.of h1), _, _, rfl, rfl, ?_⟩
    have bl : (txts bs).length = bs.length := txts_len bs
    refine ⟨d1, _, _, rfl, rfl, upd_same, by rw [bl]; omega, by rw [bl]; omega, ?_, fun d2 nd2 => ?_⟩
    · rw [List.length_singleton, bl]
      exact Nat.le_of_lt (small1000 (by omega))
    rw [flat_one, bl, show ((bs.length : Int) - 1).toNat = bs.length - 1 by omega]
    have s3 := s2.trans (same_new (o := .lst (List.replicate (bs.length - 1) (V.str (Str.ofString "+")))) nd2)
    have h3 := same_new (o := .lst (List.replicate (bs.length - 1) (V.str (Str.ofString "+")))) nd2 _ _ h1
    have g3 : upd (upd (upd H p1 (.lst (txts bs))) d1 (.lst [V.str (Str.ofString "+")])) d2 (.lst (List.replicate (bs.length - 1) (V.str (Str.ofString "+")))) d2 = some (.lst (List.replicate (bs.length - 1) (V.str (Str.ofString "+")))) := upd_same
    obtain ⟨H3, e3⟩ : ∃ H3, upd (upd (upd H p1 (.lst (txts bs))) d1 (.lst [V.str (Str.ofString "+")])) d2 (.lst (List.replicate (bs.length - 1) (V.str (Str.ofString "+")))) = H3 := ⟨_, rfl⟩
    rw [e3] at s3 h3 g3 ⊢
    refine ⟨(by show 1 ≤ sizeLine; decide), fun d4 nd4 => ?_⟩
    have s4 := same_new (o := .lst [V.str (Str.ofString ".")]) nd4
    refine ⟨d2, d4, _, _, rfl, rfl, s4 _ _ g3, upd_same, ?_, fun d5 nd5 => ?_⟩
    · rw [List.length_replicate, List.length_singleton]
      exact Nat.le_of_lt (small1000 (by omega))
    have s5 := same_new (o := .lst (List.replicate (bs.length - 1) (V.str (Str.ofString "+")) ++ [V.str (Str.ofString ".")])) nd5
    have c5 : Same H _ := (s3.trans s4).trans s5
    obtain ⟨H5, e5⟩ : ∃ H5, upd (upd H3 d4 (.lst [V.str (Str.ofString ".")])) d5 (.lst (List.replicate (bs.length - 1) (V.str (Str.ofString "+")) ++ [V.str (Str.ofString ".")])) = H5 := ⟨_, rfl⟩
    have hs5 : H5 d5 = some (.lst (sgV bs.length)) := by
      rw [← e5]
      exact upd_same
    have hb5 : H5 p1 = some (.lst (txts bs)) := by
      rw [← e5]
      exact s5 _ _ (s4 _ _ h3)
    rw [e5] at c5 ⊢
    have ha5 := c5 _ _ ha
    have hl5 := c5 _ _ hl
    refine ⟨_, rfl, _, rfl, p1, d5, _, _, rfl, SqL.of hb5, SqL.of hs5, _, rfl, a, C, dx, _, .int n, rfl, ha5, T.cl, T.nn, rfl, _, _, rfl, rfl, (n : Int) + 1, rfl, by omega, by omega, fun B nB => lc_it (walk_enumZ (K := K) (a := p1) (b := d5) (c := (n : Int) + 1) (xs := txts bs) (ys := sgV bs.length) (n := bs.length) (by rw [bl, sgV_len]; omega)) (fun i Hd => Same H5 Hd ∧ Hd B = some (.lst (txts (((brows n bs).take i).map rln)))) ⟨same_new nB, upd_same⟩ (fun j Hd _ h => ⟨SqL.of (h.1 _ _ hb5), SqL.of (h.1 _ _ hs5)⟩) ?_ ?_⟩
    · rintro j x Hd Hd' hj ⟨sc, hB⟩ ⟨U, W, x0, y0, rfl, nU, nW, UW, rfl, f1, f2⟩
      have e0 : ((n : Int) + 1) + (j : Int) = ((n + 1 + j : Nat) : Int) := by omega
      rw [e0]
      obtain ⟨b, hb⟩ : ∃ b, bs[j]? = some b := ⟨_, List.getElem?_eq_getElem hj⟩
      have ex : x0 = .str (S b) := by
        unfold txts at f1
        rw [List.getElem?_map, hb] at f1
        exact (Option.some.inj f1).symm
      have ey : y0 = .str (S [if j + 1 = bs.length then 46 else 43]) := by
        rw [sgV_at hj] at f2
        exact (Option.some.inj f2).symm
      subst ex
      subst ey
      obtain ⟨b3, bo⟩ := each b (List.mem_of_getElem? hb)
      have sU := same_new (o := .tup [.str (S b), .str (S [if j + 1 = bs.length then 46 else 43])]) nU
      have nW' : upd Hd U (.tup [.str (S b), .str (S [if j + 1 = bs.length then 46 else 43])]) W = none := by
        rw [upd_ne UW.symm]
        exact nW
      have sW := same_new (o := .tup [.int ((n + 1 + j : Nat) : Int), .ref U]) nW'
      refine ⟨W, _, rfl, SqT.of upd_same, rfl, _, _, rfl, _, _, rfl, U, _, rfl, SqT.of (sW _ _ upd_same), rfl, _, _, rfl, _, _, rfl, rfl, rfl, rfl, yes_b (if_t ?_)⟩
      refine ⟨_, rfl, _, rfl, _, rfl, rfl, rfl, n + 1 + j, (if j + 1 = bs.length then 46 else 43), b, rfl, by omega, b3, bo, fun H2 s2 => ⟨_, s2 _ _ (sW _ _ (sU _ _ hB)), ?_, same_put nB ((sc.trans (sU.trans sW)).trans s2), ?_⟩⟩
      · rw [txts_len, List.length_map, List.length_take]
        exact small1000 (by omega)
      · rw [upd_same, take_snoc (brows_at hb), List.map_append, ← txts_cat]
        rfl
    · rintro Hd ⟨sc, hB⟩
      have tk : (brows n bs).take bs.length = brows n bs := List.take_of_length_le (by rw [brows_len]; exact Nat.le_refl _)
      rw [tk] at hB
      have had := sc _ _ ha5
      have hld := sc _ _ hl5
      have Bl : B ≠ l := fun z => by
        rw [z, hl5] at nB
        cases nB
      have Ba : B ≠ a := fun z => by
        rw [z, ha5] at nB
        cases nB
      refine ⟨_, rfl, a, C, dx, _, .ref l, rfl, had, T.cl, T.nk, rfl, .inl ⟨rfl, _, SqL.of hld⟩, _, rfl, l, B, xs, _, rfl, rfl, hld, hB, ?_, ?_⟩
      · rw [txts_len, List.length_map, brows_len]
        exact Nat.le_of_lt (small1000 (by omega))
      have ha6 : upd Hd l (.lst (xs ++ txts ((brows n bs).map rln))) a = some (.ins C dx [("number", .int (n : Int)), ("kept", .ref l), ("begin", .int (g : Int))]) := by
        rw [upd_ne ne]
        exact had
      have hB6 : upd Hd l (.lst (xs ++ txts ((brows n bs).map rln))) B = some (.lst (txts ((brows n bs).map rln))) := by
        rw [upd_ne Bl]
        exact hB
      refine ⟨_, rfl, a, C, dx, _, .int n, rfl, ha6, T.cl, T.nn, rfl, _, rfl, B, _, rfl, .inl (SqL.of hB6), _, _, rfl, rfl, dx, _, ha6, (by show 3 < 1000; decide), ?_⟩
      have el : (txts ((brows n bs).map rln)).length = bs.length := by rw [txts_len, List.length_map, brows_len]
      refine ⟨_, rfl, q B _ ((Kl.of (c5.trans sc)).trans (Kl.l.trans Kl.a)) (none_of c5 nB) ?_ ⟨⟨dx, ?_⟩, ?_⟩⟩
      · rw [upd_ne Ba]
        exact hB6
      · rw [upd_same, el]
        rfl
      · rw [upd_ne ne.symm, upd_same]
end
end Tg

namespace Tg
open PySem PySem.Spec PyProof.Rows L2
open SX (S)
open TL (numL)
abbrev sDe : Stmt := topS 30
abbrev sRw : Stmt := topS 31
abbrev NDe : List Str := ["_law_purse_here", "_law_most", "_law_way", "_law_k"]
abbrev NRw : List Str := ["_law_rows_here", "_law_word", "_law_bodies", "_law_number", "_law_row", "_law_signs", "_law_body_here", "_law_at", "_law_sign_here"]
theorem scDe : FnScope NDe ["_law_purse_here", "_law_most"] (defScope sDe) := ⟨rfl, rfl, rfl, by decide +kernel, rfl, by decide +kernel, by decide +kernel⟩
theorem scRw : FnScope NRw ["_law_rows_here", "_law_word", "_law_bodies"] (defScope sRw) := ⟨rfl, rfl, rfl, by decide +kernel, rfl, by decide +kernel, by decide +kernel⟩
/-- a deed: its word and its bodies -/
def DeW (wd : Str) (bs : List (List Nat)) : Prop := (wd = "bundle" ∧ bs.length ≤ 4) ∨ ∃ b, bs = [b] ∧ (wd = "mark" ∨ wd = "write")
/-- its rows, behind number n -/
def deR (wd : Str) (n : Nat) (bs : List (List Nat)) : List Rec3 := if wd = "mark" then bs.map fun b => (n, 61, b) else brows n bs
theorem cutV_fromG (l : List V) (m : Nat) : cutV l (some (m : Int)) none = l.drop m := by
  by_cases h : m ≤ l.length
  · exact cutV_from l h
  · unfold cutV
    rw [HT.sIx_nat, Nat.min_eq_right (by omega), List.drop_of_length_le (by omega : l.length ≤ m), List.drop_length, List.take_nil]
theorem last_num (rs : List Rec3) : atI ([V.int 0] ++ rs.map fun r => V.int (r.1 : Int)) (-1) = some (.int (lastN rs : Int)) := by
  rcases List.eq_nil_or_concat rs with rfl | ⟨ys, r, rfl⟩
  · exact atI_last [] _
  · rw [List.concat_eq_append, List.map_append, ← List.append_assoc, lastN_snoc]
    exact atI_last _ _
theorem none_ofK {p : Addr} {H H1 : Hp} {n : Nat} {b : Addr} (s : Kp p H H1) (pu : Pu H1 p n) (h : H1 b = none) : H b = none := by
  cases hx : H b with
  | none => rfl
  | some o =>
    by_cases e : b = p
    · obtain ⟨x1, x2, x3, hp, _⟩ := pu
      rw [e, hp] at h
      cases h
    · rw [s _ _ e hx] at h
      cases h
section
variable {P : Program} {w : World} {K : PySem.W.Frag} {mg : Str → Option Value} {base : Heap} {f : Addr} {fd : FuncData} {k : Nat} {C : Addr}
def spDe : Sp := fun vs H Q _ => ∃ (p : Addr) (n m : Nat), vs = [.ref p, .int (m : Int)] ∧ Pu H p n ∧ n < 2 ^ 35 ∧ m ≤ 200 ∧ ∀ (t bl : Addr) (wd : Str) (bs : List (List Nat)) (H' : Hp), Kp p H H' → Pu H' p (n + 5000) → H bl = none → H' t = some (.tup [.str wd, .ref bl]) → H' bl = some (.lst (txts bs)) → DeW wd bs → (∀ b, b ∈ bs → b.length ≤ m ∧ bok b = true) → Q (.ref t) H'
theorem ok_de (F : Fun K "_law_deed" "_law_deed" sDe f fd) (L_draw : Cal P w K mg base k "_law_draw" ["_law_purse_here", "_law_out_of"] spDraw) (L_body : Cal P w K mg base k "_law_body" ["_law_purse_here", "_law_most"] spLB) (m_range : mg "range" = none) : FnOk P w K mg base CX0 (k + 1) f fd ["_law_purse_here", "_law_most"] spDe := by
  refine F.ok scDe (fun vs H Q E h => ?_) (fun cdv A outer s H vs Q E hr h => ?_)
  · obtain ⟨p, n, m, rfl, _⟩ := h
    rfl
  · obtain ⟨p, n, m, rfl, pu, n35, m200, q⟩ := h
    refine ⟨_, pss_cons (ps_set (i := 2) scDe.nd rfl (.inl rfl) (pe_cal L_draw (hr.mono (by omega)) (by rfl) (pa_cons (pv 0) (pa_cons pe_int pa_nil))))
      (pss_cons (ps_if (pt_cmpR op_lt (pv 2) pe_int (nomark _))
        (pss_one (ps_ret (pe_tup (pa_cons pe_str (pa_cons (pe_lst (pa_cons (pe_cal L_body (hr.mono (by omega)) (by rfl) (pa_cons (pv 0) (pa_cons (pv 1) pa_nil))) pa_nil)) pa_nil)))))
        pss_nil)
      (pss_cons (ps_if (pt_cmpR op_lt (pv 2) pe_int (nomark _))
        (pss_one (ps_ret (pe_tup (pa_cons pe_str (pa_cons (pe_lc (own := [("_law_k", 3)]) (g := (gName 3)) (tt := tYes) rfl scDe.nd (pi_range1 (by rfl) m_range (pa_cons (pe_cal L_draw (hr.mono (by omega)) (by rfl) (pa_cons (pv 0) (pa_cons pe_int pa_nil))) pa_nil)) (blkOk_by (own := [("_law_k", 3)]) (N := NDe) (sc := defScope sDe) (by decide +kernel)) (fun _ _ _ _ _ => (pg_name (i := 3) scDe.nd rfl (.inl rfl))) (fun _ _ _ _ _ => pts_nil) (fun _ _ _ _ _ => (pe_cal L_body (hr.mono (by omega)) (by rfl) (pa_cons (pv 0) (pa_cons (pv 1) pa_nil))))) pa_nil)))))
        pss_nil)
      (pss_one (ps_ret (pe_tup (pa_cons pe_str (pa_cons (pe_lst (pa_cons (pe_cal L_body (hr.mono (by omega)) (by rfl) (pa_cons (pv 0) (pa_cons (pv 1) pa_nil))) pa_nil)) pa_nil))))))), ?_⟩
    refine ⟨_, rfl, p, n, 6, rfl, pu, by omega, by decide, by decide, fun wy H1 k1 p1 _ _ => ?_⟩
    have one : ∀ (wd : Str) (b : List Nat) (H2 : Hp), (wd = "mark" ∨ wd = "write") → Kp p H1 H2 → Pu H2 p (n + 2 + 1000) → b.length ≤ m → bok b = true → ∀ bl t : Addr, H2 bl = none → upd H2 bl (.lst [.str (S b)]) t = none → Q (.ref t) (upd (upd H2 bl (.lst [.str (S b)])) t (.tup [.str wd, .ref bl])) := fun wd b H2 hw k2 p2 bl bo a t na nt => by
      have sa := same_new (o := .lst [.str (S b)]) na
      have st := same_new (o := .tup [.str wd, .ref a]) nt
      exact q t a wd [b] _ (k1.trans (k2.trans (Kp.of (sa.trans st)))) ((p2.same (sa.trans st)).mono (by omega)) (none_ofK (k1.trans k2) p2 na) upd_same (st _ _ upd_same) (.inr ⟨b, rfl, hw⟩) fun c hc => by
        rw [List.mem_singleton.mp hc]
        exact ⟨bl, bo⟩
    refine ⟨_, rfl, _, _, rfl, rfl, _, rfl, ite2 (fun g => ?_) (fun g => ?_)⟩
    · refine ⟨_, rfl, _, rfl, p, n + 2, m, rfl, p1, by omega, m200, fun b H2 k2 p2 bl bo => ⟨(by show 1 ≤ sizeLine; decide), fun a na => ⟨(by show 2 ≤ sizeLine; decide), fun t nt => ?_⟩⟩⟩
      exact one "write" b H2 (.inr rfl) k2 p2 bl bo a t na nt
    refine ⟨_, rfl, _, _, rfl, rfl, _, rfl, ite2 (fun g2 => ?_) (fun g2 => ?_)⟩
    · refine ⟨_, rfl, p, n + 2, 5, rfl, p1, by omega, by decide, by decide, fun v H2 k2 p2 v0 v1 => ?_⟩
      obtain ⟨u, rfl⟩ : ∃ u : Nat, v = (u : Int) := ⟨v.toNat, by omega⟩
      refine ⟨_, rfl, by omega, by omega, fun D nD => ?_⟩
      have Dp : D ≠ p := p2.ne nD
      rw [show ((u : Int)).toNat = u by omega]
      refine lc_range (lo := 0) (n := u) (fun j Hc => ∃ bs : List (List Nat), bs.length = j ∧ (∀ b, b ∈ bs → b.length ≤ m ∧ bok b = true) ∧ Kp p H2 Hc ∧ Pu Hc p (n + 4 + 1000 * j) ∧ Hc D = some (.lst (txts bs))) ⟨[], rfl, (fun _ h => nomatch h), Kp.of (same_new nD), p2.same (same_new nD), upd_same⟩ ?_ ?_
      · rintro j Hc hj ⟨bs, bl, bo, kc, pc, hD⟩
        refine ⟨rfl, yes_b (if_t ?_)⟩
        refine ⟨_, rfl, _, rfl, p, _, m, rfl, pc, by omega, m200, fun b H3 k3 p3 b0 b1 => ⟨_, k3 _ _ Dp hD, ?_, bs ++ [b], ?_, ?_, kp_put (kc.trans k3) nD, pu_put (p3.mono (by omega)) Dp, ?_⟩⟩
        · rw [txts_len, bl]
          exact small1000 (by omega)
        · rw [List.length_append, bl]
          rfl
        · intro c hc
          obtain hc | hc := List.mem_append.mp hc
          · exact bo c hc
          · rw [List.mem_singleton.mp hc]
            exact ⟨b0, b1⟩
        · rw [upd_same, ← txts_snoc]
      · rintro H3 ⟨bs, bl, bo, kc, pc, hD⟩
        refine ⟨(by show 2 ≤ sizeLine; decide), fun t nt => ?_⟩
        have st := same_new (o := .tup [.str "bundle", .ref D]) nt
        exact q t D "bundle" bs _ (k1.trans (k2.trans (kc.trans (Kp.of st)))) ((pc.same st).mono (by omega)) (none_ofK (k1.trans k2) p2 nD) upd_same (st _ _ hD) (.inl ⟨rfl, by omega⟩) bo
    · refine ⟨_, rfl, _, rfl, p, n + 2, m, rfl, p1, by omega, m200, fun b H2 k2 p2 bl bo => ⟨(by show 1 ≤ sizeLine; decide), fun a na => ⟨(by show 2 ≤ sizeLine; decide), fun t nt => ?_⟩⟩⟩
      exact one "mark" b H2 (.inl rfl) k2 p2 bl bo a t na nt
/-- the rows of a deed -/
def spRw : Sp := fun vs H Q _ => ∃ (l bl : Addr) (xs : List V) (rs : List Rec3) (wd : Str) (bs : List (List Nat)), vs = [.ref l, .str wd, .ref bl] ∧ H l = some (.lst xs) ∧ RwL H xs rs ∧ rs.length ≤ 90 ∧ lastN rs < 10 ^ 12 ∧ H bl = some (.lst (txts bs)) ∧ DeW wd bs ∧ ∀ (D : Addr) (ys : List V) (H' : Hp), Same H H' → H D = none → H' D = some (.lst ys) → RwL H' ys (deR wd (lastN rs) bs) → Q (.ref D) H'
theorem ok_rw (F : Fun K "_law_rows" "_law_rows" sRw f fd) (m_zip : mg "zip" = none) (m_enumerate : mg "enumerate" = none) : FnOk P w K mg base CX0 (k + 1) f fd ["_law_rows_here", "_law_word", "_law_bodies"] spRw := by
  refine F.ok scRw (fun vs H Q E h => ?_) (fun cdv A outer s H vs Q E hr h => ?_)
  · obtain ⟨l, bl, xs, rs, wd, bs, rfl, _⟩ := h
    rfl
  · obtain ⟨l, bl, xs, rs, wd, bs, rfl, hl, rl, r60, ln, hb, dw, q⟩ := h
    refine ⟨_, pss_cons (ps_set (i := 3) scRw.nd rfl (.inr rfl) (pe_ix ix_list (pe_op op_cat (pe_lst (pa_cons pe_int pa_nil)) (pe_lc (own := [("_law_row", 4)]) (g := (gName 4)) (tt := tYes) rfl scRw.nd (pi_list (pv 0)) (blkOk_by (own := [("_law_row", 4)]) (N := NRw) (sc := defScope sRw) (by decide +kernel)) (fun _ _ _ _ _ => (pg_name (i := 4) scRw.nd rfl (.inl rfl))) (fun _ _ _ _ _ => pts_nil) (fun _ _ _ _ _ => (pe_ix (r := rIxT K) ix_tup (pv 4) pe_int (fun _ _ => rfl))))) (pe_un un_neg pe_int) (fun _ _ => rfl)))
      (pss_cons (ps_if (pt_cmpR op_eq (pv 1) pe_str (nomark _))
        (pss_one (ps_ret (pe_lst (pa_cons (pe_tup (pa_cons (pv 3) (pa_cons pe_str (pa_cons (pe_ix ix_list (pv 2) pe_int (fun _ _ => rfl)) pa_nil)))) pa_nil))))
        pss_nil)
      (pss_cons (ps_set (i := 5) scRw.nd rfl (.inl rfl) (pe_op op_cat (pe_lc (own := [("_law_body_here", 6)]) (g := (gName 6)) (tt := tYes) rfl scRw.nd (pi_list (pe_slice sl_list (pv 2) (po_some pe_int) po_none)) (blkOk_by (own := [("_law_body_here", 6)]) (N := NRw) (sc := defScope sRw) (by decide +kernel)) (fun _ _ _ _ _ => (pg_name (i := 6) scRw.nd rfl (.inl rfl))) (fun _ _ _ _ _ => pts_nil) (fun _ _ _ _ _ => pe_str)) (pe_lst (pa_cons pe_str pa_nil))))
      (pss_one (ps_ret (pe_lc (own := [("_law_at", 7), ("_law_sign_here", 8), ("_law_body_here", 6)]) (g := gTup K 2 (gCons (gName 7) (gCons (gTup K 2 (gCons (gName 8) (gCons (gName 6) gNil))) gNil))) (tt := tYes) rfl scRw.nd (pi_enumZ (by rfl) m_enumerate (by rfl) m_zip (pa_cons (pv 5) (pa_cons (pv 2) pa_nil))) (blkOk_by (own := [("_law_at", 7), ("_law_sign_here", 8), ("_law_body_here", 6)]) (N := NRw) (sc := defScope sRw) (by decide +kernel)) (fun _ _ _ _ _ => (pg_tup rfl (pgs_cons (pg_name (i := 7) scRw.nd rfl (.inl rfl)) (pgs_cons (pg_tup rfl (pgs_cons (pg_name (i := 8) scRw.nd rfl (.inl rfl)) (pgs_cons (pg_name (i := 6) scRw.nd rfl (.inl rfl)) pgs_nil))) pgs_nil)))) (fun _ _ _ _ _ => pts_nil) (fun _ _ _ _ _ => (pe_tup (pa_cons (pe_op op_add (pe_op op_add (pv 3) pe_int) (pv 7)) (pa_cons (pv 8) (pa_cons (pv 6) pa_nil)))))))))), ?_⟩
    refine ⟨(by show 1 ≤ sizeLine; decide), fun z1 nz1 => ?_⟩
    have sz := same_new (o := .lst [.int 0]) nz1
    obtain ⟨H2, e2⟩ : ∃ H2, upd H z1 (.lst [.int 0]) = H2 := ⟨_, rfl⟩
    have hz : H2 z1 = some (.lst [.int 0]) := by rw [← e2]; exact upd_same
    rw [e2] at sz ⊢
    have hl2 := sz _ _ hl
    refine ⟨_, rfl, l, rfl, ⟨_, SqL.of hl2⟩, fun B nB => lc_list (K := K) (a := l) (xs := xs) (fun j Hd => Same H2 Hd ∧ Hd B = some (.lst ((rs.take j).map fun r => V.int (r.1 : Int)))) ⟨same_new nB, upd_same⟩ (fun j Hd _ h => SqL.of (h.1 _ _ hl2)) ?_ ?_⟩
    · rintro j x Hd hj ⟨sc, hD⟩
      obtain ⟨r, hr3⟩ : ∃ r, rs[j]? = some r := ⟨_, List.getElem?_eq_getElem (by rw [← rl.1]; exact (List.getElem?_eq_some_iff.mp hj).1)⟩
      obtain ⟨t, et, ht⟩ := rl.2 j r hr3
      rw [hj] at et
      cases et
      refine ⟨rfl, yes_b (if_t ?_)⟩
      refine ⟨_, rfl, t, _, 0, _, rfl, rfl, SqT.of (sc _ _ (sz _ _ ht)), rfl, _, hD, ?_, same_put nB sc, ?_⟩
      · rw [List.length_map, List.length_take]
        exact small1000 (by omega)
      · rw [upd_same, take_snoc hr3, List.map_append]
        rfl
    · rintro H3 ⟨s3, hD⟩
      rw [rl.1, List.take_length] at hD
      refine ⟨z1, B, _, _, rfl, rfl, s3 _ _ hz, hD, Nat.le_of_lt (small1000 (by rw [List.length_map, List.length_singleton]; omega)), fun l4 n4 => ?_⟩
      have s4 := same_new (o := .lst ([.int 0] ++ rs.map fun r => V.int (r.1 : Int))) n4
      refine ⟨1, rfl, l4, _, _, _, rfl, rfl, SqL.of upd_same, last_num rs, ?_⟩
      have c4 : Same H _ := (sz.trans s3).trans s4
      obtain ⟨H4, e4⟩ : ∃ H4, upd H3 l4 (.lst ([.int 0] ++ rs.map fun r => V.int (r.1 : Int))) = H4 := ⟨_, rfl⟩
      rw [e4] at c4 ⊢
      have hb4 := c4 _ _ hb
      have em : decide (V.str wd = V.str (Str.ofString "mark")) = decide (wd = "mark") := by
        by_cases h : wd = "mark"
        · rw [decide_eq_true h, h]
          exact decide_eq_true rfl
        · rw [decide_eq_false h]
          exact decide_eq_false fun z => h (V.str.inj z)
      refine ⟨_, rfl, rfl, _, rfl, ?_⟩
      dsimp only
      rw [em]
      by_cases hm : wd = "mark"
      · rw [decide_eq_true hm]
        refine if_t ?_
        obtain ⟨b, rfl, _⟩ : ∃ b, bs = [b] ∧ (wd = "mark" ∨ wd = "write") := dw.resolve_left fun z => by
          have e := hm.symm.trans z.1
          exact absurd e (by decide)
        refine ⟨_, rfl, _, rfl, bl, _, 0, _, rfl, rfl, SqL.of hb4, rfl, (by show 3 ≤ sizeLine; decide), fun t nt => ⟨(by show 1 ≤ sizeLine; decide), fun D nD => ?_⟩⟩
        have st := same_new (o := .tup [.int (lastN rs : Int), .str (Str.ofString "="), .str (S b)]) nt
        have sD := same_new (o := .lst [.ref t]) nD
        refine q D [.ref t] _ (c4.trans (st.trans sD)) (none_of c4 (none_of st nD)) upd_same ?_
        unfold deR
        rw [if_pos hm]
        exact RwL.snoc RwL.nil (sD _ _ upd_same)
      · rw [decide_eq_false hm]
        refine if_f ?_
        refine ⟨_, rfl, (1 : Int), rfl, bl, _, rfl, SqL.of hb4, fun l5 n5 => ?_⟩
        rw [show cutV (txts bs) (some 1) none = (txts bs).drop 1 from cutV_fromG _ 1]
        have bs4 : bs.length ≤ 4 := by
          rcases dw with ⟨_, h⟩ | ⟨b, rfl, _⟩
          · exact h
          · rw [List.length_singleton]
            decide
        have s5 := same_new (o := .lst ((txts bs).drop 1)) n5
        obtain ⟨H5, e5⟩ : ∃ H5, upd H4 l5 (.lst ((txts bs).drop 1)) = H5 := ⟨_, rfl⟩
        have h5 : H5 l5 = some (.lst ((txts bs).drop 1)) := by rw [← e5]; exact upd_same
        rw [e5] at s5 ⊢
        have dl : ((txts bs).drop 1).length = bs.length - 1 := by rw [List.length_drop, txts_len]
        refine ⟨l5, rfl, ⟨_, SqL.of h5⟩, fun B5 nB5 => lc_list (K := K) (a := l5) (xs := (txts bs).drop 1) (fun j Hd => Same H5 Hd ∧ Hd B5 = some (.lst (List.replicate j (V.str (Str.ofString "+"))))) ⟨same_new nB5, upd_same⟩ (fun j Hd _ h => SqL.of (h.1 _ _ h5)) ?_ ?_⟩
        · rintro j x Hd hj ⟨sc, hD⟩
          have jl := (List.getElem?_eq_some_iff.mp hj).1
          rw [dl] at jl
          refine ⟨rfl, yes_b (if_t ?_)⟩
          refine ⟨_, hD, ?_, same_put nB5 sc, ?_⟩
          · rw [List.length_replicate]
            exact small1000 (by omega)
          · rw [upd_same, List.replicate_succ']
        · rintro H6 ⟨s6, hD6⟩
          rw [dl] at hD6
          refine ⟨(by show 1 ≤ sizeLine; decide), fun z7 nz7 => ?_⟩
          have s7 := same_new (o := .lst [.str (Str.ofString ".")]) nz7
          refine ⟨B5, z7, _, _, rfl, rfl, s7 _ _ hD6, upd_same, ?_, fun l8 n8 => ?_⟩
          · rw [List.length_replicate, List.length_singleton]
            exact Nat.le_of_lt (small1000 (by omega))
          have s8 := same_new (o := .lst (List.replicate (bs.length - 1) (V.str (Str.ofString "+")) ++ [V.str (Str.ofString ".")])) n8
          obtain ⟨H8, e8⟩ : ∃ H8, upd (upd H6 z7 (.lst [V.str (Str.ofString ".")])) l8 (.lst (List.replicate (bs.length - 1) (V.str (Str.ofString "+")) ++ [V.str (Str.ofString ".")])) = H8 := ⟨_, rfl⟩
          have hs8 : H8 l8 = some (.lst (sgV bs.length)) := by
            rw [← e8]
            exact upd_same
          have c8 := (c4.trans s5).trans ((s6.trans s7).trans s8)
          rw [e8] at c8 ⊢
          have hb8 := c8 _ _ hb
          refine ⟨_, rfl, _, rfl, l8, bl, _, _, rfl, SqL.of hs8, SqL.of hb8, fun D nD => lc_it (walk_enumZ (K := K) (a := l8) (b := bl) (c := 0) (xs := sgV bs.length) (ys := txts bs) (n := bs.length) (by rw [txts_len, sgV_len]; omega)) (fun i Hd => ∃ ys, Same H8 Hd ∧ Hd D = some (.lst ys) ∧ RwL Hd ys ((brows (lastN rs) bs).take i)) ⟨[], same_new nD, upd_same, RwL.nil⟩ (fun j Hd _ h => by obtain ⟨_, sc, _⟩ := h; exact ⟨SqL.of (sc _ _ hs8), SqL.of (sc _ _ hb8)⟩) ?_ ?_⟩
          · rintro j x Hd Hd' hj ⟨ys, sc, hD, ry⟩ ⟨U, W, x0, y0, rfl, nU, nW, UW, rfl, f1, f2⟩
            obtain ⟨b, hbj⟩ : ∃ b, bs[j]? = some b := ⟨_, List.getElem?_eq_getElem hj⟩
            have ey : y0 = .str (S b) := by
              unfold txts at f2
              rw [List.getElem?_map, hbj] at f2
              exact (Option.some.inj f2).symm
            have ex : x0 = .str (S [if j + 1 = bs.length then 46 else 43]) := by
              rw [sgV_at hj] at f1
              exact (Option.some.inj f1).symm
            subst ex
            subst ey
            have sU := same_new (o := .tup [.str (S [if j + 1 = bs.length then 46 else 43]), .str (S b)]) nU
            have nW' : upd Hd U (.tup [.str (S [if j + 1 = bs.length then 46 else 43]), .str (S b)]) W = none := by
              rw [upd_ne UW.symm]
              exact nW
            have sW := same_new (o := .tup [.int (0 + (j : Int)), .ref U]) nW'
            refine ⟨W, _, rfl, SqT.of upd_same, rfl, _, _, rfl, _, _, rfl, U, _, rfl, SqT.of (sW _ _ upd_same), rfl, _, _, rfl, _, _, rfl, rfl, rfl, rfl, yes_b (if_t ?_)⟩
            refine ⟨_, rfl, _, _, rfl, rfl, _, rfl, _, _, rfl, rfl, _, rfl, _, rfl, (by show 3 ≤ sizeLine; decide), fun t nt => ?_⟩
            have e0 : ((lastN rs : Nat) : Int) + 1 + (0 + (j : Int)) = ((lastN rs + 1 + j : Nat) : Int) := by omega
            have sT := same_new (o := .tup [.int (((lastN rs : Nat) : Int) + 1 + (0 + (j : Int))), .str (S [if j + 1 = bs.length then 46 else 43]), .str (S b)]) nt
            have ht := (upd_same : upd (upd (upd Hd U (.tup [.str (S [if j + 1 = bs.length then 46 else 43]), .str (S b)])) W (.tup [.int (0 + (j : Int)), .ref U])) t (.tup [.int (((lastN rs : Nat) : Int) + 1 + (0 + (j : Int))), .str (S [if j + 1 = bs.length then 46 else 43]), .str (S b)]) t = _)
            have cT := sU.trans (sW.trans sT)
            have hDT := cT _ _ hD
            have nt2 : ∀ us, upd (upd (upd Hd U (.tup [.str (S [if j + 1 = bs.length then 46 else 43]), .str (S b)])) W (.tup [.int (0 + (j : Int)), .ref U])) t (.tup [.int (((lastN rs : Nat) : Int) + 1 + (0 + (j : Int))), .str (S [if j + 1 = bs.length then 46 else 43]), .str (S b)]) D ≠ some (.tup us) := fun us z => by
              rw [hDT] at z
              cases z
            have tD : t ≠ D := fun z => nt2 _ (by rw [← z]; exact ht)
            refine ⟨ys, hDT, ?_, _, same_put nD (sc.trans cT), upd_same, ?_⟩
            · rw [ry.1, List.length_take]
              exact small1000 (by omega)
            · rw [take_snoc (brows_at hbj)]
              refine RwL.snoc ((ry.same cT).put nt2) ?_
              rw [upd_ne tD, ht, e0]
              rfl
          · rintro Hd ⟨ys, sc, hD, ry⟩
            have tk : (brows (lastN rs) bs).take bs.length = brows (lastN rs) bs := List.take_of_length_le (by rw [brows_len]; exact Nat.le_refl _)
            rw [tk] at ry
            refine q D ys Hd (c8.trans sc) (none_of c8 nD) hD ?_
            unfold deR
            rw [if_neg hm]
            exact ry
end
end Tg

namespace Tg
open PySem PySem.Spec PyProof.Rows L2
open SX (S)
open TL (numL)
/-- what never raises, and what does -/
theorem fn_both {P : Program} {w : World} {K : PySem.W.Frag} {mg : Str → Option Value} {base : Heap} {CX : CXT} {k : Nat} {f : Addr} {fd : FuncData} {ps : List Str} {sp sp' : Sp} (F : FnOk P w K mg base CX0 k f fd ps sp) (F' : FnOk P w K mg base CX k f fd ps sp') :
    FnOk P w K mg base CX k f fd ps (fun vs H Q E => sp vs H Q E ∨ sp' vs H Q E) := by
  refine ⟨fun vs H Q E h => h.elim (F.len vs H Q E) (F'.len vs H Q E), fun A outer s H args us vs Q E hr he hb hv h => ?_⟩
  rcases h with h | h
  · refine codeAny_mono (F.run A outer s H args us vs Q E hr he hb hv h) fun r s' z => ?_
    match r, z with
    | .ok (.ret u), z => exact z
    | .error e, z => exact z.elim
  · exact F'.run A outer s H args us vs Q E hr he hb hv h
/-- line_of, a body that is none among them -/
structure CLineN (P : Program) (w : World) (K : PySem.W.Frag) (mg : Str → Option Value) (base : Heap) (CB : Addr) (k : Nat) (f : Addr) (fd : FuncData) (g1 g3 : List Value → List Value → List Value) : Prop where
  F : FnOk P w K mg base (L2.CX P w) k f fd ["number", "body", "sign"] (fun vs H Q E => spLine vs H Q E ∨ spLineN CB vs H Q E)
  m : mg "line_of" = some (.ref f)
  kpt : PySem.W.keepIn K (.ref f) = true
  b1 : KBn K fd ["number", "body", "sign"] 2 [] g1 (fun vs _ => vs ++ [.str "."])
  b3 : KBn K fd ["number", "body", "sign"] 2 ["sign"] g3 (fun vs zs => vs ++ zs)
section
variable {P : Program} {w : World} {K : PySem.W.Frag} {mg : Str → Option Value} {base : Heap} {f : Addr} {fd : FuncData} {k : Nat} {C CB : Addr} {fl : Addr} {fdl : FuncData} {g1 g3 : List Value → List Value → List Value}
/-- write and mark of a body that is none -/
def spOneN (C CB : Addr) : Sp := fun vs H _ E => ∃ (a l : Addr) (xs : List V) (n g : Nat) (b : List Nat), vs = [.ref a, .str (S b)] ∧ LgO C H a l xs n g ∧ b.length ≤ 400 ∧ bok b = false ∧ ∀ (d : Addr) (H' : Hp), Same H H' → H d = none → H' d = some (.xd [("body", .str (S b))]) → E (.ref CB) (some d) H'
theorem ok_wrN (F : Fun K "write" "Log.write" sWr f fd) (T : TLog K C) (L : CLineN P w K mg base CB k fl fdl g1 g3) : FnOk P w K mg base (L2.CX P w) (k + 1) f fd ["self", "body"] (spOneN C CB) := by
  refine F.okX scWr (fun vs H Q E h => ?_) (fun cdv A outer s H vs Q E hr h => ?_)
  · obtain ⟨a, l, xs, n, g, b, rfl, _⟩ := h
    rfl
  · obtain ⟨a, l, xs, n, g, b, rfl, lo, b4, bx, q⟩ := h
    refine ⟨_, pss_cons (ps_set (i := 2) scWr.nd rfl (.inl rfl) (pe_callN (E := E) L.F (hr.mono (by omega)) (by rfl) L.m L.kpt L.b1 (passes_call (takes_of rfl rfl rfl rfl) (fun _ _ _ _ z => z)) (pa_cons (pe_op op_add (pe_fld (pv 0) rfl) pe_int) (pa_cons (pv 1) pa_nil)) pk_nil)) pss_dead, ?_⟩
    obtain ⟨⟨dx, ha⟩, hl⟩ := lo
    exact ⟨_, rfl, a, C, dx, _, .int n, rfl, ha, T.cl, T.nn, rfl, _, _, rfl, rfl, _, rfl, rfl, rfl, .inr ⟨_, b, _, rfl, b4, bx, q⟩⟩
theorem ok_mkN {t2 : Tok} (F : Fun K "mark" "Log.mark" sMk f fd) (T : TLog K C) (L : CLineN P w K mg base CB k fl fdl g1 g3) (g_MARKS : mg "MARKS" = some (.str "=" t2)) : FnOk P w K mg base (L2.CX P w) (k + 1) f fd ["self", "body"] (spOneN C CB) := by
  refine F.okX scMk (fun vs H Q E h => ?_) (fun cdv A outer s H vs Q E hr h => ?_)
  · obtain ⟨a, l, xs, n, g, b, rfl, _⟩ := h
    rfl
  · obtain ⟨a, l, xs, n, g, b, rfl, lo, b4, bx, q⟩ := h
    refine ⟨_, pss_cons (ps_set (i := 2) scMk.nd rfl (.inl rfl) (pe_callN (E := E) L.F (hr.mono (by omega)) (by rfl) L.m L.kpt L.b3 (passes_call (takes_of rfl rfl rfl rfl) (fun _ _ _ _ z => z)) (pa_cons (pe_fld (pv 0) rfl) (pa_cons (pv 1) pa_nil)) (pk_cons (pe_glob (v := .str "=") rfl g_MARKS ⟨_, rfl⟩) pk_nil))) pss_dead, ?_⟩
    obtain ⟨⟨dx, ha⟩, hl⟩ := lo
    exact ⟨_, rfl, a, C, dx, _, .int n, rfl, ha, T.cl, T.nn, rfl, _, rfl, rfl, rfl, .inr ⟨_, b, _, rfl, b4, bx, q⟩⟩
/-- a bundle with a body that is none, the first one at m -/
def spBuN (C CB : Addr) : Sp := fun vs H _ E => ∃ (a l p : Addr) (xs : List V) (n g : Nat) (bs : List (List Nat)) (m : Nat) (x : List Nat), vs = [.ref a, .ref p] ∧ LgO C H a l xs n g ∧ H p = some (.lst (txts bs)) ∧ bs.length ≤ 100 ∧ n + bs.length < 10 ^ 12 ∧ bs[m]? = some x ∧ bok x = false ∧ x.length ≤ 400 ∧ (∀ j b, j < m → bs[j]? = some b → b.length ≤ 300 ∧ bok b = true) ∧
  ∀ (d : Addr) (H' : Hp), Same H H' → H d = none → H' d = some (.xd [("body", .str (S x))]) → E (.ref CB) (some d) H'
theorem ok_buN {t1 t2 : Tok} (F : Fun K "bundle" "Log.bundle" sBu f fd) (T : TLog K C) (L : CLineN P w K mg base CB k fl fdl g1 g3) (g_GOES : mg "GOES" = some (.str "+" t1)) (g_ENDS : mg "ENDS" = some (.str "." t2)) (m_len : mg "len" = none) (m_list : mg "list" = none) (m_zip : mg "zip" = none) (m_enumerate : mg "enumerate" = none) : FnOk P w K mg base (L2.CX P w) (k + 1) f fd ["self", "bodies"] (spBuN C CB) := by
  refine F.okX scBu (fun vs H Q E h => ?_) (fun cdv A outer s H vs Q E hr h => ?_)
  · obtain ⟨a, l, p, xs, n, g, bs, m, x, rfl, _⟩ := h
    rfl
  · obtain ⟨a, l, p, xs, n, g, bs, m, x, rfl, lo, hp, b1, n12, hx, bx, x4, each, q⟩ := h
    have mlt : m < bs.length := (List.getElem?_eq_some_iff.mp hx).1
    refine ⟨_, pss_cons (ps_set (i := 2) scBu.nd rfl (.inl rfl) (pe_callTy call_list_of (by rfl) m_list (by decide +kernel) (pa_cons (pv 1) pa_nil)))
      (pss_cons (ps_set (i := 3) scBu.nd rfl (.inl rfl) (pe_op op_cat (pe_op op_rep (pe_lst (pa_cons (pe_glob (v := .str "+") rfl g_GOES ⟨_, rfl⟩) pa_nil)) (pe_op op_sub (pe_callB call_len_seq (by rfl) m_len (by decide +kernel) (pa_cons (pv 2) pa_nil)) pe_int)) (pe_lst (pa_cons (pe_glob (v := .str ".") rfl g_ENDS ⟨_, rfl⟩) pa_nil))))
      (pss_cons (ps_setLcN rfl rfl (takes_of rfl rfl rfl rfl) (fun _ _ _ _ z => z) (own := [("number", 5), ("body", 6), ("sign", 7)]) (g := gTup K 2 (gCons (gName 5) (gCons (gTup K 2 (gCons (gName 6) (gCons (gName 7) gNil))) gNil))) (tt := tYes) rfl scBu.nd (sw_true rfl rfl rfl (by decide +kernel)) (pi_enumZK (by rfl) m_enumerate (by rfl) m_zip (pa_cons (pv 2) (pa_cons (pv 3) pa_nil)) (pe_op op_add (pe_fld (pv 0) rfl) pe_int)) (blkOk_by (own := [("number", 5), ("body", 6), ("sign", 7)]) (N := NBu) (sc := defScope sBu) (by decide +kernel)) (fun _ _ _ _ _ => (pg_tup rfl (pgs_cons (pg_name (i := 5) scBu.nd rfl (.inl rfl)) (pgs_cons (pg_tup rfl (pgs_cons (pg_name (i := 6) scBu.nd rfl (.inl rfl)) (pgs_cons (pg_name (i := 7) scBu.nd rfl (.inl rfl)) pgs_nil))) pgs_nil)))) (fun _ _ _ _ _ => pts_nil) (fun _ _ _ _ _ => (pe_callN (E := E) L.F (hr.mono (by omega)) (by rfl) L.m L.kpt L.b3 blk_lets (pa_cons (pv 5) (pa_cons (pv 6) pa_nil)) (pk_cons (pv 7) pk_nil))))
      pss_dead)), ?_⟩
    have ne := lo.ne
    obtain ⟨⟨dx, ha⟩, hl⟩ := lo
    refine ⟨_, rfl, p, _, rfl, .inl (SqL.of hp), fun p1 np1 => ?_⟩
    have s1 := same_new (o := .lst (txts bs)) np1
    refine ⟨(by show 1 ≤ sizeLine; decide), fun d1 nd1 => ?_⟩
    have s2 := s1.trans (same_new (o := .lst [V.str (Str.ofString "+")]) nd1)
    have h1 : upd (upd H p1 (.lst (txts bs))) d1 (.lst [V.str (Str.ofString "+")]) p1 = some (.lst (txts bs)) := same_new nd1 _ _ upd_same
    refine ⟨_, rfl, p1, _, rfl, .inl (SqL.of h1), _, _, rfl, rfl, ?_⟩
    have bl : (txts bs).length = bs.length := txts_len bs
    refine ⟨d1, _, _, rfl, rfl, upd_same, by rw [bl]; omega, by rw [bl]; omega, ?_, fun d2 nd2 => ?_⟩
    · rw [List.length_singleton, bl]
      exact Nat.le_of_lt (small1000 (by omega))
    rw [flat_one, bl, show ((bs.length : Int) - 1).toNat = bs.length - 1 by omega]
    have s3 := s2.trans (same_new (o := .lst (List.replicate (bs.length - 1) (V.str (Str.ofString "+")))) nd2)
    have h3 := same_new (o := .lst (List.replicate (bs.length - 1) (V.str (Str.ofString "+")))) nd2 _ _ h1
    have g3 : upd (upd (upd H p1 (.lst (txts bs))) d1 (.lst [V.str (Str.ofString "+")])) d2 (.lst (List.replicate (bs.length - 1) (V.str (Str.ofString "+")))) d2 = some (.lst (List.replicate (bs.length - 1) (V.str (Str.ofString "+")))) := upd_same
    obtain ⟨H3, e3⟩ : ∃ H3, upd (upd (upd H p1 (.lst (txts bs))) d1 (.lst [V.str (Str.ofString "+")])) d2 (.lst (List.replicate (bs.length - 1) (V.str (Str.ofString "+")))) = H3 := ⟨_, rfl⟩
    rw [e3] at s3 h3 g3 ⊢
    refine ⟨(by show 1 ≤ sizeLine; decide), fun d4 nd4 => ?_⟩
    have s4 := same_new (o := .lst [V.str (Str.ofString ".")]) nd4
    refine ⟨d2, d4, _, _, rfl, rfl, s4 _ _ g3, upd_same, ?_, fun d5 nd5 => ?_⟩
    · rw [List.length_replicate, List.length_singleton]
      exact Nat.le_of_lt (small1000 (by omega))
    have s5 := same_new (o := .lst (List.replicate (bs.length - 1) (V.str (Str.ofString "+")) ++ [V.str (Str.ofString ".")])) nd5
    have c5 : Same H _ := (s3.trans s4).trans s5
    obtain ⟨H5, e5⟩ : ∃ H5, upd (upd H3 d4 (.lst [V.str (Str.ofString ".")])) d5 (.lst (List.replicate (bs.length - 1) (V.str (Str.ofString "+")) ++ [V.str (Str.ofString ".")])) = H5 := ⟨_, rfl⟩
    have hs5 : H5 d5 = some (.lst (sgV bs.length)) := by
      rw [← e5]
      exact upd_same
    have hb5 : H5 p1 = some (.lst (txts bs)) := by
      rw [← e5]
      exact s5 _ _ (s4 _ _ h3)
    rw [e5] at c5 ⊢
    have ha5 := c5 _ _ ha
    have hl5 := c5 _ _ hl
    refine ⟨_, rfl, _, rfl, p1, d5, _, _, rfl, SqL.of hb5, SqL.of hs5, _, rfl, a, C, dx, _, .int n, rfl, ha5, T.cl, T.nn, rfl, _, _, rfl, rfl, (n : Int) + 1, rfl, by omega, by omega, fun B nB => lc_it (walk_enumZ (K := K) (a := p1) (b := d5) (c := (n : Int) + 1) (xs := txts bs) (ys := sgV bs.length) (n := bs.length) (by rw [bl, sgV_len]; omega)) (fun i Hd => i ≤ m ∧ Same H5 Hd ∧ Hd B = some (.lst (txts (((brows n bs).take i).map rln)))) ⟨Nat.zero_le _, same_new nB, upd_same⟩ (fun j Hd _ h => ⟨SqL.of (h.2.1 _ _ hb5), SqL.of (h.2.1 _ _ hs5)⟩) ?_ ?_⟩
    · rintro j x Hd Hd' hj ⟨jm, sc, hB⟩ ⟨U, W, x0, y0, rfl, nU, nW, UW, rfl, f1, f2⟩
      have e0 : ((n : Int) + 1) + (j : Int) = ((n + 1 + j : Nat) : Int) := by omega
      rw [e0]
      obtain ⟨b, hb⟩ : ∃ b, bs[j]? = some b := ⟨_, List.getElem?_eq_getElem hj⟩
      have ex : x0 = .str (S b) := by
        unfold txts at f1
        rw [List.getElem?_map, hb] at f1
        exact (Option.some.inj f1).symm
      have ey : y0 = .str (S [if j + 1 = bs.length then 46 else 43]) := by
        rw [sgV_at hj] at f2
        exact (Option.some.inj f2).symm
      subst ex
      subst ey
      have sU := same_new (o := .tup [.str (S b), .str (S [if j + 1 = bs.length then 46 else 43])]) nU
      have nW' : upd Hd U (.tup [.str (S b), .str (S [if j + 1 = bs.length then 46 else 43])]) W = none := by
        rw [upd_ne UW.symm]
        exact nW
      have sW := same_new (o := .tup [.int ((n + 1 + j : Nat) : Int), .ref U]) nW'
      refine ⟨W, _, rfl, SqT.of upd_same, rfl, _, _, rfl, _, _, rfl, U, _, rfl, SqT.of (sW _ _ upd_same), rfl, _, _, rfl, _, _, rfl, rfl, rfl, rfl, yes_b (if_t ?_)⟩
      by_cases lt : j < m
      · obtain ⟨b3, bo⟩ := each j b lt hb
        refine ⟨_, rfl, _, rfl, _, rfl, rfl, rfl, .inl ⟨n + 1 + j, (if j + 1 = bs.length then 46 else 43), b, rfl, by omega, b3, bo, fun H2 s2 => ⟨_, s2 _ _ (sW _ _ (sU _ _ hB)), ?_, lt, same_put nB ((sc.trans (sU.trans sW)).trans s2), ?_⟩⟩⟩
        · rw [txts_len, List.length_map, List.length_take]
          exact small1000 (by omega)
        · rw [upd_same, take_snoc (brows_at hb), List.map_append, ← txts_cat]
          rfl
      · obtain rfl : j = m := by omega
        rw [hx] at hb
        obtain rfl := Option.some.inj hb
        exact ⟨_, rfl, _, rfl, _, rfl, rfl, rfl, .inr ⟨_, x, _, rfl, x4, bx, fun d H' s' nd hd => q d H' (c5.trans ((sc.trans (sU.trans sW)).trans s')) (none_of (c5.trans (sc.trans (sU.trans sW))) nd) hd⟩⟩
    · rintro Hd ⟨jm, _⟩
      omega
end
end Tg

namespace Tg
open PySem PySem.Spec PyProof.Rows L2
open SX (S)
open TL (numL)
abbrev sTs : Stmt := topS 32
abbrev sAs : Stmt := topS 33
abbrev NTs : List Str := ["_law_rows_here", "_law_number", "_law_sign_here", "_law_body_here"]
abbrev NAs : List Str := ["_law_log", "_law_word", "_law_bodies"]
theorem scTs : FnScope NTs ["_law_rows_here"] (defScope sTs) := ⟨rfl, rfl, rfl, by decide +kernel, rfl, by decide +kernel, by decide +kernel⟩
theorem scAs : FnScope NAs NAs (defScope sAs) := ⟨rfl, rfl, rfl, by decide +kernel, rfl, by decide +kernel, by decide +kernel⟩
/-- what is not there behind a deed of a log, was not there ahead -/
theorem none_kl {C : Addr} {H H1 : Hp} {a l b : Addr} {xs ys : List V} {n g n' g' : Nat} (k : Kl a l H H1) (lo : LgO C H a l xs n g) (lo1 : LgO C H1 a l ys n' g') (h : H1 b = none) : H b = none := by
  cases hx : H b with
  | none => rfl
  | some o =>
    obtain ⟨⟨d1, e1⟩, e2⟩ := lo1
    by_cases ba : b = a
    · rw [ba, e1] at h
      cases h
    · by_cases bl : b = l
      · rw [bl, e2] at h
        cases h
      · rw [k b o ba bl hx] at h
        cases h
section
variable (P : Program) (w : World) (K : PySem.W.Frag) (mg : Str → Option Value) (base : Heap)
/-- a method that may raise -/
def CalMR (k : Nat) (C : Addr) (m : Str) (ps : List Str) (sp : Sp) : Prop := ∃ f fd, FnOk P w K mg base (L2.CX P w) k f fd ps sp ∧ Meth K C m f ∧ Binds K fd ps []
end
section
variable {X : Cx} {E : XK} {k : Nat} {C : Addr} {m : Str} {ps : List Str} {sp : Sp} {o e : Expr} {es : List Expr} {to : TE} {t : TA} {pos apos : Pos}
theorem pe_calMR {pl : Sem Bool} (he : PE X o to) (cl : Cls X.K C) (c : CalMR X.prog X.w X.K X.mg X.base k C m ps sp) (hr : Room k X.A) (lets : Passes (L2.CX X.prog X.w) X E) (ha : PA X (e :: es) t)
    (star : starEach (e :: es) X.env = (false, eval e X.env) :: starEach es X.env := by rfl) (plain : (backTo pos (starEach es X.env)).any (·.1) = false := by rfl) (ht : eval (.Call (.Attribute o m apos) (e :: es) [] pos) X.env = (do let ov ← eval o X.env; standAt apos.atName; let (f, first) ← holding [ov] (getMethod ov m pl); callWith pos f first (backTo pos (starEach (e :: es) X.env)) (backToKw pos (keywordEach [] X.env))) := by rfl) :
    PE X (.Call (.Attribute o m apos) (e :: es) [] pos) (tMeth C m sp [] E to t) := by
  obtain ⟨f, fd, F, hm, hb⟩ := c
  exact pe_meth (pl := pl) he cl hm F hr hb .nil lets ha star plain ht
end
section
variable {P : Program} {w : World} {K : PySem.W.Frag} {mg : Str → Option Value} {base : Heap} {f : Addr} {fd : FuncData} {k : Nat} {C CB : Addr}
/-- the rows' lines -/
def spTs : Sp := fun vs H Q _ => ∃ (l : Addr) (xs : List V) (rs : List Rec3), vs = [.ref l] ∧ H l = some (.lst xs) ∧ RwL H xs rs ∧ rs.length ≤ 90 ∧ (∀ r, r ∈ rs → ROk r) ∧ ∀ (D : Addr) (H' : Hp), Same H H' → H D = none → H' D = some (.lst (txts (rs.map rln))) → Q (.ref D) H'
theorem ok_ts (F : Fun K "_law_texts" "_law_texts" sTs f fd) (L_line : Cal P w K mg base k "_law_line" ["_law_number", "_law_sign_here", "_law_body_here"] spLL) : FnOk P w K mg base CX0 (k + 1) f fd ["_law_rows_here"] spTs := by
  refine F.ok scTs (fun vs H Q E h => ?_) (fun cdv A outer s H vs Q E hr h => ?_)
  · obtain ⟨l, xs, rs, rfl, _⟩ := h
    rfl
  · obtain ⟨l, xs, rs, rfl, hl, rl, r90, ok, q⟩ := h
    refine ⟨_, pss_one (ps_ret (pe_lc (own := [("_law_number", 1), ("_law_sign_here", 2), ("_law_body_here", 3)]) (g := gTup K 3 _) (tt := tYes) rfl scTs.nd (pi_list (pv 0)) (blkOk_by (own := [("_law_number", 1), ("_law_sign_here", 2), ("_law_body_here", 3)]) (N := NTs) (sc := defScope sTs) (by decide +kernel)) (fun _ _ _ _ _ => (pg_tup rfl (pgs_cons (pg_name (i := 1) scTs.nd rfl (.inl rfl)) (pgs_cons (pg_name (i := 2) scTs.nd rfl (.inl rfl)) (pgs_cons (pg_name (i := 3) scTs.nd rfl (.inl rfl)) pgs_nil))))) (fun _ _ _ _ _ => pts_nil) (fun _ _ _ _ _ => (pe_cal L_line (hr.mono (by omega)) (by rfl) (pa_cons (pv 1) (pa_cons (pv 2) (pa_cons (pv 3) pa_nil))))))), ?_⟩
    refine ⟨_, rfl, l, rfl, ⟨_, SqL.of hl⟩, fun B nB => lc_list (K := K) (a := l) (xs := xs) (fun i Hd => Same H Hd ∧ Hd B = some (.lst (txts ((rs.take i).map rln)))) ⟨same_new nB, upd_same⟩ (fun j Hd _ h => SqL.of (h.1 _ _ hl)) ?_ ?_⟩
    · rintro j x Hd hj ⟨sc, hB⟩
      have jl : j < xs.length := (List.getElem?_eq_some_iff.mp hj).1
      obtain ⟨r, hr3⟩ : ∃ r, rs[j]? = some r := ⟨_, List.getElem?_eq_getElem (by rw [← rl.1]; exact jl)⟩
      obtain ⟨t, e2, ht⟩ := rl.2 j r hr3
      rw [hj] at e2
      cases e2
      have rok := ok r (List.mem_of_getElem? hr3)
      have r24 := rok.2.2.2
      refine ⟨t, _, rfl, SqT.of (sc _ _ ht), rfl, _, _, rfl, _, _, rfl, _, _, rfl, rfl, rfl, yes_b (if_t ?_)⟩
      refine ⟨_, rfl, _, rfl, _, rfl, r.1, r.2.1, r.2.2, rfl, rok.1, by omega, fun H2 s2 => ⟨_, s2 _ _ hB, ?_, same_put nB (sc.trans s2), ?_⟩⟩
      · rw [txts_len, List.length_map, List.length_take]
        exact small1000 (by omega)
      · rw [upd_same, take_snoc hr3, List.map_append, ← txts_cat]
        rfl
    · rintro H1 ⟨s1, hB⟩
      rw [rl.1, List.take_length] at hB
      exact q B H1 s1 nB hB
/-- a deed done, and what it tells -/
def spAs (C : Addr) : Sp := fun vs H Q _ => ∃ (a l bl : Addr) (zs : List (List Nat)) (n g : Nat) (wd : Str) (bs : List (List Nat)), vs = [.ref a, .str wd, .ref bl] ∧ LgO C H a l (txts zs) n g ∧ H bl = some (.lst (txts bs)) ∧ DeW wd bs ∧ zs.length ≤ 500 ∧ n ≤ 1000 ∧ (∀ b, b ∈ bs → b.length ≤ 24 ∧ bok b = true) ∧
  ∀ (D : Addr) (H' : Hp), Kl a l H H' → H D = none → H' D = some (.lst (txts ((deR wd n bs).map rln))) → LgO C H' a l (txts (zs ++ (deR wd n bs).map rln)) (if wd = "mark" then n else n + bs.length) (if wd = "mark" then zs.length else g) → Q (.ref D) H'
theorem ok_as (F : Fun K "_law_asked" "_law_asked" sAs f fd) (T : TLog K C) (M_write : CalM P w K mg base k C "write" ["self", "body"] (spWr C)) (M_mark : CalM P w K mg base k C "mark" ["self", "body"] (spMk C)) (M_bundle : CalM P w K mg base k C "bundle" ["self", "bodies"] (spBu C)) : FnOk P w K mg base CX0 (k + 1) f fd NAs (spAs C) := by
  refine F.ok scAs (fun vs H Q E h => ?_) (fun cdv A outer s H vs Q E hr h => ?_)
  · obtain ⟨a, l, bl, zs, n, g, wd, bs, rfl, _⟩ := h
    rfl
  · obtain ⟨a, l, bl, zs, n, g, wd, bs, rfl, lo, hb, dw, z5, n1, bo, q⟩ := h
    refine ⟨_, pss_cons (ps_if (pt_cmpR op_eq (pv 1) pe_str (nomark _))
        (pss_one (ps_ret (pe_lst (pa_cons (pe_calM (pv 0) T.cl M_write (hr.mono (by omega)) (pa_cons (pe_ix ix_list (pv 2) pe_int (fun _ _ => rfl)) pa_nil)) pa_nil))))
        pss_nil)
      (pss_cons (ps_if (pt_cmpR op_eq (pv 1) pe_str (nomark _))
        (pss_one (ps_ret (pe_lst (pa_cons (pe_calM (pv 0) T.cl M_mark (hr.mono (by omega)) (pa_cons (pe_ix ix_list (pv 2) pe_int (fun _ _ => rfl)) pa_nil)) pa_nil))))
        pss_nil)
      (pss_one (ps_ret (pe_calM (pv 0) T.cl M_bundle (hr.mono (by omega)) (pa_cons (pv 2) pa_nil))))), ?_⟩
    obtain ⟨⟨dx, ha⟩, hl⟩ := id lo
    have xl : (txts zs).length = zs.length := txts_len zs
    rcases dw with ⟨rfl, b4⟩ | ⟨b, rfl, rfl | rfl⟩
    · have e1 : deR "bundle" n bs = brows n bs := if_neg (by decide)
      rw [e1, if_neg (by decide), if_neg (by decide)] at q
      refine ⟨_, rfl, rfl, false, congrArg V.bl (decide_eq_false (by decide)), if_f ⟨_, rfl, rfl, false, congrArg V.bl (decide_eq_false (by decide)), if_f ?_⟩⟩
      refine ⟨_, rfl, a, dx, _, rfl, ha, rfl, _, rfl, a, l, bl, _, n, g, bs, rfl, lo, hb, by omega, by omega, by omega, fun c hc => ⟨Nat.le_trans (bo c hc).1 (by decide), (bo c hc).2⟩, fun D H1 k1 nD hD lo1 => ?_⟩
      rw [txts_cat] at lo1
      exact q D H1 k1 nD hD lo1
    · have b1 := bo b (List.mem_singleton.mpr rfl)
      have e1 : deR "mark" n [b] = [(n, 61, b)] := if_pos rfl
      rw [e1, if_pos rfl, if_pos rfl] at q
      refine ⟨_, rfl, rfl, false, congrArg V.bl (decide_eq_false (by decide)), if_f ⟨_, rfl, rfl, true, congrArg V.bl (decide_eq_true rfl), if_t ?_⟩⟩
      refine ⟨_, rfl, a, dx, _, rfl, ha, rfl, _, rfl, bl, _, 0, _, rfl, rfl, SqL.of hb, rfl, a, l, _, n, g, b, rfl, lo, by omega, by omega, Nat.le_trans b1.1 (by decide), b1.2, fun H1 k1 lo1 => ⟨(by show 1 ≤ sizeLine; decide), fun D nD => ?_⟩⟩
      rw [xl] at lo1
      have sD := same_new (o := .lst [V.str (S (line n 61 b))]) nD
      exact q D _ (k1.trans (Kl.of sD)) (none_kl k1 lo lo1 nD) upd_same (by rw [← txts_cat]; exact lo1.same sD)
    · have b1 := bo b (List.mem_singleton.mpr rfl)
      have e1 : deR "write" n [b] = [(n + 1, 46, b)] := if_neg (by decide)
      rw [e1, if_neg (by decide), if_neg (by decide)] at q
      refine ⟨_, rfl, rfl, true, congrArg V.bl (decide_eq_true rfl), if_t ?_⟩
      refine ⟨_, rfl, a, dx, _, rfl, ha, rfl, _, rfl, bl, _, 0, _, rfl, rfl, SqL.of hb, rfl, a, l, _, n, g, b, rfl, lo, by omega, by omega, Nat.le_trans b1.1 (by decide), b1.2, fun H1 k1 lo1 => ⟨(by show 1 ≤ sizeLine; decide), fun D nD => ?_⟩⟩
      have sD := same_new (o := .lst [V.str (S (line (n + 1) 46 b))]) nD
      exact q D _ (k1.trans (Kl.of sD)) (none_kl k1 lo lo1 nD) upd_same (by rw [← txts_cat]; exact lo1.same sD)
/-- a deed refused -/
def spAsN (C CB : Addr) : Sp := fun vs H _ E => ∃ (a l bl : Addr) (zs : List (List Nat)) (n g : Nat) (wd : Str) (bs : List (List Nat)) (m : Nat) (x : List Nat), vs = [.ref a, .str wd, .ref bl] ∧ LgO C H a l (txts zs) n g ∧ H bl = some (.lst (txts bs)) ∧ DeW wd bs ∧ n ≤ 1000 ∧ bs[m]? = some x ∧ bok x = false ∧ x.length ≤ 400 ∧ (∀ j b, j < m → bs[j]? = some b → b.length ≤ 300 ∧ bok b = true) ∧
  ∀ (d : Addr) (H' : Hp), Same H H' → H d = none → H' d = some (.xd [("body", .str (S x))]) → E (.ref CB) (some d) H'
theorem ok_asN (F : Fun K "_law_asked" "_law_asked" sAs f fd) (T : TLog K C) (M_write : CalMR P w K mg base k C "write" ["self", "body"] (spOneN C CB)) (M_mark : CalMR P w K mg base k C "mark" ["self", "body"] (spOneN C CB)) (M_bundle : CalMR P w K mg base k C "bundle" ["self", "bodies"] (spBuN C CB)) : FnOk P w K mg base (L2.CX P w) (k + 1) f fd NAs (spAsN C CB) := by
  refine F.okX scAs (fun vs H Q E h => ?_) (fun cdv A outer s H vs Q E hr h => ?_)
  · obtain ⟨a, l, bl, zs, n, g, wd, bs, m, x, rfl, _⟩ := h
    rfl
  · obtain ⟨a, l, bl, zs, n, g, wd, bs, m, x, rfl, lo, hb, dw, n1, hx, bx, x4, bo, q⟩ := h
    have hu := hr.units
    refine ⟨_, pss_cons (ps_if (pt_cmpR op_eq (pv 1) pe_str (nomark _))
        (pss_one (ps_ret (pe_lst (pa_cons (pe_calMR (E := E) (lets := passes_call (takes_of rfl rfl rfl rfl) (fun _ _ _ _ z => z)) (pv 0) T.cl M_write (hr.mono (by omega)) (pa_cons (pe_ix ix_list (pv 2) pe_int (fun _ _ => rfl)) pa_nil)) pa_nil))))
        pss_nil)
      (pss_cons (ps_if (pt_cmpR op_eq (pv 1) pe_str (nomark _))
        (pss_one (ps_ret (pe_lst (pa_cons (pe_calMR (E := E) (lets := passes_call (takes_of rfl rfl rfl rfl) (fun _ _ _ _ z => z)) (pv 0) T.cl M_mark (hr.mono (by omega)) (pa_cons (pe_ix ix_list (pv 2) pe_int (fun _ _ => rfl)) pa_nil)) pa_nil))))
        pss_nil)
      (pss_one (ps_ret (pe_calMR (E := E) (lets := passes_call (takes_of rfl rfl rfl rfl) (fun _ _ _ _ z => z)) (pv 0) T.cl M_bundle (hr.mono (by omega)) (pa_cons (pv 2) pa_nil))))), ?_⟩
    obtain ⟨⟨dx, ha⟩, hl⟩ := id lo
    have ml : m < bs.length := (List.getElem?_eq_some_iff.mp hx).1
    rcases dw with ⟨rfl, b4⟩ | ⟨b, rfl, rfl | rfl⟩
    · refine ⟨_, rfl, rfl, false, congrArg V.bl (decide_eq_false (by decide)), if_f ⟨_, rfl, rfl, false, congrArg V.bl (decide_eq_false (by decide)), if_f ?_⟩⟩
      exact ⟨_, rfl, a, dx, _, rfl, ha, rfl, _, rfl, a, l, bl, _, n, g, bs, m, x, rfl, lo, hb, by omega, by omega, hx, bx, x4, bo, q⟩
    · obtain rfl : m = 0 := by
        have z : m < 1 := ml
        omega
      obtain rfl : b = x := Option.some.inj hx
      refine ⟨_, rfl, rfl, false, congrArg V.bl (decide_eq_false (by decide)), if_f ⟨_, rfl, rfl, true, congrArg V.bl (decide_eq_true rfl), if_t ?_⟩⟩
      exact ⟨_, rfl, a, dx, _, rfl, ha, rfl, _, rfl, bl, _, 0, _, rfl, rfl, SqL.of hb, rfl, a, l, _, n, g, b, rfl, lo, x4, bx, q⟩
    · obtain rfl : m = 0 := by
        have z : m < 1 := ml
        omega
      obtain rfl : b = x := Option.some.inj hx
      refine ⟨_, rfl, rfl, true, congrArg V.bl (decide_eq_true rfl), if_t ?_⟩
      exact ⟨_, rfl, a, dx, _, rfl, ha, rfl, _, rfl, bl, _, 0, _, rfl, rfl, SqL.of hb, rfl, a, l, _, n, g, b, rfl, lo, x4, bx, q⟩
end
end Tg

namespace Tg
open PySem PySem.Spec PyProof.Rows L2
open SX (S)
open TL (numL)

/-! marks, and what stands behind the last one -/
open SX (S)
open TL (numL)

def ints_of (ks : List Nat) : List V := ks.map fun (i : Nat) => V.int (i : Int)
/-- the last of what is told of the marks -/
theorem last_mk {g : Nat → V} {z : V} {rs : List Rec3} {m : Nat} {v : V} (h0 : mks rs m = [] → v = z) (h1 : ∀ ks i, mks rs m = ks ++ [i] → v = g i) : atI ([z] ++ (mks rs m).map g) (-1) = some v := by
  rcases mks_last rs m with ⟨e, _⟩ | ⟨ks, i, e, _⟩
  · rw [e, h0 e]
    exact atI_last [] _
  · rw [e, List.map_append, ← List.append_assoc, h1 ks i e]
    exact atI_last _ _
theorem begP_is (rs : List Rec3) (m : Nat) : begP rs m ≤ m ∧ (begP rs m = 0 ∨ isM rs (begP rs m) = true) := by
  unfold begP
  rcases mks_last rs m with ⟨e, _⟩ | ⟨ks, i, e, lt, hi, _⟩
  · rw [e]
    exact ⟨Nat.zero_le _, .inl rfl⟩
  · rw [e, List.getLast?_append, List.getLast?_singleton]
    exact ⟨Nat.le_of_lt lt, .inr hi⟩
theorem last_beg (rs : List Rec3) (m : Nat) : atI ([V.int 0] ++ ints_of (mks rs m)) (-1) = some (.int (begP rs m : Int)) := last_mk (fun e => by
    unfold begP
    rw [e]
    rfl) (fun ks i e => by
    unfold begP
    rw [e, List.getLast?_append, List.getLast?_singleton]
    rfl)
theorem txts_no {H : Hp} {p l : Addr} {n : Nat} {zs : List (List Nat)} (pu : Pu H p n) (hl : H l = some (.lst (txts zs))) : l ≠ p := fun z => by
  obtain ⟨x1, x2, x3, hp, _⟩ := pu
  rw [← z, hl] at hp
  have hx := HO.lst.inj (Option.some.inj hp)
  cases zs with
  | nil => cases hx
  | cons y ys => exact V.noConfusion (List.cons.inj hx).1
theorem rows_no {H : Hp} {p l : Addr} {n : Nat} {xs : List V} {rs : List Rec3} (pu : Pu H p n) (hl : H l = some (.lst xs)) (rl : RwL H xs rs) : l ≠ p := fun z => by
  obtain ⟨x1, x2, x3, hp, _⟩ := pu
  rw [← z, hl] at hp
  have hx := HO.lst.inj (Option.some.inj hp)
  have len := rl.1
  rw [hx] at len
  obtain ⟨r, hr⟩ : ∃ r, rs[0]? = some r := ⟨_, List.getElem?_eq_getElem (by rw [← len]; exact Nat.succ_pos 2)⟩
  obtain ⟨t, e, _⟩ := rl.2 0 r hr
  rw [hx] at e
  cases e
theorem RwL.kp {H H' : Hp} {p : Addr} {n : Nat} {xs : List V} {rs : List Rec3} (h : RwL H xs rs) (pu : Pu H p n) (k : Kp p H H') : RwL H' xs rs := ⟨h.1, fun i r e => by
  obtain ⟨t, e1, ht⟩ := h.2 i r e
  refine ⟨t, e1, k t _ (fun z => ?_) ht⟩
  obtain ⟨x1, x2, x3, hp, _⟩ := pu
  rw [z, hp] at ht
  cases ht⟩
theorem LgO.kp {C : Addr} {H H' : Hp} {p a l : Addr} {m n b : Nat} {zs : List (List Nat)} (h : LgO C H a l (txts zs) n b) (pu : Pu H p m) (k : Kp p H H') : LgO C H' a l (txts zs) n b := by
  have lp := txts_no pu h.2
  obtain ⟨⟨dx, ha⟩, hl⟩ := h
  have ap : a ≠ p := fun z => by
    obtain ⟨x1, x2, x3, hp, _⟩ := pu
    rw [z, hp] at ha
    cases ha
  exact ⟨⟨dx, k _ _ ap ha⟩, k _ _ lp hl⟩
theorem brows_mem {n : Nat} {bs : List (List Nat)} {r : Rec3} (h : r ∈ brows n bs) : ∃ i b, bs[i]? = some b ∧ r = (n + 1 + i, (if i + 1 = bs.length then 46 else 43), b) := by
  obtain ⟨i, hi⟩ := List.mem_iff_getElem?.mp h
  have lt := (List.getElem?_eq_some_iff.mp hi).1
  rw [brows_len] at lt
  obtain ⟨b, hb⟩ : ∃ b, bs[i]? = some b := ⟨_, List.getElem?_eq_getElem lt⟩
  rw [brows_at hb] at hi
  exact ⟨i, b, hb, (Option.some.inj hi).symm⟩
theorem brows_get {n : Nat} {bs : List (List Nat)} {i : Nat} {r : Rec3} (h : (brows n bs)[i]? = some r) : ∃ b, bs[i]? = some b ∧ r = (n + 1 + i, (if i + 1 = bs.length then 46 else 43), b) := by
  have lt := (List.getElem?_eq_some_iff.mp h).1
  rw [brows_len] at lt
  obtain ⟨b, hb⟩ : ∃ b, bs[i]? = some b := ⟨_, List.getElem?_eq_getElem lt⟩
  rw [brows_at hb] at h
  exact ⟨b, hb, (Option.some.inj h).symm⟩
theorem sg_ne (i m : Nat) : (if i + 1 = m then 46 else 43) ≠ 61 := by
  split <;> decide
/-- the number of the last row, behind a deed -/
theorem lastN_brows (rs : List Rec3) (bs : List (List Nat)) : lastN (rs ++ brows (lastN rs) bs) = lastN rs + bs.length := by
  rcases List.eq_nil_or_concat bs with rfl | ⟨cs, c, rfl⟩
  · rw [show brows (lastN rs) [] = [] from rfl, List.append_nil]
    rfl
  · have hl : (brows (lastN rs) (cs.concat c)).getLast? = some (lastN rs + 1 + cs.length, (if cs.length + 1 = (cs.concat c).length then 46 else 43), c) := by
      rw [List.getLast?_eq_getElem?, brows_len, show (cs.concat c).length - 1 = cs.length by rw [List.length_concat]; rfl]
      refine brows_at ?_
      rw [List.concat_eq_append, List.getElem?_append_right (Nat.le_refl _), Nat.sub_self]
      rfl
    have e : lastN (rs ++ brows (lastN rs) (cs.concat c)) = lastN rs + 1 + cs.length := by
      show (match (rs ++ brows (lastN rs) (cs.concat c)).getLast? with | some r => r.1 | none => 0) = _
      rw [List.getLast?_append, hl]
      rfl
    rw [e, List.length_concat]
    omega
end Tg

namespace Tg
open PySem PySem.Spec PyProof.Rows L2
open SX (S)
open TL (numL)
abbrev sBad : Stmt := topS 34
abbrev sRf : Stmt := topS 35
abbrev NRf : List Str := ["_law_log", "_law_word", "_law_bodies", "_law_told", "_law_caught", "e", "_law_body_here"]
theorem scBad : FnScope ["_law_purse_here", "_law_bodies", "_law_found", "_law_at", "_law_place"] ["_law_purse_here", "_law_bodies"] (defScope sBad) := ⟨rfl, rfl, rfl, by decide +kernel, rfl, by decide +kernel, by decide +kernel⟩
theorem scRf : FnScope NRf ["_law_log", "_law_word", "_law_bodies"] (defScope sRf) := ⟨rfl, rfl, rfl, by decide +kernel, rfl, by decide +kernel, by decide +kernel⟩
def nl9 (c : List Nat) : Bool := decide (10 ∈ c) || decide (9 ∈ c)
def NlB (c : List Nat) : Prop := c.length ≤ 30 ∧ bok c = !nl9 c
theorem nl9_ok {c : List Nat} (h : bok c = true) : nl9 c = false := by
  have z := bok_le h
  unfold nl9
  rw [decide_eq_false (fun m => by have := (z 10 m).1; omega), decide_eq_false (fun m => by have := (z 9 m).1; omega)]
  rfl
theorem nlB_of {c : List Nat} (l : c.length ≤ 30) (h : nl9 c = true) : NlB c := by
  refine ⟨l, ?_⟩
  rw [h]
  cases e : bok c with
  | false => rfl
  | true =>
    rw [nl9_ok e] at h
    cases h
theorem ixN_of {n j : Nat} (h : j < n) : ixN n (j : Int) = some j := by
  have z : (0 : Int) ≤ (j : Int) := by omega
  have l : (j : Int) < (n : Int) := by omega
  simp only [ixN, z, l, if_true, Int.toNat_natCast]
theorem ixN_last {n : Nat} (h : 0 < n) : ixN n (-1) = some (n - 1) := by
  have z : ¬ (0 : Int) ≤ -1 := by decide
  have l : -(n : Int) ≤ -1 := by omega
  simp only [ixN, z, l, if_true, if_false]
  congr 1
  omega
/-- bodies, one of which is none -/
structure BadW (cs : List (List Nat)) : Prop where
  all : ∀ c, c ∈ cs → NlB c
  one : ∃ c, c ∈ cs ∧ nl9 c = true
section
variable {P : Program} {w : World} {K : PySem.W.Frag} {mg : Str → Option Value} {base : Heap} {f : Addr} {fd : FuncData} {k : Nat} {C CB : Addr}
def spBad : Sp := fun vs H Q _ => ∃ (p bl : Addr) (n : Nat) (bs : List (List Nat)), vs = [.ref p, .ref bl] ∧ Pu H p n ∧ n < 2 ^ 36 ∧ H bl = some (.lst (txts bs)) ∧ bs ≠ [] ∧ bs.length ≤ 4 ∧ (∀ b, b ∈ bs → b.length ≤ 24 ∧ bok b = true) ∧
  ∀ (D : Addr) (cs : List (List Nat)) (H' : Hp), Kp p H H' → Pu H' p (n + 10) → H' D = some (.lst (txts cs)) → cs.length = bs.length → BadW cs → Q (.ref D) H'
theorem ok_bad (F : Fun K "_law_bad" "_law_bad" sBad f fd) (L_draw : Cal P w K mg base k "_law_draw" ["_law_purse_here", "_law_out_of"] spDraw) (m_list : mg "list" = none) (m_len : mg "len" = none) : FnOk P w K mg base CX0 (k + 1) f fd ["_law_purse_here", "_law_bodies"] spBad := by
  refine F.ok scBad (fun vs H Q E h => ?_) (fun cdv A outer s H vs Q E hr h => ?_)
  · obtain ⟨p, bl, n, bs, rfl, _⟩ := h
    rfl
  · obtain ⟨p, bl, n, bs, rfl, pu, n36, hb, ne, b4, bo, q⟩ := h
    refine ⟨_, pss_cons (ps_set (i := 2) scBad.nd rfl (.inl rfl) (pe_callTy call_list_of (by rfl) m_list (by decide +kernel) (pa_cons (pv 1) pa_nil)))
      (pss_cons (ps_set (i := 3) scBad.nd rfl (.inl rfl) (pe_cal L_draw (hr.mono (by omega)) (by rfl) (pa_cons (pv 0) (pa_cons (pe_callB call_len_seq (by rfl) m_len (by decide +kernel) (pa_cons (pv 1) pa_nil)) pa_nil))))
      (pss_cons (ps_set (i := 4) scBad.nd rfl (.inl rfl) (pe_cal L_draw (hr.mono (by omega)) (by rfl) (pa_cons (pv 0) (pa_cons (pe_op op_add (pe_callB call_lenL (by rfl) m_len (by decide +kernel) (pa_cons (pe_ix ix_list (pv 1) (pv 3) (fun _ _ => rfl)) pa_nil)) pe_int) pa_nil))))
      (pss_cons (ps_asg (pe_op op_addL (pe_op op_addL (pe_slice sl_strL (pe_ix ix_list (pv 1) (pv 3) (fun _ _ => rfl)) po_none (po_some (pv 4))) (pe_ix ix_list (pe_lst (pa_cons pe_str (pa_cons pe_str pa_nil))) (pe_cal L_draw (hr.mono (by omega)) (by rfl) (pa_cons (pv 0) (pa_cons pe_int pa_nil))) (fun _ _ => rfl))) (pe_slice sl_strL (pe_ix ix_list (pv 1) (pv 3) (fun _ _ => rfl)) (po_some (pv 4)) po_none)) (pg_sub (pv 2) (pv 3) set_list))
      (pss_cons (ps_if (pt_cmpR op_eq (pe_cal L_draw (hr.mono (by omega)) (by rfl) (pa_cons (pv 0) (pa_cons pe_int pa_nil))) pe_int (nomark _))
        (pss_one (ps_asg (pe_op op_addL (pe_ix ix_list (pv 2) (pe_un un_neg pe_int) (fun _ _ => rfl)) pe_str) (pg_sub (pv 2) (pe_un un_neg pe_int) set_list)))
        pss_nil)
      (pss_one (ps_ret (pv 2))))))), ?_⟩
    have bp := txts_no pu hb
    have pos : 0 < bs.length := List.length_pos_iff.mpr ne
    refine ⟨_, rfl, bl, _, rfl, .inl (SqL.of hb), fun D nD => ?_⟩
    have Dp : D ≠ p := pu.ne nD
    have s1 := same_new (o := .lst (txts bs)) nD
    obtain ⟨H1, e1⟩ : ∃ H1, upd H D (.lst (txts bs)) = H1 := ⟨_, rfl⟩
    have hD1 : H1 D = some (.lst (txts bs)) := by rw [← e1]; exact upd_same
    rw [e1] at s1 ⊢
    have p1 := pu.same s1
    have k1 : Kp p H H1 := .of s1
    have hb1 := s1 _ _ hb
    refine ⟨_, rfl, _, rfl, bl, _, rfl, .inl (SqL.of hb1), p, _, _, rfl, p1, by omega, by rw [txts_len]; omega, by rw [txts_len]; omega, fun v H2 k2 p2 v0 v1 => ?_⟩
    rw [txts_len] at v1
    obtain ⟨i, rfl⟩ : ∃ i : Nat, v = (i : Int) := ⟨v.toNat, by omega⟩
    have il : i < bs.length := by omega
    obtain ⟨b, hi⟩ : ∃ b, bs[i]? = some b := ⟨_, List.getElem?_eq_getElem il⟩
    obtain ⟨b24, bok1⟩ := bo b (List.mem_of_getElem? hi)
    have ty : (txts bs)[i]? = some (.str (S b)) := by
      unfold txts
      rw [List.getElem?_map, hi]
      rfl
    have hb2 := k2 _ _ bp hb1
    refine ⟨_, rfl, _, rfl, _, rfl, bl, _, _, .str (S b), rfl, rfl, SqL.of hb2, atI_nat ty, b, rfl, by omega, _, _, rfl, rfl, p, _, _, rfl, p2, by omega, by omega, by omega, fun v3 H3 k3 p3 v30 v31 => ?_⟩
    obtain ⟨j, rfl⟩ : ∃ j : Nat, v3 = (j : Int) := ⟨v3.toNat, by omega⟩
    have hb3 := k3 _ _ bp hb2
    refine ⟨_, rfl, _, rfl, bl, _, _, .str (S b), rfl, rfl, SqL.of hb3, atI_nat ty, _, rfl, (j : Int), rfl, b, rfl, by omega, ?_⟩
    rw [cutL_to]
    refine ⟨(by show 2 ≤ sizeLine; decide), fun z nz => ?_⟩
    have s4 := same_new (o := .lst [V.str (Str.ofString "\n"), V.str (Str.ofString "\t")]) nz
    obtain ⟨H4, e4⟩ : ∃ H4, upd H3 z (.lst [V.str (Str.ofString "\n"), V.str (Str.ofString "\t")]) = H4 := ⟨_, rfl⟩
    have hz4 : H4 z = some (.lst [V.str (Str.ofString "\n"), V.str (Str.ofString "\t")]) := by rw [← e4]; exact upd_same
    rw [e4] at s4 ⊢
    have p4 := p3.same s4
    have zp : z ≠ p := p3.ne nz
    refine ⟨_, rfl, p, _, 2, rfl, p4, by omega, by decide, by decide, fun v5 H5 k5 p5 v50 v51 => ?_⟩
    have hz5 := k5 _ _ zp hz4
    obtain ⟨c, hc, c9⟩ : ∃ c : Nat, atI [V.str (Str.ofString "\n"), V.str (Str.ofString "\t")] v5 = some (.str (S [c])) ∧ (c = 10 ∨ c = 9) := by
      by_cases e0 : v5 = 0
      · subst e0
        exact ⟨10, rfl, .inl rfl⟩
      · obtain rfl : v5 = 1 := by omega
        exact ⟨9, rfl, .inr rfl⟩
    refine ⟨z, _, _, .str (S [c]), rfl, rfl, SqL.of hz5, hc, ?_⟩
    have hb5 := k5 _ _ bp (s4 _ _ hb3)
    have tl : (b.take j).length ≤ 24 := Nat.le_trans (List.length_take_le' _ _) b24
    have dl : (b.drop j).length ≤ 24 := by
      rw [List.length_drop]
      omega
    refine ⟨b.take j, [c], rfl, rfl, by rw [List.length_singleton]; omega, ?_⟩
    refine ⟨_, rfl, _, rfl, bl, _, _, .str (S b), rfl, rfl, SqL.of hb5, atI_nat ty, _, rfl, (j : Int), rfl, b, rfl, by omega, ?_⟩
    rw [cutL_from]
    refine ⟨b.take j ++ [c], b.drop j, rfl, rfl, by rw [List.length_append, List.length_singleton]; omega, ?_⟩
    have zb : NlB (b.take j ++ [c] ++ b.drop j) ∧ nl9 (b.take j ++ [c] ++ b.drop j) = true ∧ (b.take j ++ [c] ++ b.drop j).length ≤ 25 := by
      have hm : c ∈ b.take j ++ [c] ++ b.drop j := List.mem_append.mpr (.inl (List.mem_append.mpr (.inr (List.mem_singleton.mpr rfl))))
      have hn : nl9 (b.take j ++ [c] ++ b.drop j) = true := by
        unfold nl9
        rcases c9 with rfl | rfl
        · rw [decide_eq_true hm, Bool.true_or]
        · rw [decide_eq_true hm, Bool.or_true]
      suffices l : (b.take j ++ [c] ++ b.drop j).length ≤ 25 from ⟨nlB_of (Nat.le_trans l (by decide)) hn, hn, l⟩
      have e : b.length = (b.take j).length + (b.drop j).length := by rw [← List.length_append, List.take_append_drop]
      rw [List.length_append, List.length_append, List.length_singleton]
      omega
    obtain ⟨y, ey⟩ : ∃ y, b.take j ++ [c] ++ b.drop j = y := ⟨_, rfl⟩
    rw [ey] at zb ⊢
    have hD5 : H5 D = some (.lst (txts bs)) := k5 _ _ Dp (s4 _ _ (k3 _ _ Dp (k2 _ _ Dp hD1)))
    refine ⟨_, rfl, _, rfl, D, _, _, i, rfl, rfl, hD5, ixN_of (by rw [txts_len]; exact il), ?_⟩
    have es : (txts bs).set i (.str (S y)) = txts (bs.set i y) := by
      unfold txts
      rw [List.map_set]
    rw [es]
    have w1 : BadW (bs.set i y) := ⟨fun c hc => by
      rcases List.mem_or_eq_of_mem_set hc with hc | rfl
      · obtain ⟨h1, h2⟩ := bo c hc
        exact ⟨Nat.le_trans h1 (by decide), by rw [h2, nl9_ok h2]; rfl⟩
      · exact zb.1, y, List.mem_set il .., zb.2.1⟩
    have l25 : ∀ c, c ∈ bs.set i y → c.length ≤ 25 := fun c hc => by
      rcases List.mem_or_eq_of_mem_set hc with hc | rfl
      · exact Nat.le_trans (bo c hc).1 (by decide)
      · exact zb.2.2
    obtain ⟨cs, ec⟩ : ∃ cs, bs.set i y = cs := ⟨_, rfl⟩
    have cl : cs.length = bs.length := by rw [← ec, List.length_set]
    rw [ec] at w1 l25 ⊢
    obtain ⟨H6, e6⟩ : ∃ H6, upd H5 D (.lst (txts cs)) = H6 := ⟨_, rfl⟩
    have k5' : Kp p H H5 := k1.trans (k2.trans (k3.trans ((Kp.of s4).trans k5)))
    have k6 : Kp p H H6 := by rw [← e6]; exact kp_put k5' nD
    have p6 : Pu H6 p (n + 6) := by rw [← e6]; exact pu_put p5 Dp
    have hD6 : H6 D = some (.lst (txts cs)) := by rw [← e6]; exact upd_same
    rw [e6]
    refine ⟨_, rfl, p, _, 3, rfl, p6, by omega, by decide, by decide, fun v7 H7 k7 p7 v70 v71 => ?_⟩
    have hD7 := k7 _ _ Dp hD6
    refine ⟨rfl, _, rfl, ite2 (fun g => ?_) (fun g => ?_)⟩
    · obtain ⟨ds, x, ed⟩ : ∃ ds x, cs = ds ++ [x] := by
        rcases List.eq_nil_or_concat cs with z | ⟨ds, x, z⟩
        · rw [z] at cl
          have : (0 : Nat) = bs.length := cl
          omega
        · exact ⟨ds, x, by rw [z, List.concat_eq_append]⟩
      have ex : txts cs = txts ds ++ [.str (S x)] := by rw [ed, ← txts_snoc]
      have x25 := l25 x (by rw [ed]; exact List.mem_append.mpr (.inr (List.mem_singleton.mpr rfl)))
      have dl2 : cs.length - 1 = ds.length := by rw [ed, List.length_append]; rfl
      have n1 : nl9 (x ++ [10]) = true := by
        unfold nl9
        rw [decide_eq_true (List.mem_append.mpr (.inr (List.mem_singleton.mpr rfl))), Bool.true_or]
      have w2 : BadW (ds ++ [x ++ [10]]) := ⟨fun c hc => by
        obtain hc | hc := List.mem_append.mp hc
        · exact w1.all c (by rw [ed]; exact List.mem_append.mpr (.inl hc))
        · rw [List.mem_singleton.mp hc]
          exact nlB_of (by rw [List.length_append]; show _ + 1 ≤ _; omega) n1, _, List.mem_append.mpr (.inr (List.mem_singleton.mpr rfl)), n1⟩
      have e8 : (txts cs).set (cs.length - 1) (.str (S (x ++ [10]))) = txts (ds ++ [x ++ [10]]) := by
        rw [ex, dl2, List.set_append_right _ _ (by rw [txts_len]; exact Nat.le_refl _), txts_len, Nat.sub_self, ← txts_snoc]
        rfl
      have s8 : Kp p H (upd H7 D (.lst (txts (ds ++ [x ++ [10]])))) := kp_put (k6.trans k7) nD
      refine ⟨_, rfl, 1, rfl, D, _, _, .str (S x), rfl, rfl, SqL.of hD7, by rw [ex]; exact atI_last _ _, x, [10], rfl, rfl, by rw [List.length_singleton]; omega, ?_⟩
      refine ⟨_, rfl, 1, rfl, D, _, _, cs.length - 1, rfl, rfl, hD7, ixN_last (by rw [txts_len]; omega) |>.trans (by rw [txts_len]), ?_⟩
      rw [e8]
      exact ⟨_, rfl, q D _ _ s8 (pu_put (p7.mono (by omega)) Dp) upd_same (by rw [← cl, ed, List.length_append, List.length_append]; rfl) w2⟩
    · exact ⟨_, rfl, q D cs H7 (k6.trans k7) (p7.mono (by omega)) hD7 cl w1⟩
end
end Tg

namespace Tg
open PySem PySem.Spec PyProof.Rows L2
open SX (S)
open TL (numL)
theorem first_bad {p : List Nat → Bool} : ∀ {cs : List (List Nat)}, (∃ c, c ∈ cs ∧ p c = true) → ∃ (m : Nat) (x : List Nat), cs[m]? = some x ∧ p x = true ∧ (∀ (j : Nat) (b : List Nat), j < m → cs[j]? = some b → p b = false) ∧ (cs.filter p)[0]? = some x
  | [], ⟨c, h, _⟩ => nomatch h
  | c :: cs, h => by
    cases e : p c with
    | true => exact ⟨0, c, rfl, e, (fun j b l => absurd l (Nat.not_lt_zero j)), by rw [List.filter_cons_of_pos e]; rfl⟩
    | false =>
      obtain ⟨d, hd, pd⟩ := h
      obtain rfl | hd := List.mem_cons.mp hd
      · rw [e] at pd
        cases pd
      obtain ⟨m, x, h1, h2, h3, h4⟩ := first_bad ⟨d, hd, pd⟩
      refine ⟨m + 1, x, h1, h2, fun j b l hb => ?_, ?_⟩
      · cases j with
        | zero =>
          obtain rfl : c = b := Option.some.inj hb
          exact e
        | succ j => exact h3 j b (by omega) hb
      · rw [List.filter_cons_of_neg (by rw [e]; exact fun z => nomatch z)]
        exact h4
section
variable {P : Program} {w : World} {K : PySem.W.Frag} {mg : Str → Option Value} {base : Heap} {f : Addr} {fd : FuncData} {k : Nat} {C CB CD CG CK CL CO CN CP CT : Addr}
def spRf (C : Addr) : Sp := fun vs H Q _ => ∃ (a l bl : Addr) (zs : List (List Nat)) (n g : Nat) (wd : Str) (cs : List (List Nat)), vs = [.ref a, .str wd, .ref bl] ∧ LgO C H a l (txts zs) n g ∧ H bl = some (.lst (txts cs)) ∧ DeW wd cs ∧ n ≤ 1000 ∧ BadW cs ∧ ∀ H', Same H H' → Q (.bl true) H'
theorem ok_rf (F : Fun K "_law_refused" "_law_refused" sRf f fd) (N9 : Nine K mg CB CD CG CK CL CO CN CP CT) (L_asked : CalR P w K mg base k "_law_asked" NAs (spAsN C CB)) (L_class : Cal P w K mg base k "_law_class" ["_law_caught"] (spClass CB)) : FnOk P w K mg base CX0 (k + 1) f fd ["_law_log", "_law_word", "_law_bodies"] (spRf C) := by
  refine F.ok scRf (fun vs H Q E h => ?_) (fun cdv A outer s H vs Q E hr h => ?_)
  · obtain ⟨a, l, bl, zs, n, g, wd, cs, rfl, _⟩ := h
    rfl
  · obtain ⟨a, l, bl, zs, n, g, wd, cs, rfl, lo, hb, dw, n1, bw, q⟩ := h
    obtain ⟨m, x, hx, bx, bo, first⟩ := first_bad bw.one
    have c4 : cs.length ≤ 4 := by
      rcases dw with ⟨_, h⟩ | ⟨c, rfl, _⟩
      · exact h
      · show 1 ≤ 4
        decide
    have bad : ∀ c, c ∈ cs → bok c = !nl9 c := fun c hc => (bw.all c hc).2
    have xm := List.mem_of_getElem? hx
    refine ⟨_, pss_cons (ps_set (i := 3) scRf.nd rfl (.inl rfl) pe_non) (pss_cons (ps_set (i := 4) scRf.nd rfl (.inl rfl) pe_non)
      (pss_cons (ps_try_keep (i := 5) (j := 4) rfl rfl rfl scRf.nd rfl rfl rfl rfl (tests_one ⟨by rfl, by decide, .inl N9.mB⟩)
        (fun W pn xe tk _ => pss_one (ps_set (i := 3) scRf.nd rfl (.inl rfl) (pe_calT L_asked hr (by rfl) tk (pa_cons (pv 0) (pa_cons (pv 1) (pa_cons (pv 2) pa_nil)))))))
      (pss_cons (ps_if (PW.pt (pw_or (pt_cmpR op_notN (pv 3) pe_non (nomark _)) (pw_or1 (pt_cmpR op_ne (pe_cal L_class (hr.mono (by omega)) (by rfl) (pa_cons (pv 4) pa_nil)) pe_str (nomark _)))))
        (pss_one (ps_ret pe_bl)) pss_nil)
      (pss_one (ps_ret (pe_cmpR op_eq (pe_exf (pv 4)) (pe_ix ix_list (pe_lc (own := [("_law_body_here", 6)]) (g := (gName 6)) rfl scRf.nd (pi_list (pv 2)) (blkOk_by (own := [("_law_body_here", 6)]) (N := NRf) (sc := defScope sRf) (by decide +kernel)) (fun _ _ _ _ _ => (pg_name (i := 6) scRf.nd rfl (.inl rfl))) (fun _ _ _ _ _ => pts_one (PW.pt (pw_or (pt_cmpR op_in_sign pe_str (pv 6) (by with_unfolding_all rfl)) (pw_or1 (pt_cmpR op_in_sign pe_str (pv 6) (by with_unfolding_all rfl)))))) (fun _ _ _ _ _ => (pv 6))) pe_int (fun _ _ => rfl)) (nomark _))))))), ?_⟩
    refine ⟨_, rfl, _, rfl, _, rfl, a, l, bl, zs, n, g, wd, cs, m, x, rfl, lo, hb, dw, n1, hx, by rw [bad x xm, bx]; rfl, Nat.le_trans (bw.all x xm).1 (by decide), fun j b lt hj => ?_, fun d H' s' nd hd => ⟨N9.ex, fun e ne => ?_⟩⟩
    · have mem := List.mem_of_getElem? hj
      exact ⟨Nat.le_trans (bw.all b mem).1 (by decide), by rw [bad b mem, bo j b lt hj]; rfl⟩
    have sb : Same H' (upd H' e (ExV (.ref CB) (some d) e)) := same_new ne
    have hbb : (upd H' e (ExV (.ref CB) (some d) e)) e = some (ExV (.ref CB) (some d) e) := upd_same
    have hdd := sb _ _ hd
    refine ⟨_, rfl, rfl, false, rfl, if_f ?_⟩
    refine ⟨_, rfl, e, d, _, rfl, hbb, hdd, fun H2 s2 => ⟨rfl, false, congrArg V.bl (by rw [decide_eq_true rfl]; rfl), if_f ?_⟩⟩
    have c2 := (s'.trans sb).trans s2
    have hb2 := c2 _ _ hb
    refine ⟨_, rfl, e, CB, d, _, .str (S x), rfl, s2 _ _ hbb, N9.xf, N9.no, s2 _ _ hdd, rfl, ?_⟩
    refine ⟨_, rfl, bl, rfl, ⟨_, SqL.of hb2⟩, fun D nD => lc_list (K := K) (a := bl) (xs := txts cs) (fun i Hd => Same H2 Hd ∧ Hd D = some (.lst (txts ((cs.take i).filter nl9)))) ⟨same_new nD, upd_same⟩ (fun j Hd _ h => SqL.of (h.1 _ _ hb2)) ?_ ?_⟩
    · rintro j v Hd hj ⟨sc, hD⟩
      unfold txts at hj
      rw [List.getElem?_map] at hj
      obtain ⟨y, hy, rfl⟩ := Option.map_eq_some_iff.mp hj
      have ft : (cs.take (j + 1)).filter nl9 = (cs.take j).filter nl9 ++ (if nl9 y = true then [y] else []) := by
        rw [take_snoc hy, List.filter_append]
        congr 1
        cases e : nl9 y with
        | true => exact List.filter_cons_of_pos e
        | false => exact List.filter_cons_of_neg (by rw [e]; exact fun z => nomatch z)
      have put : nl9 y = true → ∃ acc, Hd D = some (.lst acc) ∧ acc.length < sizeLine ∧ (Same H2 (upd Hd D (.lst (acc ++ [.str (S y)]))) ∧ upd Hd D (.lst (acc ++ [.str (S y)])) D = some (.lst (txts ((cs.take (j + 1)).filter nl9)))) := fun e => by
        refine ⟨_, hD, ?_, same_put nD sc, ?_⟩
        · rw [txts_len]
          have := List.length_filter_le nl9 (cs.take j)
          have := List.length_take_le' j cs
          exact small1000 (by omega)
        · rw [upd_same, ft, if_pos e, txts_snoc]
      have e10 : (V.bl (decide (10 ∈ (S y).cps.toList))) = V.bl (decide (10 ∈ y)) := rfl
      have e9 : (V.bl (decide (9 ∈ (S y).cps.toList))) = V.bl (decide (9 ∈ y)) := rfl
      refine ⟨rfl, _, rfl, 10, S y, rfl, rfl, decide (10 ∈ y), e10, ?_⟩
      by_cases m10 : 10 ∈ y
      · have e : nl9 y = true := by
          unfold nl9
          rw [decide_eq_true m10, Bool.true_or]
        rw [decide_eq_true m10]
        exact if_t (if_t ⟨_, rfl, put e⟩)
      · rw [decide_eq_false m10]
        refine if_f ⟨_, rfl, 9, S y, rfl, rfl, decide (9 ∈ y), e9, ?_⟩
        by_cases m9 : 9 ∈ y
        · have e : nl9 y = true := by
            unfold nl9
            rw [decide_eq_true m9, Bool.or_true]
          rw [decide_eq_true m9]
          exact if_t ⟨_, rfl, put e⟩
        · have e : nl9 y = false := by
            unfold nl9
            rw [decide_eq_false m10, decide_eq_false m9]
            rfl
          rw [decide_eq_false m9]
          refine if_f ⟨sc, ?_⟩
          rw [ft, e, if_neg (fun z => nomatch z), List.append_nil]
          exact hD
    · rintro Hd ⟨sc, hD⟩
      rw [txts_len, List.take_length] at hD
      have ft : (txts (cs.filter nl9))[0]? = some (.str (S x)) := by
        unfold txts
        rw [List.getElem?_map, first]
        rfl
      refine ⟨D, _, 0, _, rfl, rfl, SqL.of hD, atI_nat (j := 0) ft, rfl, ?_⟩
      have e0 : V.bl (decide (V.str (S x) = V.str (S x))) = V.bl true := congrArg V.bl (decide_eq_true rfl)
      show Q (V.bl (decide (V.str (S x) = V.str (S x)))) _
      rw [e0]
      exact q _ (c2.trans sc)
end
end Tg

namespace Tg
open PySem PySem.Spec PyProof.Rows L2
open SX (S)
open TL (numL)
abbrev sEq : Stmt := inCls (topS 20) 1
theorem scEq : FnScope ["self", "other"] ["self", "other"] (defScope sEq) := ⟨rfl, rfl, rfl, by decide +kernel, rfl, by decide +kernel, by decide +kernel⟩
/-- what isinstance asks of the class -/
structure TIns (K : PySem.W.Frag) (C : Addr) : Prop where
  cc : PySem.W.findIn K (.ref C) "__class__" = some (some (.builtin "object.__class__"))
  get : PySem.W.specialIn K (.builtin "object.__class__") "__get__" = some (some (.builtin "getset_descriptor.__get__"))
  takes : PySem.W.takesIn K (.builtin "object.__class__") = some true
  obj : PySem.W.mroIn K C (.type "object") = some true
  kit : PySem.W.kitOne K (.ref C) (.ref C) = some true
  kitL : PySem.W.kitOne K (.type "list") (.ref C) = some false
  kitS : PySem.W.kitOne K (.type "str") (.ref C) = some false
/-- texts as data -/
def tdat (ys : List (List Nat)) : List PyData := ys.map fun y => PyData.str (S y)
def Sml (ys : List (List Nat)) : Prop := ∀ y, y ∈ ys → ∀ c, c ∈ y → c ≤ 126
theorem dp_txts {K : PySem.W.Frag} {H : Hp} : ∀ (ys : List (List Nat)), DpAll K H (txts ys) (tdat ys)
  | [] => .nil
  | y :: ys => .cons (.str _) (dp_txts ys)
theorem tdat_lay : ∀ {ys : List (List Nat)}, Sml ys → PyData.canLayAll0 (tdat ys) = true ∧ PyData.depthAll (tdat ys) = 0
  | [], _ => ⟨rfl, rfl⟩
  | y :: ys, h => by
    obtain ⟨h1, h2⟩ := tdat_lay (ys := ys) fun z hz => h z (List.mem_cons_of_mem _ hz)
    have a2 : PyData.strOk (S y) = true := str_S fun c hc => by
      have := h y (List.mem_cons_self ..) c hc
      omega
    constructor
    · show (PyData.strOk (S y) && PyData.canLayAll0 (tdat ys)) = true
      rw [a2, h1]
      rfl
    · show max 0 (PyData.depthAll (tdat ys)) = 0
      rw [h2]
      rfl
theorem tdat_shaped {ys : List (List Nat)} (h : Sml ys) : SeqAt.shaped (.list (tdat ys)) = true := by
  obtain ⟨a, b⟩ := tdat_lay h
  refine shaped_of a ?_
  show PyData.depthAll (tdat ys) + 1 ≤ 64
  rw [b]
  decide
theorem S_beq (a b : List Nat) : (S a == S b) = decide (a = b) := by
  by_cases e : a = b
  · rw [e, beq_self_eq_true, decide_eq_true rfl]
  · rw [decide_eq_false e]
    exact beq_eq_false_iff_ne.mpr fun z => e (SX.S_inj z)
theorem tdat_eqv : ∀ (xs ys : List (List Nat)), PyData.eqvAll (tdat xs) (tdat ys) = decide (xs = ys)
  | [], [] => rfl
  | [], y :: ys => rfl
  | x :: xs, [] => rfl
  | x :: xs, y :: ys => by
    have ih := tdat_eqv xs ys
    show ((S x == S y) && PyData.eqvAll (tdat xs) (tdat ys)) = _
    rw [ih, S_beq]
    by_cases e1 : x = y
    · by_cases e2 : xs = ys
      · rw [e1, e2, decide_eq_true rfl, decide_eq_true rfl, decide_eq_true rfl]
        rfl
      · rw [decide_eq_false e2, Bool.and_false, decide_eq_false fun z => e2 (List.cons.inj z).2]
    · rw [decide_eq_false e1, Bool.false_and, decide_eq_false fun z => e1 (List.cons.inj z).1]
section
variable {P : Program} {w : World} {K : PySem.W.Frag} {mg : Str → Option Value} {base : Heap} {f : Addr} {fd : FuncData} {k : Nat} {C : Addr}
/-- what the own == of a log says -/
def LogR (C : Addr) : Addr → V → Bool → Hp → Prop := fun a y b H => ∃ (l n g : Nat) (zs : List (List Nat)), LgO C H a l (txts zs) n g ∧ Sml zs ∧
  ((∃ (a2 l2 n2 g2 : Nat) (ys : List (List Nat)), y = .ref a2 ∧ LgO C H a2 l2 (txts ys) n2 g2 ∧ Sml ys ∧ b = decide (zs = ys)) ∨ (b = false ∧ ((∃ z, y = .str z) ∨ ∃ l2 xs, y = .ref l2 ∧ H l2 = some (.lst xs))))
theorem ok_eq (F : Fun K "__eq__" "Log.__eq__" sEq f fd) (T : TLog K C) (TI : TIns K C) (g_Log : mg "Log" = some (.ref C)) (m_isinstance : mg "isinstance" = none) : FnOk P w K mg base CX0 (k + 1) f fd ["self", "other"] (spEqB (LogR C)) := by
  refine F.ok scEq (fun vs H Q E h => ?_) (fun cdv A outer s H vs Q E hr h => ?_)
  · obtain ⟨a, b, c, rfl, _⟩ := h
    rfl
  · obtain ⟨a, y, b, rfl, ⟨l, n, g, zs, ⟨⟨dA, eA⟩, hl⟩, sm, r⟩, q⟩ := h
    have hu := hr.units
    refine ⟨_, pss_one (ps_ret (pe_and (pe_callB call_isi (by rfl) m_isinstance (by decide +kernel) (pa_cons (pv 1) (pa_cons (pe_glob (v := .ref C) rfl g_Log rfl) pa_nil))) (pe_one (pe_cmpR (op_eqD hu) (pe_fld (pv 0) rfl) (pe_fld (pv 1) rfl) (nomark _))))), ?_⟩
    rcases r with ⟨a2, l2, n2, g2, ys, rfl, ⟨⟨dB, eB⟩, hl2⟩, sm2, rfl⟩ | ⟨rfl, ⟨z, rfl⟩ | ⟨l2, xs, rfl, h2⟩⟩
    · refine ⟨_, rfl, .ref a2, .ref C, .ref C, .ref C, true, rfl, .own _, .base (.ins eB T.cl TI.cc TI.get TI.takes TI.obj), TI.kit, true, rfl, if_t ?_⟩
      refine ⟨_, rfl, a, C, dA, _, _, rfl, eA, T.cl, T.nk, rfl, _, rfl, a2, C, dB, _, _, rfl, eB, T.cl, T.nk, rfl, .list (tdat zs), .list (tdat ys), .lst (SqL.of hl) (dp_txts zs), .lst (SqL.of hl2) (dp_txts ys), tdat_shaped sm, tdat_shaped sm2, ?_⟩
      rw [show PyData.eqv (.list (tdat zs)) (.list (tdat ys)) = decide (zs = ys) from tdat_eqv zs ys]
      exact q H Ext.rfl'
    · exact ⟨_, rfl, .str z, .ref C, .type "str", .ref C, false, rfl, .own _, .base (.str z), TI.kitS, false, rfl, if_f (q H Ext.rfl')⟩
    · exact ⟨_, rfl, .ref l2, .ref C, .type "list", .ref C, false, rfl, .own _, .base (.lst h2), TI.kitL, false, rfl, if_f (q H Ext.rfl')⟩
end
end Tg

namespace Tg
open PySem PySem.Spec PyProof.Rows L2
open SX (S)
open TL (numL)
abbrev sSt : Stmt := topS 36
abbrev NSt : List Str := ["_law_log", "_law_rows_here", "_law_due", "_law_turn", "_law_told", "_law_line_here", "_law_row"]
theorem scSt : FnScope NSt ["_law_log", "_law_rows_here"] (defScope sSt) := ⟨rfl, rfl, rfl, by decide +kernel, rfl, by decide +kernel, by decide +kernel⟩
theorem rln_len {r : Rec3} (h : ROk r) : (rln r).length ≤ 60 := by
  have h1 : (numL r.1).length ≤ 12 := num_len (by decide) h.1
  have h2 : (numL ((numL r.1).length + r.2.2.length)).length ≤ 2 := num_len (by decide) (by have := h.2.2.2; omega)
  have h3 : (numL (chk (ahead r.1 r.2.1 r.2.2))).length ≤ 6 := num_len (by decide) (Nat.lt_trans (chk_lt _) (by decide))
  have h4 := h.2.2.2
  unfold rln
  rw [line_tail, List.length_append, List.length_cons]
  unfold ahead at h3 ⊢
  simp only [List.length_singleton, List.length_append] at h3 ⊢
  omega
theorem rln_small {r : Rec3} (h : ROk r) : ∀ c, c ∈ rln r → c ≤ 126 := fun c z => by
  unfold rln at z
  rw [line_tail] at z
  obtain z | z := List.mem_append.mp z
  · exact (ahead_signs h.2.1 h.2.2.1 c z).2
  · obtain z | z := List.mem_cons.mp z
    · omega
    · have := num_all _ c z
      omega
theorem rows_sml {rs : List Rec3} (ok : ∀ r, r ∈ rs → ROk r) : Sml (rs.map rln) := fun y hy => by
  obtain ⟨r, hr, rfl⟩ := List.mem_map.mp hy
  exact rln_small (ok r hr)
section
variable {P : Program} {w : World} {K : PySem.W.Frag} {mg : Str → Option Value} {base : Heap} {f : Addr} {fd : FuncData} {k : Nat} {C : Addr}
/-- a log whose rows are told -/
structure LgR (C : Addr) (H : Hp) (a r : Addr) (rs : List Rec3) (g : Nat) : Prop where
  lo : ∃ l, LgO C H a l (txts (rs.map rln)) (lastN rs) g
  hr : ∃ xs, H r = some (.lst xs) ∧ RwL H xs rs
  r80 : rs.length ≤ 80
  ok : ∀ r, r ∈ rs → ROk r
theorem LgR.same {C : Addr} {H H' : Hp} {a r : Addr} {rs : List Rec3} {g : Nat} (h : LgR C H a r rs g) (s : Same H H') : LgR C H' a r rs g := by
  obtain ⟨⟨l, lo⟩, ⟨xs, hx, rl⟩, h3, h4⟩ := h
  exact ⟨⟨l, lo.same s⟩, ⟨xs, s _ _ hx, rl.same s⟩, h3, h4⟩
def spSt (C : Addr) : Sp := fun vs H Q _ => ∃ (a r : Addr) (rs : List Rec3) (g : Nat), vs = [.ref a, .ref r] ∧ LgR C H a r rs g ∧ ∀ H', Same H H' → Q (.bl true) H'
theorem ok_st {gl fE : Addr} {fdl fdE : FuncData} (F : Fun K "_law_stands" "_law_stands" sSt f fd) (T : TLog K C) (FL : FnOk P w K mg base CX0 k gl fdl ["self"] (spLN C)) (at_ : PySem.W.findIn K (.ref C) "__len__" = some (some (.ref gl))) (fn : PySem.W.isFn K (.ref gl) = true) (hb : Binds K fdl ["self"] []) (L_texts : Cal P w K mg base k "_law_texts" ["_law_rows_here"] spTs)
    (M_lines_0 : CalM P w K mg base k C "lines" ["self"] (spLS C)) (M_text_0 : CalM P w K mg base k C "text" ["self"] (spTx C)) (FE : FnOk P w K mg base CX0 k fE fdE ["self", "other"] (spEqB (LogR C))) (NE : NeC K C fE) (hbE : Binds K fdE ["self", "other"] []) (nfL : PySem.W.notFirst K C (.type "list") = true) (nfS : PySem.W.notFirst K C (.type "str") = true) (m_len : mg "len" = none) (m_range : mg "range" = none) : FnOk P w K mg base CX0 (k + 2) f fd ["_law_log", "_law_rows_here"] (spSt C) := by
  refine F.ok scSt (fun vs H Q E h => ?_) (fun cdv A outer s H vs Q E hr h => ?_)
  · obtain ⟨a, r, rs, g, rfl, _⟩ := h
    rfl
  · obtain ⟨a, r, rs, g, rfl, ⟨⟨l, lo⟩, ⟨xs, hx, rl⟩, r80, ok⟩, q⟩ := h
    have hu := hr.units
    have LN := cr_lenO (X := (cxOf CX0 P w K mg base NSt "_law_stands" (defScope sSt) f cdv A outer s H E).nox) FL at_ fn hb pass0 hr
    refine ⟨_, pss_cons (ps_set (i := 2) scSt.nd rfl (.inl rfl) (pe_cal L_texts (hr.mono (by omega)) (by rfl) (pa_cons (pv 1) pa_nil)))
      (pss_cons (ps_for PassesOwn.never rfl (pi_range1 (by rfl) m_range (pa_cons pe_int pa_nil)) (pg_name (i := 3) scSt.nd rfl (.inl rfl))
        (pss_cons (ps_set (i := 4) scSt.nd rfl (.inl rfl) (pe_calM0 (pv 0) T.cl M_lines_0 (hr.mono (by omega))))
        (pss_cons (ps_if (pt_cmpR (op_neD hu) (pv 4) (pv 2) (nomark _))
          (pss_one (ps_ret pe_bl))
          pss_nil)
        (pss_cons (ps_expr (pe_bm PySem.F.plainAttrs_list PySem.F.slot_list_append PySem.F.type_list_append mt_append (pv 4) (pa_cons pe_str pa_nil)))
        (pss_one (ps_expr (pe_bm0 PySem.F.plainAttrs_list PySem.F.slot_list_reverse PySem.F.type_list_reverse mt_reverse (pv 4))))))))
      (pss_cons (ps_if (PW.pt (pw_or (pt_cmpR op_ne (pe_calM0 (pv 0) T.cl M_text_0 (hr.mono (by omega))) (pe_bm PySem.F.plainAttrs_str PySem.F.slot_str_join PySem.F.type_str_join mt_join pe_str (pa_cons (pe_lc (own := [("_law_line_here", 5)]) (g := (gName 5)) (tt := tYes) rfl scSt.nd (pi_list (pv 2)) (blkOk_by (own := [("_law_line_here", 5)]) (N := NSt) (sc := defScope sSt) (by decide +kernel)) (fun _ _ _ _ _ => (pg_name (i := 5) scSt.nd rfl (.inl rfl))) (fun _ _ _ _ _ => pts_nil) (fun _ _ _ _ _ => (pe_op op_addL (pv 5) pe_str))) pa_nil)) (nomark _)) (pw_or1 (pt_cmpR op_ne (pe_callB LN (by rfl) m_len (by decide +kernel) (pa_cons (pv 0) pa_nil)) (pe_callB call_len_seq (by rfl) m_len (by decide +kernel) (pa_cons (pv 2) pa_nil)) (nomark _)))))
        (pss_one (ps_ret pe_bl))
        pss_nil)
      (pss_one (ps_ret (pe_and (pe_cmpR op_eq (pe_fld (pv 0) rfl) (pe_ix ix_list (pe_op op_cat (pe_lst (pa_cons pe_int pa_nil)) (pe_lc (own := [("_law_row", 6)]) (g := (gName 6)) (tt := tYes) rfl scSt.nd (pi_list (pv 1)) (blkOk_by (own := [("_law_row", 6)]) (N := NSt) (sc := defScope sSt) (by decide +kernel)) (fun _ _ _ _ _ => (pg_name (i := 6) scSt.nd rfl (.inl rfl))) (fun _ _ _ _ _ => pts_nil) (fun _ _ _ _ _ => (pe_ix (r := rIxT K) ix_tup (pv 6) pe_int (fun _ _ => rfl))))) (pe_un un_neg pe_int) (fun _ _ => rfl)) (nomark _)) (pe_and (pe_cmpR (op_neB FE NE hbE pass0 (hr.mono (by omega))) (pv 0) (pv 2) (nomark _)) (pe_one (pe_cmpR (op_neB FE NE hbE pass0 (hr.mono (by omega))) (pv 0) (pe_calM0 (pv 0) T.cl M_text_0 (hr.mono (by omega))) (nomark _))))))))), ?_⟩
    have sm := rows_sml ok
    have zl : (rs.map rln).length ≤ 80 := by
      rw [List.length_map]
      exact r80
    have z60 : ∀ z, z ∈ rs.map rln → z.length ≤ 60 := fun z hz => by
      obtain ⟨r1, hr3, rfl⟩ := List.mem_map.mp hz
      exact rln_len (ok r1 hr3)
    refine ⟨_, rfl, r, xs, rs, rfl, hx, rl, by omega, ok, fun D H1 s1 nD hD => ?_⟩
    obtain ⟨zs, ez⟩ : ∃ zs, rs.map rln = zs := ⟨_, rfl⟩
    rw [ez] at hD sm zl z60 lo
    have sh := tdat_shaped sm
    have ne : PyData.eqv (.list (tdat zs)) (.list (tdat zs)) = true := (tdat_eqv zs zs).trans (decide_eq_true rfl)
    refine ⟨2, rfl, by omega, by omega, for_range (lo := 0) (n := 2) (fun i σ Hc => ∃ z3 z4 : Option V, σ = [some (.ref a), some (.ref r), some (.ref D), z3, z4, none, none] ∧ Same H1 Hc) ⟨none, none, rfl, Same.refl _⟩ ?_ ?_⟩
    · rintro i σ Hc hi ⟨z3, z4, rfl, sc⟩
      have loc := (lo.same s1).same sc
      have hDc := sc _ _ hD
      obtain ⟨⟨dx, ha⟩, hl⟩ := id loc
      refine ⟨_, rfl, a, dx, _, rfl, ha, rfl, a, l, _, _, g, rfl, loc, fun L2 H2 s2 nL hL => ?_⟩
      have hD2 := s2 _ _ hDc
      refine ⟨_, rfl, _, rfl, .list (tdat zs), .list (tdat zs), .lst (SqL.of hL) (dp_txts zs), .lst (SqL.of hD2) (dp_txts zs), sh, sh, false, congrArg V.bl (by rw [ne]; rfl), if_f ?_⟩
      have nH1 : H1 L2 = none := none_of sc nL
      refine ⟨_, rfl, .inl ⟨rfl, _, SqL.of hL⟩, L2, _, _, rfl, rfl, hL, small1000 (by rw [txts_len]; omega), ?_⟩
      have h3 : upd H2 L2 (.lst (txts zs ++ [V.str (Str.ofString "x")])) L2 = some (.lst (txts zs ++ [V.str (Str.ofString "x")])) := upd_same
      refine ⟨_, rfl, .inl ⟨rfl, _, SqL.of h3⟩, L2, _, rfl, rfl, h3, ?_⟩
      refine ⟨_, _, rfl, fun y o e => ?_⟩
      have yL : y ≠ L2 := ne_of_none e nH1
      rw [upd_ne yL, upd_ne yL]
      exact s2 _ _ (sc _ _ e)
    · rintro σ Hc ⟨z3, z4, rfl, sc⟩
      have loc := (lo.same s1).same sc
      have hDc := sc _ _ hD
      obtain ⟨⟨dx, ha⟩, hl⟩ := id loc
      refine ⟨_, rfl, a, dx, _, rfl, ha, rfl, a, l, zs, _, g, rfl, loc, by omega, fun z hz => Nat.le_trans (z60 z hz) (by decide), fun H3 s3 => ?_⟩
      have hD3 := s3 _ _ hDc
      refine ⟨rfl, _, rfl, D, rfl, ⟨_, SqL.of hD3⟩, fun B nB => lc_list (K := K) (a := D) (xs := txts zs) (fun i Hd => Same H3 Hd ∧ Hd B = some (.lst (txts (nls (zs.take i))))) ⟨same_new nB, upd_same⟩ (fun j Hd _ h => SqL.of (h.1 _ _ hD3)) ?_ ?_⟩
      · rintro j x Hd hj ⟨sd, hB⟩
        unfold txts at hj
        rw [List.getElem?_map] at hj
        obtain ⟨y, hy, rfl⟩ := Option.map_eq_some_iff.mp hj
        have jl : j < zs.length := (List.getElem?_eq_some_iff.mp hy).1
        have y60 := z60 y (List.mem_of_getElem? hy)
        refine ⟨rfl, yes_b (if_t ?_)⟩
        refine ⟨_, rfl, y, [10], rfl, rfl, by rw [List.length_singleton]; omega, _, hB, ?_, same_put nB sd, ?_⟩
        · unfold nls
          rw [txts_len, List.length_map, List.length_take]
          exact small1000 (by omega)
        · rw [upd_same, take_snoc hy]
          unfold nls
          rw [List.map_append, ← txts_cat]
          rfl
      · rintro H4 ⟨s4, hB⟩
        rw [txts_len, List.take_length, txts_map] at hB
        have sl := sum_nls fun z hz => Nat.le_trans (z60 z hz) (show 60 ≤ 100 by decide)
        have nl : (nls zs).length = zs.length := List.length_map ..
        refine ⟨_, B, (nls zs).map S, rfl, rfl, .inl (SqL.of hB), ?_, ?_⟩
        · rw [List.length_map]
          show _ + _ * 0 ≤ _
          omega
        rw [show Txt.join (Str.ofString "") ((nls zs).map S) = S (TL.joinL [] (nls zs)) from SX.join_S [] _, join_nl0]
        have e0 : V.bl (!decide (V.str (S (TL.joinL [10] (zs ++ [[]]))) = V.str (S (TL.joinL [10] (zs ++ [[]]))))) = V.bl false := congrArg V.bl (by rw [decide_eq_true rfl]; rfl)
        refine ⟨rfl, false, e0, if_f ?_⟩
        have lo4 := (loc.same s3).same s4
        have hD4 := s4 _ _ hD3
        obtain ⟨⟨dx4, ha4⟩, _⟩ := id lo4
        have xl : (txts zs).length = zs.length := txts_len zs
        refine ⟨_, rfl, a, dx4, _, rfl, ha4, a, l, _, _, g, rfl, lo4, _, rfl, ?_, _, rfl, D, _, rfl, .inl (SqL.of hD4), rfl, false, congrArg V.bl (by rw [decide_eq_true rfl]; rfl), if_f ?_⟩
        · rw [xl]
          exact Nat.lt_of_le_of_lt zl (by decide)
        have hx4 := s4 _ _ (s3 _ _ (sc _ _ (s1 _ _ hx)))
        have rl4 := ((rl.same s1).same sc).same (s3.trans s4)
        refine ⟨_, rfl, a, C, dx4, _, .int (lastN rs), rfl, ha4, T.cl, T.nn, rfl, (by show 1 ≤ sizeLine; decide), fun z1 nz1 => ?_⟩
        have sz := same_new (o := .lst [.int 0]) nz1
        obtain ⟨H5, e5⟩ : ∃ H5, upd H4 z1 (.lst [.int 0]) = H5 := ⟨_, rfl⟩
        have hz : H5 z1 = some (.lst [.int 0]) := by rw [← e5]; exact upd_same
        rw [e5] at sz ⊢
        have hx5 := sz _ _ hx4
        refine ⟨_, rfl, r, rfl, ⟨_, SqL.of hx5⟩, fun B2 nB2 => lc_list (K := K) (a := r) (xs := xs) (fun j Hd => Same H5 Hd ∧ Hd B2 = some (.lst ((rs.take j).map fun r => V.int (r.1 : Int)))) ⟨same_new nB2, upd_same⟩ (fun j Hd _ h => SqL.of (h.1 _ _ hx5)) ?_ ?_⟩
        · rintro j x Hd hj ⟨sd, hB2⟩
          obtain ⟨r1, hr3⟩ : ∃ r1, rs[j]? = some r1 := ⟨_, List.getElem?_eq_getElem (by rw [← rl4.1]; exact (List.getElem?_eq_some_iff.mp hj).1)⟩
          obtain ⟨t, et, ht⟩ := rl4.2 j r1 hr3
          rw [hj] at et
          cases et
          refine ⟨rfl, yes_b (if_t ⟨_, rfl, t, _, 0, _, rfl, rfl, SqT.of (sd _ _ (sz _ _ ht)), rfl, _, hB2, ?_, same_put nB2 sd, ?_⟩)⟩
          · rw [List.length_map, List.length_take]
            exact small1000 (by omega)
          · rw [upd_same, take_snoc hr3, List.map_append]
            rfl
        · rintro H6 ⟨s6, hB2⟩
          rw [rl4.1, List.take_length] at hB2
          refine ⟨z1, B2, _, _, rfl, rfl, s6 _ _ hz, hB2, Nat.le_of_lt (small1000 (by rw [List.length_map, List.length_singleton]; omega)), fun l7 n7 => ?_⟩
          have s7 := same_new (o := .lst ([.int 0] ++ rs.map fun r => V.int (r.1 : Int))) n7
          refine ⟨1, rfl, l7, _, _, _, rfl, rfl, SqL.of upd_same, last_num rs, rfl, true, congrArg V.bl (decide_eq_true rfl), if_t ?_⟩
          have c7 : Same H4 _ := (sz.trans s6).trans s7
          obtain ⟨H7, e7⟩ : ∃ H7, upd H6 l7 (.lst ([.int 0] ++ rs.map fun r => V.int (r.1 : Int))) = H7 := ⟨_, rfl⟩
          rw [e7] at c7 ⊢
          have lo7 := lo4.same c7
          have hD7 := c7 _ _ hD4
          obtain ⟨⟨dx7, ha7⟩, _⟩ := id lo7
          refine ⟨_, rfl, _, rfl, a, dx7, _, .type "list", false, rfl, ha7, .base (.lst hD7), nfL, ⟨l, _, g, zs, lo7, sm, .inr ⟨rfl, .inr ⟨D, _, rfl, hD7⟩⟩⟩, fun H8 e8 => ⟨true, rfl, if_t ?_⟩⟩
          have s8 : Same H7 H8 := e8
          have lo8 := lo7.same s8
          obtain ⟨⟨dx8, ha8⟩, _⟩ := id lo8
          refine ⟨_, rfl, _, rfl, a, dx8, _, rfl, ha8, rfl, a, l, zs, _, g, rfl, lo8, by omega, fun z hz => Nat.le_trans (z60 z hz) (by decide), fun H9 s9 => ?_⟩
          have lo9 := lo8.same s9
          obtain ⟨⟨dx9, ha9⟩, _⟩ := id lo9
          exact ⟨a, dx9, _, .type "str", false, rfl, ha9, .base (.str _), nfS, ⟨l, _, g, zs, lo9, sm, .inr ⟨rfl, .inl ⟨_, rfl⟩⟩⟩, fun H10 e10 => q H10 ((s1.trans sc).trans ((s3.trans s4).trans (c7.trans (s8.trans (s9.trans e10)))))⟩
end
end Tg

namespace Tg
open PySem PySem.Spec PyProof.Rows L2
open SX (S)
open TL (numL)
abbrev sTm : Stmt := topS 37
abbrev NTm : List Str := ["_law_log", "_law_rows_here", "_law_begins", "_law_at", "_law_row", "_law_some", "_law_told", "_law_more", "_law_last"]
theorem scTm : FnScope NTm ["_law_log", "_law_rows_here"] (defScope sTm) := ⟨rfl, rfl, rfl, by decide +kernel, rfl, by decide +kernel, by decide +kernel⟩
theorem begP_lt {rs : List Rec3} (ne : rs ≠ []) : begP rs rs.length < rs.length := by
  have pos : 0 < rs.length := List.length_pos_iff.mpr ne
  unfold begP
  rcases mks_last rs rs.length with ⟨e, _⟩ | ⟨ks, i, e, lt, _⟩
  · rw [e]
    exact pos
  · rw [e, List.getLast?_append, List.getLast?_singleton]
    exact lt
theorem lastN_drop (rs : List Rec3) : lastN (rs.drop (begP rs rs.length)) = lastN rs := by
  by_cases e : rs = []
  · rw [e]
    rfl
  · unfold lastN
    rw [List.getLast?_drop, if_neg (by have := begP_lt e; omega)]
theorem RwL.cat {H : Hp} {xs ys : List V} {rs qs : List Rec3} (h : RwL H xs rs) (h' : RwL H ys qs) : RwL H (xs ++ ys) (rs ++ qs) := ⟨by rw [List.length_append, List.length_append, h.1, h'.1], fun i r e => by
  by_cases lt : i < rs.length
  · rw [List.getElem?_append_left lt] at e
    rw [List.getElem?_append_left (by rw [h.1]; exact lt)]
    exact h.2 i r e
  · rw [List.getElem?_append_right (by omega)] at e
    rw [List.getElem?_append_right (by rw [h.1]; omega), h.1]
    exact h'.2 _ r e⟩
/-- rows stand where a log is changed -/
theorem RwL.kl {C : Addr} {H H' : Hp} {a l : Addr} {xs zs : List V} {rs : List Rec3} {n g : Nat} (h : RwL H xs rs) (lo : LgO C H a l zs n g) (k : Kl a l H H') : RwL H' xs rs := ⟨h.1, fun i r e => by
  obtain ⟨t, e1, ht⟩ := h.2 i r e
  obtain ⟨⟨dx, e2⟩, e3⟩ := lo
  refine ⟨t, e1, k t _ (fun z => ?_) (fun z => ?_) ht⟩
  · rw [z, e2] at ht
    cases ht
  · rw [z, e3] at ht
    cases ht⟩
section
variable {P : Program} {w : World} {K : PySem.W.Frag} {mg : Str → Option Value} {base : Heap} {f : Addr} {fd : FuncData} {k : Nat} {C : Addr} {cdv : Value} {A : Around} {outer : List Env} {s : Shared} {H0 : Hp} {E : XK}
/-- the log asked about, and what was made behind it -/
structure TmB (C : Addr) (H1 H : Hp) (a r t l : Addr) (rs : List Rec3) (g : Nat) : Prop where
  lg : LgR C H1 a r rs g
  st : Same H1 H
  nt : H1 t = none
  nl : H1 l = none
def TM7 (C : Addr) : TS := fun D σ H => ∃ (H1 : Hp) (a r t l sA mA : Addr) (rs so mo : List Rec3) (xs ys : List V) (g b : Nat) (v2 v3 v4 v8 : Option V), σ = [some (.ref a), some (.ref r), v2, v3, v4, some (.ref sA), some (.ref t), some (.ref mA), v8] ∧ TmB C H1 H a r t l rs g ∧ LgO C H t l (txts ((so ++ mo).map rln)) (lastN (so ++ mo)) b ∧
  H sA = some (.lst xs) ∧ RwL H xs so ∧ H mA = some (.lst ys) ∧ RwL H ys mo ∧ (so ++ mo).length ≤ 85 ∧ (∀ q, q ∈ so ++ mo → ROk q) ∧ lastN (so ++ mo) ≤ 1000 ∧ ∀ H', Same H1 H' → D.rt (.bl true) H'
theorem tm_7 (hr : Room (k + 1) (A.deeper (envOfC "_law_trimmed" (defScope sTm) s.heap.objs.size f cdv))) (T : TLog K C) (L_rows : Cal P w K mg base k "_law_rows" ["_law_rows_here", "_law_word", "_law_bodies"] spRw) (L_texts : Cal P w K mg base k "_law_texts" ["_law_rows_here"] spTs) (M_mark : CalM P w K mg base k C "mark" ["self", "body"] (spMk C)) (M_trimmed_0 : CalM P w K mg base k C "trimmed" ["self"] (spTr C)) (L_stands : Cal P w K mg base k "_law_stands" ["_law_log", "_law_rows_here"] (spSt C)) :
    PSs (cxOf CX0 P w K mg base NTm "_law_trimmed" (defScope sTm) f cdv A outer s H0 E).nox ((defBody sTm).drop 7) (TM7 C) := by
  have hu := hr.units
  refine pss_by (pss_cons (ps_set (i := 8) scTm.nd rfl (.inl rfl) (pe_cal L_rows (hr.mono (by omega)) (by rfl) (pa_cons (pe_op op_cat (pv 5) (pv 7)) (pa_cons pe_str (pa_cons (pe_lst (pa_cons pe_str pa_nil)) pa_nil)))))
      (pss_cons (ps_if (PW.pt (pw_or (pt_cmpR op_ne (pe_calM (pv 6) T.cl M_mark (hr.mono (by omega)) (pa_cons pe_str pa_nil)) (pe_ix ix_list (pe_cal L_texts (hr.mono (by omega)) (by rfl) (pa_cons (pv 8) pa_nil)) pe_int (fun _ _ => rfl)) (nomark _)) (pw_or1 (pt_not (pt_val (pe_cal L_stands (hr.mono (by omega)) (by rfl) (pa_cons (pe_calM0 (pv 6) T.cl M_trimmed_0 (hr.mono (by omega))) (pa_cons (pv 8) pa_nil))))))))
        (pss_one (ps_ret pe_bl))
        pss_nil)
      (pss_one (ps_ret (pe_cal L_stands (hr.mono (by omega)) (by rfl) (pa_cons (pv 0) (pa_cons (pv 1) pa_nil))))))) ?_
  rintro D σ H ⟨H1, a, r, t, l, sA, mA, rs, so, mo, xs, ys, g, b, v2, v3, v4, v8, rfl, B, lo, hs, rls, hm, rlm, l85, ok, n1, q⟩
  have xl : xs.length + ys.length = (so ++ mo).length := by rw [rls.1, rlm.1, List.length_append]
  refine ⟨_, rfl, _, rfl, sA, mA, xs, ys, rfl, rfl, hs, hm, Nat.le_of_lt (small1000 (by omega)), fun cA nc => ?_⟩
  have sc := same_new (o := .lst (xs ++ ys)) nc
  obtain ⟨H2, e2⟩ : ∃ H2, upd H cA (.lst (xs ++ ys)) = H2 := ⟨_, rfl⟩
  have hc : H2 cA = some (.lst (xs ++ ys)) := by rw [← e2]; exact upd_same
  rw [e2] at sc ⊢
  refine ⟨(by show 1 ≤ sizeLine; decide), fun bA nb => ?_⟩
  have sb := same_new (o := .lst [V.str (Str.ofString "c")]) nb
  obtain ⟨H3, e3⟩ : ∃ H3, upd H2 bA (.lst [V.str (Str.ofString "c")]) = H3 := ⟨_, rfl⟩
  have hb : H3 bA = some (.lst (txts [[99]])) := by rw [← e3]; exact upd_same
  rw [e3] at sb ⊢
  have rlc : RwL H3 (xs ++ ys) (so ++ mo) := ((rls.cat rlm).same sc).same sb
  refine ⟨cA, bA, _, so ++ mo, "mark", [[99]], rfl, sb _ _ hc, rlc, by omega, by omega, hb, .inr ⟨[99], rfl, .inl rfl⟩, fun lA zs H4 s4 nlA hlA rlA => ?_⟩
  rw [show deR "mark" (lastN (so ++ mo)) [[99]] = [(lastN (so ++ mo), 61, [99])] from if_pos rfl] at rlA
  obtain ⟨n, en⟩ : ∃ n, lastN (so ++ mo) = n := ⟨_, rfl⟩
  have c4 : Same H H4 := (sc.trans sb).trans s4
  have lo4 := lo.same c4
  rw [en] at rlA lo4 n1
  obtain ⟨⟨dx, ht⟩, hl⟩ := id lo4
  refine ⟨_, rfl, t, dx, _, rfl, ht, rfl, t, l, _, n, b, [99], rfl, lo4, by rw [txts_len, List.length_map]; omega, by omega, by decide, by decide, fun H5 k5 lo5 => ?_⟩
  have lt_ : lA ≠ t := fun z => by
    rw [z, ht] at hlA
    cases hlA
  have ll_ : lA ≠ l := fun z => by
    have h3 := (sc.trans sb) _ _ lo.2
    rw [z, h3] at nlA
    cases nlA
  have hlA5 := k5 _ _ lt_ ll_ hlA
  have rlA5 := rlA.kl lo4 k5
  have okl : ROk (n, 61, [99]) := ⟨by show n < 10 ^ 12; omega, .inr (.inr rfl), rfl, (by show 1 ≤ 24; decide)⟩
  refine ⟨_, rfl, lA, zs, _, rfl, hlA5, rlA5, (by show 1 ≤ 90; decide), fun q hq => ?_, fun D6 H6 s6 nD6 hD6 => ?_⟩
  · cases List.mem_singleton.mp hq
    exact okl
  have tx0 : (txts ([(n, 61, [99])].map rln))[0]? = some (.str (S (line n 61 [99]))) := rfl
  refine ⟨D6, _, 0, _, rfl, rfl, SqL.of hD6, atI_nat (j := 0) tx0, rfl, false, congrArg V.bl (by rw [decide_eq_true rfl]; rfl), if_f ?_⟩
  have lo6 := lo5.same s6
  obtain ⟨⟨dx6, ht6⟩, _⟩ := id lo6
  have len : (txts ((so ++ mo).map rln)).length = (so ++ mo).length := by rw [txts_len, List.length_map]
  refine ⟨_, rfl, t, dx6, _, rfl, ht6, rfl, t, l, _, n, _, rfl, lo6, by rw [List.length_append]; exact Nat.le_add_right _ _, fun t2 l2 H7 s7 nt2 nl2 lo7 => ?_⟩
  rw [List.drop_left] at lo7
  have c7 : Same H5 H7 := s6.trans s7
  refine ⟨_, rfl, t2, lA, [(n, 61, [99])], 0, rfl, ⟨⟨l2, lo7⟩, ⟨zs, c7 _ _ hlA5, rlA5.same c7⟩, (by show 1 ≤ 80; decide), fun q hq => ?_⟩, fun H8 s8 => ⟨true, rfl, if_f ?_⟩⟩
  · cases List.mem_singleton.mp hq
    exact okl
  have st8 : Same H1 H8 := ((k5.same (B.st.trans c4) B.nt B.nl).trans c7).trans s8
  exact ⟨_, rfl, _, rfl, a, r, rs, g, rfl, B.lg.same st8, fun H9 s9 => q H9 (st8.trans s9)⟩
abbrev twoB : List (List Nat) := [[97], [32, 98]]
def TM5 (C : Addr) : TS := fun D σ H => ∃ (H1 : Hp) (a r t l sA : Addr) (rs so : List Rec3) (xs : List V) (g b : Nat) (v2 v3 v4 v7 v8 : Option V), σ = [some (.ref a), some (.ref r), v2, v3, v4, some (.ref sA), some (.ref t), v7, v8] ∧ TmB C H1 H a r t l rs g ∧ LgO C H t l (txts (so.map rln)) (lastN so) b ∧
  H1 sA = some (.lst xs) ∧ RwL H xs so ∧ so.length ≤ 76 ∧ (∀ q, q ∈ so → ROk q) ∧ lastN so ≤ 900 ∧ ∀ H', Same H1 H' → D.rt (.bl true) H'
theorem tm_5 (hr : Room (k + 1) (A.deeper (envOfC "_law_trimmed" (defScope sTm) s.heap.objs.size f cdv))) (T : TLog K C) (L_rows : Cal P w K mg base k "_law_rows" ["_law_rows_here", "_law_word", "_law_bodies"] spRw) (L_texts : Cal P w K mg base k "_law_texts" ["_law_rows_here"] spTs) (M_bundle : CalM P w K mg base k C "bundle" ["self", "bodies"] (spBu C)) (L_stands : Cal P w K mg base k "_law_stands" ["_law_log", "_law_rows_here"] (spSt C))
    (tail : PSs (cxOf CX0 P w K mg base NTm "_law_trimmed" (defScope sTm) f cdv A outer s H0 E).nox ((defBody sTm).drop 7) (TM7 C)) :
    PSs (cxOf CX0 P w K mg base NTm "_law_trimmed" (defScope sTm) f cdv A outer s H0 E).nox ((defBody sTm).drop 5) (TM5 C) := by
  have hu := hr.units
  refine pss_by (pss_cons (ps_set (i := 7) scTm.nd rfl (.inl rfl) (pe_cal L_rows (hr.mono (by omega)) (by rfl) (pa_cons (pv 5) (pa_cons pe_str (pa_cons (pe_lst (pa_cons pe_str (pa_cons pe_str pa_nil))) pa_nil)))))
      (pss_cons (ps_if (PW.pt (pw_or (pt_cmpR (op_neD hu) (pe_calM (pv 6) T.cl M_bundle (hr.mono (by omega)) (pa_cons (pe_lst (pa_cons pe_str (pa_cons pe_str pa_nil))) pa_nil)) (pe_cal L_texts (hr.mono (by omega)) (by rfl) (pa_cons (pv 7) pa_nil)) (nomark _)) (pw_or1 (pt_not (pt_val (pe_cal L_stands (hr.mono (by omega)) (by rfl) (pa_cons (pv 6) (pa_cons (pe_op op_cat (pv 5) (pv 7)) pa_nil))))))))
        (pss_one (ps_ret pe_bl))
        pss_nil)
      tail)) ?_
  rintro D σ H ⟨H1, a, r, t, l, sA, rs, so, xs, g, b, v2, v3, v4, v7, v8, rfl, B, lo, hs1, rls, l76, ok, n9, q⟩
  have hs := B.st _ _ hs1
  obtain ⟨n, en⟩ : ∃ n, lastN so = n := ⟨_, rfl⟩
  have bl : twoB.length = 2 := rfl
  refine ⟨_, rfl, (by show 2 ≤ sizeLine; decide), fun bA nb => ?_⟩
  have sb := same_new (o := .lst [V.str (Str.ofString "a"), V.str (Str.ofString " b")]) nb
  obtain ⟨H2, e2⟩ : ∃ H2, upd H bA (.lst [V.str (Str.ofString "a"), V.str (Str.ofString " b")]) = H2 := ⟨_, rfl⟩
  have hb : H2 bA = some (.lst (txts twoB)) := by rw [← e2]; exact upd_same
  rw [e2] at sb ⊢
  refine ⟨sA, bA, xs, so, "bundle", twoB, rfl, sb _ _ hs, rls.same sb, by omega, by omega, hb, .inl ⟨rfl, (by show 2 ≤ 4; decide)⟩, fun mA ys H3 s3 nm hm rlm => ?_⟩
  rw [show deR "bundle" (lastN so) twoB = brows (lastN so) twoB from if_neg (by decide)] at rlm
  have ln := lastN_brows so twoB
  rw [bl] at ln
  have okb : ∀ q, q ∈ brows (lastN so) twoB → ROk q := fun q hq => by
    obtain ⟨i, c, hc, rfl⟩ := brows_mem hq
    have il : i < 2 := (List.getElem?_eq_some_iff.mp hc).1
    have hc2 : c ∈ twoB := List.mem_of_getElem? hc
    refine ⟨by show lastN so + 1 + i < 10 ^ 12; omega, ?_, ?_, ?_⟩
    · show sgn (if i + 1 = twoB.length then 46 else 43)
      split
      · exact .inl rfl
      · exact .inr (.inl rfl)
    · rcases List.mem_cons.mp hc2 with rfl | h
      · rfl
      · rw [List.mem_singleton.mp h]
        rfl
    · rcases List.mem_cons.mp hc2 with rfl | h
      · show 1 ≤ 24
        decide
      · rw [List.mem_singleton.mp h]
        show 2 ≤ 24
        decide
  have mol : (brows (lastN so) twoB).length = 2 := brows_len _ _
  obtain ⟨mo, em⟩ : ∃ mo, brows (lastN so) twoB = mo := ⟨_, rfl⟩
  rw [em] at rlm ln okb mol
  have c3 := sb.trans s3
  have lo3 := lo.same c3
  obtain ⟨⟨dx, ht⟩, hl⟩ := id lo3
  refine ⟨_, rfl, t, dx, _, rfl, ht, rfl, (by show 2 ≤ sizeLine; decide), fun b2 nb2 => ?_⟩
  have sb2 := same_new (o := .lst [V.str (Str.ofString "a"), V.str (Str.ofString " b")]) nb2
  obtain ⟨H4, e4⟩ : ∃ H4, upd H3 b2 (.lst [V.str (Str.ofString "a"), V.str (Str.ofString " b")]) = H4 := ⟨_, rfl⟩
  have hb4 : H4 b2 = some (.lst (txts twoB)) := by rw [← e4]; exact upd_same
  rw [e4] at sb2 ⊢
  have lo4 := lo3.same sb2
  refine ⟨t, l, b2, _, lastN so, b, twoB, rfl, lo4, hb4, by rw [txts_len, List.length_map]; omega, by rw [bl]; omega, by rw [bl]; omega, fun c hc => ?_, fun D5 H5 k5 nD5 hD5 lo5 => ?_⟩
  · rcases List.mem_cons.mp hc with rfl | h
    · exact ⟨(by show 1 ≤ 300; decide), rfl⟩
    · rw [List.mem_singleton.mp h]
      exact ⟨(by show 2 ≤ 300; decide), rfl⟩
  rw [em] at hD5 lo5
  have okm : ∀ q, q ∈ so ++ mo → ROk q := fun q hq => by
    obtain hq | hq := List.mem_append.mp hq
    · exact ok q hq
    · exact okb q hq
  have sol : (so ++ mo).length = so.length + 2 := by rw [List.length_append, mol]
  have lo5' : LgO C H5 t l (txts ((so ++ mo).map rln)) (lastN (so ++ mo)) b := by
    rw [bl] at lo5
    rw [ln, List.map_append, ← txts_cat]
    exact lo5
  have tx : t ≠ mA := fun z => by
    rw [← z, ht] at hm
    cases hm
  have lx : l ≠ mA := fun z => by
    have z2 := sb _ _ lo.2
    rw [z, nm] at z2
    cases z2
  have tsA : t ≠ sA := fun z => by
    have nt := B.nt
    rw [z, hs1] at nt
    cases nt
  have hs4 := (c3.trans sb2) _ _ hs
  have hm4 := sb2 _ _ hm
  have rls4 := (rls.same c3).same sb2
  have rlm4 := rlm.same sb2
  have lsA : l ≠ sA := fun z => by
    have nl := B.nl
    rw [z, hs1] at nl
    cases nl
  have hs5 := k5 _ _ tsA.symm lsA.symm hs4
  have hm5 := k5 _ _ tx.symm lx.symm hm4
  have rls5 := rls4.kl lo4 k5
  have rlm5 := rlm4.kl lo4 k5
  have sm : Sml (mo.map rln) := rows_sml okb
  have sh := tdat_shaped sm
  refine ⟨_, rfl, mA, ys, mo, rfl, hm5, rlm5, by omega, okb, fun D6 H6 s6 nD6 hD6 => ?_⟩
  refine ⟨.list (tdat (mo.map rln)), .list (tdat (mo.map rln)), .lst (SqL.of (s6 _ _ hD5)) (dp_txts _), .lst (SqL.of hD6) (dp_txts _), sh, sh, false, congrArg V.bl ?_, if_f ?_⟩
  · show (!PyData.eqvAll (tdat (mo.map rln)) (tdat (mo.map rln))) = false
    rw [tdat_eqv, decide_eq_true rfl]
    rfl
  have lo6 := lo5'.same s6
  have hs6 := s6 _ _ hs5
  have hm6 := s6 _ _ hm5
  have xl : xs.length + ys.length = (so ++ mo).length := by rw [rls.1, rlm.1, List.length_append]
  refine ⟨_, rfl, _, rfl, _, rfl, sA, mA, xs, ys, rfl, rfl, hs6, hm6, Nat.le_of_lt (small1000 (by omega)), fun cA nc => ?_⟩
  have sc := same_new (o := .lst (xs ++ ys)) nc
  refine ⟨t, cA, so ++ mo, b, rfl, ⟨⟨l, lo6.same sc⟩, ⟨_, upd_same, ((rls5.cat rlm5).same s6).same sc⟩, by omega, okm⟩, fun H7 s7 => ⟨true, rfl, if_f ?_⟩⟩
  have c7 : Same H5 H7 := (s6.trans sc).trans s7
  exact ⟨H1, a, r, t, l, sA, mA, rs, so, mo, xs, ys, g, b, _, _, _, _, rfl, ⟨B.lg, (k5.same (B.st.trans (c3.trans sb2)) B.nt B.nl).trans c7, B.nt, B.nl⟩, lo5'.same c7, c7 _ _ hs5, rls5.same c7, c7 _ _ hm5, rlm5.same c7, by omega, okm, by omega, q⟩
end
section
variable {P : Program} {w : World} {K : PySem.W.Frag} {mg : Str → Option Value} {base : Heap} {f : Addr} {fd : FuncData} {k : Nat} {C : Addr}
def spTm (C : Addr) : Sp := fun vs H Q _ => ∃ (a r : Addr) (rs : List Rec3), vs = [.ref a, .ref r] ∧ LgR C H a r rs (begP rs rs.length) ∧ rs.length ≤ 70 ∧ lastN rs ≤ 800 ∧ ∀ H', Same H H' → Q (.bl true) H'
theorem ok_tm {fE : Addr} {fdE : FuncData} (F : Fun K "_law_trimmed" "_law_trimmed" sTm f fd) (T : TLog K C) (TI : TIns K C) (L_rows : Cal P w K mg base k "_law_rows" ["_law_rows_here", "_law_word", "_law_bodies"] spRw) (L_texts : Cal P w K mg base k "_law_texts" ["_law_rows_here"] spTs) (M_bundle : CalM P w K mg base k C "bundle" ["self", "bodies"] (spBu C)) (M_mark : CalM P w K mg base k C "mark" ["self", "body"] (spMk C)) (M_trimmed_0 : CalM P w K mg base k C "trimmed" ["self"] (spTr C)) (L_stands : Cal P w K mg base k "_law_stands" ["_law_log", "_law_rows_here"] (spSt C))
    (FE : FnOk P w K mg base CX0 k fE fdE ["self", "other"] (spEqB (LogR C))) (hs : PySem.W.findIn K (.ref C) "__eq__" = some (some (.ref fE))) (hf : PySem.W.isFn K (.ref fE) = true) (hbE : Binds K fdE ["self", "other"] []) (m_len : mg "len" = none) (m_enumerate : mg "enumerate" = none) : FnOk P w K mg base CX0 (k + 2) f fd ["_law_log", "_law_rows_here"] (spTm C) := by
  refine F.ok scTm (fun vs H Q E h => ?_) (fun cdv A outer s H vs Q E hr h => ?_)
  · obtain ⟨a, r, rs, rfl, _⟩ := h
    rfl
  · obtain ⟨a, r, rs, rfl, lg, r70, n8, q⟩ := h
    have hu := hr.units
    have tail := tm_5 (P := P) (w := w) (K := K) (mg := mg) (base := base) (f := f) (cdv := cdv) (A := A) (outer := outer) (s := s) (H0 := H) (E := E) hr T L_rows L_texts M_bundle L_stands (tm_7 hr T L_rows L_texts M_mark M_trimmed_0 L_stands)
    refine ⟨_, pss_cons (ps_setLc (i := 2) (own := [("_law_at", 3), ("_law_row", 4)]) (g := gTup K 2 _) rfl scTm.nd rfl rfl (sw_true rfl rfl rfl (by decide +kernel)) (pi_enum (by rfl) m_enumerate (pa_cons (pv 1) pa_nil)) (blkOk_by (own := [("_law_at", 3), ("_law_row", 4)]) (N := NTm) (sc := defScope sTm) (by decide +kernel)) (fun _ _ _ _ _ => (pg_tup rfl (pgs_cons (pg_name (i := 3) scTm.nd rfl (.inl rfl)) (pgs_cons (pg_name (i := 4) scTm.nd rfl (.inl rfl)) pgs_nil)))) (fun _ _ _ _ _ => pts_one (pt_cmpR op_eq (pe_ix (r := rIxT K) ix_tup (pv 4) pe_int (fun _ _ => rfl)) pe_str (nomark _))) (fun _ _ _ _ _ => (pv 3)))
      (pss_cons (ps_set (i := 5) scTm.nd rfl (.inl rfl) (pe_slice sl_list (pv 1) (po_some (pe_ix ix_list (pe_op op_cat (pe_lst (pa_cons pe_int pa_nil)) (pv 2)) (pe_un un_neg pe_int) (fun _ _ => rfl))) po_none))
      (pss_cons (ps_set (i := 6) scTm.nd rfl (.inl rfl) (pe_calM0 (pv 0) T.cl M_trimmed_0 (hr.mono (by omega))))
      (pss_cons (ps_if (PW.pt (pw_or (pt_not (pt_val (pe_cal L_stands (hr.mono (by omega)) (by rfl) (pa_cons (pv 6) (pa_cons (pv 5) pa_nil))))) (pw_or1 (pt_not (pt_val (pe_cal L_stands (hr.mono (by omega)) (by rfl) (pa_cons (pe_calM0 (pv 6) T.cl M_trimmed_0 (hr.mono (by omega))) (pa_cons (pv 5) pa_nil))))))))
        (pss_one (ps_ret pe_bl))
        pss_nil)
      (pss_cons (ps_if (pt_cmpR op_ne (pe_cmpR (op_eqB FE hs hf hbE pass0 (hr.mono (by omega))) (pv 6) (pv 0) (nomark _)) (pe_cmpR op_eq (pe_callB call_len_seq (by rfl) m_len (by decide +kernel) (pa_cons (pv 5) pa_nil)) (pe_callB call_len_seq (by rfl) m_len (by decide +kernel) (pa_cons (pv 1) pa_nil)) (nomark _)) (nomark _))
        (pss_one (ps_ret pe_bl))
        pss_nil)
      tail)))), ?_⟩
    obtain ⟨⟨l, lo⟩, ⟨xs, hx, rl⟩, r80, ok⟩ := id lg
    refine ⟨_, rfl, r, _, rfl, SqL.of hx, fun B nB => lc_it (walk_enum (K := K) (a := r) (xs := xs)) (fun i Hd => Same H Hd ∧ Hd B = some (.lst (ints_of (mks rs i)))) ⟨same_new nB, upd_same⟩ (fun j Hd _ h => SqL.of (h.1 _ _ hx)) ?_ ?_⟩
    · rintro j x Hd Hd' hj ⟨sc, hB⟩ ⟨W, i0, x0, rfl, nW, rfl, f1, f2⟩
      cases f1
      obtain ⟨q1, hq⟩ : ∃ q1, rs[j]? = some q1 := ⟨_, List.getElem?_eq_getElem (by rw [← rl.1]; exact hj)⟩
      obtain ⟨t1, e2, ht1⟩ := rl.2 j q1 hq
      have f3 : xs[j]? = some x0 := f2
      rw [f3] at e2
      cases e2
      have sW := same_new (o := .tup [.int (j : Nat), .ref t1]) nW
      have iM : isM rs j = decide (q1.2.1 = 61) := by
        unfold isM
        rw [hq]
      have e3 : decide (V.str (S [q1.2.1]) = V.str (Str.ofString "=")) = isM rs j := (sg_eq q1.2.1 61).trans iM.symm
      refine ⟨W, _, rfl, SqT.of upd_same, rfl, _, _, rfl, _, _, rfl, rfl, rfl, ?_⟩
      refine ⟨_, rfl, t1, _, 1, _, rfl, rfl, SqT.of (sW _ _ (sc _ _ ht1)), rfl, rfl, isM rs j, congrArg V.bl e3, ?_⟩
      rw [mks_succ]
      cases hM : isM rs j with
      | true =>
        refine if_t ⟨_, rfl, _, sW _ _ hB, ?_, same_put nB (sc.trans sW), ?_⟩
        · show (List.map _ _).length < _
          rw [List.length_map]
          have := mks_len rs j
          have := rl.1
          exact small1000 (by omega)
        · rw [upd_same, if_pos rfl]
          unfold ints_of
          rw [List.map_append]
          rfl
      | false =>
        refine if_f ⟨sc.trans sW, ?_⟩
        rw [if_neg (by decide), List.append_nil]
        exact sW _ _ hB
    · rintro H5 ⟨s5, hB⟩
      rw [rl.1] at hB
      refine ⟨_, rfl, (by show 1 ≤ sizeLine; decide), fun z6 nz6 => ?_⟩
      have s6 := same_new (o := .lst [.int 0]) nz6
      have ml := mks_len rs rs.length
      refine ⟨_, rfl, z6, B, _, _, rfl, rfl, upd_same, s6 _ _ hB, Nat.le_of_lt (small1000 (by show 1 + (List.map _ _).length ≤ _; rw [List.length_map]; omega)), fun l7 n7 => ?_⟩
      have s7 := same_new (o := .lst ([.int 0] ++ ints_of (mks rs rs.length))) n7
      have c7 := (s5.trans s6).trans s7
      obtain ⟨H7, e7⟩ : ∃ H7, upd (upd H5 z6 (.lst [.int 0])) l7 (.lst ([.int 0] ++ ints_of (mks rs rs.length))) = H7 := ⟨_, rfl⟩
      have h7 : H7 l7 = some (.lst ([.int 0] ++ ints_of (mks rs rs.length))) := by
        rw [← e7]
        exact upd_same
      rw [e7] at c7 ⊢
      have bi := begP_is rs rs.length
      have ld := lastN_drop rs
      have bne : rs ≠ [] → begP rs rs.length < rs.length := begP_lt
      refine ⟨1, rfl, l7, _, _, _, rfl, rfl, SqL.of h7, last_beg rs rs.length, (begP rs rs.length : Int), rfl, r, xs, rfl, SqL.of (c7 _ _ hx), fun sA n8 => ?_⟩
      obtain ⟨b, eb⟩ : ∃ b, begP rs rs.length = b := ⟨_, rfl⟩
      rw [eb] at bi ld bne lo lg ⊢
      rw [cutV_fromG]
      have s8 := same_new (o := .lst (xs.drop b)) n8
      obtain ⟨H8, e8⟩ : ∃ H8, upd H7 sA (.lst (xs.drop b)) = H8 := ⟨_, rfl⟩
      have hs8 : H8 sA = some (.lst (xs.drop b)) := by rw [← e8]; exact upd_same
      rw [e8] at s8 ⊢
      have c8 := c7.trans s8
      have lg8 := lg.same c8
      have rls8 : RwL H8 (xs.drop b) (rs.drop b) := (rl.drop b).same c8
      have lo8 := lo.same c8
      obtain ⟨⟨dx, ha⟩, _⟩ := id lo8
      have el : (txts (rs.map rln)).length = rs.length := by rw [txts_len, List.length_map]
      refine ⟨_, rfl, a, dx, _, rfl, ha, rfl, a, l, _, _, b, rfl, lo8, by rw [el]; exact bi.1, fun t l2 H9 s9 nt nl lo9 => ?_⟩
      rw [txts_drop, ← List.map_drop, ← ld] at lo9
      obtain ⟨so, eso⟩ : ∃ so, rs.drop b = so := ⟨_, rfl⟩
      have sol : so.length = rs.length - b := by rw [← eso, List.length_drop]
      have okS : ∀ q1, q1 ∈ so → ROk q1 := fun q1 h1 => ok q1 (List.mem_of_mem_drop (by rw [eso]; exact h1))
      rw [eso] at lo9 rls8 ld
      have lgS : LgR C H9 t sA so 0 := ⟨⟨l2, lo9⟩, ⟨_, s9 _ _ hs8, rls8.same s9⟩, by omega, okS⟩
      refine ⟨_, rfl, _, rfl, t, sA, so, 0, rfl, lgS, fun H10 s10 => ⟨true, rfl, if_f ?_⟩⟩
      have lo10 := lo9.same s10
      obtain ⟨⟨dt, ht10⟩, _⟩ := id lo10
      refine ⟨_, rfl, t, dt, _, rfl, ht10, rfl, t, l2, _, _, 0, rfl, lo10, Nat.zero_le _, fun t3 l3 H11 s11 _ _ lo11 => ?_⟩
      rw [List.drop_zero] at lo11
      have lg10 := lgS.same (s10.trans s11)
      refine ⟨_, rfl, t3, sA, so, 0, rfl, ⟨⟨l3, lo11⟩, lg10.hr, lg10.r80, lg10.ok⟩, fun H12 s12 => ⟨true, rfl, if_f ?_⟩⟩
      have c12 : Same H9 H12 := (s10.trans s11).trans s12
      have lo12 := lo9.same c12
      have loA12 := lo8.same (s9.trans c12)
      obtain ⟨⟨dt2, ht12⟩, _⟩ := id lo12
      obtain ⟨⟨dx2, ha12⟩, _⟩ := id loA12
      refine ⟨_, rfl, _, rfl, t, dt2, _, .ref C, decide (so.map rln = rs.map rln), rfl, ht12, .base (.ins ha12 T.cl TI.cc TI.get TI.takes TI.obj), by simp [PySem.W.notFirst], ⟨l2, _, 0, _, lo12, rows_sml okS, .inl ⟨a, l, _, b, _, rfl, loA12, rows_sml ok, rfl⟩⟩, fun H13 e13 => ?_⟩
      have s13 : Same H12 H13 := e13
      have hsA : H13 sA = some (.lst (xs.drop b)) := s13 _ _ (c12 _ _ (s9 _ _ hs8))
      have hr13 : H13 r = some (.lst xs) := s13 _ _ (c12 _ _ (s9 _ _ (c8 _ _ hx)))
      have xs1 : (xs.drop b).length = so.length := by rw [List.length_drop, rl.1, sol]
      have eqs : decide (so.map rln = rs.map rln) = decide (V.int ((xs.drop b).length : Int) = V.int (xs.length : Int)) := by
        rw [int_eq, xs1, rl.1]
        by_cases e : so.length = rs.length
        · have z : so = rs := by
            by_cases re : rs = []
            · rw [← eso, re, List.drop_nil]
            · have := bne re
              have b0 : b = 0 := by omega
              rw [← eso, b0, List.drop_zero]
          rw [z, decide_eq_true rfl, decide_eq_true rfl]
        · rw [decide_eq_false e, decide_eq_false fun z => e (by
            have := congrArg List.length z
            rw [List.length_map, List.length_map] at this
            exact this)]
      refine ⟨_, rfl, sA, _, rfl, .inl (SqL.of hsA), _, rfl, r, _, rfl, .inl (SqL.of hr13), rfl, rfl, false, congrArg V.bl ?_, if_f ?_⟩
      · rw [eqs, decide_eq_true rfl]
        rfl
      exact ⟨H8, a, r, t, l2, sA, rs, so, xs.drop b, b, 0, _, _, _, _, _, rfl, ⟨lg8, (s9.trans c12).trans s13, nt, nl⟩, lo12.same s13, hs8, rls8.same ((s9.trans c12).trans s13), by omega, okS, by rw [ld]; omega, fun H' s' => q H' (c8.trans s')⟩
end
end Tg

namespace Tg
open PySem PySem.Spec PyProof.Rows L2
open SX (S)
open TL (numL)
theorem line_inj {n n' sg sg' : Nat} {b b' : List Nat} (hs : sgn sg) (hs' : sgn sg') (h : line n sg b = line n' sg' b') : n = n' ∧ sg = sg' ∧ b = b' := by
  rw [line_eq, line_eq n'] at h
  obtain ⟨e1, e2⟩ := cut1 (head_no (sgn_ne hs)) (head_no (sgn_ne hs')) h
  obtain ⟨e3, e4⟩ := snoc_inj e1
  obtain ⟨_, e5⟩ := cut1 (no_blank_num _) (no_blank_num _) e2
  exact ⟨TL.numL_inj e3, e4, (cut9 (no_blank_num _) (no_blank_num _) e5).1⟩
theorem isM_app {rs nr : List Rec3} {i : Nat} (h : i < rs.length) : isM (rs ++ nr) i = isM rs i := by
  unfold isM
  rw [List.getElem?_append_left h]
theorem mks_app (rs nr : List Rec3) : mks (rs ++ nr) rs.length = mks rs rs.length := by
  unfold mks
  exact List.filter_congr fun i hi => isM_app (List.mem_range.mp hi)
theorem mks_more {rs nr : List Rec3} (no : ∀ r, r ∈ nr → r.2.1 ≠ 61) : ∀ k, k ≤ nr.length → mks (rs ++ nr) (rs.length + k) = mks rs rs.length
  | 0, _ => mks_app rs nr
  | k + 1, h => by
    have ih := mks_more (rs := rs) no k (by omega)
    have e : isM (rs ++ nr) (rs.length + k) = false := by
      obtain ⟨r, hr⟩ : ∃ r, nr[k]? = some r := ⟨_, List.getElem?_eq_getElem (by omega)⟩
      unfold isM
      rw [List.getElem?_append_right (by omega), show rs.length + k - rs.length = k by omega, hr]
      exact decide_eq_false (no r (List.mem_of_getElem? hr))
    rw [show rs.length + (k + 1) = (rs.length + k) + 1 by omega, mks_succ, e, ih, if_neg (by decide), List.append_nil]
theorem begP_app {rs nr : List Rec3} (no : ∀ r, r ∈ nr → r.2.1 ≠ 61) : begP (rs ++ nr) (rs ++ nr).length = begP rs rs.length := by
  unfold begP
  rw [List.length_append, mks_more no nr.length (Nat.le_refl _)]
theorem begP_mark (rs : List Rec3) (n : Nat) (b : List Nat) : begP (rs ++ [(n, 61, b)]) (rs ++ [(n, 61, b)]).length = rs.length := by
  have e : isM (rs ++ [(n, 61, b)]) rs.length = true := by
    unfold isM
    rw [List.getElem?_append_right (Nat.le_refl _), Nat.sub_self]
    exact decide_eq_true rfl
  unfold begP
  rw [List.length_append, List.length_singleton, mks_succ, if_pos e, List.getLast?_append, List.getLast?_singleton]
  rfl
end Tg

namespace Tg
open PySem PySem.Spec PyProof.Rows L2
open SX (S)
open TL (numL)
/-- rows as data -/
def rdat1 (r : Rec3) : PyData := .tuple [.int (r.1 : Int), .str (S [r.2.1]), .str (S r.2.2)]
def rdat (rs : List Rec3) : List PyData := rs.map rdat1
theorem dp_rows {K : PySem.W.Frag} {H : Hp} : ∀ {xs : List V} {rs : List Rec3}, RwL H xs rs → DpAll K H xs (rdat rs)
  | [], [], _ => .nil
  | [], r :: rs, h => nomatch h.1
  | x :: xs, [], h => nomatch h.1
  | x :: xs, r :: rs, h => by
    obtain ⟨t, e, ht⟩ := h.2 0 r rfl
    obtain rfl : x = .ref t := Option.some.inj e
    refine .cons (.tup (SqT.of ht) (.cons (.int _) (.cons (.str _) (.cons (.str _) .nil)))) (dp_rows ⟨Nat.succ.inj h.1, fun i q hq => h.2 (i + 1) q hq⟩)
theorem rdat_lay : ∀ {rs : List Rec3}, (∀ r, r ∈ rs → ROk r) → PyData.canLayAll0 (rdat rs) = true ∧ PyData.depthAll (rdat rs) ≤ 1
  | [], _ => ⟨rfl, Nat.zero_le _⟩
  | r :: rs, h => by
    obtain ⟨h1, h2⟩ := rdat_lay (rs := rs) fun q hq => h q (List.mem_cons_of_mem _ hq)
    have ok := h r (List.mem_cons_self ..)
    have a1 : PyData.strOk (S [r.2.1]) = true := str_S fun c hc => by
      rw [List.mem_singleton.mp hc]
      rcases ok.2.1 with e | e | e <;> rw [e] <;> decide
    have a2 : PyData.strOk (S r.2.2) = true := str_S fun c hc => by
      have := (bok_le ok.2.2.1 c hc).2
      omega
    constructor
    · show ((true && (PyData.strOk (S [r.2.1]) && (PyData.strOk (S r.2.2) && true))) && PyData.canLayAll0 (rdat rs)) = true
      rw [a1, a2, h1]
      rfl
    · show max (max 0 (max 0 (max 0 0)) + 1) (PyData.depthAll (rdat rs)) ≤ 1
      omega
theorem rdat_shaped {rs : List Rec3} (h : ∀ r, r ∈ rs → ROk r) : SeqAt.shaped (.list (rdat rs)) = true := by
  obtain ⟨a, b⟩ := rdat_lay h
  refine shaped_of a ?_
  show PyData.depthAll (rdat rs) + 1 ≤ 64
  omega
theorem rdat1_eqv (r q : Rec3) : PyData.eqv (rdat1 r) (rdat1 q) = decide (r = q) := by
  obtain ⟨n, sg, b⟩ := r
  obtain ⟨n', sg', b'⟩ := q
  show (((n : Int) == (n' : Int)) && ((S [sg] == S [sg']) && ((S b == S b') && true))) = _
  rw [S_beq, S_beq, Bool.and_true]
  by_cases e1 : n = n'
  · by_cases e2 : sg = sg'
    · by_cases e3 : b = b'
      · rw [e1, e2, e3, decide_eq_true rfl, decide_eq_true rfl, decide_eq_true rfl, beq_self_eq_true]
        rfl
      · rw [decide_eq_false e3, Bool.and_false, Bool.and_false, decide_eq_false fun z => e3 (Prod.mk.inj (Prod.mk.inj z).2).2]
    · rw [decide_eq_false fun z : [sg] = [sg'] => e2 (List.cons.inj z).1, Bool.false_and, Bool.and_false, decide_eq_false fun z => e2 (Prod.mk.inj (Prod.mk.inj z).2).1]
  · rw [show ((n : Int) == (n' : Int)) = false from beq_eq_false_iff_ne.mpr fun z => e1 (by omega), Bool.false_and, decide_eq_false fun z => e1 (Prod.mk.inj z).1]
theorem rdat_eqv : ∀ (rs qs : List Rec3), PyData.eqvAll (rdat rs) (rdat qs) = decide (rs = qs)
  | [], [] => rfl
  | [], q :: qs => rfl
  | r :: rs, [] => rfl
  | r :: rs, q :: qs => by
    have ih := rdat_eqv rs qs
    show (PyData.eqv (rdat1 r) (rdat1 q) && PyData.eqvAll (rdat rs) (rdat qs)) = _
    rw [ih, rdat1_eqv]
    by_cases e1 : r = q
    · by_cases e2 : rs = qs
      · rw [e1, e2, decide_eq_true rfl, decide_eq_true rfl, decide_eq_true rfl]
        rfl
      · rw [decide_eq_false e2, Bool.and_false, decide_eq_false fun z => e2 (List.cons.inj z).2]
    · rw [decide_eq_false e1, Bool.false_and, decide_eq_false fun z => e1 (List.cons.inj z).1]
theorem rln_inj {r q : Rec3} (h : ROk r) (h' : ROk q) (e : rln r = rln q) : r = q := by
  obtain ⟨n, sg, b⟩ := r
  obtain ⟨n', sg', b'⟩ := q
  obtain ⟨rfl, rfl, rfl⟩ := line_inj h.2.1 h'.2.1 e
  rfl
theorem rlns_inj : ∀ {rs qs : List Rec3}, (∀ r, r ∈ rs → ROk r) → (∀ r, r ∈ qs → ROk r) → rs.map rln = qs.map rln → rs = qs
  | [], [], _, _, _ => rfl
  | [], q :: qs, _, _, e => nomatch e
  | r :: rs, [], _, _, e => nomatch e
  | r :: rs, q :: qs, h, h', e => by
    obtain ⟨e1, e2⟩ := List.cons.inj e
    rw [rln_inj (h r (List.mem_cons_self ..)) (h' q (List.mem_cons_self ..)) e1, rlns_inj (fun x hx => h x (List.mem_cons_of_mem _ hx)) (fun x hx => h' x (List.mem_cons_of_mem _ hx)) e2]
theorem rlns_eq {rs qs : List Rec3} (h : ∀ r, r ∈ rs → ROk r) (h' : ∀ r, r ∈ qs → ROk r) : decide (rs.map rln = qs.map rln) = decide (rs = qs) := by
  by_cases e : rs = qs
  · rw [e, decide_eq_true rfl, decide_eq_true rfl]
  · rw [decide_eq_false e, decide_eq_false fun z => e (rlns_inj h h' z)]
/-- two logs, their rows, and the lists that hold them -/
structure Lw (C : Addr) (H : Hp) (LL RR : Addr) (A L R : Bool → Addr) (X : Bool → List V) (T : Bool → List Rec3) (m : Nat) : Prop where
  hL : H LL = some (.lst [.ref (A false), .ref (A true)])
  hR : H RR = some (.lst [.ref (R false), .ref (R true)])
  o : ∀ c, LgO C H (A c) (L c) (txts ((T c).map rln)) (lastN (T c)) (begP (T c) (T c).length)
  x : ∀ c, H (R c) = some (.lst (X c))
  w : ∀ c, RwL H (X c) (T c)
  ok : ∀ c r, r ∈ T c → ROk r
  n : ∀ c, (T c).length ≤ m ∧ lastN (T c) ≤ m
  aa : A false ≠ A true
  ll : L false ≠ L true
  rl : ∀ c d, R c ≠ L d
  rR : ∀ c, R c ≠ RR
  lR : ∀ c, L c ≠ RR
  lL : ∀ c, L c ≠ LL
  RL : LL ≠ RR
theorem Lw.same {C : Addr} {H H' : Hp} {LL RR : Addr} {A L R : Bool → Addr} {X : Bool → List V} {T : Bool → List Rec3} {m : Nat} (h : Lw C H LL RR A L R X T m) (s : Same H H') : Lw C H' LL RR A L R X T m :=
  ⟨s _ _ h.hL, s _ _ h.hR, fun c => (h.o c).same s, fun c => s _ _ (h.x c), fun c => (h.w c).same s, h.ok, h.n, h.aa, h.ll, h.rl, h.rR, h.lR, h.lL, h.RL⟩
theorem Lw.lg {C : Addr} {H : Hp} {LL RR : Addr} {A L R : Bool → Addr} {X : Bool → List V} {T : Bool → List Rec3} {m : Nat} (h : Lw C H LL RR A L R X T m) (m80 : m ≤ 80) (c : Bool) : LgR C H (A c) (R c) (T c) (begP (T c) (T c).length) :=
  ⟨⟨L c, h.o c⟩, ⟨X c, h.x c, h.w c⟩, Nat.le_trans (h.n c).1 m80, h.ok c⟩
theorem Lw.step {C : Addr} {H H' : Hp} {LL RR : Addr} {A L R : Bool → Addr} {X : Bool → List V} {T : Bool → List Rec3} {m : Nat} (h : Lw C H LL RR A L R X T m) (c : Bool) {cA : Addr} {zs : List V} {mo : List Rec3} (keep : ∀ b o, H b = some o → b ≠ A c → b ≠ L c → b ≠ RR → H' b = some o)
    (lo : LgO C H' (A c) (L c) (txts ((T c ++ mo).map rln)) (lastN (T c ++ mo)) (begP (T c ++ mo) (T c ++ mo).length)) (hc : H' cA = some (.lst zs)) (rlc : RwL H' zs (T c ++ mo)) (hR : H' RR = some (.lst [.ref (if false = c then cA else R false), .ref (if true = c then cA else R true)]))
    (okm : ∀ r, r ∈ mo → ROk r) (n : (T c ++ mo).length ≤ m + 4 ∧ lastN (T c ++ mo) ≤ m + 4) (cR : cA ≠ RR) (cL : ∀ d, cA ≠ L d) : Lw C H' LL RR A L (fun d => if d = c then cA else R d) (fun d => if d = c then zs else X d) (fun d => if d = c then T c ++ mo else T d) (m + 4) := by
  have insN : ∀ d x, H x = some (.lst [.ref (R false), .ref (R true)]) ∨ (∃ ys, H x = some (.lst ys)) → A d ≠ x := fun d x hx z => by
    obtain ⟨⟨dx, e⟩, _⟩ := h.o d
    rw [z] at e
    rcases hx with q | ⟨ys, q⟩ <;> (rw [q] at e; cases e)
  have lstL : ∀ d, ∃ ys, H (L d) = some (.lst ys) := fun d => ⟨_, (h.o d).2⟩
  have other : ∀ d, d ≠ c → A d ≠ A c ∧ L d ≠ L c := fun d hd => by
    cases d <;> cases c
    · exact absurd rfl hd
    · exact ⟨h.aa, h.ll⟩
    · exact ⟨h.aa.symm, h.ll.symm⟩
    · exact absurd rfl hd
  have tup : ∀ t xs, H t = some (.tup xs) → H' t = some (.tup xs) := fun t xs ht => by
    refine keep t _ ht (fun z => ?_) (fun z => ?_) (fun z => ?_)
    · obtain ⟨⟨dx, e⟩, _⟩ := h.o c
      rw [z, e] at ht
      cases ht
    · rw [z, (h.o c).2] at ht
      cases ht
    · rw [z, h.hR] at ht
      cases ht
  refine ⟨keep _ _ h.hL (insN c LL (.inr ⟨_, h.hL⟩)).symm (h.lL c).symm h.RL, hR, fun d => ?_, fun d => ?_, fun d => ?_, fun d r hr => ?_, fun d => ?_, h.aa, h.ll, fun d e => ?_, fun d => ?_, h.lR, h.lL, h.RL⟩
  · by_cases dc : d = c
    · simp only [if_pos dc]
      rw [dc]
      exact lo
    · simp only [if_neg dc]
      obtain ⟨⟨dx, e1⟩, e2⟩ := h.o d
      exact ⟨⟨dx, keep _ _ e1 (other d dc).1 (insN d _ (.inr (lstL c))) (insN d RR (.inl h.hR))⟩, keep _ _ e2 (insN c _ (.inr (lstL d))).symm (other d dc).2 (h.lR d)⟩
  · by_cases dc : d = c
    · simp only [if_pos dc]
      exact hc
    · simp only [if_neg dc]
      exact keep _ _ (h.x d) (insN c _ (.inr ⟨_, h.x d⟩)).symm (h.rl d c) (h.rR d)
  · by_cases dc : d = c
    · simp only [if_pos dc]
      exact rlc
    · simp only [if_neg dc]
      refine ⟨(h.w d).1, fun i r e => ?_⟩
      obtain ⟨t, e1, ht⟩ := (h.w d).2 i r e
      exact ⟨t, e1, tup _ _ ht⟩
  · by_cases dc : d = c
    · simp only [if_pos dc] at hr
      obtain hr | hr := List.mem_append.mp hr
      · exact h.ok c r hr
      · exact okm r hr
    · simp only [if_neg dc] at hr
      exact h.ok d r hr
  · by_cases dc : d = c
    · simp only [if_pos dc]
      exact n
    · simp only [if_neg dc]
      have := h.n d
      omega
  · by_cases dc : d = c
    · simp only [if_pos dc]
      exact cL e
    · simp only [if_neg dc]
      exact h.rl d e
  · by_cases dc : d = c
    · simp only [if_pos dc]
      exact cR
    · simp only [if_neg dc]
      exact h.rR d
/-- what a deed's rows are -/
theorem de_facts {wd : Str} {rs : List Rec3} {bs : List (List Nat)} (dw : DeW wd bs) (n : lastN rs ≤ 1000) (bo : ∀ b, b ∈ bs → b.length ≤ 24 ∧ bok b = true) : (∀ r, r ∈ deR wd (lastN rs) bs → ROk r) ∧ (deR wd (lastN rs) bs).length ≤ 4 ∧ lastN (rs ++ deR wd (lastN rs) bs) = (if wd = "mark" then lastN rs else lastN rs + bs.length) ∧
    begP (rs ++ deR wd (lastN rs) bs) (rs ++ deR wd (lastN rs) bs).length = (if wd = "mark" then (rs.map rln).length else begP rs rs.length) ∧ bs.length ≤ 4 := by
  have b4 : bs.length ≤ 4 := by
    rcases dw with ⟨_, h⟩ | ⟨b, rfl, _⟩
    · exact h
    · show 1 ≤ 4
      decide
  by_cases mk : wd = "mark"
  · rcases dw with ⟨e, _⟩ | ⟨b, rfl, _⟩
    · rw [e] at mk
      exact absurd mk (by decide)
    · have b1 := bo b (List.mem_singleton.mpr rfl)
      rw [show deR wd (lastN rs) [b] = [(lastN rs, 61, b)] from if_pos mk, if_pos mk, if_pos mk]
      refine ⟨fun r hr => ?_, (by show 1 ≤ 4; decide), lastN_snoc rs _, ?_, b4⟩
      · obtain rfl := List.mem_singleton.mp hr
        exact ⟨by show lastN rs < 10 ^ 12; omega, .inr (.inr rfl), b1.2, b1.1⟩
      · rw [begP_mark, List.length_map]
  · rw [show deR wd (lastN rs) bs = brows (lastN rs) bs from if_neg mk, if_neg mk, if_neg mk]
    refine ⟨fun r hr => ?_, by rw [brows_len]; exact b4, lastN_brows rs bs, begP_app fun r hr => ?_, b4⟩
    · obtain ⟨i, d, hd, rfl⟩ := brows_mem hr
      have il := (List.getElem?_eq_some_iff.mp hd).1
      obtain ⟨h1, h2⟩ := bo d (List.mem_of_getElem? hd)
      refine ⟨by show lastN rs + 1 + i < 10 ^ 12; omega, ?_, h2, h1⟩
      show sgn (if i + 1 = bs.length then 46 else 43)
      split
      · exact .inl rfl
      · exact .inr (.inl rfl)
    · obtain ⟨i, d, hd, rfl⟩ := brows_mem hr
      exact sg_ne i _
end Tg

namespace Tg
open PySem PySem.Spec PyProof.Rows L2
open SX (S)
open TL (numL)
abbrev sLaw : Stmt := topS 38
abbrev NLaw : List Str := ["_law_script", "_law_logs", "_law_rows_here", "_law_cell", "_law_purse_here", "_law_at", "_law_word", "_law_bodies", "_law_handed", "_law_more"]
theorem scLaw : FnScope NLaw ["_law_script"] (defScope sLaw) := ⟨rfl, rfl, rfl, by decide +kernel, rfl, by decide +kernel, by decide +kernel⟩
def turnsOf : List Stmt → List Stmt
  | _ :: _ :: .For (body := b) .. :: _ => b
  | _ => []
abbrev bLaw : List Stmt := turnsOf (defBody sLaw)
section
variable {P : Program} {w : World} {K : PySem.W.Frag} {mg : Str → Option Value} {base : Heap} {f : Addr} {fd : FuncData} {k : Nat} {C : Addr} {cdv : Value} {A : Around} {outer : List Env} {s : Shared} {H0 : Hp} {E : XK}
def LB4 (C : Addr) : TS := fun D σ H => ∃ (LL RR : Addr) (A L R : Bool → Addr) (X : Bool → List V) (T : Bool → List Rec3) (m : Nat) (v0 v3 v4 v5 v6 v7 v8 v9 : Option V), σ = [v0, some (.ref LL), some (.ref RR), v3, v4, v5, v6, v7, v8, v9] ∧ Lw C H LL RR A L R X T m ∧ m ≤ 70 ∧ ∀ H', Same H H' → D.nx σ H'
theorem lb_4 {fE : Addr} {fdE : FuncData} (hr : Room (k + 1) (A.deeper (envOfC "law" (defScope sLaw) s.heap.objs.size f cdv))) (T : TLog K C) (TI : TIns K C) (L_stands : Cal P w K mg base k "_law_stands" ["_law_log", "_law_rows_here"] (spSt C)) (FE : FnOk P w K mg base CX0 k fE fdE ["self", "other"] (spEqB (LogR C))) (hs : PySem.W.findIn K (.ref C) "__eq__" = some (some (.ref fE))) (hf : PySem.W.isFn K (.ref fE) = true) (NE : NeC K C fE) (hbE : Binds K fdE ["self", "other"] []) :
    PSs (cxOf CX0 P w K mg base NLaw "law" (defScope sLaw) f cdv A outer s H0 E).nox (bLaw.drop 4) (LB4 C) := by
  have hu := hr.units
  refine pss_by (pss_cons (ps_if (PW.pt (pw_or (pt_not (pt_val (pe_cal L_stands (hr.mono (by omega)) (by rfl) (pa_cons (pe_ix ix_list (pv 1) pe_int (fun _ _ => rfl)) (pa_cons (pe_ix ix_list (pv 2) pe_int (fun _ _ => rfl)) pa_nil))))) (pw_or1 (pt_not (pt_val (pe_cal L_stands (hr.mono (by omega)) (by rfl) (pa_cons (pe_ix ix_list (pv 1) pe_int (fun _ _ => rfl)) (pa_cons (pe_ix ix_list (pv 2) pe_int (fun _ _ => rfl)) pa_nil))))))))
        (pss_one (ps_ret pe_bl))
        pss_nil)
      (pss_one (ps_if (PW.pt (pw_or (pt_cmpR op_ne (pe_cmpR (op_eqB FE hs hf hbE pass0 (hr.mono (by omega))) (pe_ix ix_list (pv 1) pe_int (fun _ _ => rfl)) (pe_ix ix_list (pv 1) pe_int (fun _ _ => rfl)) (nomark _)) (pe_cmpR (op_eqD hu) (pe_ix ix_list (pv 2) pe_int (fun _ _ => rfl)) (pe_ix ix_list (pv 2) pe_int (fun _ _ => rfl)) (nomark _)) (nomark _)) (pw_or1 (pt_cmpR op_ne (pe_cmpR (op_neB FE NE hbE pass0 (hr.mono (by omega))) (pe_ix ix_list (pv 1) pe_int (fun _ _ => rfl)) (pe_ix ix_list (pv 1) pe_int (fun _ _ => rfl)) (nomark _)) (pe_cmpR (op_neD hu) (pe_ix ix_list (pv 2) pe_int (fun _ _ => rfl)) (pe_ix ix_list (pv 2) pe_int (fun _ _ => rfl)) (nomark _)) (nomark _)))))
        (pss_one (ps_ret pe_bl))
        pss_nil))) ?_
  rintro D σ H ⟨LL, RR, A1, L1, R1, X1, T1, m, v0, v3, v4, v5, v6, v7, v8, v9, rfl, lw, m70, q⟩
  have nf : PySem.W.notFirst K C (.ref C) = true := by simp [PySem.W.notFirst]
  have sm : ∀ c, Sml ((T1 c).map rln) := fun c => rows_sml (lw.ok c)
  refine ⟨_, rfl, LL, _, 0, _, rfl, rfl, SqL.of lw.hL, rfl, _, rfl, RR, _, 0, _, rfl, rfl, SqL.of lw.hR, rfl, A1 false, R1 false, T1 false, _, rfl, lw.lg (by omega) false, fun H1 s1 => ⟨true, rfl, if_f ?_⟩⟩
  have lw1 := lw.same s1
  refine ⟨_, rfl, LL, _, 1, _, rfl, rfl, SqL.of lw1.hL, rfl, _, rfl, RR, _, 1, _, rfl, rfl, SqL.of lw1.hR, rfl, A1 true, R1 true, T1 true, _, rfl, lw1.lg (by omega) true, fun H2 s2 => ⟨true, rfl, if_f ?_⟩⟩
  have lw2 := lw1.same s2
  obtain ⟨⟨d0, a0⟩, _⟩ := id (lw2.o false)
  obtain ⟨⟨d1, a1⟩, _⟩ := id (lw2.o true)
  refine ⟨_, rfl, LL, _, 0, _, rfl, rfl, SqL.of lw2.hL, rfl, _, rfl, LL, _, 1, _, rfl, rfl, SqL.of lw2.hL, rfl, A1 false, d0, _, .ref C, decide ((T1 false).map rln = (T1 true).map rln), rfl, a0, .base (.ins a1 T.cl TI.cc TI.get TI.takes TI.obj), nf, ⟨L1 false, _, _, _, lw2.o false, sm false, .inl ⟨A1 true, L1 true, _, _, _, rfl, lw2.o true, sm true, rfl⟩⟩, fun H3 e3 => ?_⟩
  have s3 : Same H2 H3 := e3
  have lw3 := lw2.same s3
  refine ⟨_, rfl, RR, _, 0, _, rfl, rfl, SqL.of lw3.hR, rfl, _, rfl, RR, _, 1, _, rfl, rfl, SqL.of lw3.hR, rfl, .list (rdat (T1 false)), .list (rdat (T1 true)), .lst (SqL.of (lw3.x false)) (dp_rows (lw3.w false)), .lst (SqL.of (lw3.x true)) (dp_rows (lw3.w true)), rdat_shaped (lw.ok false), rdat_shaped (lw.ok true), rfl, false, congrArg V.bl ?_, if_f ?_⟩
  · rw [show PyData.eqv (.list (rdat (T1 false))) (.list (rdat (T1 true))) = decide (T1 false = T1 true) from rdat_eqv _ _, rlns_eq (lw.ok false) (lw.ok true), decide_eq_true rfl]
    rfl
  obtain ⟨⟨d3, b0⟩, _⟩ := id (lw3.o false)
  obtain ⟨⟨d4, b1⟩, _⟩ := id (lw3.o true)
  refine ⟨_, rfl, LL, _, 1, _, rfl, rfl, SqL.of lw3.hL, rfl, _, rfl, LL, _, 0, _, rfl, rfl, SqL.of lw3.hL, rfl, A1 true, d4, _, .ref C, decide ((T1 true).map rln = (T1 false).map rln), rfl, b1, .base (.ins b0 T.cl TI.cc TI.get TI.takes TI.obj), nf, ⟨L1 true, _, _, _, lw3.o true, sm true, .inl ⟨A1 false, L1 false, _, _, _, rfl, lw3.o false, sm false, rfl⟩⟩, fun H4 e4 => ?_⟩
  have s4 : Same H3 H4 := e4
  have lw4 := lw3.same s4
  refine ⟨_, rfl, RR, _, 0, _, rfl, rfl, SqL.of lw4.hR, rfl, _, rfl, RR, _, 1, _, rfl, rfl, SqL.of lw4.hR, rfl, .list (rdat (T1 false)), .list (rdat (T1 true)), .lst (SqL.of (lw4.x false)) (dp_rows (lw4.w false)), .lst (SqL.of (lw4.x true)) (dp_rows (lw4.w true)), rdat_shaped (lw.ok false), rdat_shaped (lw.ok true), rfl, false, congrArg V.bl ?_, if_f ?_⟩
  · have e : decide (T1 true = T1 false) = decide (T1 false = T1 true) := by
      by_cases z : T1 true = T1 false
      · rw [z]
      · rw [decide_eq_false z, decide_eq_false fun y => z y.symm]
    rw [show PyData.eqv (.list (rdat (T1 false))) (.list (rdat (T1 true))) = decide (T1 false = T1 true) from rdat_eqv _ _, rlns_eq (lw.ok true) (lw.ok false), e, decide_eq_true rfl]
    rfl
  exact q H4 (((s1.trans s2).trans s3).trans s4)
/-- what was there ahead of the logs stands -/
structure Lb (H00 H : Hp) (RR : Addr) (A L : Bool → Addr) : Prop where
  s : Same H00 H
  na : ∀ c, H00 (A c) = none
  nl : ∀ c, H00 (L c) = none
  nR : H00 RR = none
theorem Lb.same {H00 H H' : Hp} {RR : Addr} {A L : Bool → Addr} (h : Lb H00 H RR A L) (s : Same H H') : Lb H00 H' RR A L := ⟨h.s.trans s, h.na, h.nl, h.nR⟩
def LB0 (K : PySem.W.Frag) (C : Addr) : TS := fun D σ H => ∃ (H00 : Hp) (sa LL RR : Addr) (ns : List Int) (i : Nat) (A L R : Bool → Addr) (X : Bool → List V) (T : Bool → List Rec3) (m : Nat) (v4 v5 v6 v7 v8 v9 : Option V), σ = [some (.ref sa), some (.ref LL), some (.ref RR), some (.int (i : Int)), v4, v5, v6, v7, v8, v9] ∧ Lw C H LL RR A L R X T m ∧ Lb H00 H RR A L ∧ SqL K H00 sa (ns.map V.int) ∧ ns.length ≤ 63 ∧ i ≤ 900 ∧ m ≤ 64 ∧
  ∀ (R' : Bool → Addr) (X' : Bool → List V) (T' : Bool → List Rec3) (u4 u5 u6 u7 u8 u9 : Option V) (H' : Hp), Lw C H' LL RR A L R' X' T' (m + 4) → Lb H00 H' RR A L → D.nx [some (.ref sa), some (.ref LL), some (.ref RR), some (.int (i : Int)), u4, u5, u6, u7, u8, u9] H'
theorem at_log {xs : Bool → Addr} (c : Bool) : atI [V.ref (xs false), V.ref (xs true)] (if c = true then 1 else 0) = some (.ref (xs c)) := by
  cases c <;> rfl
theorem tdat_nil (bs : List (List Nat)) : PyData.eqv (.list (tdat bs)) (.list []) = bs.isEmpty := by
  cases bs <;> rfl
theorem Lw.more {C : Addr} {H : Hp} {LL RR : Addr} {A L R : Bool → Addr} {X : Bool → List V} {T : Bool → List Rec3} {m m' : Nat} (h : Lw C H LL RR A L R X T m) (le : m ≤ m') : Lw C H LL RR A L R X T m' :=
  ⟨h.hL, h.hR, h.o, h.x, h.w, h.ok, fun c => ⟨Nat.le_trans (h.n c).1 le, Nat.le_trans (h.n c).2 le⟩, h.aa, h.ll, h.rl, h.rR, h.lR, h.lL, h.RL⟩
theorem nbl_of {p : Addr} {H H1 : Hp} {n : Nat} {b : Addr} (s : Kp p H H1) (pu : Pu H1 p n) (h : H1 b = none) : H b = none := none_ofK s pu h
theorem LgO.put {C : Addr} {H : Hp} {a l D : Addr} {xs : List V} {n b : Nat} {o : HO} (h : LgO C H a l xs n b) (da : D ≠ a) (dl : D ≠ l) : LgO C (upd H D o) a l xs n b := by
  obtain ⟨⟨dx, e1⟩, e2⟩ := h
  exact ⟨⟨dx, by rw [upd_ne da.symm]; exact e1⟩, by rw [upd_ne dl.symm]; exact e2⟩
theorem and_if {Rel : Hp → Prop} {b : Bool} {u : TT} {σ : L2.St} {H : Hp} {GA GB : Hp → Prop} (r : Rel H) (hB : ∀ H', Rel H' → GB H') (h : b = true → (∀ H', Rel H' → GB H') → u σ H fun c H' => if c = true then GA H' else GB H') : if b = true then u σ H (fun c H' => if c = true then GA H' else GB H') else (if false = true then GA H else GB H) := by
  cases b with
  | true => exact if_t (h rfl hB)
  | false => exact if_f (if_f (hB H r))
theorem lb_0 (hr : Room (k + 1) (A.deeper (envOfC "law" (defScope sLaw) s.heap.objs.size f cdv))) (L_purse : Cal P w K mg base k "_law_purse" ["_law_script", "_law_at"] (spPurse K)) (L_draw : Cal P w K mg base k "_law_draw" ["_law_purse_here", "_law_out_of"] spDraw) (L_deed : Cal P w K mg base k "_law_deed" ["_law_purse_here", "_law_most"] spDe) (L_refused : Cal P w K mg base k "_law_refused" ["_law_log", "_law_word", "_law_bodies"] (spRf C)) (L_bad : Cal P w K mg base k "_law_bad" ["_law_purse_here", "_law_bodies"] spBad)
    (L_rows : Cal P w K mg base k "_law_rows" ["_law_rows_here", "_law_word", "_law_bodies"] spRw) (L_asked : Cal P w K mg base k "_law_asked" NAs (spAs C)) (L_texts : Cal P w K mg base k "_law_texts" ["_law_rows_here"] spTs) (m_int : mg "int" = none) (m_list : mg "list" = none)
    (tail : PSs (cxOf CX0 P w K mg base NLaw "law" (defScope sLaw) f cdv A outer s H0 E).nox (bLaw.drop 4) (LB4 C)) :
    PSs (cxOf CX0 P w K mg base NLaw "law" (defScope sLaw) f cdv A outer s H0 E).nox bLaw (LB0 K C) := by
  have hu := hr.units
  refine pss_by (pss_cons (ps_set (i := 4) scLaw.nd rfl (.inl rfl) (pe_cal L_purse (hr.mono (by omega)) (by rfl) (pa_cons (pv 0) (pa_cons (pv 3) pa_nil))))
      (pss_cons (ps_set (i := 5) scLaw.nd rfl (.inl rfl) (pe_callTy call_int1 (by rfl) m_int (by decide +kernel) (pa_cons (pe_cmpR op_eq (pe_cal L_draw (hr.mono (by omega)) (by rfl) (pa_cons (pv 4) (pa_cons pe_int pa_nil))) pe_int (nomark _)) pa_nil)))
      (pss_cons (ps_asg (pe_cal L_deed (hr.mono (by omega)) (by rfl) (pa_cons (pv 4) (pa_cons pe_int pa_nil))) (pg_tup rfl (pgs_cons (pg_name (i := 6) scLaw.nd rfl (.inl rfl)) (pgs_cons (pg_name (i := 7) scLaw.nd rfl (.inl rfl)) pgs_nil))))
      (pss_cons (ps_if (PW.pt (pw_and (pt_cmpR (op_neD hu) (pv 7) (pe_lst pa_nil) (nomark _)) (pw_and1 (pt_cmpR op_eq (pe_cal L_draw (hr.mono (by omega)) (by rfl) (pa_cons (pv 4) (pa_cons pe_int pa_nil))) pe_int (nomark _)))))
        (pss_one (ps_if (pt_not (pt_val (pe_cal L_refused (hr.mono (by omega)) (by rfl) (pa_cons (pe_ix ix_list (pv 1) (pv 5) (fun _ _ => rfl)) (pa_cons (pv 6) (pa_cons (pe_cal L_bad (hr.mono (by omega)) (by rfl) (pa_cons (pv 4) (pa_cons (pv 7) pa_nil))) pa_nil))))))
          (pss_one (ps_ret pe_bl))
          pss_nil))
        (pss_cons (ps_set (i := 8) scLaw.nd rfl (.inl rfl) (pe_callTy call_list_of (by rfl) m_list (by decide +kernel) (pa_cons (pv 7) pa_nil)))
        (pss_cons (ps_set (i := 9) scLaw.nd rfl (.inl rfl) (pe_cal L_rows (hr.mono (by omega)) (by rfl) (pa_cons (pe_ix ix_list (pv 2) (pv 5) (fun _ _ => rfl)) (pa_cons (pv 6) (pa_cons (pv 7) pa_nil)))))
        (pss_cons (ps_if (PW.pt (pw_or (pt_cmpR (op_neD hu) (pe_cal L_asked (hr.mono (by omega)) (by rfl) (pa_cons (pe_ix ix_list (pv 1) (pv 5) (fun _ _ => rfl)) (pa_cons (pv 6) (pa_cons (pv 8) pa_nil)))) (pe_cal L_texts (hr.mono (by omega)) (by rfl) (pa_cons (pv 9) pa_nil)) (nomark _)) (pw_or1 (pt_cmpR (op_neD hu) (pv 8) (pv 7) (nomark _)))))
          (pss_one (ps_ret pe_bl))
          pss_nil)
        (pss_cons (ps_expr (pe_bm0 PySem.F.plainAttrs_list PySem.F.slot_list_clear PySem.F.type_list_clear mt_clear (pv 8)))
        (pss_one (ps_asg (pe_op op_cat (pe_ix ix_list (pv 2) (pv 5) (fun _ _ => rfl)) (pv 9)) (pg_sub (pv 2) (pv 5) set_list))))))))
      tail)))) ?_
  rintro D σ H ⟨H00, sa, LL, RR, ns, i, A1, L1, R1, X1, T1, m, v4, v5, v6, v7, v8, v9, rfl, lw, lb, hS, n63, i9, m64, q⟩
  refine ⟨_, rfl, _, rfl, sa, ns, (i : Int), rfl, sqL_same lb.s hS, n63, by omega, by omega, fun p H1 s1 np p1 => ?_⟩
  refine ⟨_, rfl, p, _, 3, rfl, p1, by decide, by decide, by decide, fun v H2 k2 p2 v0 v1 => ⟨rfl, .inr ⟨_, rfl, ?_⟩⟩⟩
  obtain ⟨c, ec⟩ : ∃ c, decide (V.int v = V.int 0) = c := ⟨_, rfl⟩
  rw [ec]
  refine ⟨_, rfl, p, _, 24, rfl, p2, by decide, by decide, fun t bl wd bs H3 k3 p3 nbl ht hbl dw bo => ?_⟩
  refine ⟨t, _, rfl, SqT.of ht, rfl, _, _, rfl, _, _, rfl, rfl, ?_⟩
  have b4 : bs.length ≤ 4 := by
    rcases dw with ⟨_, h⟩ | ⟨b, rfl, _⟩
    · exact h
    · show 1 ≤ 4
      decide
  have k13 : Kp p H1 H3 := k2.trans k3
  have s3 : Same H H3 := Kp.same s1 np k13
  refine ⟨_, rfl, Nat.zero_le _, fun e0 ne0 => ?_⟩
  have se := same_new (o := .lst []) ne0
  have smb : Sml bs := fun y hy d hd => (bok_le (bo y hy).2 d hd).2
  refine ⟨.list (tdat bs), .list [], .lst (SqL.of (se _ _ hbl)) (dp_txts bs), .lst (SqL.of upd_same) .nil, tdat_shaped smb, tdat_shaped (ys := []) (fun _ h => nomatch h), ?_⟩
  rw [tdat_nil]
  obtain ⟨H4, e4⟩ : ∃ H4, upd H3 e0 (.lst []) = H4 := ⟨_, rfl⟩
  rw [e4] at se ⊢
  have hbl4 := se _ _ hbl
  have p4 := p3.same se
  have k14 : Kp p H1 H4 := k13.trans (.of se)
  have blp : bl ≠ p := txts_no p3 hbl
  have base : ∀ H', Kp p H4 H' → Same H H' := fun H' k => Kp.same s1 np (k14.trans k)
  have tn := (lw.n c).2
  have tl := (lw.n c).1
  refine ⟨!bs.isEmpty, rfl, and_if (Rel := Kp p H4) (.of (Same.refl _)) (fun H5 k5 => ?_) (fun ne other => ?_)⟩
  · have s5 := base H5 k5
    have lw5 := lw.same s5
    have hbl5 := k5 _ _ blp hbl4
    refine ⟨_, rfl, bl, _, rfl, .inl (SqL.of hbl5), fun hA nh => ?_⟩
    have sh := same_new (o := .lst (txts bs)) nh
    obtain ⟨H6, e6⟩ : ∃ H6, upd H5 hA (.lst (txts bs)) = H6 := ⟨_, rfl⟩
    have hh6 : H6 hA = some (.lst (txts bs)) := by rw [← e6]; exact upd_same
    rw [e6] at sh ⊢
    have lw6 := lw5.same sh
    have hbl6 := sh _ _ hbl5
    have rs9 : (T1 c).length ≤ 64 := Nat.le_trans tl m64
    refine ⟨_, rfl, _, rfl, RR, _, _, _, rfl, rfl, SqL.of lw6.hR, at_log c, _, rfl, _, rfl, R1 c, bl, X1 c, T1 c, wd, bs, rfl, lw6.x c, lw6.w c, by omega, by omega, hbl6, dw, fun mA ys H7 s7 nm hm rlm => ?_⟩
    obtain ⟨mo, em⟩ : ∃ mo, deR wd (lastN (T1 c)) bs = mo := ⟨_, rfl⟩
    rw [em] at rlm
    have lw7 := lw6.same s7
    have hh7 := s7 _ _ hh6
    refine ⟨_, rfl, _, rfl, LL, _, _, _, rfl, rfl, SqL.of lw7.hL, at_log c, _, rfl, _, rfl, A1 c, L1 c, hA, _, _, _, wd, bs, rfl, lw7.o c, hh7, dw, by rw [List.length_map]; omega, by omega, bo, fun D8 H8 k8 nD8 hD8 lo8 => ?_⟩
    rw [em] at hD8 lo8
    obtain ⟨okm, ml4, lnm, bgm, _⟩ := de_facts (rs := T1 c) dw (by omega) bo
    rw [em] at okm ml4 lnm bgm
    rw [← lnm, ← bgm, ← List.map_append] at lo8
    have inA : ∀ {H' : Hp} {R2 : Bool → Addr} {X2 : Bool → List V} {T2 : Bool → List Rec3} {m2 : Nat} {x : Addr}, Lw C H' LL RR A1 L1 R2 X2 T2 m2 → H' x = none → x ≠ A1 c ∧ x ≠ L1 c ∧ x ≠ RR := fun lwx nx => by
      obtain ⟨⟨dx, z1⟩, z2⟩ := lwx.o c
      refine ⟨fun z => ?_, fun z => ?_, fun z => ?_⟩
      · rw [z, z1] at nx
        cases nx
      · rw [z, z2] at nx
        cases nx
      · rw [z, lwx.hR] at nx
        cases nx
    obtain ⟨mA1, mA2, mA3⟩ := inA lw6 nm
    obtain ⟨hA1, hA2, hA3⟩ := inA lw5 nh
    have nbl1 : H1 bl = none := nbl_of k2 p2 nbl
    obtain ⟨bl1, bl2, bl3⟩ := inA (lw.same s1) nbl1
    have hm8 := k8 _ _ mA1 mA2 hm
    have rlm8 := rlm.kl (lw7.o c) k8
    have hh8 := k8 _ _ hA1 hA2 hh7
    have hbl8 := k8 _ _ bl1 bl2 (s7 _ _ hbl6)
    have smm := rows_sml okm
    refine ⟨_, rfl, mA, ys, mo, rfl, hm8, rlm8, by omega, okm, fun D9 H9 s9 nD9 hD9 => ?_⟩
    refine ⟨.list (tdat (mo.map rln)), .list (tdat (mo.map rln)), .lst (SqL.of (s9 _ _ hD8)) (dp_txts _), .lst (SqL.of hD9) (dp_txts _), tdat_shaped smm, tdat_shaped smm, false, congrArg V.bl ?_, if_f ?_⟩
    · show (!PyData.eqvAll (tdat (mo.map rln)) (tdat (mo.map rln))) = false
      rw [tdat_eqv, decide_eq_true rfl]
      rfl
    have hh9 := s9 _ _ hh8
    refine ⟨_, rfl, _, rfl, .list (tdat bs), .list (tdat bs), .lst (SqL.of hh9) (dp_txts bs), .lst (SqL.of (s9 _ _ hbl8)) (dp_txts bs), tdat_shaped smb, tdat_shaped smb, false, congrArg V.bl ?_, if_f ?_⟩
    · show (!PyData.eqvAll (tdat bs) (tdat bs)) = false
      rw [tdat_eqv, decide_eq_true rfl]
      rfl
    have lo9 := lo8.same s9
    refine ⟨_, rfl, .inl ⟨rfl, _, SqL.of hh9⟩, hA, _, rfl, rfl, hh9, ?_⟩
    obtain ⟨H10, e10⟩ : ∃ H10, upd H9 hA (.lst []) = H10 := ⟨_, rfl⟩
    have lo10 := lo9.put (o := .lst []) hA1 hA2
    have keep10 : ∀ b o, H5 b = some o → b ≠ A1 c → b ≠ L1 c → H10 b = some o := fun b o e n1 n2 => by
      rw [← e10, upd_ne (ne_of_none e nh)]
      exact s9 _ _ (k8 _ _ n1 n2 (s7 _ _ (sh _ _ e)))
    have mh : mA ≠ hA := fun z => by
      rw [z, hh6] at nm
      cases nm
    have hm10 : H10 mA = some (.lst ys) := by rw [← e10, upd_ne mh]; exact s9 _ _ hm8
    have rlm10 : RwL H10 ys mo := by
      rw [← e10]
      exact (rlm8.same s9).put (fun us z => by rw [hh9] at z; cases z)
    rw [e10] at lo10 ⊢
    have RA : RR ≠ A1 c ∧ RR ≠ L1 c := by
      refine ⟨fun z => ?_, (lw.lR c).symm⟩
      obtain ⟨⟨dx, e⟩, _⟩ := lw5.o c
      rw [← z, lw5.hR] at e
      cases e
    have hR10 := keep10 _ _ lw5.hR RA.1 RA.2
    have rA : R1 c ≠ A1 c := fun z => by
      obtain ⟨⟨dx, e⟩, _⟩ := lw5.o c
      rw [← z, lw5.x c] at e
      cases e
    have hx10 := keep10 _ _ (lw5.x c) rA (lw.rl c c)
    have rlx10 : RwL H10 (X1 c) (T1 c) := ⟨(lw5.w c).1, fun i r e => by
      obtain ⟨t1, e1, ht1⟩ := (lw5.w c).2 i r e
      obtain ⟨⟨dx, q1⟩, q2⟩ := lw5.o c
      refine ⟨t1, e1, keep10 _ _ ht1 (fun z => ?_) (fun z => ?_)⟩
      · rw [z, q1] at ht1
        cases ht1
      · rw [z, q2] at ht1
        cases ht1⟩
    have xl : (X1 c).length + ys.length = (T1 c ++ mo).length := by rw [(lw.w c).1, rlm.1, List.length_append]
    have tml : (T1 c ++ mo).length ≤ m + 4 := by rw [List.length_append]; omega
    refine ⟨_, rfl, _, rfl, RR, _, _, _, rfl, rfl, SqL.of hR10, at_log c, _, rfl, R1 c, mA, X1 c, ys, rfl, rfl, hx10, hm10, Nat.le_of_lt (small1000 (by omega)), fun cA nc => ?_⟩
    have sc := same_new (o := .lst (X1 c ++ ys)) nc
    obtain ⟨H11, e11⟩ : ∃ H11, upd H10 cA (.lst (X1 c ++ ys)) = H11 := ⟨_, rfl⟩
    have hc11 : H11 cA = some (.lst (X1 c ++ ys)) := by rw [← e11]; exact upd_same
    rw [e11] at sc ⊢
    have hR11 := sc _ _ hR10
    have lo11 := lo10.same sc
    obtain ⟨c1, c2, c3⟩ : cA ≠ A1 c ∧ cA ≠ L1 c ∧ cA ≠ RR := by
      obtain ⟨⟨dx, z1⟩, z2⟩ := lo10
      refine ⟨fun z => ?_, fun z => ?_, fun z => ?_⟩
      · rw [z, z1] at nc
        cases nc
      · rw [z, z2] at nc
        cases nc
      · rw [z, hR10] at nc
        cases nc
    have cLd : ∀ d, cA ≠ L1 d := fun d z => by
      by_cases dc : d = c
      · exact c2 (by rw [z, dc])
      · have o1 := (lw5.o d).2
        have ld : L1 d ≠ L1 c := by
          cases d <;> cases c
          · exact absurd rfl dc
          · exact lw.ll
          · exact lw.ll.symm
          · exact absurd rfl dc
        have dA : L1 d ≠ A1 c := fun y => by
          obtain ⟨⟨dx, e⟩, _⟩ := lw5.o c
          rw [← y, o1] at e
          cases e
        have h10 := keep10 _ _ o1 dA ld
        rw [← z, nc] at h10
        cases h10
    refine ⟨_, rfl, _, rfl, RR, _, _, (if c = true then 1 else 0), rfl, rfl, hR11, by cases c <;> rfl, ?_⟩
    have eset : ([V.ref (R1 false), V.ref (R1 true)]).set (if c = true then 1 else 0) (.ref cA) = [.ref (if false = c then cA else R1 false), .ref (if true = c then cA else R1 true)] := by cases c <;> rfl
    rw [eset]
    obtain ⟨H12, e12⟩ : ∃ H12, upd H11 RR (.lst [.ref (if false = c then cA else R1 false), .ref (if true = c then cA else R1 true)]) = H12 := ⟨_, rfl⟩
    have keep12 : ∀ b o, H5 b = some o → b ≠ A1 c → b ≠ L1 c → b ≠ RR → H12 b = some o := fun b o e n1 n2 n3 => by
      rw [← e12, upd_ne n3]
      exact sc _ _ (keep10 b o e n1 n2)
    have lo12 : LgO C H12 (A1 c) (L1 c) (txts ((T1 c ++ mo).map rln)) (lastN (T1 c ++ mo)) (begP (T1 c ++ mo) (T1 c ++ mo).length) := by
      rw [← e12]
      exact lo11.put RA.1 RA.2
    have hc12 : H12 cA = some (.lst (X1 c ++ ys)) := by rw [← e12, upd_ne c3]; exact hc11
    have rl12 : RwL H12 (X1 c ++ ys) (T1 c ++ mo) := by
      rw [← e12]
      exact ((rlx10.cat rlm10).same sc).put (fun us z => by rw [hR11] at z; cases z)
    have hR12 : H12 RR = some (.lst [.ref (if false = c then cA else R1 false), .ref (if true = c then cA else R1 true)]) := by rw [← e12]; exact upd_same
    rw [e12]
    have ln4 : lastN (T1 c ++ mo) ≤ m + 4 := by
      rw [lnm]
      split <;> omega
    have lw12 := lw5.step c keep12 lo12 hc12 rl12 hR12 okm ⟨tml, ln4⟩ c3 cLd
    have lb12 : Lb H00 H12 RR A1 L1 := ⟨fun b o e => keep12 b o ((lb.s.trans s5) b o e) (ne_of_none e (lb.na c)) (ne_of_none e (lb.nl c)) (ne_of_none e lb.nR), lb.na, lb.nl, lb.nR⟩
    exact ⟨LL, RR, A1, L1, _, _, _, m + 4, _, _, _, _, _, _, _, _, rfl, lw12, by omega, fun H' s' => q _ _ _ _ _ _ _ _ _ H' (lw12.same s') (lb12.same s')⟩
  · have ne' : bs ≠ [] := fun z => by
      rw [z] at ne
      cases ne
    refine ⟨_, rfl, p, _, 5, rfl, p4, by decide, by decide, by decide, fun w5 H5 k5 p5 w0 w1 => ⟨rfl, _, rfl, ite2 (fun g => ?_) (fun g => ?_)⟩⟩
    · have lw5 := lw.same (base H5 k5)
      have hbl5 := k5 _ _ blp hbl4
      refine ⟨_, rfl, _, rfl, LL, _, _, _, rfl, rfl, SqL.of lw5.hL, at_log c, _, rfl, _, rfl, _, rfl, p, bl, _, bs, rfl, p5, by decide, hbl5, ne', b4, bo, fun D6 cs H6 k6 p6 hD6 cl bw => ?_⟩
      have k46 : Kp p H4 H6 := k5.trans k6
      have lw6 := lw.same (base H6 k46)
      have dw6 : DeW wd cs := by
        rcases dw with ⟨e, h⟩ | ⟨b, rfl, h⟩
        · exact .inl ⟨e, by omega⟩
        · have cl1 : cs.length = 1 := cl
          match cs, cl1 with
          | [d], _ => exact .inr ⟨d, rfl, h⟩
      refine ⟨A1 c, L1 c, D6, _, _, _, wd, cs, rfl, lw6.o c, hD6, dw6, by omega, bw, fun H7 s7 => ⟨true, rfl, if_f ?_⟩⟩
      have sH7 : Same H H7 := (base H6 k46).trans s7
      exact ⟨LL, RR, A1, L1, R1, X1, T1, m + 4, _, _, _, _, _, _, _, _, rfl, (lw.same sH7).more (by omega), by omega, fun H' s' => q R1 X1 T1 _ _ _ _ _ _ H' ((lw.same (sH7.trans s')).more (by omega)) (lb.same (sH7.trans s'))⟩
    · exact other H5 k5
end
end Tg

namespace Tg
open PySem PySem.Spec PyProof.Rows L2
open SX (S)
open TL (numL)
theorem made_same {C a dx : Addr} {H H1 : Hp} (na : H a = none) (nd : H dx = none) (h3 : ∀ b o, b ≠ a → (upd (upd H dx (.own a)) a (.ins C dx [])) b = some o → H1 b = some o) : Same H H1 := fun y o e => by
  have ya : y ≠ a := ne_of_none e na
  refine h3 y o ya ?_
  rw [upd_ne ya, upd_ne (ne_of_none e nd)]
  exact e
theorem made_none {C a dx l : Addr} {H : Hp} (na : H a = none) (nd : H dx = none) (nl : (upd (upd H dx (.own a)) a (.ins C dx [])) l = none) : H l = none := by
  cases hx : H l with
  | none => rfl
  | some o =>
    rw [upd_ne (ne_of_none hx na), upd_ne (ne_of_none hx nd), hx] at nl
    cases nl
section
variable {P : Program} {w : World} {K : PySem.W.Frag} {mg : Str → Option Value} {base : Heap} {f : Addr} {fd : FuncData} {k : Nat} {C : Addr}
def spLaw (K : PySem.W.Frag) : Sp := fun vs H Q _ => ∃ (a : Addr) (ns : List Int), vs = [.ref a] ∧ SqL K H a (ns.map V.int) ∧ ns.length ≤ 63 ∧ ∀ H', Q (.bl true) H'
theorem ok_law {fE : Addr} {fdE : FuncData} (F : Fun K "law" "law" sLaw f fd) (T : TLog K C) (TI : TIns K C) (K_Log : CalC P w K mg base k "Log" C ["self"] (spLI C)) (L_trimmed : Cal P w K mg base k "_law_trimmed" ["_law_log", "_law_rows_here"] (spTm C)) (L_stands : Cal P w K mg base k "_law_stands" ["_law_log", "_law_rows_here"] (spSt C)) (FE : FnOk P w K mg base CX0 k fE fdE ["self", "other"] (spEqB (LogR C))) (hs : PySem.W.findIn K (.ref C) "__eq__" = some (some (.ref fE))) (hf : PySem.W.isFn K (.ref fE) = true) (NE : NeC K C fE) (hbE : Binds K fdE ["self", "other"] [])
    (L_purse : Cal P w K mg base k "_law_purse" ["_law_script", "_law_at"] (spPurse K)) (L_draw : Cal P w K mg base k "_law_draw" ["_law_purse_here", "_law_out_of"] spDraw) (L_deed : Cal P w K mg base k "_law_deed" ["_law_purse_here", "_law_most"] spDe) (L_refused : Cal P w K mg base k "_law_refused" ["_law_log", "_law_word", "_law_bodies"] (spRf C)) (L_bad : Cal P w K mg base k "_law_bad" ["_law_purse_here", "_law_bodies"] spBad)
    (L_rows : Cal P w K mg base k "_law_rows" ["_law_rows_here", "_law_word", "_law_bodies"] spRw) (L_asked : Cal P w K mg base k "_law_asked" NAs (spAs C)) (L_texts : Cal P w K mg base k "_law_texts" ["_law_rows_here"] spTs) (m_int : mg "int" = none) (m_list : mg "list" = none) (m_range : mg "range" = none) (m_max : mg "max" = none) (m_len : mg "len" = none) : FnOk P w K mg base CX0 (k + 2) f fd ["_law_script"] (spLaw K) := by
  refine F.ok scLaw (fun vs H Q E h => ?_) (fun cdv A outer s H vs Q E hr h => ?_)
  · obtain ⟨a, ns, rfl, _⟩ := h
    rfl
  · obtain ⟨sa, ns, rfl, hS, n63, q⟩ := h
    have body := lb_0 (P := P) (w := w) (K := K) (mg := mg) (base := base) (f := f) (cdv := cdv) (A := A) (outer := outer) (s := s) (H0 := H) (E := E) hr L_purse L_draw L_deed L_refused L_bad L_rows L_asked L_texts m_int m_list (lb_4 hr T TI L_stands FE hs hf NE hbE)
    refine ⟨_, pss_cons (ps_set (i := 1) scLaw.nd rfl (.inl rfl) (pe_lst (pa_cons (pe_calC0 K_Log (hr.mono (by omega)) (by rfl)) (pa_cons (pe_calC0 K_Log (hr.mono (by omega)) (by rfl)) pa_nil)))) (pss_cons (ps_set (i := 2) scLaw.nd rfl (.inl rfl) (pe_lst (pa_cons (pe_lst pa_nil) (pa_cons (pe_lst pa_nil) pa_nil)))) (pss_cons (ps_for PassesOwn.never rfl (pi_range1 (by rfl) m_range (pa_cons (pe_callB (call_max2 rfl) (by rfl) m_max (by decide +kernel) (pa_cons pe_int (pa_cons (pe_callB call_len_seq (by rfl) m_len (by decide +kernel) (pa_cons (pe_slice sl_list (pv 0) po_none (po_some pe_int)) pa_nil)) pa_nil))) pa_nil)) (pg_name (i := 3) scLaw.nd rfl (.inl rfl)) body) (pss_one (ps_ret (pe_and (pe_cal L_trimmed (hr.mono (by omega)) (by rfl) (pa_cons (pe_ix ix_list (pv 1) pe_int (fun _ _ => rfl)) (pa_cons (pe_ix ix_list (pv 2) pe_int (fun _ _ => rfl)) pa_nil))) (pe_one (pe_cal L_trimmed (hr.mono (by omega)) (by rfl) (pa_cons (pe_ix ix_list (pv 1) pe_int (fun _ _ => rfl)) (pa_cons (pe_ix ix_list (pv 2) pe_int (fun _ _ => rfl)) pa_nil))))))))), ?_⟩
    intro a dx na nd da
    refine ⟨a, dx, rfl, upd_same, fun l H1 nl h1 h2 h3 => ⟨rfl, ?_⟩⟩
    have s1 := made_same na nd h3
    have nlH := made_none na nd nl
    have lo1 : LgO C H1 a l (txts (([] : List Rec3).map rln)) (lastN []) (begP [] 0) := ⟨⟨dx, h1⟩, h2⟩
    intro a2 dx2 na2 nd2 da2
    refine ⟨a2, dx2, rfl, upd_same, fun l2 H2 nl2 k1 k2 k3 => ⟨rfl, ?_⟩⟩
    have s2 := made_same na2 nd2 k3
    have nl2H := made_none na2 nd2 nl2
    have lo2 : LgO C H2 a2 l2 (txts (([] : List Rec3).map rln)) (lastN []) (begP [] 0) := ⟨⟨dx2, k1⟩, k2⟩
    have aa : a ≠ a2 := fun z => by
      rw [← z, h1] at na2
      cases na2
    have ll : l ≠ l2 := fun z => by
      rw [← z, h2] at nl2H
      cases nl2H
    refine ⟨(by show 2 ≤ sizeLine; decide), fun LL nLL => ?_⟩
    refine ⟨Nat.zero_le _, fun r0 n0 => ⟨Nat.zero_le _, fun r1 n1 => ⟨(by show 2 ≤ sizeLine; decide), fun RR nRR => ?_⟩⟩⟩
    have b0 := same_new (o := .lst [V.ref a, V.ref a2]) nLL
    have b1 := same_new (o := .lst []) n0
    have b2 := same_new (o := .lst []) n1
    have b3 := same_new (o := .lst [V.ref r0, V.ref r1]) nRR
    have hL0 : upd H2 LL (.lst [.ref a, .ref a2]) LL = some (.lst [.ref a, .ref a2]) := upd_same
    have hr0 : upd (upd H2 LL (.lst [.ref a, .ref a2])) r0 (.lst []) r0 = some (.lst []) := upd_same
    have hr1 : upd (upd (upd H2 LL (.lst [.ref a, .ref a2])) r0 (.lst [])) r1 (.lst []) r1 = some (.lst []) := upd_same
    have hR3 : upd (upd (upd (upd H2 LL (.lst [.ref a, .ref a2])) r0 (.lst [])) r1 (.lst [])) RR (.lst [.ref r0, .ref r1]) RR = some (.lst [.ref r0, .ref r1]) := upd_same
    have old : ∀ {Ha : Hp} {x y : Addr} {o : HO}, Ha x = some o → Ha y = none → x ≠ y := fun e n z => by
      rw [z, n] at e
      cases e
    have l0 : LL ≠ r0 := old hL0 n0
    have l1 : LL ≠ r1 := old (b1 _ _ hL0) n1
    have l3 : LL ≠ RR := old (b2 _ _ (b1 _ _ hL0)) nRR
    have r0R : r0 ≠ RR := old (b2 _ _ hr0) nRR
    have r1R : r1 ≠ RR := old hr1 nRR
    have la : ∀ x, (x = l ∨ x = l2) → H2 x = some (.lst []) := fun x hx => by
      rcases hx with rfl | rfl
      · exact s2 _ _ h2
      · exact k2
    have xr0 : ∀ x, (x = l ∨ x = l2) → x ≠ r0 := fun x hx => old (b0 _ _ (la x hx)) n0
    have xr1 : ∀ x, (x = l ∨ x = l2) → x ≠ r1 := fun x hx => old (b1 _ _ (b0 _ _ (la x hx))) n1
    have xRR : ∀ x, (x = l ∨ x = l2) → x ≠ RR := fun x hx => old (b2 _ _ (b1 _ _ (b0 _ _ (la x hx)))) nRR
    have xLL : ∀ x, (x = l ∨ x = l2) → x ≠ LL := fun x hx => old (la x hx) nLL
    have sH3 : Same H2 _ := ((b0.trans b1).trans b2).trans b3
    have hLf := b3 _ _ (b2 _ _ (b1 _ _ hL0))
    have hr0f := b3 _ _ (b2 _ _ hr0)
    have hr1f := b3 _ _ hr1
    obtain ⟨H3, e3⟩ : ∃ H3, upd (upd (upd (upd H2 LL (.lst [.ref a, .ref a2])) r0 (.lst [])) r1 (.lst [])) RR (.lst [.ref r0, .ref r1]) = H3 := ⟨_, rfl⟩
    rw [e3] at sH3 hLf hr0f hr1f hR3 ⊢
    have nRH : H RR = none := none_of (s1.trans s2) (none_of ((b0.trans b1).trans b2) nRR)
    have sel : ∀ c : Bool, (if c = true then l2 else l) = l ∨ (if c = true then l2 else l) = l2 := fun c => by
      cases c
      · exact .inl rfl
      · exact .inr rfl
    have lw : Lw C H3 LL RR (fun c => if c = true then a2 else a) (fun c => if c = true then l2 else l) (fun c => if c = true then r1 else r0) (fun _ => []) (fun _ => []) 0 := by
      refine ⟨hLf, hR3, fun c => ?_, fun c => ?_, fun c => RwL.nil, (fun _ r hr => nomatch hr), fun c => ⟨Nat.le_refl _, Nat.le_refl _⟩, aa, ll, fun c d => ?_, fun c => ?_, fun c => xRR _ (sel c), fun c => xLL _ (sel c), l3⟩
      · cases c
        · exact (lo1.same s2).same sH3
        · exact lo2.same sH3
      · cases c
        · exact hr0f
        · exact hr1f
      · cases c
        · exact (xr0 _ (sel d)).symm
        · exact (xr1 _ (sel d)).symm
      · cases c
        · exact r0R
        · exact r1R
    have lb : Lb H H3 RR (fun c => if c = true then a2 else a) (fun c => if c = true then l2 else l) := by
      refine ⟨(s1.trans s2).trans sH3, fun c => ?_, fun c => ?_, nRH⟩
      · cases c
        · exact na
        · exact none_of s1 na2
      · cases c
        · exact nlH
        · exact none_of s1 nl2H
    refine ⟨_, rfl, (16 : Int), rfl, sa, _, rfl, sqL_same lb.s hS, fun l9 n9 => ?_⟩
    rw [show cutV (ns.map V.int) none (some 16) = (ns.map V.int).take 16 from cutV_to _ 16]
    have s9 := same_new (o := .lst ((ns.map V.int).take 16)) n9
    refine ⟨l9, _, rfl, .inl (SqL.of upd_same), _, _, rfl, ?_⟩
    obtain ⟨m, em⟩ : ∃ m : Nat, (if (((ns.map V.int).take 16).length : Int) > 6 then (((ns.map V.int).take 16).length : Int) else 6) = ((m : Nat) : Int) ∧ m ≤ 16 := by
      have h7 : ((ns.map V.int).take 16).length ≤ 16 := List.length_take_le _ _
      by_cases g : (((ns.map V.int).take 16).length : Int) > 6
      · rw [if_pos g]
        exact ⟨_, rfl, h7⟩
      · rw [if_neg g]
        exact ⟨6, rfl, by decide⟩
    rw [em.1]
    have m16 := em.2
    refine ⟨_, rfl, by omega, by omega, ?_⟩
    rw [Int.toNat_natCast]
    refine for_range (lo := 0) (n := m) (fun i σ Hc => ∃ (R' : Bool → Addr) (X' : Bool → List V) (T' : Bool → List Rec3) (z3 z4 z5 z6 z7 z8 z9 : Option V), σ = [some (.ref sa), some (.ref LL), some (.ref RR), z3, z4, z5, z6, z7, z8, z9] ∧ Lw C Hc LL RR (fun c => if c = true then a2 else a) (fun c => if c = true then l2 else l) R' X' T' (4 * i) ∧ Lb H Hc RR (fun c => if c = true then a2 else a) (fun c => if c = true then l2 else l)) ⟨_, _, _, none, none, none, none, none, none, none, rfl, lw.same s9, lb.same s9⟩ ?_ ?_
    · rintro i σ Hc hi ⟨R', X', T', z3, z4, z5, z6, z7, z8, z9, rfl, lwc, lbc⟩
      rw [Int.zero_add]
      exact ⟨H, sa, LL, RR, ns, i, _, _, R', X', T', 4 * i, _, _, _, _, _, _, rfl, lwc, lbc, hS, n63, by omega, by omega, fun R2 X2 T2 u4 u5 u6 u7 u8 u9 H' lw' lb' => ⟨R2, X2, T2, _, _, _, _, _, _, _, rfl, lw', lb'⟩⟩
    · rintro σ Hc ⟨R', X', T', z3, z4, z5, z6, z7, z8, z9, rfl, lwc, lbc⟩
      have n4 := fun c => (lwc.n c)
      refine ⟨_, rfl, LL, _, 0, _, rfl, rfl, SqL.of lwc.hL, rfl, _, rfl, RR, _, 0, _, rfl, rfl, SqL.of lwc.hR, rfl, a, R' false, T' false, rfl, lwc.lg (by omega) false, by have := (n4 false).1; omega, by have := (n4 false).2; omega, fun H5 s5 => ⟨true, rfl, if_t ?_⟩⟩
      have lw5 := lwc.same s5
      exact ⟨_, rfl, LL, _, 1, _, rfl, rfl, SqL.of lw5.hL, rfl, _, rfl, RR, _, 1, _, rfl, rfl, SqL.of lw5.hR, rfl, a2, R' true, T' true, rfl, lw5.lg (by omega) true, by have := (n4 true).1; omega, by have := (n4 true).2; omega, fun H6 s6 => q H6⟩
end
end Tg

namespace Tg
open PySem PySem.Spec PyProof.Rows L2
section
variable {K : PySem.W.Frag} {f : Addr} {fd : FuncData}
theorem kl_1 (F : FLine K f fd) : ∃ g, KBn K fd ["number", "body", "sign"] 2 [] g (fun vs _ => vs ++ [.str "."]) := by
  obtain ⟨mv, h⟩ := F.kbinds0 (ps := ["number", "body", "sign"]) 2 [] [("sign", .str ".")] (fun us ms _ => us ++ ms) (fun z => nomatch z) (fun q hq => hq) (fun h1 h2 _ => h1.append h2) (fun D doc pm an cdv ct us mv ws h1 h2 h3 => match us, mv, ws, h1, h2, h3 with | [_, _], [_], [], _, _, _ => ⟨_, _, _, _, _, _, rfl, rfl, rfl⟩)
  exact ⟨_, h⟩
theorem kl_3 (F : FLine K f fd) : ∃ g, KBn K fd ["number", "body", "sign"] 2 ["sign"] g (fun vs zs => vs ++ zs) := by
  obtain ⟨mv, h⟩ := F.kbinds0 (ps := ["number", "body", "sign"]) 2 ["sign"] [] (fun us _ ws => us ++ ws) (fun z => nomatch z) (fun q hq => nomatch hq) (fun h1 _ h3 => h1.append h3) (fun D doc pm an cdv ct us mv ws h1 h2 h3 => match us, mv, ws, h1, h2, h3 with | [_, _], [], [_], _, _, _ => rfl)
  exact ⟨_, h⟩
theorem kbn_1 {x a : Str} {st : Stmt} {f : Addr} {fd : FuncData} (F : Fun K x x st f fd) (h : ∀ (kV doc pm : Value) (an : Option Addr) (cdv ct u : Value), bindArgs (PySem.W.fnOf x x (defArgs st) (defBody st) (defScope st) .none kV doc pm an cdv ct) ⟨[], [(a, u)]⟩ = pure [(a, u)]) : KBn K fd [a] 0 [a] (fun _ ws => prm [0] ws) (fun _ zs => prm [0] zs) := by
  obtain ⟨_, _, kV, doc, pm, an, cdv, ct, _, rfl, _, _⟩ := F.ex
  exact ⟨fun s us ws _ h0 h2 => match us, ws, h0, h2 with | [], [u], _, _ => .of_eq (h kV doc pm an cdv ct u), fun _ r => prm_rel r _⟩
theorem kbn_m {x qn a : Str} {st : Stmt} {f : Addr} {fd : FuncData} (F : Fun K x qn st f fd) (h : ∀ (kV doc pm : Value) (an : Option Addr) (cdv ct u v : Value), bindArgs (PySem.W.fnOf x qn (defArgs st) (defBody st) (defScope st) .none kV doc pm an cdv ct) ⟨[u], [(a, v)]⟩ = pure [(("self" : Str), u), (a, v)]) : KBn K fd ["self", a] 1 [a] (fun us ws => us ++ prm [0] ws) (fun vs zs => vs ++ prm [0] zs) := by
  obtain ⟨_, _, kV, doc, pm, an, cdv, ct, _, rfl, _, _⟩ := F.ex
  exact ⟨fun s us ws _ h0 h2 => match us, ws, h0, h2 with | [u], [v], _, _ => .of_eq (h kV doc pm an cdv ct u v), fun r1 r => r1.append (prm_rel r _)⟩
end
/-! ### what the top has written; the law's own head -/
set_option maxHeartbeats 0 in
theorem all_mk {l : PySem.W.OpenLaw} {w : World} {K : PySem.W.Frag} {h : Heap} {mg : Str → Option Value} {fa CB C1 CL CD CG CK CO CN CP CT f1 f2 f3 f4 f5 f6 f7 f8 f9 f10 f11 f12 f13 f14 f15 f16 f17 f18 f19 f20 f21 f22 f23 f24 f25 f26 f27 f28 f29 f30 f31 : Addr} {nmCB qCB : Str} {NCB : Addr} {bsCB : List Value} {snCB : List Str} {subCB : List Value} {abCB : Bool} {colCB : Option Bool} {ddCB : Option Addr} {v0CB v1CB v2CB v3CB v5CB : Option Value} {tkR tkE tkG tkM tkS : Tok} {KD NF : Addr} {nmF qF : Str} {bsF subF : List Value} {hdF abF : Bool} {snF : List Str} {colF : Option Bool} {ddF : Option Addr} {v0F v1F v2F v3F v5F : Option Value} {idF : String} {cN : Value} {dN : Option Addr} {esN : Array DictEntry} {epN : Nat} {slN : Array (Option Value)} (X : K.In h) (G : h.Ns mainGlobals mg) (hfa : mg "law" = some (.ref fa))
    {od1 an1 od2 an2 od3 an3 od4 an4 od5 an5 od6 an6 od7 an7 od8 an8 od9 an9 od10 an10 od11 an11 od12 an12 od13 an13 od14 an14 od15 an15 od16 an16 od17 an17 od18 an18 od19 an19 od20 an20 od21 an21 od22 an22 od23 an23 od24 an24 od25 an25 od26 an26 od27 an27 od28 an28 od29 an29 od30 an30 od31 an31 : Option Addr} {sl1 sl2 sl3 sl4 sl5 sl6 sl7 sl8 sl9 sl10 sl11 sl12 sl13 sl14 sl15 sl16 sl17 sl18 sl19 sl20 sl21 sl22 sl23 sl24 sl25 sl26 sl27 sl28 sl29 sl30 sl31 : Array (Option Value)} {oc1 kV1 dc1 pm1 cd1 ct1 oc2 kV2 dc2 pm2 cd2 ct2 oc3 kV3 dc3 pm3 cd3 ct3 oc4 kV4 dc4 pm4 cd4 ct4 oc5 kV5 dc5 pm5 cd5 ct5 oc6 kV6 dc6 pm6 cd6 ct6 oc7 kV7 dc7 pm7 cd7 ct7 oc8 kV8 dc8 pm8 cd8 ct8 oc9 kV9 dc9 pm9 cd9 ct9 oc10 kV10 dc10 pm10 cd10 ct10 oc11 kV11 dc11 pm11 cd11 ct11 oc12 kV12 dc12 pm12 cd12 ct12 oc13 kV13 dc13 pm13 cd13 ct13 oc14 dc14 pm14 cd14 ct14 oc15 kV15 dc15 pm15 cd15 ct15 oc16 kV16 dc16 pm16 cd16 ct16 oc17 kV17 dc17 pm17 cd17 ct17 oc18 kV18 dc18 pm18 cd18 ct18 oc19 kV19 dc19 pm19 cd19 ct19 oc20 kV20 dc20 pm20 cd20 ct20 oc21 kV21 dc21 pm21 cd21 ct21 oc22 kV22 dc22 pm22 cd22 ct22 oc23 kV23 dc23 pm23 cd23 ct23 oc24 kV24 dc24 pm24 cd24 ct24 oc25 kV25 dc25 pm25 cd25 ct25 oc26 kV26 dc26 pm26 cd26 ct26 oc27 kV27 dc27 pm27 cd27 ct27 oc28 kV28 dc28 pm28 cd28 ct28 oc29 kV29 dc29 pm29 cd29 ct29 oc30 kV30 dc30 pm30 cd30 ct30 oc31 kV31 dc31 pm31 cd31 ct31 : Value}
    (aCB : PySem.W.nsIn K mainGlobals "NoBody" = some (some (.ref CB)))
    (xCB : K.lookup CB = some (excClassObj nmCB qCB CB NCB bsCB [.type "ValueError", .type "Exception", .type "BaseException", .type "object"] true snCB subCB abCB colCB ddCB v0CB v1CB v2CB v3CB v5CB "ValueError.__new__"))
    (saCB : PySem.W.findIn K (.ref CB) "__setattr__" = some (some (.builtin "object.__setattr__")))
    (gaCB : PySem.W.findIn K (.ref CB) "__getattribute__" = some (some (.builtin "BaseException.__getattribute__")))
    (ggCB : PySem.W.findIn K (.ref CB) "__getattr__" = some none)
    (noCB : PySem.W.findIn K (.ref CB) "body" = some none)
    (kcCB : PySem.W.keepIn K (.ref CB) = true)
    (ecCB : PySem.W.subIn K (.ref CB) (.type "BaseException") = some true)
    (tcCB : PySem.W.typeIn K (.ref CB) = some (.type "type"))
    (hcCB : PySem.W.hasDictIn K CB = true)
    (ccCB : PySem.W.findIn K (.ref CB) "__class__" = some (some (.builtin "object.__class__")))
    (moCB : PySem.W.mroIn K CB (.type "object") = some true)
    (xmCB : PySem.W.exmOne K (.ref CB) (.ref CB) = some true)
    (hnC : PySem.W.specialIn K (.builtin "object.__class__") "__get__" = some (some (.builtin "getset_descriptor.__get__")))
    (htC : PySem.W.takesIn K (.builtin "object.__class__") = some true)
    (vV : PySem.W.findCls K (.type "ValueError") (.type "type") "__init__" = some (.val (.builtin "ValueError.__init__")))
    (aCL : PySem.W.nsIn K mainGlobals "NoLog" = some (some (.ref CL)))
    (aCD : PySem.W.nsIn K mainGlobals "NoDeed" = some (some (.ref CD)))
    (aCG : PySem.W.nsIn K mainGlobals "NoGrain" = some (some (.ref CG)))
    (aCK : PySem.W.nsIn K mainGlobals "NoKeep" = some (some (.ref CK)))
    (aCO : PySem.W.nsIn K mainGlobals "NoOrder" = some (some (.ref CO)))
    (aCN : PySem.W.nsIn K mainGlobals "NoNumber" = some (some (.ref CN)))
    (aCP : PySem.W.nsIn K mainGlobals "NoPlace" = some (some (.ref CP)))
    (aCT : PySem.W.nsIn K mainGlobals "NoText" = some (some (.ref CT)))
    (aC1 : PySem.W.nsIn K mainGlobals "Log" = some (some (.ref C1)))
    (pgC1 : PySem.W.plainGet K C1 Str.empty = true)
    (hdC1 : PySem.W.hasDictIn K C1 = true)
    (poC1 : PySem.W.plainOver K C1 = true)
    (saC1 : PySem.W.findIn K (.ref C1) "__setattr__" = some (some (.builtin "object.__setattr__")))
    (mkC1 : PySem.W.makesIn K C1 = true)
    (kcC1 : PySem.W.keepIn K (.ref C1) = true)
    (noC1_number : PySem.W.findIn K (.ref C1) "number" = some none)
    (noC1_kept : PySem.W.findIn K (.ref C1) "kept" = some none)
    (noC1_begin : PySem.W.findIn K (.ref C1) "begin" = some none)
    (a1 : PySem.W.findIn K (.ref CB) "__init__" = some (some (.ref f1)))
    (t1 : PySem.W.typeIn K (.ref f1) = some (.type "function"))
    (l1 : K.lookup f1 = some ⟨oc1, od1, .func (PySem.W.fnOf "__init__" "NoBody.__init__" (defArgs sErB) (defBody sErB) (defScope sErB) .none kV1 dc1 pm1 an1 cd1 ct1), sl1⟩)
    (c1 : PySem.W.codeIn K cd1 "NoBody.__init__" = true)
    (k1 : PySem.W.keepIn K (.ref f1) = true)
    (a2 : PySem.W.findIn K (.ref C1) "__init__" = some (some (.ref f2)))
    (i2 : PySem.W.isFn K (.ref f2) = true)
    (l2 : K.lookup f2 = some ⟨oc2, od2, .func (PySem.W.fnOf "__init__" "Log.__init__" (defArgs sLI) (defBody sLI) (defScope sLI) .none kV2 dc2 pm2 an2 cd2 ct2), sl2⟩)
    (c2 : PySem.W.codeIn K cd2 "Log.__init__" = true)
    (k2 : PySem.W.keepIn K (.ref f2) = true)
    (a3 : PySem.W.findIn K (.ref C1) "__eq__" = some (some (.ref f3)))
    (i3 : PySem.W.isFn K (.ref f3) = true)
    (l3 : K.lookup f3 = some ⟨oc3, od3, .func (PySem.W.fnOf "__eq__" "Log.__eq__" (defArgs sEq) (defBody sEq) (defScope sEq) .none kV3 dc3 pm3 an3 cd3 ct3), sl3⟩)
    (c3 : PySem.W.codeIn K cd3 "Log.__eq__" = true)
    (k3 : PySem.W.keepIn K (.ref f3) = true)
    (a4 : PySem.W.findIn K (.ref C1) "__len__" = some (some (.ref f4)))
    (i4 : PySem.W.isFn K (.ref f4) = true)
    (l4 : K.lookup f4 = some ⟨oc4, od4, .func (PySem.W.fnOf "__len__" "Log.__len__" (defArgs sLN) (defBody sLN) (defScope sLN) .none kV4 dc4 pm4 an4 cd4 ct4), sl4⟩)
    (c4 : PySem.W.codeIn K cd4 "Log.__len__" = true)
    (k4 : PySem.W.keepIn K (.ref f4) = true)
    (a5 : PySem.W.findIn K (.ref C1) "write" = some (some (.ref f5)))
    (i5 : PySem.W.isFn K (.ref f5) = true)
    (l5 : K.lookup f5 = some ⟨oc5, od5, .func (PySem.W.fnOf "write" "Log.write" (defArgs sWr) (defBody sWr) (defScope sWr) .none kV5 dc5 pm5 an5 cd5 ct5), sl5⟩)
    (c5 : PySem.W.codeIn K cd5 "Log.write" = true)
    (k5 : PySem.W.keepIn K (.ref f5) = true)
    (a6 : PySem.W.findIn K (.ref C1) "bundle" = some (some (.ref f6)))
    (i6 : PySem.W.isFn K (.ref f6) = true)
    (l6 : K.lookup f6 = some ⟨oc6, od6, .func (PySem.W.fnOf "bundle" "Log.bundle" (defArgs sBu) (defBody sBu) (defScope sBu) .none kV6 dc6 pm6 an6 cd6 ct6), sl6⟩)
    (c6 : PySem.W.codeIn K cd6 "Log.bundle" = true)
    (k6 : PySem.W.keepIn K (.ref f6) = true)
    (a7 : PySem.W.findIn K (.ref C1) "mark" = some (some (.ref f7)))
    (i7 : PySem.W.isFn K (.ref f7) = true)
    (l7 : K.lookup f7 = some ⟨oc7, od7, .func (PySem.W.fnOf "mark" "Log.mark" (defArgs sMk) (defBody sMk) (defScope sMk) .none kV7 dc7 pm7 an7 cd7 ct7), sl7⟩)
    (c7 : PySem.W.codeIn K cd7 "Log.mark" = true)
    (k7 : PySem.W.keepIn K (.ref f7) = true)
    (a8 : PySem.W.findIn K (.ref C1) "lines" = some (some (.ref f8)))
    (i8 : PySem.W.isFn K (.ref f8) = true)
    (l8 : K.lookup f8 = some ⟨oc8, od8, .func (PySem.W.fnOf "lines" "Log.lines" (defArgs sLS) (defBody sLS) (defScope sLS) .none kV8 dc8 pm8 an8 cd8 ct8), sl8⟩)
    (c8 : PySem.W.codeIn K cd8 "Log.lines" = true)
    (k8 : PySem.W.keepIn K (.ref f8) = true)
    (a9 : PySem.W.findIn K (.ref C1) "text" = some (some (.ref f9)))
    (i9 : PySem.W.isFn K (.ref f9) = true)
    (l9 : K.lookup f9 = some ⟨oc9, od9, .func (PySem.W.fnOf "text" "Log.text" (defArgs sTx) (defBody sTx) (defScope sTx) .none kV9 dc9 pm9 an9 cd9 ct9), sl9⟩)
    (c9 : PySem.W.codeIn K cd9 "Log.text" = true)
    (k9 : PySem.W.keepIn K (.ref f9) = true)
    (a10 : PySem.W.findIn K (.ref C1) "trimmed" = some (some (.ref f10)))
    (i10 : PySem.W.isFn K (.ref f10) = true)
    (l10 : K.lookup f10 = some ⟨oc10, od10, .func (PySem.W.fnOf "trimmed" "Log.trimmed" (defArgs sTr) (defBody sTr) (defScope sTr) .none kV10 dc10 pm10 an10 cd10 ct10), sl10⟩)
    (c10 : PySem.W.codeIn K cd10 "Log.trimmed" = true)
    (k10 : PySem.W.keepIn K (.ref f10) = true)
    (a11 : PySem.W.nsIn K mainGlobals "check" = some (some (.ref f11)))
    (l11 : K.lookup f11 = some ⟨oc11, od11, .func (PySem.W.fnOf "check" "check" (defArgs sCheck) (defBody sCheck) (defScope sCheck) .none kV11 dc11 pm11 an11 cd11 ct11), sl11⟩)
    (c11 : PySem.W.codeIn K cd11 "check" = true)
    (k11 : PySem.W.keepIn K (.ref f11) = true)
    (a12 : PySem.W.nsIn K mainGlobals "with_check" = some (some (.ref f12)))
    (l12 : K.lookup f12 = some ⟨oc12, od12, .func (PySem.W.fnOf "with_check" "with_check" (defArgs sWC) (defBody sWC) (defScope sWC) .none kV12 dc12 pm12 an12 cd12 ct12), sl12⟩)
    (c12 : PySem.W.codeIn K cd12 "with_check" = true)
    (k12 : PySem.W.keepIn K (.ref f12) = true)
    (a13 : PySem.W.nsIn K mainGlobals "is_body" = some (some (.ref f13)))
    (l13 : K.lookup f13 = some ⟨oc13, od13, .func (PySem.W.fnOf "is_body" "is_body" (defArgs sBody) (defBody sBody) (defScope sBody) .none kV13 dc13 pm13 an13 cd13 ct13), sl13⟩)
    (c13 : PySem.W.codeIn K cd13 "is_body" = true)
    (k13 : PySem.W.keepIn K (.ref f13) = true)
    (a14 : PySem.W.nsIn K mainGlobals "line_of" = some (some (.ref f14)))
    (l14 : K.lookup f14 = some ⟨oc14, od14, .func (PySem.W.fnOf "line_of" "line_of" (defArgs sLine) (defBody sLine) (defScope sLine) .none (.ref KD) dc14 pm14 an14 cd14 ct14), sl14⟩)
    (d_sign : PySem.W.nsIn K KD "sign" = some (some (.str "." tkS)))
    (c14 : PySem.W.codeIn K cd14 "line_of" = true)
    (k14 : PySem.W.keepIn K (.ref f14) = true)
    (a15 : PySem.W.nsIn K mainGlobals "log_with" = some (some (.ref f15)))
    (l15 : K.lookup f15 = some ⟨oc15, od15, .func (PySem.W.fnOf "log_with" "log_with" (defArgs sLW) (defBody sLW) (defScope sLW) .none kV15 dc15 pm15 an15 cd15 ct15), sl15⟩)
    (c15 : PySem.W.codeIn K cd15 "log_with" = true)
    (k15 : PySem.W.keepIn K (.ref f15) = true)
    (a16 : PySem.W.nsIn K mainGlobals "_law_mixed" = some (some (.ref f16)))
    (l16 : K.lookup f16 = some ⟨oc16, od16, .func (PySem.W.fnOf "_law_mixed" "_law_mixed" (defArgs sMixed) (defBody sMixed) (defScope sMixed) .none kV16 dc16 pm16 an16 cd16 ct16), sl16⟩)
    (c16 : PySem.W.codeIn K cd16 "_law_mixed" = true)
    (k16 : PySem.W.keepIn K (.ref f16) = true)
    (a17 : PySem.W.nsIn K mainGlobals "_law_purse" = some (some (.ref f17)))
    (l17 : K.lookup f17 = some ⟨oc17, od17, .func (PySem.W.fnOf "_law_purse" "_law_purse" (defArgs sPurse) (defBody sPurse) (defScope sPurse) .none kV17 dc17 pm17 an17 cd17 ct17), sl17⟩)
    (c17 : PySem.W.codeIn K cd17 "_law_purse" = true)
    (k17 : PySem.W.keepIn K (.ref f17) = true)
    (a18 : PySem.W.nsIn K mainGlobals "_law_draw" = some (some (.ref f18)))
    (l18 : K.lookup f18 = some ⟨oc18, od18, .func (PySem.W.fnOf "_law_draw" "_law_draw" (defArgs sDraw) (defBody sDraw) (defScope sDraw) .none kV18 dc18 pm18 an18 cd18 ct18), sl18⟩)
    (c18 : PySem.W.codeIn K cd18 "_law_draw" = true)
    (k18 : PySem.W.keepIn K (.ref f18) = true)
    (a19 : PySem.W.nsIn K mainGlobals "_law_class" = some (some (.ref f19)))
    (l19 : K.lookup f19 = some ⟨oc19, od19, .func (PySem.W.fnOf "_law_class" "_law_class" (defArgs sClass) (defBody sClass) (defScope sClass) .none kV19 dc19 pm19 an19 cd19 ct19), sl19⟩)
    (c19 : PySem.W.codeIn K cd19 "_law_class" = true)
    (k19 : PySem.W.keepIn K (.ref f19) = true)
    (a20 : PySem.W.nsIn K mainGlobals "_law_sign" = some (some (.ref f20)))
    (l20 : K.lookup f20 = some ⟨oc20, od20, .func (PySem.W.fnOf "_law_sign" "_law_sign" (defArgs sSign) (defBody sSign) (defScope sSign) .none kV20 dc20 pm20 an20 cd20 ct20), sl20⟩)
    (c20 : PySem.W.codeIn K cd20 "_law_sign" = true)
    (k20 : PySem.W.keepIn K (.ref f20) = true)
    (a21 : PySem.W.nsIn K mainGlobals "_law_body" = some (some (.ref f21)))
    (l21 : K.lookup f21 = some ⟨oc21, od21, .func (PySem.W.fnOf "_law_body" "_law_body" (defArgs sLB) (defBody sLB) (defScope sLB) .none kV21 dc21 pm21 an21 cd21 ct21), sl21⟩)
    (c21 : PySem.W.codeIn K cd21 "_law_body" = true)
    (k21 : PySem.W.keepIn K (.ref f21) = true)
    (a22 : PySem.W.nsIn K mainGlobals "_law_line" = some (some (.ref f22)))
    (l22 : K.lookup f22 = some ⟨oc22, od22, .func (PySem.W.fnOf "_law_line" "_law_line" (defArgs sLL) (defBody sLL) (defScope sLL) .none kV22 dc22 pm22 an22 cd22 ct22), sl22⟩)
    (c22 : PySem.W.codeIn K cd22 "_law_line" = true)
    (k22 : PySem.W.keepIn K (.ref f22) = true)
    (a23 : PySem.W.nsIn K mainGlobals "_law_deed" = some (some (.ref f23)))
    (l23 : K.lookup f23 = some ⟨oc23, od23, .func (PySem.W.fnOf "_law_deed" "_law_deed" (defArgs sDe) (defBody sDe) (defScope sDe) .none kV23 dc23 pm23 an23 cd23 ct23), sl23⟩)
    (c23 : PySem.W.codeIn K cd23 "_law_deed" = true)
    (k23 : PySem.W.keepIn K (.ref f23) = true)
    (a24 : PySem.W.nsIn K mainGlobals "_law_rows" = some (some (.ref f24)))
    (l24 : K.lookup f24 = some ⟨oc24, od24, .func (PySem.W.fnOf "_law_rows" "_law_rows" (defArgs sRw) (defBody sRw) (defScope sRw) .none kV24 dc24 pm24 an24 cd24 ct24), sl24⟩)
    (c24 : PySem.W.codeIn K cd24 "_law_rows" = true)
    (k24 : PySem.W.keepIn K (.ref f24) = true)
    (a25 : PySem.W.nsIn K mainGlobals "_law_texts" = some (some (.ref f25)))
    (l25 : K.lookup f25 = some ⟨oc25, od25, .func (PySem.W.fnOf "_law_texts" "_law_texts" (defArgs sTs) (defBody sTs) (defScope sTs) .none kV25 dc25 pm25 an25 cd25 ct25), sl25⟩)
    (c25 : PySem.W.codeIn K cd25 "_law_texts" = true)
    (k25 : PySem.W.keepIn K (.ref f25) = true)
    (a26 : PySem.W.nsIn K mainGlobals "_law_asked" = some (some (.ref f26)))
    (l26 : K.lookup f26 = some ⟨oc26, od26, .func (PySem.W.fnOf "_law_asked" "_law_asked" (defArgs sAs) (defBody sAs) (defScope sAs) .none kV26 dc26 pm26 an26 cd26 ct26), sl26⟩)
    (c26 : PySem.W.codeIn K cd26 "_law_asked" = true)
    (k26 : PySem.W.keepIn K (.ref f26) = true)
    (a27 : PySem.W.nsIn K mainGlobals "_law_bad" = some (some (.ref f27)))
    (l27 : K.lookup f27 = some ⟨oc27, od27, .func (PySem.W.fnOf "_law_bad" "_law_bad" (defArgs sBad) (defBody sBad) (defScope sBad) .none kV27 dc27 pm27 an27 cd27 ct27), sl27⟩)
    (c27 : PySem.W.codeIn K cd27 "_law_bad" = true)
    (k27 : PySem.W.keepIn K (.ref f27) = true)
    (a28 : PySem.W.nsIn K mainGlobals "_law_refused" = some (some (.ref f28)))
    (l28 : K.lookup f28 = some ⟨oc28, od28, .func (PySem.W.fnOf "_law_refused" "_law_refused" (defArgs sRf) (defBody sRf) (defScope sRf) .none kV28 dc28 pm28 an28 cd28 ct28), sl28⟩)
    (c28 : PySem.W.codeIn K cd28 "_law_refused" = true)
    (k28 : PySem.W.keepIn K (.ref f28) = true)
    (a29 : PySem.W.nsIn K mainGlobals "_law_stands" = some (some (.ref f29)))
    (l29 : K.lookup f29 = some ⟨oc29, od29, .func (PySem.W.fnOf "_law_stands" "_law_stands" (defArgs sSt) (defBody sSt) (defScope sSt) .none kV29 dc29 pm29 an29 cd29 ct29), sl29⟩)
    (c29 : PySem.W.codeIn K cd29 "_law_stands" = true)
    (k29 : PySem.W.keepIn K (.ref f29) = true)
    (a30 : PySem.W.nsIn K mainGlobals "_law_trimmed" = some (some (.ref f30)))
    (l30 : K.lookup f30 = some ⟨oc30, od30, .func (PySem.W.fnOf "_law_trimmed" "_law_trimmed" (defArgs sTm) (defBody sTm) (defScope sTm) .none kV30 dc30 pm30 an30 cd30 ct30), sl30⟩)
    (c30 : PySem.W.codeIn K cd30 "_law_trimmed" = true)
    (k30 : PySem.W.keepIn K (.ref f30) = true)
    (a31 : PySem.W.nsIn K mainGlobals "law" = some (some (.ref f31)))
    (l31 : K.lookup f31 = some ⟨oc31, od31, .func (PySem.W.fnOf "law" "law" (defArgs sLaw) (defBody sLaw) (defScope sLaw) .none kV31 dc31 pm31 an31 cd31 ct31), sl31⟩)
    (c31 : PySem.W.codeIn K cd31 "law" = true)
    (k31 : PySem.W.keepIn K (.ref f31) = true)
    (z_range : PySem.W.nsIn K mainGlobals "range" = some none)
    (z_len : PySem.W.nsIn K mainGlobals "len" = some none)
    (z_max : PySem.W.nsIn K mainGlobals "max" = some none)
    (z_sum : PySem.W.nsIn K mainGlobals "sum" = some none)
    (z_zip : PySem.W.nsIn K mainGlobals "zip" = some none)
    (z_enumerate : PySem.W.nsIn K mainGlobals "enumerate" = some none)
    (z_ord : PySem.W.nsIn K mainGlobals "ord" = some none)
    (z_str : PySem.W.nsIn K mainGlobals "str" = some none)
    (z_all : PySem.W.nsIn K mainGlobals "all" = some none)
    (z_int : PySem.W.nsIn K mainGlobals "int" = some none)
    (z_list : PySem.W.nsIn K mainGlobals "list" = some none)
    (z_isinstance : PySem.W.nsIn K mainGlobals "isinstance" = some none)
    (z_ValueError : PySem.W.nsIn K mainGlobals "ValueError" = some none)
    (v_CHECK_REST : PySem.W.nsIn K mainGlobals "CHECK_REST" = some (some (.int 999983 tkR)))
    (v_ENDS : PySem.W.nsIn K mainGlobals "ENDS" = some (some (.str "." tkE)))
    (v_GOES : PySem.W.nsIn K mainGlobals "GOES" = some (some (.str "+" tkG)))
    (v_MARKS : PySem.W.nsIn K mainGlobals "MARKS" = some (some (.str "=" tkM)))
    (kB_ : PySem.W.kitOne K (.ref CB) (.ref CB) = some true)
    (kD_ : PySem.W.kitOne K (.ref CB) (.ref CD) = some false)
    (kG_ : PySem.W.kitOne K (.ref CB) (.ref CG) = some false)
    (kK_ : PySem.W.kitOne K (.ref CB) (.ref CK) = some false)
    (kL_ : PySem.W.kitOne K (.ref CB) (.ref CL) = some false)
    (kO_ : PySem.W.kitOne K (.ref CB) (.ref CO) = some false)
    (kN_ : PySem.W.kitOne K (.ref CB) (.ref CN) = some false)
    (kP_ : PySem.W.kitOne K (.ref CB) (.ref CP) = some false)
    (kT_ : PySem.W.kitOne K (.ref CB) (.ref CT) = some false)
    (kitV : PySem.W.kitOne K (.ref CB) (.type "ValueError") = some true)
    (ccC1 : PySem.W.findIn K (.ref C1) "__class__" = some (some (.builtin "object.__class__")))
    (moC1 : PySem.W.mroIn K C1 (.type "object") = some true)
    (ktC1 : PySem.W.kitOne K (.ref C1) (.ref C1) = some true)
    (ktL : PySem.W.kitOne K (.type "list") (.ref C1) = some false)
    (ktS : PySem.W.kitOne K (.type "str") (.ref C1) = some false)
    (nfL : PySem.W.notFirst K C1 (.type "list") = true)
    (nfS : PySem.W.notFirst K C1 (.type "str") = true)
    (xF : K.lookup C1 = some (excClassObj nmF qF C1 NF bsF [.type "object"] hdF snF subF abF colF ddF v0F v1F v2F v3F v5F idF))
    (lNF : K.lookup NF = some ⟨cN, dN, .dict esN epN, slN⟩)
    (okE : (esN.toList.all fun e => match e.key with | .str _ _ => true | _ => false) = true)
    (eqF : PySem.W.nsIn K NF "__eq__" = some (some (.ref f3)))
    (neF : PySem.W.nsIn K NF "__ne__" = some none)
    (ocE : oc3 = .type "function")
    : ∃ fd : FuncData, (∀ (s : Shared) (v : Value), BindsTo s fd ⟨[v], []⟩ [("_law_script", v)]) ∧ ∀ base : Heap, K.In base → base.Ns mainGlobals mg → FnOk l.prog w K mg base CX0 8 fa fd ["_law_script"] (spLaw K) := by
  have e := hfa.symm.trans (PySem.W.mg_of X G a31)
  cases e
  have F1 := fun_mk (st := sErB) l1 c1 k1
  have F2 := fun_mk (st := sLI) l2 c2 k2
  have F3 := fun_mk (st := sEq) l3 c3 k3
  have F4 := fun_mk (st := sLN) l4 c4 k4
  have F5 := fun_mk (st := sWr) l5 c5 k5
  have F6 := fun_mk (st := sBu) l6 c6 k6
  have F7 := fun_mk (st := sMk) l7 c7 k7
  have F8 := fun_mk (st := sLS) l8 c8 k8
  have F9 := fun_mk (st := sTx) l9 c9 k9
  have F10 := fun_mk (st := sTr) l10 c10 k10
  have F11 := fun_mk (st := sCheck) l11 c11 k11
  have F12 := fun_mk (st := sWC) l12 c12 k12
  have F13 := fun_mk (st := sBody) l13 c13 k13
  have F14 : FLine K f14 _ := ⟨⟨oc14, od14, .none, .ref KD, dc14, pm14, an14, cd14, ct14, sl14, rfl, l14, c14, .inl ⟨rfl, rfl⟩, .inr ⟨KD, rfl, fun q lack => by
    obtain rfl := List.mem_singleton.mp lack
    exact ⟨_, d_sign, ⟨_, rfl⟩⟩⟩⟩, k14⟩
  have F15 := fun_mk (st := sLW) l15 c15 k15
  have F16 := fun_mk (st := sMixed) l16 c16 k16
  have F17 := fun_mk (st := sPurse) l17 c17 k17
  have F18 := fun_mk (st := sDraw) l18 c18 k18
  have F19 := fun_mk (st := sClass) l19 c19 k19
  have F20 := fun_mk (st := sSign) l20 c20 k20
  have F21 := fun_mk (st := sLB) l21 c21 k21
  have F22 := fun_mk (st := sLL) l22 c22 k22
  have F23 := fun_mk (st := sDe) l23 c23 k23
  have F24 := fun_mk (st := sRw) l24 c24 k24
  have F25 := fun_mk (st := sTs) l25 c25 k25
  have F26 := fun_mk (st := sAs) l26 c26 k26
  have F27 := fun_mk (st := sBad) l27 c27 k27
  have F28 := fun_mk (st := sRf) l28 c28 k28
  have F29 := fun_mk (st := sSt) l29 c29 k29
  have F30 := fun_mk (st := sTm) l30 c30 k30
  have F31 := fun_mk (st := sLaw) l31 c31 k31
  have b1 := F1.binds (ps := ["self", "body"]) fun _ _ _ _ _ _ us hl => match us, hl with | [_, _], _ => rfl
  have b2 := F2.binds (ps := ["self"]) fun _ _ _ _ _ _ us hl => match us, hl with | [_], _ => rfl
  have b3 := F3.binds (ps := ["self", "other"]) fun _ _ _ _ _ _ us hl => match us, hl with | [_, _], _ => rfl
  have b4 := F4.binds (ps := ["self"]) fun _ _ _ _ _ _ us hl => match us, hl with | [_], _ => rfl
  have b5 := F5.binds (ps := ["self", "body"]) fun _ _ _ _ _ _ us hl => match us, hl with | [_, _], _ => rfl
  have b6 := F6.binds (ps := ["self", "bodies"]) fun _ _ _ _ _ _ us hl => match us, hl with | [_, _], _ => rfl
  have b7 := F7.binds (ps := ["self", "body"]) fun _ _ _ _ _ _ us hl => match us, hl with | [_, _], _ => rfl
  have b8 := F8.binds (ps := ["self"]) fun _ _ _ _ _ _ us hl => match us, hl with | [_], _ => rfl
  have b9 := F9.binds (ps := ["self"]) fun _ _ _ _ _ _ us hl => match us, hl with | [_], _ => rfl
  have b10 := F10.binds (ps := ["self"]) fun _ _ _ _ _ _ us hl => match us, hl with | [_], _ => rfl
  have b11 := F11.binds (ps := ["line"]) fun _ _ _ _ _ _ us hl => match us, hl with | [_], _ => rfl
  have b12 := F12.binds (ps := ["line"]) fun _ _ _ _ _ _ us hl => match us, hl with | [_], _ => rfl
  have b13 := F13.binds (ps := ["text"]) fun _ _ _ _ _ _ us hl => match us, hl with | [_], _ => rfl
  have b15 := F15.binds (ps := ["lines", "number", "begin"]) fun _ _ _ _ _ _ us hl => match us, hl with | [_, _, _], _ => rfl
  have b16 := F16.binds (ps := ["_law_cell", "_law_k"]) fun _ _ _ _ _ _ us hl => match us, hl with | [_, _], _ => rfl
  have b17 := F17.binds (ps := ["_law_script", "_law_at"]) fun _ _ _ _ _ _ us hl => match us, hl with | [_, _], _ => rfl
  have b18 := F18.binds (ps := ["_law_purse_here", "_law_out_of"]) fun _ _ _ _ _ _ us hl => match us, hl with | [_, _], _ => rfl
  have b19 := F19.binds (ps := ["_law_caught"]) fun _ _ _ _ _ _ us hl => match us, hl with | [_], _ => rfl
  have b20 := F20.binds (ps := ["_law_purse_here"]) fun _ _ _ _ _ _ us hl => match us, hl with | [_], _ => rfl
  have b21 := F21.binds (ps := ["_law_purse_here", "_law_most"]) fun _ _ _ _ _ _ us hl => match us, hl with | [_, _], _ => rfl
  have b22 := F22.binds (ps := ["_law_number", "_law_sign_here", "_law_body_here"]) fun _ _ _ _ _ _ us hl => match us, hl with | [_, _, _], _ => rfl
  have b23 := F23.binds (ps := ["_law_purse_here", "_law_most"]) fun _ _ _ _ _ _ us hl => match us, hl with | [_, _], _ => rfl
  have b24 := F24.binds (ps := ["_law_rows_here", "_law_word", "_law_bodies"]) fun _ _ _ _ _ _ us hl => match us, hl with | [_, _, _], _ => rfl
  have b25 := F25.binds (ps := ["_law_rows_here"]) fun _ _ _ _ _ _ us hl => match us, hl with | [_], _ => rfl
  have b26 := F26.binds (ps := ["_law_log", "_law_word", "_law_bodies"]) fun _ _ _ _ _ _ us hl => match us, hl with | [_, _, _], _ => rfl
  have b27 := F27.binds (ps := ["_law_purse_here", "_law_bodies"]) fun _ _ _ _ _ _ us hl => match us, hl with | [_, _], _ => rfl
  have b28 := F28.binds (ps := ["_law_log", "_law_word", "_law_bodies"]) fun _ _ _ _ _ _ us hl => match us, hl with | [_, _, _], _ => rfl
  have b29 := F29.binds (ps := ["_law_log", "_law_rows_here"]) fun _ _ _ _ _ _ us hl => match us, hl with | [_, _], _ => rfl
  have b30 := F30.binds (ps := ["_law_log", "_law_rows_here"]) fun _ _ _ _ _ _ us hl => match us, hl with | [_, _], _ => rfl
  have g11 := PySem.W.mg_of X G a11
  have g12 := PySem.W.mg_of X G a12
  have g13 := PySem.W.mg_of X G a13
  have g14 := PySem.W.mg_of X G a14
  have g15 := PySem.W.mg_of X G a15
  have g16 := PySem.W.mg_of X G a16
  have g17 := PySem.W.mg_of X G a17
  have g18 := PySem.W.mg_of X G a18
  have g19 := PySem.W.mg_of X G a19
  have g20 := PySem.W.mg_of X G a20
  have g21 := PySem.W.mg_of X G a21
  have g22 := PySem.W.mg_of X G a22
  have g23 := PySem.W.mg_of X G a23
  have g24 := PySem.W.mg_of X G a24
  have g25 := PySem.W.mg_of X G a25
  have g26 := PySem.W.mg_of X G a26
  have g27 := PySem.W.mg_of X G a27
  have g28 := PySem.W.mg_of X G a28
  have g29 := PySem.W.mg_of X G a29
  have g30 := PySem.W.mg_of X G a30
  have gC1 := PySem.W.mg_of X G aC1
  have gCL := PySem.W.mg_of X G aCL
  have gCD := PySem.W.mg_of X G aCD
  have gCG := PySem.W.mg_of X G aCG
  have gCK := PySem.W.mg_of X G aCK
  have gCO := PySem.W.mg_of X G aCO
  have gCN := PySem.W.mg_of X G aCN
  have gCP := PySem.W.mg_of X G aCP
  have gCT := PySem.W.mg_of X G aCT
  have gCB := PySem.W.mg_of X G aCB
  have OCB : OexC K CB := ⟨⟨nmCB, qCB, NCB, bsCB, _, snCB, subCB, abCB, colCB, ddCB, v0CB, v1CB, v2CB, v3CB, v5CB, xCB, by decide +kernel⟩, saCB, ecCB, tcCB, kcCB⟩
  have ECB : ExcC K CB := ⟨gaCB, ggCB, ecCB, hcCB, ccCB, hnC, htC, moCB⟩
  have XCB : XfC K CB := ⟨gaCB, ggCB, ecCB, hcCB⟩
  have m_range := PySem.W.mg_none_of X G z_range
  have m_len := PySem.W.mg_none_of X G z_len
  have m_max := PySem.W.mg_none_of X G z_max
  have m_sum := PySem.W.mg_none_of X G z_sum
  have m_zip := PySem.W.mg_none_of X G z_zip
  have m_enumerate := PySem.W.mg_none_of X G z_enumerate
  have m_ord := PySem.W.mg_none_of X G z_ord
  have m_str := PySem.W.mg_none_of X G z_str
  have m_all := PySem.W.mg_none_of X G z_all
  have m_int := PySem.W.mg_none_of X G z_int
  have m_list := PySem.W.mg_none_of X G z_list
  have m_isinstance := PySem.W.mg_none_of X G z_isinstance
  have m_ValueError := PySem.W.mg_none_of X G z_ValueError
  have g_CHECK_REST := PySem.W.mg_of X G v_CHECK_REST
  have g_ENDS := PySem.W.mg_of X G v_ENDS
  have g_GOES := PySem.W.mg_of X G v_GOES
  have g_MARKS := PySem.W.mg_of X G v_MARKS
  refine ⟨PySem.W.fnOf "law" "law" (defArgs sLaw) (defBody sLaw) (defScope sLaw) .none kV31 dc31 pm31 an31 cd31 ct31, fun s v => .of_eq rfl, fun base _ _ => ?_⟩
  have T : TLog K C1 := ⟨⟨pgC1, hdC1, poC1, saC1⟩, noC1_number, noC1_kept, noC1_begin⟩
  have CE : ∀ j, CalE l.prog w K mg base (j + 1) "NoBody" CB "body" := fun j => ⟨f1, _, OCB, a1, t1, ok_errB (k := j) F1 OCB noCB m_ValueError vV, b1, gCB⟩
  have N9 : Nine K mg CB CD CG CK CL CO CN CP CT := ⟨gCB, gCD, gCG, gCK, gCL, gCO, gCN, gCP, gCT, m_isinstance, m_ValueError, kB_, kD_, kG_, kK_, kL_, kO_, kN_, kP_, kT_, kitV, ECB, XCB, noCB, xmCB⟩
  have TI : TIns K C1 := ⟨ccC1, hnC, htC, moC1, ktC1, ktL, ktS⟩
  have okF : PySem.W.nsOkIn K NF = true := by
    unfold PySem.W.nsOkIn
    rw [lNF]
    dsimp only
    rw [← Array.all_toList]
    exact okE
  have NE : NeC K C1 f3 := ⟨⟨nmF, qF, NF, bsF, hdF, snF, subF, abF, colF, ddF, v0F, v1F, v2F, v3F, v5F, idF, xF, okF, eqF, neF⟩, _, l3, ocE⟩
  obtain ⟨q1, z1⟩ := kl_1 F14
  obtain ⟨q3, z3⟩ := kl_3 F14
  have CC : ∀ j, Cal l.prog w K mg base (j + 1) "check" ["line"] spCheck := fun j => ⟨f11, _, ok_check F11 m_sum m_enumerate m_ord g_CHECK_REST, g11, k11, b11⟩
  have WC : ∀ j, Cal l.prog w K mg base (j + 2) "with_check" ["line"] spWC := fun j => ⟨f12, _, ok_wc (k := j + 1) F12 (CC j), g12, k12, b12⟩
  have IB : ∀ j, Cal l.prog w K mg base (j + 1) "is_body" ["text"] spBody := fun j => ⟨f13, _, ok_body F13 m_all, g13, k13, b13⟩
  have OL : ∀ j, FnOk l.prog w K mg base CX0 (j + 3) f14 _ ["number", "body", "sign"] spLine := fun j => ok_line (k := j + 2) F14 (IB (j + 1)) (WC j) m_len m_str
  have CLI : ∀ j, CLine l.prog w K mg base (j + 3) f14 _ q1 q3 := fun j => ⟨OL j, g14, k14, z1, z3⟩
  have CLN : ∀ j, CLineN l.prog w K mg base CB (j + 3) f14 _ q1 q3 := fun j => ⟨fn_both (OL j) (ok_lineN (k := j + 1) F14 (IB j) (CE j)), g14, k14, z1, z3⟩
  have KL : ∀ j, CalC l.prog w K mg base (j + 1) "Log" C1 ["self"] (spLI C1) := fun j => ⟨f2, _, ok_li (k := j) F2 T, gC1, ⟨mkC1, a2, i2, kcC1⟩, b2⟩
  have LW : ∀ j, Cal l.prog w K mg base (j + 3) "log_with" ["lines", "number", "begin"] (spLW C1) := fun j => ⟨f15, _, ok_lw (k := j + 1) F15 T (KL j) m_list, g15, k15, b15⟩
  have MW : ∀ j, CalM l.prog w K mg base (j + 4) C1 "write" ["self", "body"] (spWr C1) := fun j => ⟨f5, _, ok_wr (k := j + 3) F5 T (CLI j), ⟨a5, i5, k5⟩, b5⟩
  have MB : ∀ j, CalM l.prog w K mg base (j + 4) C1 "bundle" ["self", "bodies"] (spBu C1) := fun j => ⟨f6, _, ok_bu (k := j + 3) F6 T (CLI j) g_GOES g_ENDS m_len m_list m_zip m_enumerate, ⟨a6, i6, k6⟩, b6⟩
  have MM : ∀ j, CalM l.prog w K mg base (j + 4) C1 "mark" ["self", "body"] (spMk C1) := fun j => ⟨f7, _, ok_mk (k := j + 3) F7 T (CLI j) g_MARKS m_len, ⟨a7, i7, k7⟩, b7⟩
  have NW : ∀ j, CalMR l.prog w K mg base (j + 4) C1 "write" ["self", "body"] (spOneN C1 CB) := fun j => ⟨f5, _, ok_wrN (k := j + 3) F5 T (CLN j), ⟨a5, i5, k5⟩, b5⟩
  have NB : ∀ j, CalMR l.prog w K mg base (j + 4) C1 "bundle" ["self", "bodies"] (spBuN C1 CB) := fun j => ⟨f6, _, ok_buN (k := j + 3) F6 T (CLN j) g_GOES g_ENDS m_len m_list m_zip m_enumerate, ⟨a6, i6, k6⟩, b6⟩
  have NM : ∀ j, CalMR l.prog w K mg base (j + 4) C1 "mark" ["self", "body"] (spOneN C1 CB) := fun j => ⟨f7, _, ok_mkN (k := j + 3) F7 T (CLN j) g_MARKS, ⟨a7, i7, k7⟩, b7⟩
  have ML : ∀ j, CalM l.prog w K mg base (j + 1) C1 "lines" ["self"] (spLS C1) := fun j => ⟨f8, _, ok_ls F8 T m_list, ⟨a8, i8, k8⟩, b8⟩
  have MT : ∀ j, CalM l.prog w K mg base (j + 1) C1 "text" ["self"] (spTx C1) := fun j => ⟨f9, _, ok_tx F9 T, ⟨a9, i9, k9⟩, b9⟩
  have MR_ : ∀ j, CalM l.prog w K mg base (j + 4) C1 "trimmed" ["self"] (spTr C1) := fun j => ⟨f10, _, ok_tr (k := j + 3) F10 T (LW j), ⟨a10, i10, k10⟩, b10⟩
  have DR : ∀ j, Cal l.prog w K mg base (j + 2) "_law_draw" ["_law_purse_here", "_law_out_of"] spDraw := fun j => ⟨f18, _, ok_draw (k := j + 1) F18 ⟨f16, _, ok_mixed F16, g16, k16, b16⟩ m_range, g18, k18, b18⟩
  have PU : ∀ j, Cal l.prog w K mg base (j + 1) "_law_purse" ["_law_script", "_law_at"] (spPurse K) := fun j => ⟨f17, _, ok_purse F17 m_range m_max, g17, k17, b17⟩
  have CS : ∀ j, Cal l.prog w K mg base (j + 1) "_law_class" ["_law_caught"] (spClass CB) := fun j => ⟨f19, _, ok_class F19 N9 m_zip m_len, g19, k19, b19⟩
  have SG : ∀ j, Cal l.prog w K mg base (j + 3) "_law_sign" ["_law_purse_here"] spSign := fun j => ⟨f20, _, ok_sign (k := j + 2) F20 (DR j) m_len, g20, k20, b20⟩
  have LB : ∀ j, Cal l.prog w K mg base (j + 4) "_law_body" ["_law_purse_here", "_law_most"] spLB := fun j => ⟨f21, _, ok_lb (k := j + 3) F21 (DR (j + 1)) (SG j) m_range, g21, k21, b21⟩
  have LL : ∀ j, Cal l.prog w K mg base (j + 1) "_law_line" ["_law_number", "_law_sign_here", "_law_body_here"] spLL := fun j => ⟨f22, _, ok_ll F22 m_len m_str m_enumerate m_ord, g22, k22, b22⟩
  have DE : ∀ j, Cal l.prog w K mg base (j + 5) "_law_deed" ["_law_purse_here", "_law_most"] spDe := fun j => ⟨f23, _, ok_de (k := j + 4) F23 (DR (j + 2)) (LB j) m_range, g23, k23, b23⟩
  have RW : ∀ j, Cal l.prog w K mg base (j + 1) "_law_rows" ["_law_rows_here", "_law_word", "_law_bodies"] spRw := fun j => ⟨f24, _, ok_rw F24 m_zip m_enumerate, g24, k24, b24⟩
  have TX : ∀ j, Cal l.prog w K mg base (j + 2) "_law_texts" ["_law_rows_here"] spTs := fun j => ⟨f25, _, ok_ts (k := j + 1) F25 (LL j), g25, k25, b25⟩
  have AS : ∀ j, Cal l.prog w K mg base (j + 5) "_law_asked" ["_law_log", "_law_word", "_law_bodies"] (spAs C1) := fun j => ⟨f26, _, ok_as (k := j + 4) F26 T (MW j) (MM j) (MB j), g26, k26, b26⟩
  have AN : ∀ j, CalR l.prog w K mg base (j + 5) "_law_asked" ["_law_log", "_law_word", "_law_bodies"] (spAsN C1 CB) := fun j => ⟨f26, _, ok_asN (k := j + 4) F26 T (NW j) (NM j) (NB j), g26, k26, b26⟩
  have BD : ∀ j, Cal l.prog w K mg base (j + 3) "_law_bad" ["_law_purse_here", "_law_bodies"] spBad := fun j => ⟨f27, _, ok_bad (k := j + 2) F27 (DR j) m_list m_len, g27, k27, b27⟩
  have RF : ∀ j, Cal l.prog w K mg base (j + 6) "_law_refused" ["_law_log", "_law_word", "_law_bodies"] (spRf C1) := fun j => ⟨f28, _, ok_rf (k := j + 5) F28 N9 (AN j) (CS (j + 4)), g28, k28, b28⟩
  have EQ : ∀ j, FnOk l.prog w K mg base CX0 (j + 1) f3 _ ["self", "other"] (spEqB (LogR C1)) := fun j => ok_eq (k := j) F3 T TI gC1 m_isinstance
  have ST : ∀ j, Cal l.prog w K mg base (j + 4) "_law_stands" ["_law_log", "_law_rows_here"] (spSt C1) := fun j => ⟨f29, _, ok_st (k := j + 2) F29 T (ok_ln (k := j + 1) F4 T m_len) a4 i4 b4 (TX j) (ML (j + 1)) (MT (j + 1)) (EQ (j + 1)) NE b3 nfL nfS m_len m_range, g29, k29, b29⟩
  have TM : ∀ j, Cal l.prog w K mg base (j + 6) "_law_trimmed" ["_law_log", "_law_rows_here"] (spTm C1) := fun j => ⟨f30, _, ok_tm (k := j + 4) F30 T TI (RW (j + 3)) (TX (j + 2)) (MB j) (MM j) (MR_ j) (ST j) (EQ (j + 3)) a3 i3 b3 m_len m_enumerate, g30, k30, b30⟩
  exact ok_law (k := 6) F31 T TI (KL 5) (TM 0) (ST 2) (EQ 5) a3 i3 NE b3 (PU 5) (DR 4) (DE 1) (RF 0) (BD 3) (RW 5) (AS 1) (TX 4) m_int m_list m_range m_max m_len
end Tg
open PySem PySem.W PyProof.Rows
set_option maxRecDepth 100000 in
set_option maxHeartbeats 0 in
theorem PySem.Challenge.cw_timegranary_k42_logs_written_holds : PySem.Challenge.rw_timegranary_k42_logs_written.Holds := by
  w_on; o_law; k_head; (case hw => w_witness2)
  k_fill
  refine L2.walk_of (l := PySem.Challenge.rw_timegranary_k42_logs_written) (n := 63) (k := 8) (x := "_law_script") (CX := fun _ => L2.CX0) (sp := fun w => Tg.spLaw _) rfl (by decide) rfl ⟨rfl, by decide, by decide⟩ (fun w h Y => PySem.W.kIn_of Y) ?F (fun _ _ a ns hl _ hS => ⟨a, ns, rfl, hS, hl, fun _ => rfl⟩) (fun _ _ _ _ _ h => h)
  case F =>
    intro w mg fa h KX G hmg
    refine' Tg.all_mk KX G hmg ?aCB ?xCB ?saCB ?gaCB ?ggCB ?noCB ?kcCB ?ecCB ?tcCB ?hcCB ?ccCB ?moCB ?xmCB ?hnC ?htC ?vV ?aCL ?aCD ?aCG ?aCK ?aCO ?aCN ?aCP ?aCT ?aC1 ?pgC1 ?hdC1 ?poC1 ?saC1 ?mkC1 ?kcC1 ?noC1_number ?noC1_kept ?noC1_begin ?a1 ?t1 ?l1 ?c1 ?k1 ?a2 ?i2 ?l2 ?c2 ?k2 ?a3 ?i3 ?l3 ?c3 ?k3 ?a4 ?i4 ?l4 ?c4 ?k4 ?a5 ?i5 ?l5 ?c5 ?k5 ?a6 ?i6 ?l6 ?c6 ?k6 ?a7 ?i7 ?l7 ?c7 ?k7 ?a8 ?i8 ?l8 ?c8 ?k8 ?a9 ?i9 ?l9 ?c9 ?k9 ?a10 ?i10 ?l10 ?c10 ?k10 ?a11 ?l11 ?c11 ?k11 ?a12 ?l12 ?c12 ?k12 ?a13 ?l13 ?c13 ?k13 ?a14 ?l14 ?d_sign ?c14 ?k14 ?a15 ?l15 ?c15 ?k15 ?a16 ?l16 ?c16 ?k16 ?a17 ?l17 ?c17 ?k17 ?a18 ?l18 ?c18 ?k18 ?a19 ?l19 ?c19 ?k19 ?a20 ?l20 ?c20 ?k20 ?a21 ?l21 ?c21 ?k21 ?a22 ?l22 ?c22 ?k22 ?a23 ?l23 ?c23 ?k23 ?a24 ?l24 ?c24 ?k24 ?a25 ?l25 ?c25 ?k25 ?a26 ?l26 ?c26 ?k26 ?a27 ?l27 ?c27 ?k27 ?a28 ?l28 ?c28 ?k28 ?a29 ?l29 ?c29 ?k29 ?a30 ?l30 ?c30 ?k30 ?a31 ?l31 ?c31 ?k31 ?z_range ?z_len ?z_max ?z_sum ?z_zip ?z_enumerate ?z_ord ?z_str ?z_all ?z_int ?z_list ?z_isinstance ?z_ValueError ?v_CHECK_REST ?v_ENDS ?v_GOES ?v_MARKS ?kB_ ?kD_ ?kG_ ?kK_ ?kL_ ?kO_ ?kN_ ?kP_ ?kT_ ?kitV ?ccC1 ?moC1 ?ktC1 ?ktL ?ktS ?nfL ?nfS ?xF ?lNF ?okE ?eqF ?neF ?ocE
    (case aCB => k_is); (case xCB => k_is); (case saCB => k_is); (case gaCB => k_is); (case ggCB => k_is); (case noCB => k_is)
    (case kcCB => k_is); (case ecCB => k_is); (case tcCB => k_is); (case hcCB => k_is); (case ccCB => k_is); (case moCB => k_is)
    (case xmCB => first | k_is | rfl); (case hnC => k_is); (case htC => k_is); (case vV => first | k_is | rfl); (case aCL => k_is); (case aCD => k_is)
    (case aCG => k_is); (case aCK => k_is); (case aCO => k_is); (case aCN => k_is); (case aCP => k_is); (case aCT => k_is)
    (case aC1 => k_is); (case pgC1 => k_is); (case hdC1 => k_is); (case poC1 => k_is); (case saC1 => k_is); (case mkC1 => k_is)
    (case kcC1 => k_is); (case noC1_number => k_is); (case noC1_kept => k_is); (case noC1_begin => k_is); (case a1 => k_is); (case t1 => k_is)
    (case l1 => k_is); (case c1 => k_is); (case k1 => k_is); (case a2 => k_is); (case i2 => k_is); (case l2 => k_is)
    (case c2 => k_is); (case k2 => k_is); (case a3 => k_is); (case i3 => k_is); (case l3 => k_is); (case c3 => k_is)
    (case k3 => k_is); (case a4 => k_is); (case i4 => k_is); (case l4 => k_is); (case c4 => k_is); (case k4 => k_is)
    (case a5 => k_is); (case i5 => k_is); (case l5 => k_is); (case c5 => k_is); (case k5 => k_is); (case a6 => k_is)
    (case i6 => k_is); (case l6 => k_is); (case c6 => k_is); (case k6 => k_is); (case a7 => k_is); (case i7 => k_is)
    (case l7 => k_is); (case c7 => k_is); (case k7 => k_is); (case a8 => k_is); (case i8 => k_is); (case l8 => k_is)
    (case c8 => k_is); (case k8 => k_is); (case a9 => k_is); (case i9 => k_is); (case l9 => k_is); (case c9 => k_is)
    (case k9 => k_is); (case a10 => k_is); (case i10 => k_is); (case l10 => k_is); (case c10 => k_is); (case k10 => k_is)
    (case a11 => k_is); (case l11 => k_is); (case c11 => k_is); (case k11 => k_is); (case a12 => k_is); (case l12 => k_is)
    (case c12 => k_is); (case k12 => k_is); (case a13 => k_is); (case l13 => k_is); (case c13 => k_is); (case k13 => k_is)
    (case a14 => k_is); (case l14 => k_is); (case d_sign => k_is); (case c14 => k_is); (case k14 => k_is); (case a15 => k_is); (case l15 => k_is)
    (case c15 => k_is); (case k15 => k_is); (case a16 => k_is); (case l16 => k_is); (case c16 => k_is); (case k16 => k_is)
    (case a17 => k_is); (case l17 => k_is); (case c17 => k_is); (case k17 => k_is); (case a18 => k_is); (case l18 => k_is)
    (case c18 => k_is); (case k18 => k_is); (case a19 => k_is); (case l19 => k_is); (case c19 => k_is); (case k19 => k_is)
    (case a20 => k_is); (case l20 => k_is); (case c20 => k_is); (case k20 => k_is); (case a21 => k_is); (case l21 => k_is)
    (case c21 => k_is); (case k21 => k_is); (case a22 => k_is); (case l22 => k_is); (case c22 => k_is); (case k22 => k_is)
    (case a23 => k_is); (case l23 => k_is); (case c23 => k_is); (case k23 => k_is); (case a24 => k_is); (case l24 => k_is)
    (case c24 => k_is); (case k24 => k_is); (case a25 => k_is); (case l25 => k_is); (case c25 => k_is); (case k25 => k_is)
    (case a26 => k_is); (case l26 => k_is); (case c26 => k_is); (case k26 => k_is); (case a27 => k_is); (case l27 => k_is)
    (case c27 => k_is); (case k27 => k_is); (case a28 => k_is); (case l28 => k_is); (case c28 => k_is); (case k28 => k_is)
    (case a29 => k_is); (case l29 => k_is); (case c29 => k_is); (case k29 => k_is); (case a30 => k_is); (case l30 => k_is)
    (case c30 => k_is); (case k30 => k_is); (case a31 => k_is); (case l31 => k_is); (case c31 => k_is); (case k31 => k_is)
    (case z_range => k_is); (case z_len => k_is); (case z_max => k_is); (case z_sum => k_is); (case z_zip => k_is); (case z_enumerate => k_is)
    (case z_ord => k_is); (case z_str => k_is); (case z_all => k_is); (case z_int => k_is); (case z_list => k_is); (case z_isinstance => k_is)
    (case z_ValueError => k_is); (case v_CHECK_REST => k_is); (case v_ENDS => k_is); (case v_GOES => k_is); (case v_MARKS => k_is); (case kB_ => first | k_is | rfl)
    (case kD_ => first | k_is | rfl); (case kG_ => first | k_is | rfl); (case kK_ => first | k_is | rfl); (case kL_ => first | k_is | rfl); (case kO_ => first | k_is | rfl); (case kN_ => first | k_is | rfl)
    (case kP_ => first | k_is | rfl); (case kT_ => first | k_is | rfl); (case kitV => first | k_is | rfl); (case ccC1 => k_is); (case moC1 => k_is); (case ktC1 => first | k_is | rfl)
    (case ktL => first | k_is | rfl); (case ktS => first | k_is | rfl); (case nfL => first | k_is | rfl); (case nfS => first | k_is | rfl); (case xF => k_is); (case lNF => k_is)
    (case okE => rfl); (case eqF => k_is); (case neF => k_is); (case ocE => rfl)

