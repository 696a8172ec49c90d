import PyProof.Rows.All
import Wide.All
import OpenK.AllK
import Wide.FinOn
import HandS.ForMost
import HandS.Conv
import HandS.Wide
import HandS.IsInst
import HandS.Defaults
import PySem.Challenge.RW_timegranary_k86_asks_written
import HandS.Deep
import HandS.Walk
import HandS.Iter
import KE.KDictPairs
import HandS.Lambda
import KE.KLam
import KE.SortKeyHeap
import HandS.New
import HandS.EndOwn
import HandS.ListItems
import HandS.DictComp
import HandS.More
import KE.KUnpackStar
import PyProof.ReprRoads
import HandS.FStr
import HandS.OwnEq
import HandS.JoinGen
import HandS.Flow
import HandS.Codes
import HandS.StrMore
import HandS.Strs
import HandS.SortInts
import HandS.SetBool
import HandS.SetKeys
import PyProof.Rows.SortShellAny
import PyProof.Rows.StrMeet
import HandS.Dict
import KE.KEqDict
import HandS.Text
import HandS.Star
import KE.KxText
import HandS.TupAny
import PyProof.ReprLen
import PyProof.Rows.RegReprOcc
import HandS.SetFor
import PyProof.WalksMore
import HandS.Zip
import KE.GoesNew
import KE.GoesMore
import KE.GoesEnum
import KE.KIndexOf
import HandS.RaiseMore
import PyProof.NeKinds
set_option Elab.async false
set_option linter.all false
set_option maxRecDepth 100000
namespace Tg
open PySem PySem.Spec PyProof.Rows L2

/-! ### rules of my own: a call by keywords alone; list(range(a, b, c)) -/
section
variable {X : Cx} {CX : CXT} {k : Nat} {f : Addr} {fd : FuncData} {ps ks : List Str} {sp : Sp} {E : XK} {x : Str} {p pos : Pos} {kws : List Keyword} {tk : TA}
  {g : List Value → List Value → List Value} {gV : List V → List V → List V}
def tKw0 (n : Nat) (sp : Sp) (gV : List V → List V → List V) (E : XK) (tk : TA) : TE :=
  fun σ H Q => tk σ H fun zs H2 => zs.length = n ∧ sp (gV [] zs) H2 Q E
theorem pe_kw0 (F : FnOk X.prog X.w X.K X.mg X.base CX k f fd ps sp) (room : Room k X.A) (gl : Gl X x) (at_x : X.mg x = some (.ref f)) (kept : PySem.W.keepIn X.K (.ref f) = true) (binds : KBn X.K fd ps 0 ks g gV) (lets : Passes CX X E) (vals : PK X kws tk)
    (named : (backToKw pos (keywordEach kws X.env)).all (·.1.isSome) = true := by rfl) (names : (backToKw pos (keywordEach kws X.env)).filterMap (·.1) = ks := by rfl) (nodebug : (x == ("__debug__" : Str)) = false := by decide)
    (nostar : ((backTo pos (starEach [] X.env)).any (·.1) || (backToKw pos (keywordEach kws X.env)).any (·.1.isNone)) = false := by rfl) : PE X (.Call (.Name x p) [] kws pos) (tKw0 ks.length sp gV E tk) := by
  constructor
  intro pins s σ H Q I read
  refine wpAny_Call_Name_kw (ld_glob I gl at_x (PySem.W.callWith_KW0 (h₀ := X.base) I.ok.mod.kin kept named (thn (vals.run pos pins s σ H _ I read) fun ws s2 y => ?_) nostar) nodebug)
  obtain ⟨zs, H2, J, rel, many, h⟩ := y
  rw [names]
  exact ⟨J.kIn, run_fnN (us := []) (vs := []) F room binds lets J .nil rel rfl many h⟩
end

/-- two keywords, the second parameter's first -/
def sw2 {α : Type} : List α → List α
  | [y, x] => [x, y]
  | _ => []
/-- three keywords, the parameters' from the last on -/
def sw3 {α : Type} : List α → List α
  | [z, y, x] => [x, y, z]
  | _ => []
theorem sw2_rel : ∀ {zs : List V} {ws : List Value}, Vals zs ws → Vals (sw2 zs) (sw2 ws)
  | _, _, .nil => .nil
  | _, _, .cons _ .nil => .nil
  | _, _, .cons a (.cons b .nil) => .cons b (.cons a .nil)
  | _, _, .cons _ (.cons _ (.cons _ _)) => .nil
theorem sw3_rel : ∀ {zs : List V} {ws : List Value}, Vals zs ws → Vals (sw3 zs) (sw3 ws)
  | _, _, .nil => .nil
  | _, _, .cons _ .nil => .nil
  | _, _, .cons _ (.cons _ .nil) => .nil
  | _, _, .cons a (.cons b (.cons c .nil)) => .cons c (.cons b (.cons a .nil))
  | _, _, .cons _ (.cons _ (.cons _ (.cons _ _))) => .nil

section
variable {X : Cx} {a b c : Expr} {ta : TA}
def rg3 (a c : Int) (n : Nat) : List V := (List.range n).map fun i => V.int (a + (i : Nat) * c)
theorem rg3_length (a c : Int) (n : Nat) : (rg3 a c n).length = n := by
  simp [rg3]
def R3 (a b c : Int) (n : Nat) : Prop :=
  c ≠ 0 ∧ c.natAbs.log2 < 9000 ∧ Builtin.Range.small a b c = true ∧ Builtin.Range.rangeSize a b c = n ∧ n ≤ 2 ^ 24
def tLst3 (ta : TA) : TE := fun σ H Q => ta σ H fun vs H1 => ∃ (a b c : Int) (n : Nat), vs = [.int a, .int b, .int c] ∧ R3 a b c n ∧
  ∀ q, H1 q = none → Q (.ref q) (upd H1 q (.lst (rg3 a c n)))
theorem pe_lst3 {p p2 pos pos2 : Pos} (calm : X.calm = true) (gl : Gl X "list") (nl : X.mg "list" = none) (gr : Gl X "range") (nr : X.mg "range" = none) (args : PA X [a, b, c] ta)
    (one : starEach [a, b, c] X.env = (false, eval a X.env) :: starEach [b, c] X.env := by rfl) (nostar : (backTo pos2 (starEach [b, c] X.env)).any (·.1) = false := by rfl)
    (whole : starEach [.Call (.Name "range" p2) [a, b, c] [] pos2] X.env = (false, eval (.Call (.Name "range" p2) [a, b, c] [] pos2) X.env) :: starEach [] X.env := by rfl) :
    PE X (.Call (.Name "list" p) [.Call (.Name "range" p2) [a, b, c] [] pos2] [] pos) (tLst3 ta) := by
  constructor
  intro pins s σ H Q I read
  refine Call_ (ld_blt I gl nl boot_list (PyProof.Rows.callWith_type1 (args_cons (Call_ (ld_blt I gr nr boot_range (PyProof.Rows.callWith_type1 (thn (args.run pos2 pins s σ H _ I read) fun us s1 y => ?_) one nostar))) whole) whole))
  obtain ⟨zs, H1, J, rel, i, j, k, n, e, ⟨c0, c1, c2, c3, c4⟩, h⟩ := y
  subst e
  match us, rel with
  | [_, _, _], .cons ⟨t, ei⟩ (.cons ⟨u, ej⟩ (.cons ⟨v, ek⟩ .nil)) =>
    subst ei
    subst ej
    subst ek
    refine call_range_3 c0 (args_nil ?_) (.inl (PyProof.noPylong_of_log2 c1))
    obtain ⟨hx, ehx⟩ : ∃ hx, hx = s1.heap.push { cls := .type "range", data := .fields #[.int i t, .int j u, .int k v] } := ⟨_, rfl⟩
    have J2 : Inv X pins σ H1 { s1 with heap := hx } := by
      rw [ehx]
      exact J.kept (t' := s1.toks) fun _ _ z => Heap.get?_push_of_some _ z
    rw [← ehx]
    refine call_list_range (s := { s1 with heap := hx }) (n := n) (J2.ok.hd calm) (by rw [ehx]; exact IsRange.new ..) c2 c3 c4 fun h' tk acc cc kp made items => ?_
    have len : acc.toList.length = n := Array.length_toList.trans items.1
    have vals : Vals (rg3 i k n) acc.toList := by
      have z := vals_of_get acc.toList (fun m : Nat => V.int (i + m * k)) fun m w hw => by
        obtain ⟨tw, ew⟩ := items.2 m w (by rw [← hw, Array.getElem?_toList])
        exact ⟨tw, ew⟩
      rw [len] at z
      exact z
    refine ⟨.ref hx.objs.size, upd H1 hx.objs.size (.lst (rg3 i k n)), J2.laid kp (Nat.le_refl _) (show ObjOk X.prog X.w _ _ _ (.lst (rg3 i k n)) from ⟨?_, acc.toList, cc, vals, ?_⟩), rfl, h _ (J2.hok.fresh (Nat.le_refl _))⟩
    · rw [rg3_length, sizeLine_eq]
      omega
    · rw [Array.toArray_toList]
      exact made
end

/-! ### lists of ints, compared -/
theorem dp_ints {K : PySem.W.Frag} {H : Hp} : ∀ ns : List Int, DpAll K H (ns.map V.int) (ns.map PyData.int)
  | [] => .nil
  | n :: r => .cons (.int n) (dp_ints r)
theorem lay_ints : ∀ ns : List Int, PyData.canLayAll0 (ns.map PyData.int) = true
  | [] => rfl
  | n :: r => by
    show (true && PyData.canLayAll0 (r.map PyData.int)) = true
    rw [lay_ints r]
    rfl
theorem depth_ints : ∀ ns : List Int, PyData.depthAll (ns.map PyData.int) = 0
  | [] => rfl
  | n :: r => by
    show max 0 (PyData.depthAll (r.map PyData.int)) = 0
    rw [depth_ints r]
    rfl
theorem shaped_ints (ns : List Int) : SeqAt.shaped (.list (ns.map PyData.int)) = true := by
  unfold SeqAt.shaped
  have h1 : PyData.canLay0 (.list (ns.map PyData.int)) = true := lay_ints ns
  have h2 : PyData.depth (.list (ns.map PyData.int)) = 1 := by
    show PyData.depthAll (ns.map PyData.int) + 1 = 1
    rw [depth_ints]
  rw [h1, h2]
  rfl
theorem eqv_ints : ∀ ns : List Int, PyData.eqvAll (ns.map PyData.int) (ns.map PyData.int) = true
  | [] => rfl
  | n :: r => by
    show ((n == n) && PyData.eqvAll (r.map PyData.int) (r.map PyData.int)) = true
    rw [eqv_ints r, beq_self_eq_true]
    rfl
theorem dp_lst {K : PySem.W.Frag} {H : Hp} {a : Addr} {ns : List Int} (h : SqL K H a (ns.map V.int)) : Dp K H (.ref a) (.list (ns.map PyData.int)) := .lst h (dp_ints ns)
end Tg

namespace Tg
open PySem PySem.Spec PyProof.Rows L2
/-! ### defs, methods and classes as a caller needs them -/
section
variable (P : Program) (w : World) (K : PySem.W.Frag) (mg : Str → Option Value) (base : Heap)
/-- the def x is there, and keeps sp by level k -/
def Cal (k : Nat) (x : Str) (ps : List Str) (sp : Sp) : Prop := ∃ f fd, FnOk P w K mg base CX0 k f fd ps sp ∧ mg x = some (.ref f) ∧ PySem.W.keepIn K (.ref f) = true ∧ Binds K fd ps []
/-- the places that is tells, out of a list -/
def prm {α : Type} (is : List Nat) (zs : List α) : List α := is.filterMap fun i => zs[i]?
/-- the same with keywords alone, ks in this order; is: the places of the parameters among them -/
def CalK (k : Nat) (x : Str) (ps ks : List Str) (is : List Nat) (sp : Sp) : Prop := ∃ f fd, FnOk P w K mg base CX0 k f fd ps sp ∧ mg x = some (.ref f) ∧ PySem.W.keepIn K (.ref f) = true ∧ KBn K fd ps 0 ks (fun _ ws => prm is ws) (fun _ zs => prm is zs)
/-- a method of the class C -/
def CalM (k : Nat) (C : Addr) (m : Str) (ps : List Str) (sp : Sp) : Prop := ∃ f fd, FnOk P w K mg base CX0 k f fd ps sp ∧ Meth K C m f ∧ Binds K fd ps []
def CalMK (k : Nat) (C : Addr) (m : Str) (ps ks : List Str) (is : List Nat) (sp : Sp) : Prop := ∃ f fd, FnOk P w K mg base CX0 k f fd ps sp ∧ Meth K C m f ∧ KBn K fd ps 1 ks (fun us ws => us ++ prm is ws) (fun vs zs => vs ++ prm is zs)
/-- a class, by its __init__ -/
def CalC (k : Nat) (x : Str) (C : Addr) (ps : List Str) (sp : Sp) : Prop := ∃ f fd, FnOk P w K mg base CX0 k f fd ps sp ∧ mg x = some (.ref C) ∧ Mk K C f ∧ Binds K fd ps []
end
theorem vals_at : ∀ {zs : List V} {ws : List Value}, Vals zs ws → ∀ i : Nat, (zs[i]? = none ∧ ws[i]? = none) ∨ ∃ z w, zs[i]? = some z ∧ ws[i]? = some w ∧ RelV z w
  | _, _, .nil, i => .inl ⟨by simp, by simp⟩
  | _, _, .cons a b, i => by
    cases i with
    | zero => exact .inr ⟨_, _, rfl, rfl, a⟩
    | succ i => exact vals_at b i
theorem prm_rel {zs : List V} {ws : List Value} (h : Vals zs ws) : ∀ is : List Nat, Vals (prm is zs) (prm is ws)
  | [] => .nil
  | i :: r => by
    have ih := prm_rel h r
    unfold prm at ih ⊢
    rcases vals_at h i with ⟨h1, h2⟩ | ⟨z, w, h1, h2, h3⟩
    · rw [List.filterMap_cons_none h1, List.filterMap_cons_none h2]
      exact ih
    · rw [List.filterMap_cons_some h1, List.filterMap_cons_some h2]
      exact .cons h3 ih
section
variable {X : Cx} {k : Nat} {ps ks : List Str} {is : List Nat} {sp : Sp} {x m : Str} {C : Addr} {o e : Expr} {es : List Expr} {p pos apos : Pos} {kws : List Keyword} {ta t tk : TA} {to : TE}
theorem pe_cal (c : Cal X.prog X.w X.K X.mg X.base k x ps sp) (hr : Room k X.A) (gl : Gl X x) (ha : PA X (e :: es) t) (hdb : (x == ("__debug__" : Str)) = false := by decide)
    (he : starEach (e :: es) X.env = (false, eval e X.env) :: starEach es X.env := by rfl) (hpl : (backTo pos (starEach es X.env)).any (·.1) = false := by rfl) : PE X (.Call (.Name x p) (e :: es) [] pos) (tCall sp [] E0 t) := by
  obtain ⟨f, fd, F, hm, hk, hb⟩ := c
  exact pe_call F hr gl hm hk hb .nil pass0 ha hdb he hpl
theorem pe_calK (c : CalK X.prog X.w X.K X.mg X.base k x ps ks is sp) (hr : Room k X.A) (gl : Gl X x) (vals : PK X kws tk)
    (named : (backToKw pos (keywordEach kws X.env)).all (·.1.isSome) = true := by rfl) (names : (backToKw pos (keywordEach kws X.env)).filterMap (·.1) = ks := by rfl) (nodebug : (x == ("__debug__" : Str)) = false := by decide)
    (nostar : ((backTo pos (starEach [] X.env)).any (·.1) || (backToKw pos (keywordEach kws X.env)).any (·.1.isNone)) = false := by rfl) :
    PE X (.Call (.Name x p) [] kws pos) (tKw0 ks.length sp (fun _ zs => prm is zs) E0 tk) := by
  obtain ⟨f, fd, F, hm, hk, hb⟩ := c
  exact pe_kw0 F hr gl hm hk hb pass0 vals named names nodebug nostar
theorem pe_calM {pl : Sem Bool} (he : PE X o to) (cl : Cls X.K C) (c : CalM X.prog X.w X.K X.mg X.base k C m ps sp) (hr : Room k X.A) (ha : PA X (e :: es) t)
    (hst : starEach (e :: es) X.env = (false, eval e X.env) :: starEach es X.env := by rfl) (hpl : (backTo pos (starEach es X.env)).any (·.1) = false := by rfl) (ht : eval (.Call (.Attribute o m apos) (e :: es) [] pos) X.env = (do let ov ← eval o X.env; standAt apos.atName; let (f, first) ← holding [ov] (getMethod ov m pl); callWith pos f first (backTo pos (starEach (e :: es) X.env)) (backToKw pos (keywordEach [] X.env))) := by rfl) :
    PE X (.Call (.Attribute o m apos) (e :: es) [] pos) (tMeth C m sp [] E0 to t) := by
  obtain ⟨f, fd, F, hm, hb⟩ := c
  exact pe_meth (pl := pl) he cl hm F hr hb .nil pass0 ha hst hpl ht
theorem pe_calM0 {pl : Sem Bool} (he : PE X o to) (cl : Cls X.K C) (c : CalM X.prog X.w X.K X.mg X.base k C m ps sp) (hr : Room k X.A)
    (ht : eval (.Call (.Attribute o m apos) [] [] pos) X.env = (do let ov ← eval o X.env; standAt apos.atName; let (f, first) ← holding [ov] (getMethod ov m pl); callWith pos f first (backTo pos (starEach [] X.env)) (backToKw pos (keywordEach [] X.env))) := by rfl) :
    PE X (.Call (.Attribute o m apos) [] [] pos) (tMeth C m sp [] E0 to tNil) := by
  obtain ⟨f, fd, F, hm, hb⟩ := c
  exact pe_meth0 (pl := pl) he cl hm F hr hb .nil pass0 ht
/-- o.m(k = v, ..) -/
def tMethK (C : Addr) (m : Str) (n : Nat) (sp : Sp) (is : List Nat) (E : XK) (to : TE) (tk : TA) : TE := fun σ H Q => to σ H fun x H1 => ∃ a dx fs, x = .ref a ∧ H1 a = some (.ins C dx fs) ∧ fs.lookup m = none ∧ tk σ H1 fun zs H2 => zs.length = n ∧ sp (x :: prm is zs) H2 Q E
theorem pe_calMK {pl : Sem Bool} (he : PE X o to) (cl : Cls X.K C) (c : CalMK X.prog X.w X.K X.mg X.base k C m ps ks is sp) (hr : Room k X.A) (vals : PK X kws tk)
    (named : (backToKw pos (keywordEach kws X.env)).all (·.1.isSome) = true := by rfl) (names : (backToKw pos (keywordEach kws X.env)).filterMap (·.1) = ks := by rfl)
    (nostar : ((backTo pos (starEach [] X.env)).any (·.1) || (backToKw pos (keywordEach kws X.env)).any (·.1.isNone)) = false := by rfl)
    (ht : eval (.Call (.Attribute o m apos) [] kws pos) X.env = (do let ov ← eval o X.env; standAt apos.atName; let (f, first) ← holding [ov] (getMethod ov m pl); callWith pos f first (backTo pos (starEach [] X.env)) (backToKw pos (keywordEach kws X.env))) := by rfl) :
    PE X (.Call (.Attribute o m apos) [] kws pos) (tMethK C m ks.length sp is E0 to tk) := by
  obtain ⟨f, fd, F, hm, hb⟩ := c
  constructor
  intro pins s σ H Q I read
  refine PySem.W.methodCall_KW (pl := pl) (thn (he.run pins s σ H _ I read) fun u s1 ⟨x, H1, I1, rx, a, dx, fs, ex, ea, l, q⟩ => ?_) ht
  subst ex
  obtain rfl : u = .ref a := rx
  refine getmeth_ok I1 ea cl hm l ?_
  refine PySem.W.callWith_KW0 (first := [.ref a]) (h₀ := X.base) I.ok.mod.kin hm.kp named (thn (vals.run pos pins s1 σ H1 _ I1 q) fun ws s2 y => ?_) nostar
  obtain ⟨zs, H2, J, rel, many, h⟩ := y
  rw [names]
  exact ⟨J.kIn, run_fnN (E := E0) (us := [.ref a]) (vs := [.ref a]) F hr hb pass0 J (.cons rfl .nil) rel rfl many h⟩
theorem pe_calC0 (c : CalC X.prog X.w X.K X.mg X.base k x C ps sp) (hr : Room (k + 1) X.A) (gl : Gl X x) (hdb : (x == ("__debug__" : Str)) = false := by decide) : PE X (.Call (.Name x p) [] [] pos) (tMake C sp [] E0 tNil) := by
  obtain ⟨f, fd, F, hm, M, hb⟩ := c
  exact pe_make0 M F hr gl hm hb .nil pass0 hdb
theorem pe_calC (c : CalC X.prog X.w X.K X.mg X.base k x C ps sp) (hr : Room (k + 1) X.A) (gl : Gl X x) (ha : PA X (e :: es) t) (hdb : (x == ("__debug__" : Str)) = false := by decide)
    (he : starEach (e :: es) X.env = (false, eval e X.env) :: starEach es X.env := by rfl) (hpl : (backTo pos (starEach es X.env)).any (·.1) = false := by rfl) : PE X (.Call (.Name x p) (e :: es) [] pos) (tMake C sp [] E0 t) := by
  obtain ⟨f, fd, F, hm, M, hb⟩ := c
  exact pe_make M F hr gl hm hb .nil pass0 ha hdb he hpl
end
end Tg

namespace Tg
open PySem PySem.Spec PyProof.Rows L2
/-! ### the heap: what stands -/
/-- all but p stands as it stood -/
def Kp (p : Addr) (H H' : Hp) : Prop := ∀ b o, b ≠ p → H b = some o → H' b = some o
theorem Kp.refl (p : Addr) (H : Hp) : Kp p H H := fun _ _ _ h => h
theorem Kp.trans {p : Addr} {H H1 H2 : Hp} (a : Kp p H H1) (b : Kp p H1 H2) : Kp p H H2 := fun c o hc h => b c o hc (a c o hc h)
theorem Kp.of {p : Addr} {H H' : Hp} (s : Same H H') : Kp p H H' := fun c o _ h => s c o h
theorem Kp.put {p : Addr} {H : Hp} {o : HO} : Kp p H (upd H p o) := fun c u hc h => by
  rw [upd_ne hc]
  exact h
/-- what is new stays apart -/
theorem Kp.same {p : Addr} {H H1 H2 : Hp} (s : Same H H1) (n : H p = none) (k : Kp p H1 H2) : Same H H2 := fun b o h => k b o (ne_of_none h n) (s b o h)
theorem same_new {H : Hp} {p : Addr} {o : HO} (h : H p = none) : Same H (upd H p o) := fun b x e => by
  rw [upd_ne (ne_of_none e h)]
  exact e
theorem same_put {H H' : Hp} {D : Addr} {o : HO} (n : H D = none) (s : Same H H') : Same H (upd H' D o) := fun b x e => by
  rw [upd_ne (ne_of_none e n)]
  exact s _ _ e
/-- what can't be changed: tuples, and what is locked -/
def Fix : HO → Prop
  | .tup _ => True
  | .frz _ _ => True
  | _ => False
/-- all that can't be changed stands -/
def KT (H H' : Hp) : Prop := ∀ a o, Fix o → H a = some o → H' a = some o
theorem KT.refl (H : Hp) : KT H H := fun _ _ _ h => h
theorem KT.trans {H H1 H2 : Hp} (a : KT H H1) (b : KT H1 H2) : KT H H2 := fun c o f h => b c o f (a c o f h)
theorem KT.of {H H' : Hp} (s : Same H H') : KT H H' := fun c o _ h => s c o h
theorem KT.kp {p : Addr} {H H' : Hp} {o : HO} (k : Kp p H H') (h : H p = some o) (n : ¬ Fix o) : KT H H' := fun a u f e => k a u (fun z => n (by
  rw [z, h] at e
  cases e
  exact f)) e
theorem KT.put {p : Addr} {H : Hp} {o u : HO} (h : H p = some o) (n : ¬ Fix o) : KT H (upd H p u) := KT.kp Kp.put h n
theorem KT.new {p : Addr} {H : Hp} {u : HO} (h : H p = none) : KT H (upd H p u) := KT.of (same_new h)
theorem nfix_lst {xs : List V} : ¬ Fix (.lst xs) := fun z => z
theorem nfix_dK {xs : List (Key × V)} : ¬ Fix (.dK xs) := fun z => z
theorem nfix_ins {C dx : Addr} {fs : List (Str × V)} : ¬ Fix (.ins C dx fs) := fun z => z
/-! ### data -/
theorem rd_same {H H' : Hp} {a : Addr} {o : HO} (s : Same H H') (h : Rd H a o) : Rd H' a o := by
  rcases h with h | ⟨ob, h⟩
  · exact .inl (s _ _ h)
  · exact .inr ⟨ob, s _ _ h⟩
theorem sqL_same {K : PySem.W.Frag} {H H' : Hp} {a : Addr} {xs : List V} (s : Same H H') (h : SqL K H a xs) : SqL K H' a xs := h.imp (rd_same s) id
theorem sqT_same {K : PySem.W.Frag} {H H' : Hp} {a : Addr} {xs : List V} (s : Same H H') (h : SqT K H a xs) : SqT K H' a xs := h.imp (rd_same s) id
theorem sqT_kt {K : PySem.W.Frag} {H H' : Hp} {a : Addr} {xs : List V} (s : KT H H') (h : SqT K H a xs) : SqT K H' a xs := by
  refine h.imp (fun h => ?_) id
  rcases h with h | ⟨ob, h⟩
  · exact .inl (s _ _ trivial h)
  · exact .inr ⟨ob, s _ _ trivial h⟩
mutual
theorem dp_same {K : PySem.W.Frag} {H H' : Hp} (s : Same H H') : ∀ {x : V} {d : PyData}, Dp K H x d → Dp K H' x d
  | _, _, .non => .non
  | _, _, .bl b => .bl b
  | _, _, .int i => .int i
  | _, _, .str z => .str z
  | _, _, .lst a b => .lst (sqL_same s a) (dpAll_same s b)
  | _, _, .tup a b => .tup (sqT_same s a) (dpAll_same s b)
theorem dpAll_same {K : PySem.W.Frag} {H H' : Hp} (s : Same H H') : ∀ {xs : List V} {ds : List PyData}, DpAll K H xs ds → DpAll K H' xs ds
  | _, _, .nil => .nil
  | _, _, .cons a b => .cons (dp_same s a) (dpAll_same s b)
end
/-- no list and no dict in it -/
inductive TD : PyData → Prop
  | non : TD .none
  | bl (b : Bool) : TD (.bool b)
  | int (i : Int) : TD (.int i)
  | str (z : Str) : TD (.str z)
  | tup {ds : List PyData} : (∀ d, d ∈ ds → TD d) → TD (.tuple ds)
mutual
theorem dp_kt {K : PySem.W.Frag} {H H' : Hp} (s : KT H H') : ∀ {x : V} {d : PyData}, Dp K H x d → TD d → Dp K H' x d
  | _, _, .non, _ => .non
  | _, _, .bl b, _ => .bl b
  | _, _, .int i, _ => .int i
  | _, _, .str z, _ => .str z
  | _, _, .lst _ _, t => nomatch t
  | _, _, .tup a b, .tup t => .tup (sqT_kt s a) (dpAll_kt s b t)
theorem dpAll_kt {K : PySem.W.Frag} {H H' : Hp} (s : KT H H') : ∀ {xs : List V} {ds : List PyData}, DpAll K H xs ds → (∀ d, d ∈ ds → TD d) → DpAll K H' xs ds
  | _, _, .nil, _ => .nil
  | _, _, .cons a b, t => .cons (dp_kt s a (t _ List.mem_cons_self)) (dpAll_kt s b fun d hd => t d (List.mem_cons_of_mem _ hd))
end
theorem dpAll_len {K : PySem.W.Frag} {H : Hp} : ∀ {xs : List V} {ds : List PyData}, DpAll K H xs ds → xs.length = ds.length
  | _, _, .nil => rfl
  | _, _, .cons _ b => congrArg Nat.succ (dpAll_len b)
theorem dpAll_at {K : PySem.W.Frag} {H : Hp} : ∀ {xs : List V} {ds : List PyData}, DpAll K H xs ds → ∀ (i : Nat) (x : V), xs[i]? = some x → ∃ d, ds[i]? = some d ∧ Dp K H x d
  | _, _, .nil => fun i x h => by simp at h
  | _, _, .cons a b => fun i x h => by
    cases i with
    | zero =>
      simp only [Option.some.injEq, List.getElem?_cons_zero] at h
      subst h
      exact ⟨_, rfl, a⟩
    | succ i =>
      rw [List.getElem?_cons_succ] at h ⊢
      exact dpAll_at b i x h
theorem dpAll_tk {K : PySem.W.Frag} {H : Hp} : ∀ {xs : List V} {ds : List PyData}, DpAll K H xs ds → ∀ (i : Nat) (d : PyData), ds[i]? = some d → ∃ x, xs[i]? = some x ∧ Dp K H x d
  | _, _, .nil => fun i x h => by simp at h
  | _, _, .cons a b => fun i x h => by
    cases i with
    | zero =>
      simp only [Option.some.injEq, List.getElem?_cons_zero] at h
      subst h
      exact ⟨_, rfl, a⟩
    | succ i =>
      rw [List.getElem?_cons_succ] at h ⊢
      exact dpAll_tk b i x h
theorem dpAll_app {K : PySem.W.Frag} {H : Hp} : ∀ {xs ys : List V} {ds es : List PyData}, DpAll K H xs ds → DpAll K H ys es → DpAll K H (xs ++ ys) (ds ++ es)
  | _, _, _, _, .nil, h => h
  | _, _, _, _, .cons a b, h => .cons a (dpAll_app b h)
theorem dpAll_snoc {K : PySem.W.Frag} {H : Hp} {xs : List V} {ds : List PyData} {y : V} {e : PyData} (h : DpAll K H xs ds) (a : Dp K H y e) : DpAll K H (xs ++ [y]) (ds ++ [e]) := dpAll_app h (.cons a .nil)
/-- a list of data that can't be changed itself -/
def LD (K : PySem.W.Frag) (H : Hp) (a : Addr) (ds : List PyData) : Prop := ∃ xs, H a = some (.lst xs) ∧ DpAll K H xs ds
theorem LD.dp {K : PySem.W.Frag} {H : Hp} {a : Addr} {ds : List PyData} (h : LD K H a ds) : Dp K H (.ref a) (.list ds) := by
  obtain ⟨xs, h1, h2⟩ := h
  exact .lst (SqL.of h1) h2
theorem LD.same {K : PySem.W.Frag} {H H' : Hp} {a : Addr} {ds : List PyData} (s : Same H H') (h : LD K H a ds) : LD K H' a ds := by
  obtain ⟨xs, h1, h2⟩ := h
  exact ⟨xs, s _ _ h1, dpAll_same s h2⟩
/-- where the list itself stands and all tuples do -/
theorem LD.kt {K : PySem.W.Frag} {H H' : Hp} {a : Addr} {ds : List PyData} (s : KT H H') (e : ∀ o, H a = some o → H' a = some o) (t : ∀ d, d ∈ ds → TD d) (h : LD K H a ds) : LD K H' a ds := by
  obtain ⟨xs, h1, h2⟩ := h
  exact ⟨xs, e _ h1, dpAll_kt s h2 t⟩
theorem LD.kp {K : PySem.W.Frag} {H H' : Hp} {a p : Addr} {o : HO} {ds : List PyData} (k : Kp p H H') (hp : H p = some o) (n : ¬ Fix o) (ne : a ≠ p) (t : ∀ d, d ∈ ds → TD d) (h : LD K H a ds) : LD K H' a ds :=
  h.kt (KT.kp k hp n) (fun u e => k _ _ ne e) t
/-- one more at the end -/
theorem LD.snoc {K : PySem.W.Frag} {H H1 : Hp} {a : Addr} {xs : List V} {ds : List PyData} {y : V} {e : PyData} (k : KT H H1) (h1 : H1 a = some (.lst xs)) (hd : DpAll K H xs ds) (t : ∀ d, d ∈ ds → TD d) (hy : Dp K H1 y e) (te : TD e) :
    LD K (upd H1 a (.lst (xs ++ [y]))) a (ds ++ [e]) :=
  ⟨_, upd_same, dpAll_snoc (dpAll_kt (k.trans (KT.put h1 nfix_lst)) hd t) (dp_kt (KT.put h1 nfix_lst) hy te)⟩
theorem shaped_of {d : PyData} (h1 : d.canLay0 = true) (h2 : d.depth ≤ 64) : SeqAt.shaped d = true := by
  unfold SeqAt.shaped
  rw [h1, decide_eq_true h2]
  rfl
theorem if_f {A B : Prop} (h : B) : if false = true then A else B := by
  rw [if_neg (by decide)]
  exact h
theorem if_t {A B : Prop} (h : A) : if true = true then A else B := by
  rw [if_pos rfl]
  exact h
theorem atI_mem {xs : List Int} {i : Int} (h0 : 0 ≤ i) (h1 : i < xs.length) : ∃ v, v ∈ xs ∧ atI (xs.map V.int) i = some (.int v) := by
  have hn : i.toNat < xs.length := by omega
  obtain ⟨j, rfl⟩ : ∃ j : Nat, i = (j : Int) := ⟨i.toNat, by omega⟩
  have hj : j < xs.length := by omega
  refine ⟨xs[j], List.getElem_mem hj, atI_nat ?_⟩
  rw [List.getElem?_map, List.getElem?_eq_getElem hj]
  rfl
end Tg

set_option maxHeartbeats 2000000
namespace Tg
open PySem PySem.Spec PyProof.Rows L2
set_option maxHeartbeats 2000000
set_option maxHeartbeats 2000000
set_option maxHeartbeats 2000000
def topS (i : Nat) : Stmt := PySem.Challenge.pw_timegranary_k86_asks_written.main.body.getD i (.Pass ⟨0, 0, 0, 0⟩)
def spIs (Wsh : Hp → V → Bool → Prop) : Sp := fun vs H Q _ => ∃ (x : V) (b : Bool), vs = [x] ∧ Wsh H x b ∧ ∀ H', Same H H' → Q (.bl b) H'
section
variable {P : Program} {w : World} {K : PySem.W.Frag} {mg : Str → Option Value} {base : Heap}
end
end Tg

set_option maxHeartbeats 400000
namespace Tg
open PySem PySem.Spec PyProof.Rows L2
set_option maxHeartbeats 400000
set_option maxHeartbeats 400000
set_option maxHeartbeats 400000
set_option maxHeartbeats 400000
abbrev sLabel : Stmt := topS 25
abbrev signs : Str := "abcdefghijklmnopqrstuvwxyz0123456789"
abbrev NLb : List Str := ["thing", "sign"]
theorem scLabel : FnScope NLb ["thing"] (defScope sLabel) := ⟨rfl, rfl, rfl, by decide +kernel, rfl, by decide +kernel, by decide +kernel⟩
/-- a text that may be a key or a text of labels -/
def lblB (z : Str) : Bool := decide (0 < z.length) && decide (z.length ≤ 20) && z.cps.toList.all fun c => decide (c ∈ signs.cps.toList)
/-- whether a thing may be a key or a text of labels -/
inductive LblV (K : PySem.W.Frag) (H : Hp) : V → Bool → Prop where
  | str (z : Str) (h : z.length ≤ sizeLine) : LblV K H (.str z) (lblB z)
  | other {x : V} {t : Value} (ty : TyX K H x t) (no : PySem.W.kitOne K t (.type "str") = some false) : LblV K H x false
section
variable {P : Program} {w : World} {K : PySem.W.Frag} {mg : Str → Option Value} {base : Heap}
theorem ok_label {f : Addr} {fd : FuncData} {k : Nat} {t1 t2 : Tok} (F : Fun K "is_label_text" "is_label_text" sLabel f fd) (mi : mg "isinstance" = none) (ms : mg "str" = none) (ml : mg "len" = none) (ma : mg "all" = none)
    (mS : mg "SIGNS" = some (.str signs t1)) (mM : mg "MOST_SIGNS" = some (.int 20 t2)) : FnOk P w K mg base CX0 (k + 1) f fd ["thing"] (spIs (LblV K)) := by
  refine F.ok scLabel (fun vs H Q E h => ?_) (fun cdv A outer s H vs Q E hr h => ?_)
  · obtain ⟨x, b, rfl, _⟩ := h
    rfl
  · obtain ⟨x, b, rfl, hx, q⟩ := h
    refine ⟨_, pss_cons (ps_if (PW.pt (pw_or (pt_not (pt_val (pe_callB call_isi (by rfl) mi PyProof.Rows.boot_isinstance (pa_cons (pv 0) (pa_cons (pe_bltn (v := .ty "str") (by rfl) ms PyProof.Rows.Boot.«str» rfl) pa_nil)))))
        (pw_or1 (pt_not (pt_chain op_lt op_le pe_int (pe_callB call_len_str (by rfl) ml PySem.boot_len (pa_cons (pv 0) pa_nil)) (pe_glob (v := .int 20) (by rfl) mM ⟨_, rfl⟩))))))
        (pss_one (ps_ret pe_bl)) pss_nil)
      (pss_one (ps_ret (pe_callB (cr_all rfl) (by rfl) ma PyProof.Rows.boot_all (pa_cons (pe_lc (own := [("sign", 1)]) (g := gName 1) (tt := tYes) rfl scLabel.nd (pi_str (pv 0)) (blkOk_by (N := NLb) (sc := defScope sLabel) (by decide +kernel))
        (fun _ _ _ _ _ => pg_name (i := 1) scLabel.nd rfl (Or.inl rfl)) (fun _ _ _ _ _ => pts_nil) (fun _ _ _ _ _ => pe_cmpR op_in_sign (pv 1) (pe_glob (v := .str signs) (by rfl) mS ⟨_, rfl⟩) (by with_unfolding_all rfl))) pa_nil)))), ?_⟩
    cases hx with
    | other ty no => exact ⟨_, rfl, x, .ty "str", _, .type "str", false, rfl, .ty _, ty, no, false, rfl, if_t (if_t (q H (Same.refl _)))⟩
    | str z small =>
      refine ⟨_, rfl, .str z, .ty "str", .type "str", .type "str", true, rfl, .ty _, .base (.str z), kit_ty (by decide +kernel), true, rfl, if_f ?_⟩
      refine ⟨_, rfl, z, rfl, small, 0, (z.length : Int), rfl, rfl, decide ((0 : Int) < z.length), rfl, ?_⟩
      have size : z.length = z.cps.toList.length := rfl
      by_cases g1 : (0 : Int) < z.length
      · rw [if_pos (decide_eq_true g1)]
        refine ⟨(z.length : Int), 20, rfl, rfl, decide ((z.length : Int) ≤ 20), rfl, ?_⟩
        by_cases g2 : (z.length : Int) ≤ 20
        · rw [decide_eq_true g2]
          refine if_f ?_
          have told : lblB z = (z.cps.toList.map fun c => decide (c ∈ signs.cps.toList)).all id := by
            unfold lblB
            rw [decide_eq_true (by omega : 0 < z.length), decide_eq_true (by omega : z.length ≤ 20), List.all_map]
            rfl
          refine ⟨_, rfl, z, rfl, fun D nD => ⟨fun i m Hc => i + m = z.cps.size ∧ Hc = upd H D (.lst (((z.cps.toList.take i).map fun c => decide (c ∈ signs.cps.toList)).map V.bl)), ⟨z.cps.size, by omega, rfl⟩, fun i m Hc hW => ?_⟩⟩
          obtain ⟨em, rfl⟩ := hW
          by_cases hi : i < z.cps.size
          · refine .inr ⟨hi, fun H' => H' = upd H D (.lst (((z.cps.toList.take (i + 1)).map fun c => decide (c ∈ signs.cps.toList)).map V.bl)), fun H' e => ⟨m - 1, by omega, by omega, e⟩, fun x H' y => ?_⟩
            obtain ⟨rfl, c, ec, rfl⟩ := y
            have ec' : z.cps.toList[i]? = some c := by
              rw [Array.getElem?_toList]
              exact ec
            refine ⟨rfl, ?_⟩
            unfold tYes
            dsimp only
            rw [if_pos rfl]
            refine ⟨_, rfl, c, signs, rfl, rfl, _, upd_same, ?_, ?_⟩
            · rw [List.length_map, List.length_map, List.length_take]
              have l1 : z.cps.size ≤ 20 := by
                have : z.length = z.cps.size := rfl
                omega
              have l2 : 20 < sizeLine := by decide
              omega
            · rw [upd_upd, List.take_add_one, ec']
              simp
          · refine .inl ⟨by show z.cps.size ≤ i; omega, D, z.cps.toList.map fun c => decide (c ∈ signs.cps.toList), rfl, SqL.of ?_, ?_⟩
            · rw [upd_same, List.take_of_length_le (by rw [Array.length_toList]; omega)]
            · rw [← told]
              exact q _ (same_new nD)
        · rw [decide_eq_false g2]
          have e : lblB z = false := by
            unfold lblB
            rw [decide_eq_false (by omega : ¬ z.length ≤ 20)]
            simp
          rw [e] at q
          exact if_t (q H (Same.refl _))
      · rw [if_neg (by rw [decide_eq_false g1]; decide)]
        have e : lblB z = false := by
          unfold lblB
          rw [decide_eq_false (by omega : ¬ 0 < z.length)]
          rfl
        rw [e] at q
        exact ⟨false, rfl, if_t (q H (Same.refl _))⟩
end
end Tg

set_option maxHeartbeats 400000
namespace Tg
open PySem PySem.Spec PyProof.Rows L2
/-! ### things as data -/
set_option maxHeartbeats 400000
set_option maxHeartbeats 400000
set_option maxHeartbeats 400000
def lblD : PyData → Bool
  | .str z => lblB z
  | _ => false
/-- its texts are no longer than a text may be -/
def TxD (d : PyData) : Prop := ∀ z, d = .str z → z.length ≤ sizeLine
theorem tyL {K : PySem.W.Frag} {H : Hp} {a : Addr} {xs : List V} (h : SqL K H a xs) : TyX K H (.ref a) (.type "list") := by
  rcases h with (h | ⟨o, h⟩) | ⟨o, its, n, h1, h2, _⟩
  · exact .base (.lst h)
  · exact .base (.frz h)
  · exact .kList h1 h2
theorem tyT {K : PySem.W.Frag} {H : Hp} {a : Addr} {xs : List V} (h : SqT K H a xs) : TyX K H (.ref a) (.type "tuple") := by
  rcases h with (h | ⟨o, h⟩) | ⟨o, its, n, h1, h2, _⟩
  · exact .base (.tup h)
  · exact .fTuple h
  · exact .kTuple h1 h2
theorem LblV.of {K : PySem.W.Frag} {H : Hp} {x : V} {d : PyData} (h : Dp K H x d) (t : TxD d) : LblV K H x (lblD d) := by
  cases h with
  | non => exact .other (.base .non) (kit_ty (by decide +kernel))
  | bl b => exact .other (.base (.bl b)) (kit_ty (by decide +kernel))
  | int i => exact .other (.base (.int i)) (kit_ty (by decide +kernel))
  | str z => exact .str z (t z rfl)
  | lst a b => exact .other (tyL a) (kit_ty (by decide +kernel))
  | tup a b => exact .other (tyT a) (kit_ty (by decide +kernel))
section
variable {P : Program} {w : World} {K : PySem.W.Frag} {mg : Str → Option Value} {base : Heap}
end
end Tg

namespace Tg
open PySem PySem.Spec PyProof.Rows L2
/-! ### the text -/
abbrev sDraws : Stmt := topS 50
abbrev sNext : Stmt := topS 51
theorem scDraws : FnScope ["_law_cell", "_law_cut", "_law_k"] ["_law_cell"] (defScope sDraws) := ⟨rfl, rfl, rfl, by decide +kernel, rfl, by decide +kernel, by decide +kernel⟩
theorem scNext : FnScope ["_law_draws_here", "_law_k", "_law_number_here"] ["_law_draws_here"] (defScope sNext) := ⟨rfl, rfl, rfl, by decide +kernel, rfl, by decide +kernel, by decide +kernel⟩
section
variable {P : Program} {w : World} {K : PySem.W.Frag} {mg : Str → Option Value} {base : Heap}
/-! ### _law_draws -/
/-- the draws at p, of which at most n were taken -/
def Dr (H : Hp) (p : Addr) (n : Nat) : Prop := ∃ (a k : Int) (b : Bool), H p = some (.lst [.int a, .int k, .bl b]) ∧ 0 ≤ k ∧ k ≤ n
theorem Dr.same {H H' : Hp} {p : Addr} {n : Nat} (s : Same H H') (d : Dr H p n) : Dr H' p n := by
  obtain ⟨a, k, b, h, r⟩ := d
  exact ⟨a, k, b, s _ _ h, r⟩
theorem Dr.ne {H : Hp} {p l : Addr} {n : Nat} (d : Dr H p n) (h : H l = none) : l ≠ p := fun z => by
  obtain ⟨_, _, _, z2, _⟩ := d
  rw [z, z2] at h
  cases h
def spDraws : Sp := fun vs H Q _ => ∃ c : Int, vs = [.int c] ∧ ∀ (p : Addr) (a : Int) (b : Bool), H p = none → Q (.ref p) (upd H p (.lst [.int a, .int 0, .bl b]))
theorem ok_draws {f : Addr} {fd : FuncData} {k : Nat} (F : Fun K "_law_draws" "_law_draws" sDraws f fd) (mr : mg "range" = none) : FnOk P w K mg base CX0 (k + 1) f fd ["_law_cell"] spDraws := by
  refine F.ok scDraws (fun vs H Q E h => ?_) (fun cdv A outer s H vs Q E hr h => ?_)
  · obtain ⟨c, rfl, _⟩ := h
    rfl
  · obtain ⟨c, rfl, q⟩ := h
    refine ⟨_, pss_cons (ps_set (i := 1) scDraws.nd rfl (.inl rfl) (pe_op op_pow pe_int pe_int))
      (pss_cons (ps_for PassesOwn.never rfl (pi_range1 (by rfl) mr (pa_cons pe_int pa_nil)) (pg_name (i := 2) scDraws.nd rfl (.inl rfl))
        (pss_one (ps_set (i := 1) scDraws.nd rfl (.inl rfl) (pe_op op_mulW (pv 1) (pv 1)))))
      (pss_one (ps_ret (pe_lst (pa_cons (pe_op op_mod (pv 0) (pv 1)) (pa_cons pe_int (pa_cons (pe_cmpR op_ge (pv 0) (pe_op op_pow pe_int pe_int) (nomark _)) pa_nil))))))), ?_⟩
    refine ⟨10, 60, rfl, rfl, ⟨by decide, by decide, by decide⟩, ?_⟩
    refine ⟨7, rfl, by decide, by decide, for_range (n := 7) (fun i σ H2 => ∃ (x : Int) (y : Option V), σ = [some (.int c), some (.int x), y] ∧ H2 = H ∧ 0 < x ∧ x.natAbs < 2 ^ (200 * 2 ^ i)) ?_ ?_ ?_⟩
    · exact ⟨_, none, rfl, rfl, by decide, by decide⟩
    · rintro i σ H2 hi ⟨x, y, rfl, rfl, hx, hb⟩
      refine ⟨_, rfl, _, rfl, x, x, rfl, rfl, ?_, x * x, _, rfl, rfl, Int.mul_pos hx hx, ?_⟩
      · have h7 : 2 ^ i ≤ 2 ^ 6 := Nat.pow_le_pow_right (by decide) (by omega)
        have h0 : 0 < 2 ^ i := Nat.pow_pos (by decide)
        exact wide_mul hb hb (by omega) (by omega) (by omega)
      · have e := wide_lt hb hb
        rw [show 200 * 2 ^ (i + 1) = 200 * 2 ^ i + 200 * 2 ^ i by rw [Nat.pow_succ]; omega]
        exact e
    · rintro σ H2 ⟨x, y, rfl, rfl, hx, _⟩
      refine ⟨_, rfl, _, rfl, c, x, rfl, rfl, hx, _, rfl, 10, 18, rfl, rfl, ⟨by decide, by decide, by decide⟩, c, _, rfl, rfl, ?_, fun p hp => ?_⟩
      · show 3 ≤ sizeLine
        decide
      · exact q p _ _ hp
/-! ### _law_next -/
def spNext : Sp := fun vs H Q _ => ∃ (p : Addr) (n : Nat), vs = [.ref p] ∧ Dr H p n ∧ n < 1000000 ∧
  ∀ (v : Int) (H' : Hp), Kp p H H' → Dr H' p (n + 1) → 0 ≤ v → v < 1000000000 → Q (.int v) H'
theorem ok_next {f : Addr} {fd : FuncData} {k : Nat} (F : Fun K "_law_next" "_law_next" sNext f fd) : FnOk P w K mg base CX0 (k + 1) f fd ["_law_draws_here"] spNext := by
  refine F.ok scNext (fun vs H Q E h => ?_) (fun cdv A outer s H vs Q E hr h => ?_)
  · obtain ⟨p, n, rfl, _⟩ := h
    rfl
  · obtain ⟨p, n, rfl, ⟨a, k, b, hp, k0, kn⟩, hn, q⟩ := h
    refine ⟨_, pss_cons (ps_asg (pe_op op_add (pe_ix ix_list (pv 0) pe_int (fun _ _ => rfl)) pe_int) (pg_sub (pv 0) pe_int set_list))
      (pss_cons (ps_set (i := 1) scNext.nd rfl (.inl rfl) (pe_ix ix_list (pv 0) pe_int (fun _ _ => rfl)))
      (pss_cons (ps_if (pt_val (pe_ix ix_list (pv 0) pe_int (fun _ _ => rfl)))
        (pss_cons (ps_set (i := 2) scNext.nd rfl (.inl rfl) (pe_op op_mod (pe_ix ix_list (pv 0) pe_int (fun _ _ => rfl)) (pe_op op_pow pe_int pe_int)))
        (pss_cons (ps_asg (pe_op op_fdiv (pe_ix ix_list (pv 0) pe_int (fun _ _ => rfl)) (pe_op op_pow pe_int pe_int)) (pg_sub (pv 0) pe_int set_list))
        (pss_one (ps_ret (pv 2))))) pss_nil)
      (pss_cons (ps_set (i := 2) scNext.nd rfl (.inl rfl) (pe_op op_mod (pe_op op_mul (pe_op op_add (pe_op op_add (pe_op op_mod (pe_ix ix_list (pv 0) pe_int (fun _ _ => rfl)) pe_int) (pe_op op_mul (pe_op op_mul (pv 1) (pv 1)) pe_int)) (pv 1)) pe_int) pe_int))
      (pss_cons (ps_set (i := 2) scNext.nd rfl (.inl rfl) (pe_op op_mod (pe_op op_mul (pv 2) (pv 2)) pe_int))
      (pss_one (ps_ret (pe_op op_fdiv (pe_op op_mod (pe_op op_mul (pv 2) (pe_op op_add (pv 2) pe_int)) pe_int) pe_int))))))), ?_⟩
    have h1 : (upd H p (.lst [.int a, .int (k + 1), .bl b])) p = some (.lst [.int a, .int (k + 1), .bl b]) := upd_same
    refine ⟨_, rfl, p, _, 1, .int k, rfl, rfl, SqL.of hp, rfl, k, 1, rfl, rfl, _, rfl, p, _, 1, 1, rfl, rfl, hp, rfl, ?_⟩
    refine ⟨_, rfl, p, _, 1, .int (k + 1), rfl, rfl, SqL.of h1, rfl, ?_⟩
    refine ⟨_, rfl, p, _, 2, .bl b, rfl, rfl, SqL.of h1, rfl, b, rfl, ?_⟩
    cases b with
    | true =>
      refine ⟨_, rfl, p, _, 0, .int a, rfl, rfl, SqL.of h1, rfl, 10, 6, rfl, rfl, ⟨by decide, by decide, by decide⟩, a, 1000000, rfl, rfl, (by show (0 : Int) < 1000000; decide), ?_⟩
      refine ⟨_, rfl, p, _, 0, .int a, rfl, rfl, SqL.of h1, rfl, 10, 6, rfl, rfl, ⟨by decide, by decide, by decide⟩, a, 1000000, rfl, rfl, ⟨by decide, by decide⟩, _, rfl, p, _, 0, 0, rfl, rfl, h1, rfl, ?_⟩
      refine ⟨_, rfl, ?_⟩
      rw [upd_upd]
      exact q _ _ Kp.put ⟨_, _, _, upd_same, by omega, by omega⟩ (Int.emod_nonneg _ (by decide)) (Int.lt_of_lt_of_le (Int.emod_lt_of_pos _ (by decide)) (by decide))
    | false =>
      refine ⟨_, rfl, p, _, 0, .int a, rfl, rfl, SqL.of h1, rfl, a, 1000003, rfl, rfl, (by show (0 : Int) < 1000003; decide), _, rfl, _, rfl, k + 1, k + 1, rfl, rfl, .inl ⟨by omega, by omega⟩, _, 7919, rfl, rfl, .inr ⟨by decide, by decide⟩,
        _, _, rfl, rfl, _, rfl, _, k + 1, rfl, rfl, _, 48271, rfl, rfl, .inr ⟨by decide, by decide⟩, _, 2147483629, rfl, rfl, (by show (0 : Int) < 2147483629; decide), ?_⟩
      obtain ⟨x, ex⟩ : ∃ x : Int, (a % 1000003 + (k + 1) * (k + 1) * 7919 + (k + 1)) * 48271 % 2147483629 = x := ⟨_, rfl⟩
      have x0 : 0 ≤ x := by
        rw [← ex]
        exact Int.emod_nonneg _ (by decide)
      have x1 : x < 2147483629 := by
        rw [← ex]
        exact Int.emod_lt_of_pos _ (by decide)
      refine ⟨_, rfl, _, rfl, x, x, congrArg V.int ex, congrArg V.int ex, .inl ⟨by omega, by omega⟩, _, 2147483587, rfl, rfl, (by show (0 : Int) < 2147483587; decide), ?_⟩
      obtain ⟨y, ey⟩ : ∃ y : Int, x * x % 2147483587 = y := ⟨_, rfl⟩
      have y0 : 0 ≤ y := by
        rw [← ey]
        exact Int.emod_nonneg _ (by decide)
      have y1 : y < 2147483587 := by
        rw [← ey]
        exact Int.emod_lt_of_pos _ (by decide)
      refine ⟨_, rfl, _, rfl, y, 2, congrArg V.int ey, rfl, y, _, congrArg V.int ey, rfl, .inl ⟨by omega, by omega⟩, _, 2147483579, rfl, rfl, (by show (0 : Int) < 2147483579; decide), _, 7, rfl, rfl, ⟨by decide, by decide⟩, ?_⟩
      have z0 : 0 ≤ y * (y + 2) % 2147483579 := Int.emod_nonneg _ (by decide)
      have z1 : y * (y + 2) % 2147483579 < 2147483579 := Int.emod_lt_of_pos _ (by decide)
      exact q _ _ Kp.put ⟨_, _, _, upd_same, by omega, by omega⟩ (by omega) (by omega)
end
end Tg

set_option maxHeartbeats 400000
namespace Tg
open PySem PySem.Spec PyProof.Rows L2
section
variable {pins : List (Addr × Obj)} {X : Cx} {s : Shared} {σ : L2.St} {H : Hp}
/-- tuple(xs) of a list: a new object without a dict of its own -/
theorem call_tupleF : CallR X (.type "tuple") (fun xs H Q => ∃ p ys, xs = [.ref p] ∧ SqL X.K H p ys ∧ ∀ (l : Addr) (o : Obj), o.dict = none → H l = none → Q (.ref l) (upd H l (.frz o (.tup ys)))) := by
  intro pins s σ H xs us Q I r hyp
  obtain ⟨p, ys, rfl, at_p, told⟩ := hyp
  obtain ⟨u, rfl, ru⟩ := r.one
  cases ru
  obtain ⟨its, rel, plain, small⟩ := I.list at_p
  have many := rel.length
  refine call_tuple_list plain.isList (fun h' keeps => ?_) (by simp only [List.size_toArray]; omega)
  have J : Inv X pins σ H { s with heap := h' } := I.kept (t' := s.toks) keeps
  have fine : ObjOk X.prog X.w (upd H h'.objs.size (.frz { cls := .type "tuple", data := .seq its.toArray } (.tup ys))) (h'.push { cls := .type "tuple", data := .seq its.toArray }) h'.objs.size (.frz { cls := .type "tuple", data := .seq its.toArray } (.tup ys)) :=
    ⟨Heap.get?_push_size _ rfl, small, its, rel, IsTup.new _ _⟩
  exact ⟨.ref h'.objs.size, _, J.laid (t' := s.toks) (fun b o e => Heap.get?_push_of_some _ e) (Nat.le_refl _) fine, rfl, told _ _ rfl (J.hok.fresh (Nat.le_refl _))⟩
/-- the pairs' keys and worths in the heap -/
theorem pairs_told (I : Inv X pins σ H s) : ∀ {ps : List Addr} {kvs : List (Key × V)}, Paired (fun p kv => SqT X.K H p [kV kv.1, kv.2]) ps kvs →
    ∃ (prs : List (Key × Value)) (us : List (Value × Value)), KV kvs prs ∧ prs.length = ps.length ∧ us.length = ps.length ∧
      ∀ (j : Nat) (k v : Value), us[j]? = some (k, v) → (∃ b, ps[j]? = some b ∧ IsTup s.heap b #[k, v]) ∧ ∃ key, prs[j]? = some (key, v) ∧ keyIs key k = true
  | _, _, .nil => ⟨[], [], .nil, rfl, rfl, fun j k v e => by simp at e⟩
  | _, _, .cons (a := p) (b := kv) first others => by
    obtain ⟨prs, us, h1, h2, h3, h4⟩ := pairs_told I others
    obtain ⟨its, rel, tup, _⟩ := I.tuple first
    obtain ⟨u, y, rfl, ru, ry⟩ := rel.two
    refine ⟨(kv.1, y) :: prs, (u, y) :: us, .cons ⟨rfl, ry⟩ h1, congrArg Nat.succ h2, congrArg Nat.succ h3, fun j k v e => ?_⟩
    cases j with
    | zero =>
      cases (Option.some.inj e : (u, y) = (k, v))
      exact ⟨⟨p, rfl, tup⟩, kv.1, rfl, kV_is (P := X.prog) (w := X.w) ru⟩
    | succ j => exact h4 j k v e
/-- dict(t) of such a tuple of pairs -/
theorem call_dictF (calm : X.calm = true) : CallR X (.type "dict") (fun xs H Q => ∃ (a : Addr) (o : Obj) (ps : List Addr) (kvs : List (Key × V)), xs = [.ref a] ∧ o.dict = none ∧ H a = some (.frz o (.tup (ps.map V.ref))) ∧ Paired (fun p kv => SqT X.K H p [kV kv.1, kv.2]) ps kvs ∧
    ∀ l, H l = none → Q (.ref l) (upd H l (.dK (mergeK [] kvs)))) := by
  intro pins s σ H xs us Q I r hyp
  obtain ⟨a, o, ps, kvs, rfl, nodict, at_a, pairs, told⟩ := hyp
  obtain ⟨u, rfl, ru⟩ := r.one
  cases ru
  obtain ⟨obj, small, its, rel, tup⟩ := I.hok a _ at_a
  have eits := refs_at rel
  subst eits
  have small' : ps.length ≤ sizeLine := by
    have z : (ps.map V.ref).length ≤ sizeLine := small
    rwa [List.length_map] at z
  obtain ⟨prs, us, kv, len1, len2, at_j⟩ := pairs_told I pairs
  obtain ⟨o', obj', cls, n, data⟩ := tup
  rw [obj] at obj'
  cases obj'
  have okA : PlainSeq "tuple" s.heap a (ps.map Value.ref).toArray ∧ PairItems s.heap (ps.map Value.ref).toArray (fun j => (ps[j]?).getD 0) us := by
    refine ⟨⟨o, n, obj, cls, nodict, data⟩, by simp [len2], fun j k v e => ?_⟩
    obtain ⟨⟨b, eb, tb⟩, _⟩ := at_j j k v e
    refine ⟨by simp [eb], .inl ?_⟩
    show s.heap.IsTuple ((ps[j]?).getD 0) #[k, v]
    rw [eb]
    exact tb
  refine PySem.call_dict_pairs (knd := mixKind X.prog X.w) (kvs := prs) (PairArg.tuple a (ps.map Value.ref).toArray (fun j => (ps[j]?).getD 0) us) (I.ok.hd calm) okA ⟨by rw [len1, len2], fun j k v e => ?_⟩ (by rw [len2]; exact small') fun h' tk dct keeps => ?_
  · obtain ⟨_, key, e1, e2⟩ := at_j j k v e
    exact ⟨key, e1, e2⟩
  · have apart : (s.heap.objs.size == sysModules) = false := beq_eq_false_iff_ne.mpr (Nat.ne_of_gt I.big)
    have few : (mergeK [] kvs).length ≤ sizeLine := by
      have z := kv.length
      refine Nat.le_trans (length_mergeK kvs ([] : List (Key × V))) ?_
      rw [List.length_nil, Nat.zero_add, z, len1]
      exact small'
    have fine : ObjOk X.prog X.w (upd H s.heap.objs.size (.dK (mergeK [] kvs))) h' s.heap.objs.size (.dK (mergeK [] kvs)) := ⟨few, apart, merged [] prs, KV.merge kv .nil, dct⟩
    exact ⟨.ref s.heap.objs.size, _, I.laid (t' := tk) (fun b o e => keeps b o (by simp) e) (Nat.le_refl _) fine, rfl, told _ (I.hok.fresh (Nat.le_refl _))⟩
end
end Tg

set_option maxHeartbeats 2000000
namespace Tg
open PySem PySem.Spec PyProof.Rows L2
section
variable {prog : Program} {s : Shared} {E : Value → Shared → Prop} {w : World} {A : Around}
/-- (lambda v: v[0])(t), t a tuple -/
theorem lam_first {f c t : Addr} {pm ctv u : Value} {qual nm : Str} {params : Arguments} {scope : Scope} {p1 p2 p3 : Pos} {kk : Nat} {its : List Value} {Q : Value → Shared → Prop} (room : A.depth < recursionLimit) (lim : s.heap.NoLimit)
    (at_f : s.heap.get? f = some (PySem.W.kla_obj "<lambda>" qual params (.Subscript (.Name nm p1) (.Constant (.int 0) kk p2) p3) scope [] pm c ctv)) (code : s.heap.CodeRec (.ref c) qual)
    (binds : ∀ v, bindArgs (PySem.W.kla_fn "<lambda>" qual params (.Subscript (.Name nm p1) (.Constant (.int 0) kk p2) p3) scope [] pm (.ref c) ctv) ⟨[v], []⟩ = pure [(nm, v)])
    (loc : scope.names.lookup nm = some .local) (nocell : ∀ x ∈ scope.names, x.2 ≠ .cell) (kind : scope.kind = .function) (co : scope.isCoroutine = false) (gen : scope.isGenerator = false) (nodebug : (nm == ("__debug__" : Str)) = false) (tup : PyProof.Rows.IsTup s.heap t its.toArray) (first : its[0]? = some u)
    (told : ∀ h tk, (∀ b o, s.heap.get? b = some o → h.get? b = some o) → Q u { s with heap := h, toks := tk }) :
    wpAny (model prog w) A (call (.ref f) [.ref t]) Q E s := by
  refine wpAny_call (PySem.W.kla_callFunE room at_f rfl co gen rfl code ?_)
  rw [binds]
  refine wpAny_pure (wpAny_newFunctionEnv nocell (fun x hx => by
    cases List.mem_singleton.mp hx
    exact loc) (fun h1 ns sb => ⟨lim.fresh _ sb, PySem.W.kla_codeExpr (Subscript_ ?_)⟩) kind)
  have keeps : ∀ b o, s.heap.get? b = some o → h1.get? b = some o := fun b o e => sb.extBut b o (Nat.ne_of_lt (Heap.lt_size e)) (Heap.get?_push_of_some _ e)
  have tup1 : PyProof.Rows.IsTup h1 t its.toArray := by
    obtain ⟨o, e, r⟩ := tup
    exact ⟨o, keeps _ _ e, r⟩
  obtain ⟨m, ix, get, _, _, _⟩ := atI_get (atI_nat (j := 0) first)
  refine wpAny_Name (wpAny_loadName_local kind loc ns (v := .ref t) (by simp [List.lookup]) ?_) nodebug
  refine wpAny_Constant_int ?_
  refine subscriptTail_builtinR (x := u) tup1.typeIs slot_tuple_getitem.lookup (PyProof.Rows.getItem_tuple (j := m) tup1 (by decide) (by decide) ?_ ?_ ⟨rfl, told _ _ keeps⟩)
  · rw [List.size_toArray]
    exact ix
  · simpa using get
end
end Tg

set_option maxHeartbeats 400000
namespace Tg
open PySem PySem.Spec PyProof.Rows L2 LamX
/-- a tuple of two, its place, its first (a text), its second -/
abbrev KP := Addr × Str × V
def KTp (H : Hp) (q : KP) : Prop := H q.1 = some (.tup [.str q.2.1, q.2.2])
def kRefs (L : List KP) : List V := L.map fun q => V.ref q.1
def sortK (L : List KP) : List KP := L.mergeSort fun a b => decide (a.2.1.cps.toList ≤ b.2.1.cps.toList)
/-- sorted(e, key=lambda v: v[0]) of a list of such tuples -/
def tSortK (T : List (Addr × Str)) (te : TE) : TE := fun σ H Q => te σ H fun v H1 => ∃ (l : Addr) (L : List KP), [v] = [V.ref l] ∧ H1 l = some (.lst (kRefs L)) ∧ (∀ q, q ∈ L → KTp H1 q) ∧ Tabs T H1 ∧
  ∀ (H2 : Hp) (p : Addr), ExtN H1 H2 → Tabs T H2 → H2 p = none → Q (.ref p) (upd H2 p (.lst (kRefs (sortK L))))
theorem kRefs_vals : ∀ {L : List KP} {us : List Value}, Vals (kRefs L) us → us = L.map fun q => Value.ref q.1
  | [], us, r => by cases r; rfl
  | q :: L, us, r => by
    cases r with
    | cons a b =>
      cases a
      rw [kRefs_vals b]
      rfl
theorem each_refs : ∀ (L : List KP), PySem.W.EachIs (fun (v : Value) (q : KP) => v = .ref q.1) (L.map fun q => Value.ref q.1) L
  | [] => .nil
  | q :: L => .cons rfl (each_refs L)
theorem vals_each : ∀ {out : List Value} {L : List KP}, PySem.W.EachIs (fun (v : Value) (q : KP) => v = .ref q.1) out L → Vals (kRefs L) out
  | _, _, .nil => .nil
  | _, _, .cons a b => by
    subst a
    exact .cons rfl (vals_each b)
section
variable {X : Cx} {T : List (Addr × Str)} {c P : Addr} {k kk : Nat} {e : Expr} {te : TE} {params : Arguments} {scope : Scope} {nm : Str} {p p1 p2 p3 lpos kpos pos : Pos}
theorem sortK_call {pins : List (Addr × Obj)} {σ : L2.St} {H : Hp} {s : Shared} {E : Value → Shared → Prop} {f c l : Addr} {pm ctv : Value} {qual : Str} {L : List KP} {Q : VK} (I : Inv X pins σ H s) (room : Room k X.A) (at_l : H l = some (.lst (kRefs L))) (tups : ∀ q, q ∈ L → KTp H q)
    (at_f : s.heap.get? f = some (PySem.W.kla_obj "<lambda>" qual params (.Subscript (.Name nm p1) (.Constant (.int 0) kk p2) p3) scope [] pm c ctv)) (code : s.heap.CodeRec (.ref c) qual)
    (binds : ∀ v, bindArgs (PySem.W.kla_fn "<lambda>" qual params (.Subscript (.Name nm p1) (.Constant (.int 0) kk p2) p3) scope [] pm (.ref c) ctv) ⟨[v], []⟩ = pure [(nm, v)])
    (loc : scope.names.lookup nm = some .local) (nocell : ∀ x ∈ scope.names, x.2 ≠ .cell) (kind : scope.kind = .function) (co : scope.isCoroutine = false) (gen : scope.isGenerator = false) (nodebug : (nm == ("__debug__" : Str)) = false)
    (told : ∀ p, H p = none → Q (.ref p) (upd H p (.lst (kRefs (sortK L))))) :
    wpAny (model X.prog X.w) X.A (call (.builtin "sorted") [.ref l] [(Str.ofString "key", .ref f)]) (EP X pins σ Q) E s := by
  obtain ⟨small, its, n, rel, obj⟩ := I.hok l _ at_l
  have eits := kRefs_vals rel
  have lenL : L.length ≤ sizeLine := by
    have z : (kRefs L).length ≤ sizeLine := small
    rw [kRefs, List.length_map] at z
    exact z
  have each0 : PySem.W.EachIs (fun (v : Value) (q : KP) => v = .ref q.1) its L := by
    rw [eits]
    exact each_refs L
  have depth0 : ∀ q : KP, q ∈ L → X.A.units + 2 + (PyData.str q.2.1).depth < cLine := fun q _ => by
    have := room.units
    have d : (PyData.str q.2.1).depth = 0 := by simp [PyData.depth]
    omega
  have turn : ∀ (v : Value) (q : KP), v = .ref q.1 → q ∈ L → ∀ (h : Heap) (tk : Nat), (∀ b o, s.heap.get? b = some o → h.get? b = some o) →
      wpAny (model X.prog X.w) X.A.in1.in1 (call (.ref f) [v]) (PySem.W.KeyPure (.str q.2.1) { s with heap := h, toks := tk }) (fun _ _ => False) { s with heap := h, toks := tk } := by
    intro v q ev hq h tk keeps
    subst ev
    obtain ⟨_, its2, rel2, tup⟩ := I.hok q.1 _ (tups q hq)
    obtain ⟨u1, u2, rfl, ⟨t1, rfl⟩, _⟩ := rel2.two
    exact lam_first (s := { s with heap := h, toks := tk }) (A := X.A.in1.in1) (u := .str q.2.1 t1) room.depth (I.nolimit.keeps keeps) (keeps _ _ at_f) (code.keeps keeps) binds loc nocell kind co gen nodebug (tup.keeps keeps) rfl fun h3 tk3 k3 => ⟨h3, tk3, rfl, k3, .str _ _⟩
  refine PySem.W.sorted_key_data (f := .ref f) (b := false) (R := fun (v : Value) (q : KP) => v = .ref q.1) (bs := L) (vs := its) (fun q : KP => .str q.2.1) (PySem.IsL.isList obj) each0 (PySem.W.AllAlike.of fun _ _ => by simp [PySem.W.alike]) (PySem.W.Sortable.others fun _ => ⟨by simp, by simp⟩) lenL
      depth0 (ksk_s1 _ _) (fun _ => ksk_l1 _ _) (fun _ => ksk_t1 _ _) turn fun out cc h' tk keeps _ at_p len each => ?_
  rw [PySem.W.dataLe_str] at each
  have rel3 : Vals (kRefs (sortK L)) out := vals_each each
  have len3 : (kRefs (sortK L)).length ≤ sizeLine := by
    rw [rel3.length, len]
    exact lenL
  exact ⟨.ref _, upd H (s.heap.objs.size + 1) (.lst (kRefs (sortK L))), I.laid (t' := tk) keeps (Nat.le_succ _) ⟨len3, out, cc, rel3, at_p⟩, rfl, told _ (I.hok.fresh (Nat.le_succ _))⟩
theorem pe_sortK (list : PE X e te) (room : Room k X.A) (table : TabB X.base X.mg c P) (coded : X.env.code = .ref c) (among : (P, X.env.qual ++ "<lambda>") ∈ T) (alone : ∀ p ∈ T, p.1 = P → p.2 = X.env.qual ++ "<lambda>") (nodefaults : defaultsOf params X.env = ([], []))
    (glob : Gl X "sorted") (unset : X.mg "sorted" = none) (nostar : starEach [e] X.env = (false, eval e X.env) :: starEach [] X.env) (closed : cloFrom X.env.cells scope.names [] = [])
    (binds : ∀ qual pm c ctv v, bindArgs (PySem.W.kla_fn "<lambda>" qual params (.Subscript (.Name nm p1) (.Constant (.int 0) kk p2) p3) scope [] pm (.ref c) ctv) ⟨[v], []⟩ = pure [(nm, v)])
    (loc : scope.names.lookup nm = some .local) (nocell : ∀ x ∈ scope.names, x.2 ≠ .cell) (nofree : ∀ x ∈ scope.names, x.2 ≠ .free) (kind : scope.kind = .function) (co : scope.isCoroutine = false) (gen : scope.isGenerator = false) (nodebug : (nm == ("__debug__" : Str)) = false) :
    PE X (.Call (.Name "sorted" p) [e] [⟨some "key", .Lambda params (.Subscript (.Name nm p1) (.Constant (.int 0) kk p2) p3) scope lpos, kpos⟩] pos) (tSortK T te) := by
  constructor
  intro pins s σ H Q I read
  have args := (pa_cons list pa_nil nostar).run pos pins s σ H (fun vs H1 => ∃ (l : Addr) (L : List KP), vs = [.ref l] ∧ H1 l = some (.lst (kRefs L)) ∧ (∀ q, q ∈ L → KTp H1 q) ∧ Tabs T H1 ∧ ∀ (H2 : Hp) (p : Addr), ExtN H1 H2 → Tabs T H2 → H2 p = none → Q (.ref p) (upd H2 p (.lst (kRefs (sortK L))))) I ?_
  · refine wpAny_Call_Name_kw (ld_blt I glob unset PyProof.Rows.boot_sorted (PyProof.Rows.callWith_kw (thn args fun us s1 ⟨vs, H1, I1, r1, q1⟩ => ?_) ?_ ?_ ?_ ?_))
    · obtain ⟨l, L, ev, at_l, tups, tabs, told⟩ := q1
      subst ev
      obtain ⟨u, rfl, ru⟩ := r1.one
      cases ru
      refine PyProof.Rows.evalAll_cons (wpAny_bind (lam_make2 I1 table coded among alone tabs nodefaults (fun y hy z => absurd z (nofree y hy)) fun f c' pm ctv H2 s2 I2 ext tabs2 at_f nf _ at_c => wpAny_bind (wpAny_standAt (wpAny_pure (PyProof.Rows.evalAll_nil ?_)))))
      rw [closed] at at_f
      have codeR : s2.heap.CodeRec (.ref c') (X.env.qual ++ "<lambda>") := by
        obtain ⟨⟨oc, vs, t, z1, z2, z3⟩, _⟩ := I2.hok c' _ at_c
        exact ⟨c', oc, vs, t, rfl, z1, z2, z3⟩
      exact sortK_call I2 room (ext _ _ at_l fun ps z => by cases z) (fun q hq => ext _ _ (tups q hq) fun ps z => by cases z) at_f codeR (binds _ _ _ _) loc nocell kind co gen nodebug fun p np => told H2 p ext tabs2 np
    · rw [nostar]
      rfl
    · rw [nostar]
      rfl
    · rfl
    · rfl
  · exact read
end
end Tg

set_option maxHeartbeats 400000
namespace Tg
open PySem PySem.Spec PyProof.Rows L2 LamX
/-! ### a def that makes lambdas: its code object is known -/
structure FunC (K : PySem.W.Frag) (x qual : Str) (st : Stmt) (c : Addr) (f : Addr) (fd : FuncData) : Prop where
  ex : ∃ (oc : Value) (od : Option Addr) (kV doc pm : Value) (an : Option Addr) (ct : Value) (osl : Array (Option Value)),
    fd = PySem.W.fnOf x qual (defArgs st) (defBody st) (defScope st) .none kV doc pm an (.ref c) ct ∧ K.lookup f = some ⟨oc, od, .func fd, osl⟩ ∧ PySem.W.codeIn K (.ref c) qual = true
  kept : PySem.W.keepIn K (.ref f) = true
section
variable {P : Program} {w : World} {K : PySem.W.Frag} {mg : Str → Option Value} {base : Heap}
theorem FunC.ok {x qual : Str} {st : Stmt} {c f : Addr} {fd : FuncData} {N ps : List Str} {k : Nat} {sp : Sp} (F : FunC K x qual st c f fd) (S : FnScope N ps (defScope st)) (len : ∀ vs H Q E, sp vs H Q E → vs.length = ps.length)
    (hbody : ∀ (A : Around) (outer : List Env) (s : Shared) (H : Hp) (vs : List V) (Q : VK) (E : XK), Room k (A.deeper (envOfC qual (defScope st) s.heap.objs.size f (.ref c))) → sp vs H Q E →
      ∃ t, PSs (cxOf CX0 P w K mg base N qual (defScope st) f (.ref c) A outer s H E).nox (defBody st) t ∧ t { nx := fun _ H' => Q .non H', rt := Q } (start N vs) H) : FnOk P w K mg base CX0 (k + 1) f fd ps sp := by
  obtain ⟨oc, od, kV, doc, pm, an, ct, osl, rfl, lk, hcd⟩ := F.ex
  refine fn_of lk hcd S len fun A outer s H vs Q E hr told => ?_
  obtain ⟨t, h, q⟩ := hbody A outer s H vs Q E hr told
  exact ⟨t, h.nox, q⟩
theorem FunC.fn {x qual : Str} {st : Stmt} {c f : Addr} {fd : FuncData} (F : FunC K x qual st c f fd) : Fun K x qual st f fd := by
  obtain ⟨oc, od, kV, doc, pm, an, ct, osl, h1, h2, h3⟩ := F.ex
  exact ⟨⟨oc, od, kV, doc, pm, an, .ref c, ct, osl, h1, h2, h3⟩, F.kept⟩
theorem func_mk {x qual : Str} {st : Stmt} {c f : Addr} {oc : Value} {od an : Option Addr} {osl : Array (Option Value)} {kV doc pm ct : Value} (l : K.lookup f = some ⟨oc, od, .func (PySem.W.fnOf x qual (defArgs st) (defBody st) (defScope st) .none kV doc pm an (.ref c) ct), osl⟩)
    (h : PySem.W.codeIn K (.ref c) qual = true) (k : PySem.W.keepIn K (.ref f) = true) : FunC K x qual st c f (PySem.W.fnOf x qual (defArgs st) (defBody st) (defScope st) .none kV doc pm an (.ref c) ct) := ⟨⟨oc, od, kV, doc, pm, an, ct, osl, rfl, l, h⟩, k⟩
end
/-! ### what stands where a table may have grown -/
/-- T's tables are well, all but tables stands -/
structure Grow (T : List (Addr × Str)) (H H' : Hp) : Prop where
  ext : ExtN H H'
  tabs : Tabs T H'
theorem Grow.trans {T : List (Addr × Str)} {H H1 H2 : Hp} (a : Grow T H H1) (b : Grow T H1 H2) : Grow T H H2 := ⟨a.ext.trans b.ext, b.tabs⟩
theorem Grow.same {T : List (Addr × Str)} {H H1 H2 : Hp} (a : Grow T H H1) (b : Same H1 H2) : Grow T H H2 := ⟨a.ext.trans (.of b), a.tabs.ext b⟩
theorem Grow.of {T : List (Addr × Str)} {H H' : Hp} (t : Tabs T H) (s : Same H H') : Grow T H H' := ⟨.of s, t.ext s⟩
theorem fix_tbl {o : HO} (f : Fix o) : ∀ ps, o ≠ .tbl ps := fun ps z => by
  rw [z] at f
  exact f
theorem ExtN.kt {H H' : Hp} (e : ExtN H H') : KT H H' := fun a o f h => e a o h (fix_tbl f)
theorem rd_ext {H H' : Hp} {a : Addr} {o : HO} (s : ExtN H H') (n : ∀ ps, o ≠ .tbl ps) (h : Rd H a o) : Rd H' a o := by
  rcases h with h | ⟨ob, h⟩
  · exact .inl (s _ _ h n)
  · exact .inr ⟨ob, s _ _ h (fun ps z => nomatch z)⟩
theorem sqL_ext {K : PySem.W.Frag} {H H' : Hp} {a : Addr} {xs : List V} (s : ExtN H H') (h : SqL K H a xs) : SqL K H' a xs := h.imp (rd_ext s fun _ z => nomatch z) id
theorem sqT_ext {K : PySem.W.Frag} {H H' : Hp} {a : Addr} {xs : List V} (s : ExtN H H') (h : SqT K H a xs) : SqT K H' a xs := h.imp (rd_ext s fun _ z => nomatch z) id
mutual
theorem dp_ext {K : PySem.W.Frag} {H H' : Hp} (s : ExtN H H') : ∀ {x : V} {d : PyData}, Dp K H x d → Dp K H' x d
  | _, _, .non => .non
  | _, _, .bl b => .bl b
  | _, _, .int i => .int i
  | _, _, .str z => .str z
  | _, _, .lst a b => .lst (sqL_ext s a) (dpAll_ext s b)
  | _, _, .tup a b => .tup (sqT_ext s a) (dpAll_ext s b)
theorem dpAll_ext {K : PySem.W.Frag} {H H' : Hp} (s : ExtN H H') : ∀ {xs : List V} {ds : List PyData}, DpAll K H xs ds → DpAll K H' xs ds
  | _, _, .nil => .nil
  | _, _, .cons a b => .cons (dp_ext s a) (dpAll_ext s b)
end
theorem ext_new {H H1 : Hp} {p : Addr} {o : HO} (e : ExtN H H1) (h : H p = none) : ExtN H (upd H1 p o) := fun b x y n => by
  rw [upd_ne (ne_of_none y h)]
  exact e _ _ y n
theorem tabs_kp {T : List (Addr × Str)} {p : Addr} {o : HO} {H H' : Hp} (k : Kp p H H') (h : H p = some o) (n1 : ∀ ps, o ≠ .tbl ps) (n2 : ∀ φ, o ≠ .ext φ) (t : Tabs T H) : Tabs T H' := fun r hr => by
  obtain ⟨ps, h1, h2, h3⟩ := t r hr
  refine ⟨ps, k _ _ (fun z => n1 ps (Option.some.inj (h.symm.trans (by rw [← z]; exact h1)))) h1, h2, fun pos cv hc => ?_⟩
  obtain ⟨code, e1, e2⟩ := h3 pos cv hc
  exact ⟨code, e1, k _ _ (fun z => n2 _ (Option.some.inj (h.symm.trans (by rw [← z]; exact e2)))) e2⟩
end Tg

namespace Tg
open PySem PySem.Spec PyProof.Rows L2
/-! ### a new thing that is only read from now on -/
section
variable {X : Cx} {e : Expr} {t : TE}
def tFrz (t : TE) : TE := fun σ H Q => t σ H fun x H1 => ∃ d u, x = .ref d ∧ H1 d = some u ∧ Mut (some u) ∧ ∀ od, Q x (upd H1 d (.frz od u))
theorem pe_frz (h : PE X e t) : PE X e (tFrz t) := by
  constructor
  intro pins s σ H Q I read
  refine thn (h.run pins s σ H _ I read) fun v s1 y => ?_
  obtain ⟨x, H1, J, r, d, u, ex, hd, mu, q⟩ := y
  obtain ⟨od, J2⟩ := J.lock hd mu
  exact ⟨x, _, J2, r, q od⟩
/-- a statement that is never reached -/
theorem ps_dead {st : Stmt} : PS X st (fun _ _ _ => False) := ⟨fun _ _ _ _ _ _ h => h.elim⟩
end
end Tg

/-! a derivation with a told precondition in the place of the one that is read off -/
namespace Tg
open PySem PySem.Spec PyProof.Rows L2
theorem pss_by {X : Cx} {rest : List Stmt} {u R : TS} (h : PSs X rest u) (hr : ∀ D σ H, R D σ H → u D σ H) : PSs X rest R := ⟨fun pins s σ H D I hw => h.run pins s σ H D I (hr D σ H hw)⟩
theorem pe_by {X : Cx} {e : Expr} {u R : TE} (h : PE X e u) (hr : ∀ σ H Q, R σ H Q → u σ H Q) : PE X e R := ⟨fun pins s σ H Q I hw => h.run pins s σ H Q I (hr σ H Q hw)⟩
theorem pt_by {X : Cx} {e : Expr} {u R : TT} (h : PT X e u) (hr : ∀ σ H Q, R σ H Q → u σ H Q) : PT X e R := ⟨fun pins s σ H Q I hw => h.run pins s σ H Q I (hr σ H Q hw)⟩
end Tg

namespace Tg
open PySem PySem.Spec PyProof.Rows L2 LamX
theorem signs_ok : ∀ c, c ∈ signs.cps.toList → c < 0x110000 := by decide +kernel
theorem lbl_len {z : Str} (h : lblB z = true) : z.length ≤ 20 := by
  unfold lblB at h
  simp only [decide_eq_true_eq, Bool.and_eq_true] at h
  exact h.1.2
theorem lbl_sh {z : Str} (h : lblB z = true) : SeqAt.shaped (.str z) = true := by
  refine shaped_of ?_ (by show 0 ≤ 64; decide)
  unfold PyData.canLay0 PyData.strOk
  unfold lblB at h
  rw [Bool.and_eq_true] at h
  rw [← Array.all_toList]
  rw [List.all_eq_true]
  intro c hc
  exact decide_eq_true (signs_ok c (of_decide_eq_true (List.all_eq_true.mp h.2 c hc)))
theorem lbl_v {K : PySem.W.Frag} {H : Hp} {z : Str} (h : lblB z = true) : LblV K H (.str z) true := by
  have e : LblV K H (.str z) (lblD (.str z)) := LblV.of (.str z) fun y e => by
    cases e
    exact Nat.le_trans (lbl_len h) (by decide)
  rw [show lblD (.str z) = true from h] at e
  exact e
section
variable {P : Program} {w : World} {K : PySem.W.Frag} {mg : Str → Option Value} {base : Heap}
/-! ### Labels(..) -/
end
end Tg

namespace Tg
open PySem PySem.Spec PyProof.Rows L2
/-! ### a comprehension without a test whose items are known beforehand -/
/-- the new list at D takes y -/
abbrev Grows (D : Addr) (Nx : Hp → Prop) (y : V) (H : Hp) : Prop := ∃ acc, H D = some (.lst acc) ∧ acc.length < sizeLine ∧ Nx (upd H D (.lst (acc ++ [y])))
/-- the new dict at D takes y: z -/
abbrev Holds2 (D : Addr) (Nx : Hp → Prop) (y z : V) (H : Hp) : Prop := ∃ kvs k, y = kV k ∧ H D = some (.dK kvs) ∧ kvs.length < sizeLine ∧ Nx (upd H D (.dK (putK kvs k z)))
/-- a turn that takes x in, and goes on by fin -/
abbrev Turn1 (g : TG) (vs : List Nat) (σ : L2.St) (fin : L2.St → Hp → Prop) (Nx : Hp → Prop) (x : V) (H' : Hp) : Prop :=
  g x (wipe σ vs) H' fun σ2 H2 => wipe σ2 vs = wipe σ vs ∧ tYes σ2 H2 fun b H3 => if b = true then fin σ2 H3 else Nx H3
abbrev TurnL (g : TG) (te : TE) (vs : List Nat) (σ : L2.St) (D : Addr) (Nx : Hp → Prop) : V → Hp → Prop := Turn1 g vs σ (fun σ2 H3 => te σ2 H3 fun y H4 => Grows D Nx y H4) Nx
abbrev TurnD (g : TG) (tk tv : TE) (vs : List Nat) (σ : L2.St) (D : Addr) (Nx : Hp → Prop) : V → Hp → Prop := Turn1 g vs σ (fun σ2 H3 => tk σ2 H3 fun y H4 => tv σ2 H4 fun z H5 => Holds2 D Nx y z H5) Nx
/-- a walk of J from Z on, each turn by turn, what is wanted behind it Qd -/
abbrev Walked (J : It) (Z : Hp) (turn : (Hp → Prop) → V → Hp → Prop) (Qd : Hp → Prop) : Prop :=
  ∃ Wk : Nat → Nat → Hp → Prop, (∃ m, Wk 0 m Z) ∧ ∀ (i m : Nat) (Hc : Hp), Wk i m Hc →
    (J.stop i Hc ∧ Qd Hc) ∨ (J.go i Hc ∧ ∃ Nx : Hp → Prop, (∀ Hn, Nx Hn → ∃ m', m' < m ∧ Wk (i + 1) m' Hn) ∧ ∀ x Hn, J.yld i Hc x Hn → turn Nx x Hn)
section
variable {K : PySem.W.Frag} {g : TG} {te : TE} {vs : List Nat} {σ : L2.St} {H1 : Hp} {D : Addr} {Qd : Hp → Prop} {J : It}
/-- the walk J, of n turns; x: what it hands out at i (behind it the heap is told by R) -/
theorem lc_walk (n : Nat) (ys : List V) (ly : ys.length = n) (nD : H1 D = none) (small : n < sizeLine)
    (stop : ∀ Hc, Same H1 Hc → J.stop n Hc) (go : ∀ i Hc, i < n → Same H1 Hc → J.go i Hc)
    (hs : ∀ i x y Hc H' (Q : VK), i < n → ys[i]? = some y → Same H1 Hc → J.yld i Hc x H' → (∀ H4, Same H' H4 → Q y H4) → g x (wipe σ vs) H' fun σ2 H2 => wipe σ2 vs = wipe σ vs ∧ te σ2 H2 Q)
    (grow : ∀ i x Hc H', i < n → Same H1 Hc → J.yld i Hc x H' → Same Hc H')
    (hd : ∀ H', Same H1 H' → H' D = some (.lst ys) → Qd H') :
    Walked J (upd H1 D (.lst [])) (TurnL g te vs σ D) Qd := by
  refine ⟨fun i m H => m = n - i ∧ i ≤ n ∧ Same H1 H ∧ H D = some (.lst (ys.take i)), ⟨n, by omega, Nat.zero_le _, fun b o e => ?_, upd_same⟩, ?_⟩
  · rw [upd_ne (ne_of_none e nD)]
    exact e
  rintro i m H ⟨rfl, hi, sm, hD⟩
  by_cases lt : i < n
  · refine .inr ⟨go i H lt sm, fun H' => Same H1 H' ∧ H' D = some (.lst (ys.take (i + 1))), fun H' h => ⟨n - (i + 1), by omega, rfl, lt, h.1, h.2⟩, fun x H' yl => ?_⟩
    obtain ⟨y, ey⟩ : ∃ y, ys[i]? = some y := ⟨_, List.getElem?_eq_getElem (by omega)⟩
    have s2 := grow i x H H' lt sm yl
    have z := hs i x y H H' (fun y H4 => Grows D (fun H' => Same H1 H' ∧ H' D = some (.lst (ys.take (i + 1)))) y H4) lt ey sm yl fun H4 s4 => by
      refine ⟨ys.take i, s4 _ _ (s2 _ _ hD), ?_, fun b o e => ?_, ?_⟩
      · rw [List.length_take]
        omega
      · rw [upd_ne (ne_of_none e nD)]
        exact s4 _ _ (s2 _ _ (sm _ _ e))
      · rw [upd_same, List.take_add_one, ey]
        rfl
    refine cast (congrArg (g x (wipe σ vs) H') (funext fun σ2 => funext fun H2 => ?_)) z
    unfold tYes
    exact congrArg _ (if_pos rfl).symm
  · obtain rfl : i = n := by omega
    refine .inl ⟨stop H sm, hd H sm ?_⟩
    rw [hD, List.take_of_length_le (by omega)]
/-- [.. for x in xs] -/
theorem lc_mapL {a : Addr} {xs : List V} (ys : List V) (ly : ys.length = xs.length) (nD : H1 D = none) (hx : SqL K H1 a xs) (small : xs.length < sizeLine)
    (hs : ∀ (i : Nat) (x y : V) (Hc : Hp) (Q : VK), xs[i]? = some x → ys[i]? = some y → Same H1 Hc → (∀ H4, Same Hc H4 → Q y H4) → g x (wipe σ vs) Hc fun σ2 H2 => wipe σ2 vs = wipe σ vs ∧ te σ2 H2 Q)
    (hd : ∀ H', Same H1 H' → H' D = some (.lst ys) → Qd H') :
    Walked (Itl K a) (upd H1 D (.lst [])) (TurnL g te vs σ D) Qd :=
  lc_walk (J := Itl K a) xs.length ys ly nD small (fun Hc sm => ⟨xs, sm.seq hx, Nat.le_refl _⟩) (fun i Hc lt sm => ⟨xs, xs[i], sm.seq hx, List.getElem?_eq_getElem lt⟩)
    (fun i x y Hc H' Q lt ey sm yl q => by
      obtain ⟨rfl, h⟩ := yl
      exact hs i x y _ Q (h xs (sm.seq hx)) ey sm q) (fun i x Hc H' _ _ yl => by rw [yl.1]; exact Same.refl _) hd
/-- [.. for x, y in zip(xs, ys)] -/
theorem lc_mapZ {a b : Addr} {xs zs : List V} (ys : List V) (n : Nat) (en : n = min xs.length zs.length) (ly : ys.length = n) (nD : H1 D = none) (hx : SqL K H1 a xs) (hz : SqL K H1 b zs) (small : n < sizeLine)
    (hs : ∀ (i : Nat) (x z y : V) (T : Addr) (Hc : Hp) (Q : VK), xs[i]? = some x → zs[i]? = some z → ys[i]? = some y → Same H1 Hc → Hc T = some (.tup [x, z]) → (∀ H4, Same Hc H4 → Q y H4) → g (.ref T) (wipe σ vs) Hc fun σ2 H2 => wipe σ2 vs = wipe σ vs ∧ te σ2 H2 Q)
    (hd : ∀ H', Same H1 H' → H' D = some (.lst ys) → Qd H') :
    Walked (Itz K a b) (upd H1 D (.lst [])) (TurnL g te vs σ D) Qd :=
  lc_walk (J := Itz K a b) n ys ly nD small (fun Hc sm => ⟨xs, zs, sm.seq hx, sm.seq hz, by omega⟩) (fun i Hc lt sm => ⟨xs, zs, xs[i]'(by omega), zs[i]'(by omega), sm.seq hx, sm.seq hz, List.getElem?_eq_getElem (by omega), List.getElem?_eq_getElem (by omega)⟩)
    (fun i x y Hc H' Q lt ey sm yl q => by
      obtain ⟨T, u, v, rfl, nT, rfl, h1, h2⟩ := yl
      exact hs i u v y T _ Q (h1 xs (sm.seq hx)) (h2 zs (sm.seq hz)) ey (sm.trans (fun b o e => by rw [upd_ne (ne_of_none e nT)]; exact e)) upd_same q)
    (fun i x Hc H' _ _ yl => by
      obtain ⟨T, u, v, rfl, nT, rfl, _, _⟩ := yl
      exact fun b o e => by rw [upd_ne (ne_of_none e nT)]; exact e) hd
/-- [.. for i in range(lo, ..)] -/
theorem lc_mapR {lo : Int} {n : Nat} (ys : List V) (ly : ys.length = n) (nD : H1 D = none) (small : n < sizeLine)
    (hs : ∀ (i : Nat) (y : V) (Hc : Hp) (Q : VK), i < n → ys[i]? = some y → Same H1 Hc → (∀ H4, Same Hc H4 → Q y H4) → g (.int (lo + i)) (wipe σ vs) Hc fun σ2 H2 => wipe σ2 vs = wipe σ vs ∧ te σ2 H2 Q)
    (hd : ∀ H', Same H1 H' → H' D = some (.lst ys) → Qd H') :
    Walked (Itr lo n) (upd H1 D (.lst [])) (TurnL g te vs σ D) Qd :=
  lc_walk (J := Itr lo n) n ys ly nD small (fun Hc sm => Nat.le_refl _) (fun i Hc lt sm => lt)
    (fun i x y Hc H' Q lt ey sm yl q => by
      obtain ⟨rfl, rfl⟩ := yl
      exact hs i y _ Q lt ey sm q) (fun i x Hc H' _ _ yl => by rw [yl.1]; exact Same.refl _) hd
/-- [.. for i in range(lo, .., c)] -/
theorem lc_mapC {lo c : Int} {n : Nat} (ys : List V) (ly : ys.length = n) (nD : H1 D = none) (small : n < sizeLine)
    (hs : ∀ (i : Nat) (y : V) (Hc : Hp) (Q : VK), i < n → ys[i]? = some y → Same H1 Hc → (∀ H4, Same Hc H4 → Q y H4) → g (.int (lo + (i : Nat) * c)) (wipe σ vs) Hc fun σ2 H2 => wipe σ2 vs = wipe σ vs ∧ te σ2 H2 Q)
    (hd : ∀ H', Same H1 H' → H' D = some (.lst ys) → Qd H') :
    Walked (Itc lo c n) (upd H1 D (.lst [])) (TurnL g te vs σ D) Qd :=
  lc_walk (J := Itc lo c n) n ys ly nD small (fun Hc sm => Nat.le_refl _) (fun i Hc lt sm => lt)
    (fun i x y Hc H' Q lt ey sm yl q => by
      obtain ⟨rfl, rfl⟩ := yl
      exact hs i y _ Q lt ey sm q) (fun i x Hc H' _ _ yl => by rw [yl.1]; exact Same.refl _) hd
/-! ### a dict comprehension whose entries are known, each key once -/
theorem putK_new {kvs : List (Key × V)} {k : Key} {z : V} (h : k ∉ kvs.map (·.1)) : putK kvs k z = kvs ++ [(k, z)] := by
  have new : (kvs.any fun y => decide (y.1 = k)) = false := by
    rw [List.any_eq_false]
    intro y hy e
    exact h (List.mem_map.mpr ⟨y, hy, of_decide_eq_true e⟩)
  unfold putK
  rw [new, if_neg (by decide)]
theorem dc_walk {tk tv : TE} (n : Nat) (es : List (Key × V)) (le : es.length = n) (nd : (es.map (·.1)).Nodup) (nD : H1 D = none) (small : n < sizeLine)
    (stop : ∀ Hc, Same H1 Hc → J.stop n Hc) (go : ∀ i Hc, i < n → Same H1 Hc → J.go i Hc)
    (hs : ∀ i x k y Hc H' (Q : VK), i < n → es[i]? = some (k, y) → Same H1 Hc → J.yld i Hc x H' → (∀ H4, Same H' H4 → Q y H4) → g x (wipe σ vs) H' fun σ2 H2 => wipe σ2 vs = wipe σ vs ∧ tk σ2 H2 fun u H3 => tv σ2 H3 fun v H4 => u = kV k ∧ v = y ∧ Same H' H4)
    (mono : ∀ σ2 H2 (A B : V → V → Hp → Prop), (∀ u v H', A u v H' → B u v H') → (tk σ2 H2 fun u H3 => tv σ2 H3 fun v H4 => A u v H4) → tk σ2 H2 fun u H3 => tv σ2 H3 fun v H4 => B u v H4)
    (gm : ∀ x σ2 H2 (A B : L2.St → Hp → Prop), (∀ σ3 H3, A σ3 H3 → B σ3 H3) → g x σ2 H2 A → g x σ2 H2 B)
    (grow : ∀ i x Hc H', i < n → Same H1 Hc → J.yld i Hc x H' → Same Hc H')
    (hd : ∀ H', Same H1 H' → H' D = some (.dK es) → Qd H') :
    Walked J (upd H1 D (.dK [])) (TurnD g tk tv vs σ D) Qd := by
  refine ⟨fun i m H => m = n - i ∧ i ≤ n ∧ Same H1 H ∧ H D = some (.dK (es.take i)), ⟨n, by omega, Nat.zero_le _, fun b o e => ?_, upd_same⟩, ?_⟩
  · rw [upd_ne (ne_of_none e nD)]
    exact e
  rintro i m H ⟨rfl, hi, sm, hD⟩
  by_cases lt : i < n
  · refine .inr ⟨go i H lt sm, fun H' => Same H1 H' ∧ H' D = some (.dK (es.take (i + 1))), fun H' h => ⟨n - (i + 1), by omega, rfl, lt, h.1, h.2⟩, fun x H' yl => ?_⟩
    obtain ⟨⟨k, y⟩, ey⟩ : ∃ y, es[i]? = some y := ⟨_, List.getElem?_eq_getElem (by omega)⟩
    have s2 := grow i x H H' lt sm yl
    have z := hs i x k y H H' (fun _ _ => True) lt ey sm yl fun _ _ => trivial
    refine gm _ _ _ _ _ (fun σ2 H2 h => ⟨h.1, ?_⟩) z
    unfold tYes
    dsimp only
    rw [if_pos rfl]
    refine mono _ _ _ _ (fun u v H4 h => ?_) h.2
    obtain ⟨rfl, rfl, s4⟩ := h
    refine ⟨es.take i, k, rfl, s4 _ _ (s2 _ _ hD), ?_, fun b o e => ?_, ?_⟩
    · rw [List.length_take]
      omega
    · rw [upd_ne (ne_of_none e nD)]
      exact s4 _ _ (s2 _ _ (sm _ _ e))
    · rw [upd_same, putK_new, List.take_add_one, ey]
      · rfl
      · intro hk
        rw [List.map_take] at hk
        obtain ⟨j, hj, ej⟩ := List.mem_iff_getElem.mp hk
        rw [List.length_take] at hj
        rw [List.getElem_take] at ej
        have e1 : (es.map (·.1))[j]? = some k := by rw [List.getElem?_eq_getElem (by omega), ej]
        have e2 : (es.map (·.1))[i]? = some k := by rw [List.getElem?_map, ey]; rfl
        have := (List.getElem?_inj (by omega) nd).mp (e1.trans e2.symm)
        omega
  · obtain rfl : i = n := by omega
    refine .inl ⟨stop H sm, hd H sm ?_⟩
    rw [hD, List.take_of_length_le (by omega)]
end
end Tg

namespace Tg
open PySem PySem.Spec PyProof.Rows L2
/-- [.. for x in xs], xs a tuple that stands in every heap -/
theorem lc_mapT {K : PySem.W.Frag} {g : TG} {te : TE} {vs : List Nat} {σ : L2.St} {H1 : Hp} {D : Addr} {Qd : Hp → Prop} {a : Addr} {xs : List V} (ys : List V) (ly : ys.length = xs.length) (nD : H1 D = none) (hx : ∀ H, SqT K H a xs) (small : xs.length < sizeLine)
    (hs : ∀ (i : Nat) (x y : V) (Hc : Hp) (Q : VK), xs[i]? = some x → ys[i]? = some y → Same H1 Hc → (∀ H4, Same Hc H4 → Q y H4) → g x (wipe σ vs) Hc fun σ2 H2 => wipe σ2 vs = wipe σ vs ∧ te σ2 H2 Q)
    (hd : ∀ H', Same H1 H' → H' D = some (.lst ys) → Qd H') : Walked (Itt K a) (upd H1 D (.lst [])) (TurnL g te vs σ D) Qd :=
  lc_walk (J := Itt K a) xs.length ys ly nD small (fun Hc _ => ⟨xs, hx Hc, Nat.le_refl _⟩) (fun i Hc lt _ => ⟨xs, xs[i], hx Hc, List.getElem?_eq_getElem lt⟩)
    (fun i x y Hc H' Q lt ey sm yl q => by
      obtain ⟨rfl, h⟩ := yl
      exact hs i x y _ Q (h xs (hx _)) ey sm q) (fun i x Hc H' _ _ yl => by rw [yl.1]; exact Same.refl _) hd
end Tg

namespace Tg
open PySem PySem.Spec PyProof.Rows L2 LamX
/-! ### labels as texts -/
theorem small_cp {z : Str} (h : lblB z = true) : ∀ c, c ∈ z.cps.toList → c < 16 ^ 8 := fun c hc => by
  unfold lblB at h
  rw [Bool.and_eq_true] at h
  exact Nat.lt_trans (signs_ok c (of_decide_eq_true (List.all_eq_true.mp h.2 c hc))) (by decide)
/-- [.. for x in xs], xs a tuple that stands -/
theorem lc_mapP {K : PySem.W.Frag} {g : TG} {te : TE} {vs : List Nat} {σ : L2.St} {H1 : Hp} {D : Addr} {Qd : Hp → Prop} {a : Addr} {xs : List V} (ys : List V) (ly : ys.length = xs.length) (nD : H1 D = none) (hx : SqT K H1 a xs) (small : xs.length < sizeLine)
    (hs : ∀ (i : Nat) (x y : V) (Hc : Hp) (Q : VK), xs[i]? = some x → ys[i]? = some y → Same H1 Hc → (∀ H4, Same Hc H4 → Q y H4) → g x (wipe σ vs) Hc fun σ2 H2 => wipe σ2 vs = wipe σ vs ∧ te σ2 H2 Q)
    (hd : ∀ H', Same H1 H' → H' D = some (.lst ys) → Qd H') : Walked (Itt K a) (upd H1 D (.lst [])) (TurnL g te vs σ D) Qd :=
  lc_walk (J := Itt K a) xs.length ys ly nD small (fun Hc sm => ⟨xs, sqT_same sm hx, Nat.le_refl _⟩) (fun i Hc lt sm => ⟨xs, xs[i], sqT_same sm hx, List.getElem?_eq_getElem lt⟩)
    (fun i x y Hc H' Q lt ey sm yl q => by
      obtain ⟨rfl, h⟩ := yl
      exact hs i x y _ Q (h xs (sqT_same sm hx)) ey sm q) (fun i x Hc H' _ _ yl => by rw [yl.1]; exact Same.refl _) hd
section
variable {P : Program} {w : World} {K : PySem.W.Frag} {mg : Str → Option Value} {base : Heap} {C : Addr}
end
end Tg

set_option maxHeartbeats 400000
namespace Tg
open PySem PySem.Spec PyProof.Rows L2
set_option maxHeartbeats 400000
set_option maxHeartbeats 400000
set_option maxHeartbeats 400000
abbrev sWished : Stmt := topS 27
abbrev NWd : List Str := ["word", "thing", "text"]
theorem scWished : FnScope NWd ["word", "thing"] (defScope sWished) := ⟨rfl, rfl, rfl, by decide +kernel, rfl, by decide +kernel, by decide +kernel⟩
/-! ### things as data -/
/-- is it a tuple? -/
def tupD : PyData → Bool
  | .tuple _ => true
  | _ => false
theorem isT_dp {K : PySem.W.Frag} {H : Hp} {x : V} {d : PyData} (h : Dp K H x d) : ∃ t, TyX K H x t ∧ PySem.W.kitOne K t (.type "tuple") = some (tupD d) := by
  cases h with
  | non => exact ⟨_, .base .non, kit_ty (r := false) (by decide +kernel)⟩
  | bl b => exact ⟨_, .base (.bl b), kit_ty (r := false) (by decide +kernel)⟩
  | int i => exact ⟨_, .base (.int i), kit_ty (r := false) (by decide +kernel)⟩
  | str z => exact ⟨_, .base (.str z), kit_ty (r := false) (by decide +kernel)⟩
  | lst a b => exact ⟨_, tyL a, kit_ty (r := false) (by decide +kernel)⟩
  | tup a b => exact ⟨_, tyT a, kit_ty (r := true) (by decide +kernel)⟩
theorem dpAll_ats {K : PySem.W.Frag} {H : Hp} {xs : List V} {ds : List PyData} (h : DpAll K H xs ds) : xs.length = ds.length ∧ ∀ (i : Nat) (x : V), xs[i]? = some x → ∃ d, ds[i]? = some d ∧ Dp K H x d := ⟨dpAll_len h, dpAll_at h⟩
theorem inV_two (w a b : Str) : inV (.str w) [.str a, .str b] = decide (w = a ∨ w = b) := by
  show ((a == w) || ((b == w) || false)) = _
  by_cases h1 : w = a
  · subst h1
    rw [beq_self_eq_true, decide_eq_true (.inl rfl)]
    rfl
  · rw [beq_eq_false_iff_ne.mpr fun z => h1 z.symm]
    by_cases h2 : w = b
    · subst h2
      rw [beq_self_eq_true, decide_eq_true (.inr rfl)]
      rfl
    · rw [beq_eq_false_iff_ne.mpr fun z => h2 z.symm, decide_eq_false (fun z => z.elim h1 h2)]
      rfl
/-- a tuple of such things alone -/
def allD : PyData → Bool
  | .tuple ds => ds.all lblD
  | _ => false
/-- what may stand behind the key in a wish of three parts -/
def wishedD (w : Str) (d : PyData) : Bool :=
  if w = "is" ∨ w = "isnt" then lblD d else if w = "begins" then PyData.eqv d (.str "") || lblD d else decide (w = "oneof") && allD d
/-- a thing of a wish: shaped, its texts and those in it short -/
structure ThD (d : PyData) : Prop where
  sh : SeqAt.shaped d = true
  tx : TxD d
  inn : ∀ ds, d = .tuple ds → ds.length < sizeLine ∧ ∀ e, e ∈ ds → TxD e
def spWished (K : PySem.W.Frag) : Sp := fun vs H Q _ => ∃ (w : Str) (x : V) (d : PyData), vs = [.str w, x] ∧ SeqAt.shaped (.str w) = true ∧ Dp K H x d ∧ ThD d ∧ ∀ H', Same H H' → Q (.bl (wishedD w d)) H'
section
variable {P : Program} {w : World} {K : PySem.W.Frag} {mg : Str → Option Value} {base : Heap}
theorem ok_wished {f g : Addr} {fd gd : FuncData} {k : Nat} (F : Fun K "is_wished" "is_wished" sWished f fd) (G : FnOk P w K mg base CX0 k g gd ["thing"] (spIs (LblV K))) (gG : mg "is_label_text" = some (.ref g)) (kG : PySem.W.keepIn K (.ref g) = true) (bG : Binds K gd ["thing"] [])
    (mi : mg "isinstance" = none) (mt : mg "tuple" = none) (ma : mg "all" = none) : FnOk P w K mg base CX0 (k + 2) f fd ["word", "thing"] (spWished K) := by
  refine F.ok scWished (fun vs H Q E h => ?_) (fun cdv A outer s H vs Q E hr h => ?_)
  · obtain ⟨w, x, d, rfl, _⟩ := h
    rfl
  · obtain ⟨w, x, d, rfl, shw, hx, th, q⟩ := h
    refine ⟨_, pss_cons (ps_if (pt_cmpR op_in_seq (pv 0) (pe_tup (pa_cons pe_str (pa_cons pe_str pa_nil))) (by with_unfolding_all rfl)) (pss_one (ps_ret (pe_call G (hr.mono (by omega)) (by rfl) gG kG bG .nil pass0 (pa_cons (pv 1) pa_nil)))) pss_nil)
      (pss_cons (ps_if (pt_cmpR (op_eqD hr.units) (pv 0) pe_str (nomark _)) (pss_one (ps_ret (pe_or (pe_cmpR (op_eqD hr.units) (pv 1) pe_str (nomark _)) (pe_one (pe_call G (hr.mono (by omega)) (by rfl) gG kG bG .nil pass0 (pa_cons (pv 1) pa_nil)))))) pss_nil)
      (pss_one (ps_ret (pe_and (pe_cmpR (op_eqD hr.units) (pv 0) pe_str (nomark _)) (pe_and (pe_callB call_isi (by rfl) mi PyProof.Rows.boot_isinstance (pa_cons (pv 1) (pa_cons (pe_bltn (v := .ty "tuple") (by rfl) mt PyProof.Rows.Boot.«tuple» rfl) pa_nil)))
        (pe_one (pe_callB (cr_all rfl) (by rfl) ma PyProof.Rows.boot_all (pa_cons (pe_lc (own := [("text", 2)]) (g := gName 2) (tt := tYes) rfl scWished.nd (pi_tup (pv 1)) (blkOk_by (N := NWd) (sc := defScope sWished) (by decide +kernel))
          (fun _ _ _ _ _ => pg_name (i := 2) scWished.nd rfl (Or.inl rfl)) (fun _ _ _ _ _ => pts_nil) (fun _ _ _ _ _ => pe_call G (hr.mono (by omega)) (by rfl) gG kG bG .nil pass0 (pa_cons (pv 2) pa_nil))) pa_nil)))))))), ?_⟩
    have same : Same H H := Same.refl _
    refine ⟨_, rfl, by show 2 ≤ sizeLine; decide, fun p np => ⟨p, _, rfl, .inr (SqT.of upd_same), rfl, rfl, _, rfl, ite2 (fun g => ?_) (fun g => ?_)⟩⟩
    · have e : w = "is" ∨ w = "isnt" := by
        have z : inV (.str w) [.str "is", .str "isnt"] = true := g
        rw [inV_two] at z
        exact of_decide_eq_true z
      have s1 : Same H (upd H p (.tup [.str "is", .str "isnt"])) := same_new np
      refine ⟨_, rfl, x, _, rfl, LblV.of (dp_same s1 hx) th.tx, fun H' s2 => ?_⟩
      have r := q H' (s1.trans s2)
      unfold wishedD at r
      rw [if_pos e] at r
      exact r
    · have e : ¬ (w = "is" ∨ w = "isnt") := by
        intro z
        refine g ?_
        show inV (.str w) [.str "is", .str "isnt"] = true
        rw [inV_two]
        exact decide_eq_true z
      have s1 : Same H (upd H p (.tup [.str "is", .str "isnt"])) := same_new np
      unfold wishedD at q
      rw [if_neg e] at q
      refine ⟨_, rfl, .str w, .str "begins", .str w, .str "begins", shw, (by decide +kernel), _, rfl, ite2 (fun g => ?_) (fun g => ?_)⟩
      · have e2 : w = "begins" := by
          have z : (w == ("begins" : Str)) = true := g
          exact eq_of_beq z
        rw [if_pos e2] at q
        refine ⟨_, rfl, d, .str "", dp_same s1 hx, .str "", th.sh, (by decide +kernel), _, rfl, ite2 (fun g => ?_) (fun g => ?_)⟩
        · rw [g] at q
          exact q _ s1
        · rw [Bool.eq_false_iff.mpr g] at q
          exact ⟨_, rfl, x, _, rfl, LblV.of (dp_same s1 hx) th.tx, fun H' s2 => q H' (s1.trans s2)⟩
      · have e2 : ¬ w = "begins" := fun z => g (by
          show (w == ("begins" : Str)) = true
          rw [z]
          exact beq_self_eq_true _)
        rw [if_neg e2] at q
        refine ⟨_, rfl, .str w, .str "oneof", .str w, .str "oneof", shw, (by decide +kernel), _, rfl, ite2 (fun g => ?_) (fun g => ?_)⟩
        · have e3 : w = "oneof" := by
            have z : (w == ("oneof" : Str)) = true := g
            exact eq_of_beq z
          rw [decide_eq_true e3, Bool.true_and] at q
          obtain ⟨t, ty, ki⟩ := isT_dp (dp_same s1 hx)
          refine ⟨_, rfl, x, .ty "tuple", t, .type "tuple", tupD d, rfl, .ty _, ty, ki, _, rfl, ite2 (fun g => ?_) (fun g => ?_)⟩
          · obtain ⟨ds, rfl⟩ : ∃ ds, d = .tuple ds := by
              cases d with
              | tuple ds => exact ⟨ds, rfl⟩
              | _ => simp [tupD] at g
            obtain ⟨few, inn⟩ := th.inn ds rfl
            cases hx with
            | tup hT hA =>
              rename_i a xs
              obtain ⟨len, ats⟩ := dpAll_ats hA
              refine ⟨_, rfl, a, rfl, ⟨_, sqT_same s1 hT⟩, fun D nD => lc_tup (K := K) (a := a) (xs := xs) (fun i Hc => Same H Hc ∧ Hc D = some (.lst (((ds.take i).map lblD).map V.bl))) ?_ ?_ ?_ ?_⟩
              · exact ⟨s1.trans (same_new nD), upd_same⟩
              · rintro i Hc _ ⟨sc, _⟩
                exact sqT_same sc hT
              · rintro i y Hc hy ⟨sc, hD⟩
                obtain ⟨dy, hdy, dpy⟩ := ats i y hy
                refine ⟨rfl, ?_⟩
                unfold tYes
                dsimp only
                rw [if_pos rfl]
                refine ⟨_, rfl, y, _, rfl, LblV.of (dp_same sc dpy) (inn dy (List.mem_of_getElem? hdy)), fun H' s2 => ⟨_, s2 _ _ hD, ?_, same_put (s1.free nD) (sc.trans s2), ?_⟩⟩
                · rw [List.length_map, List.length_map, List.length_take]
                  omega
                · rw [upd_same, List.take_add_one, hdy]
                  simp
              · rintro Hc ⟨sc, hD⟩
                refine ⟨D, ds.map lblD, rfl, SqL.of ?_, ?_⟩
                · rw [hD, List.take_of_length_le (by omega)]
                · have z := q Hc sc
                  have e5 : allD (.tuple ds) = (ds.map lblD).all id := by
                    rw [List.all_map]
                    rfl
                  rw [e5] at z
                  exact z
          · have e4 : allD d = false := by
              cases d with
              | tuple ds => exact absurd rfl g
              | _ => rfl
            rw [e4] at q
            exact q _ s1
        · have e3 : ¬ w = "oneof" := fun z => g (by
            show (w == ("oneof" : Str)) = true
            rw [z]
            exact beq_self_eq_true _)
          rw [decide_eq_false e3, Bool.false_and] at q
          exact q _ s1
end
end Tg

set_option maxHeartbeats 400000
namespace Tg
open PySem PySem.Spec PyProof.Rows L2
set_option maxHeartbeats 400000
set_option maxHeartbeats 400000
set_option maxHeartbeats 400000
abbrev sWish : Stmt := topS 26
theorem scWish : FnScope ["thing"] ["thing"] (defScope sWish) := ⟨rfl, rfl, rfl, by decide +kernel, rfl, by decide +kernel, by decide +kernel⟩
/-- the six wishes -/
def wishD : PyData → Bool
  | .tuple [.str a, b] => lblD b && decide (a = "has" ∨ a = "lacks")
  | .tuple [.str a, b, c] => lblD b && wishedD a c
  | _ => false
/-- what may be asked of is_wish: the parts as told, the first of two or three a text -/
structure WhD (d : PyData) : Prop where
  inn : ∀ ds, d = .tuple ds → ds.length ≤ sizeLine ∧ ∀ e, e ∈ ds → ThD e
  two : ∀ a b, d = .tuple [a, b] → ∃ w, a = .str w
  three : ∀ a b c, d = .tuple [a, b, c] → ∃ w, a = .str w
def WshV (K : PySem.W.Frag) (H : Hp) (x : V) (b : Bool) : Prop := ∃ d, Dp K H x d ∧ WhD d ∧ b = wishD d
theorem wsh_same {K : PySem.W.Frag} : ∀ (H H' : Hp) (x : V) (b : Bool), Same H H' → WshV K H x b → WshV K H' x b := fun H H' x b s ⟨d, h1, h2, h3⟩ => ⟨d, dp_same s h1, h2, h3⟩
theorem inV_23 (n : Nat) : inV (.int n) [.int 2, .int 3] = decide (n = 2 ∨ n = 3) := by
  show (((2 : Int) == (n : Int)) || (((3 : Int) == (n : Int)) || false)) = _
  by_cases h1 : n = 2
  · subst h1
    rfl
  · by_cases h2 : n = 3
    · subst h2
      rfl
    · rw [decide_eq_false (fun z => z.elim h1 h2), beq_eq_false_iff_ne.mpr (by omega), beq_eq_false_iff_ne.mpr (by omega)]
      rfl
section
variable {P : Program} {w : World} {K : PySem.W.Frag} {mg : Str → Option Value} {base : Heap}
theorem ok_wish {f g g2 : Addr} {fd gd gd2 : FuncData} {k : Nat} (F : Fun K "is_wish" "is_wish" sWish f fd) (G : FnOk P w K mg base CX0 k g gd ["thing"] (spIs (LblV K))) (gG : mg "is_label_text" = some (.ref g)) (kG : PySem.W.keepIn K (.ref g) = true) (bG : Binds K gd ["thing"] [])
    (G2 : FnOk P w K mg base CX0 k g2 gd2 ["word", "thing"] (spWished K)) (gG2 : mg "is_wished" = some (.ref g2)) (kG2 : PySem.W.keepIn K (.ref g2) = true) (bG2 : Binds K gd2 ["word", "thing"] [])
    (mi : mg "isinstance" = none) (mt : mg "tuple" = none) (ml : mg "len" = none) : FnOk P w K mg base CX0 (k + 2) f fd ["thing"] (spIs (WshV K)) := by
  refine F.ok scWish (fun vs H Q E h => ?_) (fun cdv A outer s H vs Q E hr h => ?_)
  · obtain ⟨x, b, rfl, _⟩ := h
    rfl
  · obtain ⟨x, b, rfl, ⟨d, hx, wh, rfl⟩, q⟩ := h
    refine ⟨_, pss_cons (ps_if (PW.pt (pw_or (pt_not (pt_val (pe_callB call_isi (by rfl) mi PyProof.Rows.boot_isinstance (pa_cons (pv 0) (pa_cons (pe_bltn (v := .ty "tuple") (by rfl) mt PyProof.Rows.Boot.«tuple» rfl) pa_nil)))))
        (pw_or1 (pt_cmpR op_notIn_seq (pe_callB call_len_seq (by rfl) ml PySem.boot_len (pa_cons (pv 0) pa_nil)) (pe_tup (pa_cons pe_int (pa_cons pe_int pa_nil))) (by with_unfolding_all rfl)))))
        (pss_one (ps_ret pe_bl)) pss_nil)
      (pss_cons (ps_if (pt_not (pt_val (pe_call G (hr.mono (by omega)) (by rfl) gG kG bG .nil pass0 (pa_cons (pe_ix (r := rIxT K) ix_tup (pv 0) pe_int (fun _ _ => rfl)) pa_nil)))) (pss_one (ps_ret pe_bl)) pss_nil)
      (pss_cons (ps_if (pt_cmpR op_eq (pe_callB call_len_seq (by rfl) ml PySem.boot_len (pa_cons (pv 0) pa_nil)) pe_int (nomark _)) (pss_one (ps_ret (pe_cmpR op_in_seq (pe_ix (r := rIxT K) ix_tup (pv 0) pe_int (fun _ _ => rfl)) (pe_tup (pa_cons pe_str (pa_cons pe_str pa_nil))) (by with_unfolding_all rfl)))) pss_nil)
      (pss_one (ps_ret (pe_call G2 (hr.mono (by omega)) (by rfl) gG2 kG2 bG2 .nil pass0 (pa_cons (pe_ix (r := rIxT K) ix_tup (pv 0) pe_int (fun _ _ => rfl)) (pa_cons (pe_ix (r := rIxT K) ix_tup (pv 0) pe_int (fun _ _ => rfl)) pa_nil))))))), ?_⟩
    by_cases isT : tupD d = true
    · obtain ⟨ds, rfl⟩ : ∃ ds, d = .tuple ds := by
        cases d with
        | tuple ds => exact ⟨ds, rfl⟩
        | _ => simp [tupD] at isT
      obtain ⟨few, inn⟩ := wh.inn ds rfl
      cases hx with
      | tup hT hA =>
        rename_i a xs
        obtain ⟨len, ats⟩ := dpAll_ats hA
        refine ⟨_, rfl, _, .ty "tuple", _, .type "tuple", true, rfl, .ty _, tyT hT, kit_ty (by decide +kernel), true, rfl, if_f ?_⟩
        refine ⟨_, rfl, a, xs, rfl, .inr hT, by show 2 ≤ sizeLine; decide, fun p np => ⟨p, _, rfl, .inr (SqT.of upd_same), rfl, rfl, _, rfl, ?_⟩⟩
        have s1 : Same H (upd H p (.tup [.int 2, .int 3])) := same_new np
        refine ite2 (fun g => ?_) (fun g => ?_)
        · have z : (!inV (.int xs.length) [.int 2, .int 3]) = true := g
          rw [inV_23] at z
          have e : wishD (.tuple ds) = false := by
            match ds, len with
            | [], _ => rfl
            | [b0], _ => cases b0 <;> rfl
            | [b0, b1], len => simp [len] at z
            | [b0, b1, b2], len => simp [len] at z
            | b0 :: b1 :: b2 :: b3 :: r, _ => cases b0 <;> rfl
          rw [e] at q
          exact q _ s1
        · have z : ¬ (!inV (.int xs.length) [.int 2, .int 3]) = true := g
          rw [inV_23] at z
          have many : xs.length = 2 ∨ xs.length = 3 := by
            by_cases y : xs.length = 2 ∨ xs.length = 3
            · exact y
            · exact absurd (by rw [decide_eq_false y]; rfl) z
          cases hA with
          | nil => simp at many
          | cons h0 r0 =>
            cases r0 with
            | nil => simp at many
            | cons h1 r1 =>
              cases r1 with
              | nil =>
                obtain ⟨w, rfl⟩ := wh.two _ _ rfl
                cases h0
                rename_i v1 d1
                have t1 : ThD d1 := inn d1 (by simp)
                refine ⟨_, rfl, a, _, 1, v1, rfl, rfl, sqT_same s1 hT, rfl, v1, _, rfl, LblV.of (dp_same s1 h1) t1.tx, fun H' s2 => ⟨_, rfl, ite2 (fun g => ?_) (fun g => ?_)⟩⟩
                · have e : lblD d1 = false := by
                    have y : (!lblD d1) = true := g
                    simpa using y
                  have y := q H' (s1.trans s2)
                  rw [wishD, e, Bool.false_and] at y
                  exact y
                · have e : lblD d1 = true := by
                    have y : ¬ (!lblD d1) = true := g
                    simpa using y
                  refine ⟨_, rfl, a, _, rfl, .inr (sqT_same (s1.trans s2) hT), rfl, _, rfl, ite2 (fun g => ?_) (fun g => ?_)⟩
                  · refine ⟨_, rfl, a, _, 0, .str w, rfl, rfl, sqT_same (s1.trans s2) hT, rfl, by show 2 ≤ sizeLine; decide, fun p2 np2 => ⟨p2, _, rfl, .inr (SqT.of upd_same), rfl, rfl, ?_⟩⟩
                    have y := q _ ((s1.trans s2).trans (same_new (o := .tup [.str "has", .str "lacks"]) np2))
                    rw [wishD, e, Bool.true_and, ← inV_two] at y
                    exact y
                  · exact absurd (decide_eq_true rfl) g
              | cons h2 r2 =>
                cases r2 with
                | cons h3 r3 => simp at many
                | nil =>
                  obtain ⟨w, rfl⟩ := wh.three _ _ _ rfl
                  cases h0
                  rename_i v1 d1 v2 d2
                  have t1 : ThD d1 := inn d1 (by simp)
                  have t2 : ThD d2 := inn d2 (by simp)
                  have t0 : ThD (.str w) := inn (.str w) (by simp)
                  refine ⟨_, rfl, a, _, 1, v1, rfl, rfl, sqT_same s1 hT, rfl, v1, _, rfl, LblV.of (dp_same s1 h1) t1.tx, fun H' s2 => ⟨_, rfl, ite2 (fun g => ?_) (fun g => ?_)⟩⟩
                  · have e : lblD d1 = false := by
                      have y : (!lblD d1) = true := g
                      simpa using y
                    have y := q H' (s1.trans s2)
                    rw [wishD, e, Bool.false_and] at y
                    exact y
                  · have e : lblD d1 = true := by
                      have y : ¬ (!lblD d1) = true := g
                      simpa using y
                    refine ⟨_, rfl, a, _, rfl, .inr (sqT_same (s1.trans s2) hT), rfl, _, rfl, ite2 (fun g => ?_) (fun g => ?_)⟩
                    · exact absurd (of_decide_eq_true g) (fun y => by cases y)
                    · refine ⟨_, rfl, a, _, 0, .str w, rfl, rfl, sqT_same (s1.trans s2) hT, rfl, _, rfl, a, _, 2, v2, rfl, rfl, sqT_same (s1.trans s2) hT, rfl, w, v2, d2, rfl, t0.sh, dp_same (s1.trans s2) h2, t2, fun H3 s3 => ?_⟩
                      have y := q _ ((s1.trans s2).trans s3)
                      rw [wishD, e, Bool.true_and] at y
                      exact y
    · obtain ⟨t, ty, ki⟩ := isT_dp hx
      rw [Bool.eq_false_iff.mpr isT] at ki
      have e : wishD d = false := by
        cases d with
        | tuple ds => exact absurd rfl isT
        | _ => rfl
      rw [e] at q
      exact ⟨_, rfl, x, .ty "tuple", t, .type "tuple", false, rfl, .ty _, ty, ki, false, rfl, if_t (if_t (q H (Same.refl _)))⟩
end
end Tg

set_option maxHeartbeats 400000
namespace Tg
open PySem PySem.Spec PyProof.Rows L2
set_option maxHeartbeats 400000
set_option maxHeartbeats 400000
/-- a wish -/
inductive Wx where
  | is (k t : Str)
  | isnt (k t : Str)
  | oneof (k : Str) (ts : List Str)
  | begins (k t : Str)
  | has (k : Str)
  | lacks (k : Str)
  deriving DecidableEq
def Wx.d : Wx → PyData
  | .is k t => .tuple [.str "is", .str k, .str t]
  | .isnt k t => .tuple [.str "isnt", .str k, .str t]
  | .oneof k ts => .tuple [.str "oneof", .str k, .tuple (ts.map .str)]
  | .begins k t => .tuple [.str "begins", .str k, .str t]
  | .has k => .tuple [.str "has", .str k]
  | .lacks k => .tuple [.str "lacks", .str k]
theorem dp_two {K : PySem.W.Frag} {H : Hp} {x : V} {a b : Str} (h : Dp K H x (.tuple [.str a, .str b])) : ∃ t, x = .ref t ∧ SqT K H t [.str a, .str b] := by
  cases h with
  | tup hT hA =>
    cases hA with
    | cons h0 r0 =>
      cases r0 with
      | cons h1 r1 =>
        cases r1
        cases h0
        cases h1
        exact ⟨_, rfl, hT⟩
theorem dp_three {K : PySem.W.Frag} {H : Hp} {x : V} {a b : Str} {c : PyData} (h : Dp K H x (.tuple [.str a, .str b, c])) : ∃ t v, x = .ref t ∧ SqT K H t [.str a, .str b, v] ∧ Dp K H v c := by
  cases h with
  | tup hT hA =>
    cases hA with
    | cons h0 r0 =>
      cases r0 with
      | cons h1 r1 =>
        cases r1 with
        | cons h2 r2 =>
          cases r2
          cases h0
          cases h1
          exact ⟨_, _, rfl, hT, h2⟩
theorem dp_strs {K : PySem.W.Frag} {H : Hp} : ∀ {ts : List Str} {xs : List V}, DpAll K H xs (ts.map .str) → xs = ts.map V.str
  | [], _, .nil => rfl
  | t :: ts, _, .cons a b => by
    cases a
    rw [dp_strs b]
    rfl
section
variable {P : Program} {w : World} {K : PySem.W.Frag} {mg : Str → Option Value} {base : Heap}
end
end Tg

namespace Tg
open PySem PySem.Spec PyProof.Rows L2
/-! ### a heap without some objects: data that stand apart from them -/
def hid (H : Hp) (S : List Addr) : Hp := fun b => if b ∈ S then none else H b
theorem hid_sub (H : Hp) (S : List Addr) : Same (hid H S) H := fun b o e => by
  unfold hid at e
  split at e
  · cases e
  · exact e
theorem hid_of {H : Hp} {S : List Addr} {b : Addr} {o : HO} (h : H b = some o) (n : b ∉ S) : hid H S b = some o := by
  unfold hid
  rw [if_neg n]
  exact h
theorem hid_kp {H H' : Hp} {S : List Addr} {p : Addr} (k : Kp p H H') (h : p ∈ S) : Same (hid H S) (hid H' S) := fun b o e => by
  have nb : b ∉ S := fun z => by
    unfold hid at e
    rw [if_pos z] at e
    cases e
  exact hid_of (k b o (fun z => nb (by rw [z]; exact h)) (hid_sub H S b o e)) nb
theorem hid_same {H H' : Hp} {S : List Addr} (s : Same H H') : Same (hid H S) (hid H' S) := fun b o e => by
  have nb : b ∉ S := fun z => by
    unfold hid at e
    rw [if_pos z] at e
    cases e
  exact hid_of (s b o (hid_sub H S b o e)) nb
theorem hid_less {H : Hp} {S R : List Addr} (h : ∀ b, b ∈ R → b ∈ S) : Same (hid H S) (hid H R) := fun b o e => by
  have nb : b ∉ S := fun z => by
    unfold hid at e
    rw [if_pos z] at e
    cases e
  exact hid_of (hid_sub H S b o e) fun z => nb (h b z)
/-- all of S stands -/
def Up (H : Hp) (S : List Addr) : Prop := ∀ b, b ∈ S → H b ≠ none
theorem Up.same {H H' : Hp} {S : List Addr} (u : Up H S) (s : Same H H') : Up H' S := fun b hb z => u b hb (s.free z)
theorem Up.new {H : Hp} {S : List Addr} {q : Addr} (u : Up H S) (n : H q = none) : q ∉ S := fun z => u q z n
theorem Up.kp {H H' : Hp} {S : List Addr} {p : Addr} (u : Up H S) (k : Kp p H H') (hp : H' p ≠ none) : Up H' S := fun b hb z => by
  by_cases e : b = p
  · exact hp (by rw [← e]; exact z)
  · cases y : H b with
    | none => exact u b hb y
    | some o =>
      rw [k b o e y] at z
      cases z
/-- a block whose reading speaks of something that is known only when it is reached -/
theorem pss_ex {X : Cx} {α : Type} {rest : List Stmt} {R : α → TS} (h : ∀ a, PSs X rest (R a)) : PSs X rest (fun D σ H => ∃ a, R a D σ H) := ⟨fun pins s σ H D I ⟨a, r⟩ => (h a).run pins s σ H D I r⟩
theorem pe_ex {X : Cx} {α : Type} {e : Expr} {R : α → TE} (h : ∀ a, PE X e (R a)) : PE X e (fun σ H Q => ∃ a, R a σ H Q) := ⟨fun pins s σ H Q I ⟨a, r⟩ => (h a).run pins s σ H Q I r⟩
theorem dpAll_is {K : PySem.W.Frag} {H : Hp} {xs : List V} {ds : List PyData} {i : Int} (h : DpAll K H xs ds) (h0 : 0 ≤ i) (h1 : i < ds.length) : ∃ x d, atI xs i = some x ∧ Dp K H x d ∧ ds[i.toNat]? = some d := by
  obtain ⟨j, rfl⟩ : ∃ j : Nat, i = (j : Int) := ⟨i.toNat, by omega⟩
  have hj : j < ds.length := by omega
  obtain ⟨x, ex, dx⟩ := dpAll_tk h j ds[j] (List.getElem?_eq_getElem hj)
  exact ⟨x, ds[j], atI_nat ex, dx, by rw [Int.toNat_natCast]; exact List.getElem?_eq_getElem hj⟩
theorem dpAll_tk1 {K : PySem.W.Frag} {H : Hp} : ∀ (n : Nat) {xs : List V} {ds : List PyData}, DpAll K H xs ds → DpAll K H (xs.take n) (ds.take n)
  | 0, _, _, _ => .nil
  | n + 1, _, _, .nil => .nil
  | n + 1, _, _, .cons a b => .cons a (dpAll_tk1 n b)
theorem dpAll_dr1 {K : PySem.W.Frag} {H : Hp} : ∀ (n : Nat) {xs : List V} {ds : List PyData}, DpAll K H xs ds → DpAll K H (xs.drop n) (ds.drop n)
  | 0, _, _, h => h
  | n + 1, _, _, .nil => .nil
  | n + 1, _, _, .cons a b => dpAll_dr1 n b
/-! ### displays of data, read as a whole -/
/-- what a display needs of the state (it must stand whatever is made new) -/
abbrev GD := L2.St → Hp → Prop
def tD (K : PySem.W.Frag) (S : List Addr) (G : GD) (d : PyData) : TE := fun σ H Q => (G σ H ∧ Up H S) ∧ ∀ x H', Same H H' → Dp K (hid H' S) x d → Q x H'
def tDs (K : PySem.W.Frag) (S : List Addr) (G : GD) (ds : List PyData) : TA := fun σ H Q => (G σ H ∧ Up H S) ∧ ∀ xs H', Same H H' → DpAll K (hid H' S) xs ds → Q xs H'
def StG (G : GD) : Prop := ∀ σ H H', Same H H' → G σ H → G σ H'
section
variable {X : Cx} {S : List Addr} {G : GD} {e : Expr} {es : List Expr} {d : PyData} {ds : List PyData} {pos : Pos}
theorem pd_of {v : V} (h : PE X e (tC v)) (hd : ∀ H, Dp X.K H v d) : PE X e (tD X.K S G d) := ⟨fun pins s σ H Q I r => h.run pins s σ H Q I (r.2 _ _ (Same.refl _) (hd _))⟩
theorem pd_str {z : Str} {j} : PE X (.Constant (.str z) j pos) (tD X.K S G (.str z)) := pd_of pe_str fun _ => .str z
theorem pd_int {z : Int} {j} : PE X (.Constant (.int z) j pos) (tD X.K S G (.int z)) := pd_of pe_int fun _ => .int z
theorem pd_bl {b : Bool} {j} : PE X (.Constant (.bool b) j pos) (tD X.K S G (.bool b)) := pd_of pe_bl fun _ => .bl b
theorem pd_non {j} : PE X (.Constant .none j pos) (tD X.K S G .none) := pd_of pe_non fun _ => .non
/-- a name whose thing is told by G -/
theorem pd_var {i : Nat} (h : PE X e (tVar i)) (hG : ∀ σ H, G σ H → ∃ v, σ[i]? = some (some v) ∧ Dp X.K (hid H S) v d) : PE X e (tD X.K S G d) := ⟨fun pins s σ H Q I r => by
  obtain ⟨v, e1, e2⟩ := hG σ H r.1.1
  exact h.run pins s σ H Q I ⟨v, e1, r.2 _ _ (Same.refl _) e2⟩⟩
theorem pds_nil : PA X [] (tDs X.K S G []) := ⟨fun pos pins s σ H Q I r => pa_nil.run pos pins s σ H Q I (r.2 _ _ (Same.refl _) .nil)⟩
theorem pds_cons (hG : StG G) (ha : PE X e (tD X.K S G d)) (hr : PA X es (tDs X.K S G ds)) (hs : starEach (e :: es) X.env = (false, eval e X.env) :: starEach es X.env := by rfl) : PA X (e :: es) (tDs X.K S G (d :: ds)) :=
  ⟨fun pos pins s σ H Q I r => (pa_cons ha hr hs).run pos pins s σ H Q I ⟨r.1, fun x H1 s1 d1 => ⟨⟨hG σ H H1 s1 r.1.1, r.1.2.same s1⟩, fun xs H2 s2 d2 => r.2 _ _ (s1.trans s2) (.cons (dp_same (hid_same s2) d1) d2)⟩⟩⟩
theorem pd_tup {x1} (h : PA X es (tDs X.K S G ds)) (few : Nat.ble ds.length 1000 = true := by rfl) : PE X (.Tuple es x1 pos) (tD X.K S G (.tuple ds)) :=
  ⟨fun pins s σ H Q I r => (pe_tup h).run pins s σ H Q I ⟨r.1, fun xs H1 s1 d1 => ⟨by rw [dpAll_len d1]; exact Nat.le_of_lt (small1000 (Nat.le_of_ble_eq_true few)), fun p np => r.2 _ _ (s1.trans (same_new np)) (.tup (SqT.of (hid_of upd_same ((r.1.2.same s1).new np))) (dpAll_same (hid_same (same_new np)) d1))⟩⟩⟩
theorem pd_lst (h : PA X es (tDs X.K S G ds)) (few : Nat.ble ds.length 1000 = true := by rfl) : PE X (.List es pos) (tD X.K S G (.list ds)) :=
  ⟨fun pins s σ H Q I r => (pe_lst h).run pins s σ H Q I ⟨r.1, fun xs H1 s1 d1 => ⟨by rw [dpAll_len d1]; exact Nat.le_of_lt (small1000 (Nat.le_of_ble_eq_true few)), fun p np => r.2 _ _ (s1.trans (same_new np)) (.lst (SqL.of (hid_of upd_same ((r.1.2.same s1).new np))) (dpAll_same (hid_same (same_new np)) d1))⟩⟩⟩
/-- a new list of data, at an address that was free -/
def tLD (K : PySem.W.Frag) (S : List Addr) (G : GD) (ds : List PyData) : TE := fun σ H Q => (G σ H ∧ Up H S) ∧ ∀ p H' xs, Same H H' → H p = none → H' p = some (.lst xs) → DpAll K (hid H' S) xs ds → Q (.ref p) H'
theorem pd_lstN (h : PA X es (tDs X.K S G ds)) (few : Nat.ble ds.length 1000 = true := by rfl) : PE X (.List es pos) (tLD X.K S G ds) :=
  ⟨fun pins s σ H Q I r => (pe_lst h).run pins s σ H Q I ⟨r.1, fun xs H1 s1 d1 => ⟨by rw [dpAll_len d1]; exact Nat.le_of_lt (small1000 (Nat.le_of_ble_eq_true few)), fun p np => r.2 _ _ _ (s1.trans (same_new np)) (s1.free np) upd_same (dpAll_same (hid_same (same_new np)) d1)⟩⟩⟩
end
end Tg

namespace Tg
open PySem PySem.Spec PyProof.Rows L2 LamX
def keys3 : List Str := ["a", "host", "zone9"]
def texts5 : List Str := ["x", "x1", "xy", "7", "b"]
theorem keys3_ok : (∀ k, k ∈ keys3 → lblB k = true) ∧ keys3.Nodup := by decide +kernel
theorem texts5_ok : ∀ k, k ∈ texts5 → lblB k = true := by decide +kernel
theorem cut_to (xs : List V) (a : Nat) : cutV xs none (some (a : Int)) = xs.take a := by
  unfold cutV
  rw [HT.sIx_none, HT.sIx_nat, List.drop_zero, Nat.sub_zero]
  rcases Nat.le_total a xs.length with h | h
  · rw [Nat.min_eq_left h]
  · rw [Nat.min_eq_right h, List.take_length, List.take_of_length_le h]
theorem atI_str {xs : List Str} {i : Int} (h0 : 0 ≤ i) (h1 : i < xs.length) : ∃ v, v ∈ xs ∧ atI (xs.map V.str) i = some (.str v) := by
  obtain ⟨j, rfl⟩ : ∃ j : Nat, i = (j : Int) := ⟨i.toNat, by omega⟩
  have hj : j < xs.length := by omega
  refine ⟨xs[j], List.getElem_mem hj, atI_nat ?_⟩
  rw [List.getElem?_map, List.getElem?_eq_getElem hj]
  rfl
section
variable {P : Program} {w : World} {K : PySem.W.Frag} {mg : Str → Option Value} {base : Heap}
end
end Tg

namespace Tg
open PySem PySem.Spec PyProof.Rows L2 LamX
abbrev sLW : Stmt := topS 53
theorem scLW : FnScope ["_law_draws_here", "_law_pick", "_law_key", "_law_a_text", "_law_some"] ["_law_draws_here"] (defScope sLW) := ⟨rfl, rfl, rfl, by decide +kernel, rfl, by decide +kernel, by decide +kernel⟩
/-! ### what may be asked of is_wish, by looking -/
def txB : PyData → Bool
  | .str z => decide (z.length ≤ sizeLine)
  | _ => true
theorem txB_ok {d : PyData} (h : txB d = true) : TxD d := fun z e => by
  subst e
  exact of_decide_eq_true h
def thB (d : PyData) : Bool := SeqAt.shaped d && txB d && match d with
  | .tuple ds => decide (ds.length < sizeLine) && ds.all txB
  | _ => true
theorem thB_ok {d : PyData} (h : thB d = true) : ThD d := by
  unfold thB at h
  rw [Bool.and_eq_true, Bool.and_eq_true] at h
  refine ⟨h.1.1, txB_ok h.1.2, fun ds e => ?_⟩
  subst e
  have z := h.2
  rw [Bool.and_eq_true] at z
  exact ⟨of_decide_eq_true z.1, fun e he => txB_ok (List.all_eq_true.mp z.2 e he)⟩
def strB : PyData → Bool
  | .str _ => true
  | _ => false
theorem strB_ok {d : PyData} (h : strB d = true) : ∃ z, d = .str z := by
  cases d with
  | str z => exact ⟨z, rfl⟩
  | _ => cases h
def whB (d : PyData) : Bool := match d with
  | .tuple ds => decide (ds.length ≤ sizeLine) && ds.all thB && (decide (ds.length ≠ 2 ∧ ds.length ≠ 3) || strB (ds.headD .none))
  | _ => true
theorem whB_ok {d : PyData} (h : whB d = true) : WhD d := by
  refine ⟨fun ds e => ?_, fun a b e => ?_, fun a b c e => ?_⟩
  · subst e
    have z : (decide (ds.length ≤ sizeLine) && ds.all thB && _) = true := h
    rw [Bool.and_eq_true, Bool.and_eq_true] at z
    exact ⟨of_decide_eq_true z.1.1, fun e he => thB_ok (List.all_eq_true.mp z.1.2 e he)⟩
  · subst e
    have z : (_ && (decide (¬ (2 : Nat) = 2 ∧ _) || strB a)) = true := h
    rw [Bool.and_eq_true, Bool.or_eq_true] at z
    rcases z.2 with y | y
    · exact absurd rfl (of_decide_eq_true y).1
    · exact strB_ok y
  · subst e
    have z : (_ && (decide (_ ∧ ¬ (3 : Nat) = 3) || strB a)) = true := h
    rw [Bool.and_eq_true, Bool.or_eq_true] at z
    rcases z.2 with y | y
    · exact absurd rfl (of_decide_eq_true y).2
    · exact strB_ok y
/-- a wish as it may stand in a row -/
def gwB (y : Wx) : Bool := SeqAt.shaped y.d && decide (y.d.depth ≤ 4) && whB y.d && wishD y.d
def keys4 : List Str := ["a", "host", "zone9", "none"]
def texts6 : List Str := ["x", "x1", "xy", "7", "b", "c"]
def wxs (k t : Str) : List Wx := [.oneof k [], .oneof k [t], .oneof k [t, "x"], .oneof k ["7", t, "b"], .is k t, .isnt k t, .begins k (cutS t none (some 0)), .begins k (cutS t none (some 1)), .begins k (cutS t none (some 2)), .has k, .lacks k]
theorem wxs_ok : (keys4.all fun k => texts6.all fun t => (wxs k t).all gwB) = true := by decide +kernel
theorem texts6_len : ∀ t, t ∈ texts6 → t.length ≤ 1000 := by decide +kernel
def allW : List Wx := keys4.flatMap fun k => texts6.flatMap fun t => wxs k t
theorem allW_of {k t : Str} {y : Wx} (hk : k ∈ keys4) (ht : t ∈ texts6) (hy : y ∈ wxs k t) : y ∈ allW := List.mem_flatMap.mpr ⟨k, hk, List.mem_flatMap.mpr ⟨t, ht, hy⟩⟩
theorem allW_good {y : Wx} (h : y ∈ allW) : gwB y = true := by
  obtain ⟨k, hk, h⟩ := List.mem_flatMap.mp h
  obtain ⟨t, ht, hy⟩ := List.mem_flatMap.mp h
  exact List.all_eq_true.mp (List.all_eq_true.mp (List.all_eq_true.mp wxs_ok k hk) t ht) y hy
theorem wxs_at {k t : Str} {y : Wx} (hk : k ∈ keys4) (ht : t ∈ texts6) (hy : y ∈ wxs k t) : gwB y = true :=
  List.all_eq_true.mp (List.all_eq_true.mp (List.all_eq_true.mp wxs_ok k hk) t ht) y hy
/-- pick, key and text stand in their slots -/
def GW (z : Int × Str × Str) : GD := fun σ _ => σ[1]? = some (some (.int z.1)) ∧ σ[2]? = some (some (.str z.2.1)) ∧ σ[3]? = some (some (.str z.2.2)) ∧ z.2.2.length ≤ 1000
def spLW (K : PySem.W.Frag) : Sp := fun vs H Q _ => ∃ (p : Addr) (n : Nat) (S : List Addr), vs = [.ref p] ∧ Dr H p n ∧ n < 900000 ∧ Up H S ∧ p ∈ S ∧
  ∀ (x : V) (y : Wx) (H' : Hp), Kp p H H' → Dr H' p (n + 1) → Dp K (hid H' S) x y.d → y ∈ allW → Q x H'
section
variable {P : Program} {w : World} {K : PySem.W.Frag} {mg : Str → Option Value} {base : Heap}
theorem ok_lw {f : Addr} {fd : FuncData} {k : Nat} (F : Fun K "_law_wish" "_law_wish" sLW f fd) (L_next : Cal P w K mg base k "_law_next" ["_law_draws_here"] spNext) : FnOk P w K mg base CX0 (k + 1) f fd ["_law_draws_here"] (spLW K) := by
  refine F.ok scLW (fun vs H Q E h => ?_) (fun cdv A outer s H vs Q E hr h => ?_)
  · obtain ⟨p, n, S, rfl, _⟩ := h
    rfl
  · obtain ⟨p, n, S, rfl, hp, hn, up, pS, q⟩ := h
    have hu := hu_of hr
    have st : ∀ z : Int × Str × Str, StG (GW z) := fun z σ H H' _ h => h
    have vk : ∀ (z : Int × Str × Str) (σ : L2.St) (H : Hp), GW z σ H → ∃ v, σ[2]? = some (some v) ∧ Dp K (hid H S) v (.str z.2.1) := fun z σ H h => ⟨_, h.2.1, .str _⟩
    have vt : ∀ (z : Int × Str × Str) (σ : L2.St) (H : Hp), GW z σ H → ∃ v, σ[3]? = some (some v) ∧ Dp K (hid H S) v (.str z.2.2) := fun z σ H h => ⟨_, h.2.2.1, .str _⟩
    refine ⟨_, pss_cons (ps_set (i := 1) scLW.nd rfl (.inl rfl) (pe_cal L_next (hr.mono (by omega)) (by rfl) (pa_cons (pv 0) pa_nil)))
      (pss_cons (ps_set (i := 2) scLW.nd rfl (.inl rfl) (pe_ix ix_list (pe_lst (pa_cons pe_str (pa_cons pe_str (pa_cons pe_str (pa_cons pe_str pa_nil))))) (pe_op op_mod (pe_op op_fdiv (pv 1) pe_int) pe_int) (fun _ _ => rfl)))
      (pss_cons (ps_set (i := 3) scLW.nd rfl (.inl rfl) (pe_ix ix_list (pe_lst (pa_cons pe_str (pa_cons pe_str (pa_cons pe_str (pa_cons pe_str (pa_cons pe_str (pa_cons pe_str pa_nil))))))) (pe_op op_mod (pe_op op_fdiv (pv 1) pe_int) pe_int) (fun _ _ => rfl)))
      (pss_ex fun z : Int × Str × Str => pss_cons (ps_if (pt_cmpR op_eq (pe_op op_mod (pv 1) pe_int) pe_int (nomark _))
        (pss_one (ps_ret (pe_tup (pa_cons pe_str (pa_cons (pv 2) (pa_cons (pe_ix ix_list (pd_lstN (S := S) (G := GW z) (pds_cons (st z) (pd_tup pds_nil) (pds_cons (st z) (pd_tup (pds_cons (st z) (pd_var (pv 3) (vt z)) pds_nil)) (pds_cons (st z) (pd_tup (pds_cons (st z) (pd_var (pv 3) (vt z)) (pds_cons (st z) pd_str pds_nil))) (pds_cons (st z) (pd_tup (pds_cons (st z) pd_str (pds_cons (st z) (pd_var (pv 3) (vt z)) (pds_cons (st z) pd_str pds_nil)))) pds_nil))))) (pe_op op_mod (pe_op op_fdiv (pv 1) pe_int) pe_int) (fun _ _ => rfl)) pa_nil))))))
        pss_nil)
      (pss_cons (ps_set (i := 4) scLW.nd rfl (.inl rfl) (pd_lstN (S := S) (G := GW z) (pds_cons (st z) (pd_tup (pds_cons (st z) pd_str (pds_cons (st z) (pd_var (pv 2) (vk z)) (pds_cons (st z) (pd_var (pv 3) (vt z)) pds_nil)))) (pds_cons (st z) (pd_tup (pds_cons (st z) pd_str (pds_cons (st z) (pd_var (pv 2) (vk z)) (pds_cons (st z) (pd_var (pv 3) (vt z)) pds_nil)))) (pds_cons (st z) (pd_tup (pds_cons (st z) pd_str (pds_cons (st z) (pd_var (pv 2) (vk z)) (pds_cons (st z) (pe_by (R := tD K S (GW z) (.str (cutS z.2.2 none (some (z.1 / 192 % 3))))) (pe_slice sl_str (pv 3) po_none (po_some (pe_op op_mod (pe_op op_fdiv (pv 1) pe_int) pe_int))) (by
          rintro σ H Q ⟨⟨g, up⟩, q⟩
          exact ⟨_, g.2.2.1, _, g.1, z.1, 192, rfl, rfl, ⟨by decide, by decide⟩, z.1 / 192, 3, rfl, rfl, (by show (0 : Int) < 3; decide), z.1 / 192 % 3, rfl, z.2.2, rfl, Nat.le_of_lt (small1000 g.2.2.2), q _ _ (Same.refl _) (.str _)⟩)) pds_nil)))) pds_nil)))))
      (pss_one (ps_ret (pe_ix ix_list (pe_op op_cat (pv 4) (pd_lstN (S := S) (G := GW z) (pds_cons (st z) (pd_tup (pds_cons (st z) pd_str (pds_cons (st z) (pd_var (pv 2) (vk z)) pds_nil))) (pds_cons (st z) (pd_tup (pds_cons (st z) pd_str (pds_cons (st z) (pd_var (pv 2) (vk z)) pds_nil))) pds_nil)))) (pe_op op_sub (pe_op op_mod (pv 1) pe_int) pe_int) (fun _ _ => rfl)))))))), ?_⟩
    refine ⟨_, rfl, p, n, rfl, hp, by omega, fun v H1 k1 p1 v0 v1 => ?_⟩
    have up1 : Up H1 S := up.kp k1 (fun z => by
      obtain ⟨_, _, _, y, _⟩ := p1
      rw [y] at z
      cases z)
    refine ⟨by show 4 ≤ sizeLine; decide, fun l2 n2 => ?_⟩
    have s2 := same_new (o := .lst (keys4.map V.str)) n2
    obtain ⟨ky, hky, eky⟩ := atI_str (xs := keys4) (i := v / 8 % 4) (by omega) (by show v / 8 % 4 < 4; omega)
    refine ⟨_, rfl, v, 8, rfl, rfl, ⟨by decide, by decide⟩, v / 8, 4, rfl, rfl, (by show (0 : Int) < 4; decide), l2, _, _, .str ky, rfl, rfl, SqL.of upd_same, eky, ?_⟩
    refine ⟨by show 6 ≤ sizeLine; decide, fun l3 n3 => ?_⟩
    have s3 := same_new (o := .lst (texts6.map V.str)) n3
    obtain ⟨tx, htx, etx⟩ := atI_str (xs := texts6) (i := v / 32 % 6) (by omega) (by show v / 32 % 6 < 6; omega)
    refine ⟨_, rfl, v, 32, rfl, rfl, ⟨by decide, by decide⟩, v / 32, 6, rfl, rfl, (by show (0 : Int) < 6; decide), l3, _, _, .str tx, rfl, rfl, SqL.of upd_same, etx, ?_⟩
    refine ⟨(v, ky, tx), ?_⟩
    obtain ⟨H3, e3⟩ : ∃ H3, upd (upd H1 l2 (.lst (keys4.map V.str))) l3 (.lst (texts6.map V.str)) = H3 := ⟨_, rfl⟩
    have s13 : Same H1 H3 := by
      rw [← e3]
      exact s2.trans s3
    show tIfS _ _ _ _ _ (upd (upd H1 l2 (.lst (keys4.map V.str))) l3 (.lst (texts6.map V.str)))
    rw [e3]
    refine ⟨_, rfl, v, 6, rfl, rfl, (by show (0 : Int) < 6; decide), rfl, _, rfl, ite2 (fun g => ?_) (fun g => ?_)⟩
    · have gw : GW (v, ky, tx) [some (.ref p), some (.int v), some (.str ky), some (.str tx), none] H3 := ⟨rfl, rfl, rfl, (texts6_len tx htx)⟩
      refine ⟨_, rfl, ⟨gw, up1.same s13⟩, fun l4 H4 xs4 s4 n4 h4 d4 => ?_⟩
      obtain ⟨x, d, ex, dx, ed⟩ := dpAll_is d4 (i := v / 192 % 4) (by omega) (by show v / 192 % 4 < 4; omega)
      refine ⟨_, rfl, v, 192, rfl, rfl, ⟨by decide, by decide⟩, v / 192, 4, rfl, rfl, (by show (0 : Int) < 4; decide), l4, xs4, _, x, rfl, rfl, SqL.of h4, ex, ?_⟩
      refine ⟨by show 3 ≤ sizeLine; decide, fun t nt => ?_⟩
      have sA := s13.trans (s4.trans (same_new (o := .tup [.str "oneof", .str ky, x]) nt))
      have up4 := (up1.same s13).same s4
      obtain ⟨y, hy, ey⟩ : ∃ y, y ∈ wxs ky tx ∧ y.d = .tuple [.str "oneof", .str ky, d] := by
        obtain ⟨j, ej⟩ : ∃ j : Nat, (v / 192 % 4).toNat = j := ⟨_, rfl⟩
        have hj : j < 4 := by omega
        rw [ej] at ed
        match j, hj, ed with
        | 0, _, ed =>
          cases ed
          exact ⟨_, .head _, rfl⟩
        | 1, _, ed =>
          cases ed
          exact ⟨_, .tail _ (.head _), rfl⟩
        | 2, _, ed =>
          cases ed
          exact ⟨_, .tail _ (.tail _ (.head _)), rfl⟩
        | 3, _, ed =>
          cases ed
          exact ⟨_, .tail _ (.tail _ (.tail _ (.head _))), rfl⟩
      refine q _ y _ (k1.trans (.of sA)) (p1.same sA) ?_ (allW_of hky htx hy)
      rw [ey]
      exact .tup (SqT.of (hid_of upd_same (up4.new nt))) (.cons (.str _) (.cons (.str _) (.cons (dp_same (hid_same (same_new nt)) dx) .nil)))
    · have gw : GW (v, ky, tx) [some (.ref p), some (.int v), some (.str ky), some (.str tx), none] H3 := ⟨rfl, rfl, rfl, (texts6_len tx htx)⟩
      refine ⟨⟨gw, up1.same s13⟩, fun l4 H4 xs4 s4 n4 h4 d4 => ?_⟩
      refine ⟨_, rfl, ⟨⟨rfl, rfl, rfl, texts6_len tx htx⟩, (up1.same s13).same s4⟩, fun l5 H5 xs5 s5 n5 h5 d5 => ?_⟩
      have dA := dpAll_app (dpAll_same (hid_same s5) d4) d5
      refine ⟨l4, l5, _, _, rfl, rfl, s5 _ _ h4, h5, (by rw [dpAll_len d4, dpAll_len d5]; show 3 + 2 ≤ sizeLine; decide), fun l6 n6 => ?_⟩
      have s6 := same_new (o := .lst (xs4 ++ xs5)) n6
      have v6 : 1 ≤ v % 6 := by
        have : ¬ v % 6 = 0 := fun z => g (decide_eq_true (congrArg V.int z))
        omega
      obtain ⟨x, d, ex, dx, ed⟩ := dpAll_is dA (i := v % 6 - 1) (by omega) (by show v % 6 - 1 < 5; omega)
      refine ⟨_, rfl, v, 6, rfl, rfl, (by show (0 : Int) < 6; decide), v % 6, 1, rfl, rfl, l6, _, _, x, rfl, rfl, SqL.of upd_same, ex, ?_⟩
      have sA := s13.trans (s4.trans (s5.trans s6))
      obtain ⟨y, hy, ey⟩ : ∃ y, y ∈ wxs ky tx ∧ y.d = d := by
        obtain ⟨j, ej⟩ : ∃ j : Nat, (v % 6 - 1).toNat = j := ⟨_, rfl⟩
        have hj : j < 5 := by omega
        rw [ej] at ed
        match j, hj, ed with
        | 0, _, ed =>
          cases ed
          exact ⟨.is ky tx, by simp [wxs], rfl⟩
        | 1, _, ed =>
          cases ed
          exact ⟨.isnt ky tx, by simp [wxs], rfl⟩
        | 2, _, ed =>
          cases ed
          refine ⟨.begins ky (cutS tx none (some (v / 192 % 3))), ?_, rfl⟩
          have e3 : v / 192 % 3 = 0 ∨ v / 192 % 3 = 1 ∨ v / 192 % 3 = 2 := by omega
          rcases e3 with e | e | e
          · rw [e]
            exact .tail _ (.tail _ (.tail _ (.tail _ (.tail _ (.tail _ (.head _))))))
          · rw [e]
            exact .tail _ (.tail _ (.tail _ (.tail _ (.tail _ (.tail _ (.tail _ (.head _)))))))
          · rw [e]
            exact .tail _ (.tail _ (.tail _ (.tail _ (.tail _ (.tail _ (.tail _ (.tail _ (.head _))))))))
        | 3, _, ed =>
          cases ed
          exact ⟨.has ky, by simp [wxs], rfl⟩
        | 4, _, ed =>
          cases ed
          exact ⟨.lacks ky, by simp [wxs], rfl⟩
      refine q _ y _ (k1.trans (.of sA)) (p1.same sA) ?_ (allW_of hky htx hy)
      rw [ey]
      exact dp_same (hid_same s6) dx
end
end Tg

namespace Tg
open PySem PySem.Spec PyProof.Rows L2
theorem if_n {c : Bool} {A B : Prop} (h : c = false) (b : B) : if c = true then A else B := by
  subst h
  exact if_f b
theorem if_y {c : Bool} {A B : Prop} (h : c = true) (a : A) : if c = true then A else B := by
  subst h
  exact if_t a
theorem small_mul {i j : Int} (h : i.natAbs < 2 ^ 60) : CMul i j := .inl ⟨by omega, by omega⟩
/-! ### the texts of labels and wishes, and what leads back -/
/-- the text of a wish -/
def Wx.t : Wx → Str
  | .is k t => (k ++ Str.ofString "=") ++ t
  | .isnt k t => (k ++ Str.ofString "!=") ++ t
  | .oneof k ts => ((k ++ Str.ofString "=(") ++ Txt.join (Str.ofString "|") ts) ++ Str.ofString ")"
  | .begins k t => (k ++ Str.ofString "^") ++ t
  | .has k => k
  | .lacks k => Str.ofString "!" ++ k
/-- what a text is parted in at a sign, if the sign is in it -/
def cutAt (z c : Str) : Option (Str × Str) := if (Txt.partition z c).2.1 = Str.empty then none else some ((Txt.partition z c).1, (Txt.partition z c).2.2)
/-- the wish that a text writes -/
def looseW (z : Str) : Wx :=
  if Txt.startswith z "!" = true then .lacks (cutS z (some 1) none) else
  match cutAt z "!=" with
  | some p => .isnt p.1 p.2
  | none => match cutAt z "^" with
    | some p => .begins p.1 p.2
    | none => match cutAt z "=" with
      | some p => if Txt.startswith p.2 "(" = true ∧ Txt.endswith p.2 ")" = true then .oneof p.1 (if p.2 = "()" then [] else Txt.split (cutS p.2 (some 1) (some (-1))) "|") else .is p.1 p.2
      | none => .has z
theorem loose_ok : (allW.all fun y => decide (looseW y.t = y ∧ y.t.length ≤ 40 ∧ 32 ∉ y.t.cps.toList ∧ y.t ≠ "*" ∧ y.t ≠ Str.empty)) = true := by decide +kernel
/-- its texts are short -/
def Wx.few : Wx → Bool
  | .is k t => decide (k.length ≤ 9 ∧ t.length ≤ 9)
  | .isnt k t => decide (k.length ≤ 9 ∧ t.length ≤ 9)
  | .begins k t => decide (k.length ≤ 9 ∧ t.length ≤ 9)
  | .oneof k ts => decide (k.length ≤ 9 ∧ ts.length ≤ 3 ∧ ∀ t, t ∈ ts → t.length ≤ 9)
  | .has k => decide (k.length ≤ 9)
  | .lacks k => decide (k.length ≤ 9)
theorem few_all : (allW.all Wx.few) = true := by decide +kernel
theorem few_ok {y : Wx} (h : y ∈ allW) : y.few = true := List.all_eq_true.mp few_all y h
structure WxT (y : Wx) : Prop where
  back : looseW y.t = y
  few : y.t.length ≤ 40
  free : 32 ∉ y.t.cps.toList
  star : y.t ≠ "*"
  ne : y.t ≠ Str.empty
theorem wx_t {y : Wx} (h : y ∈ allW) : WxT y := by
  obtain ⟨a, b, c, d, e⟩ := of_decide_eq_true (List.all_eq_true.mp loose_ok y h)
  exact ⟨a, b, c, d, e⟩
theorem sum_few : ∀ {ts : List Str} {n m : Nat}, ts.length ≤ n → (∀ t, t ∈ ts → t.length ≤ m) → (ts.map (·.length)).sum ≤ n * m
  | [], _, _, _, _ => Nat.zero_le _
  | t :: ts, 0, _, h, _ => nomatch h
  | t :: ts, n + 1, m, h, f => by
    have z := sum_few (ts := ts) (n := n) (m := m) (Nat.le_of_succ_le_succ h) fun x hx => f x (List.mem_cons_of_mem _ hx)
    have z2 := f t List.mem_cons_self
    rw [List.map_cons, List.sum_cons, Nat.succ_mul]
    omega
end Tg

set_option maxHeartbeats 1000000
namespace Tg
open PySem PySem.Spec PyProof.Rows L2
/-! ### a, b, *rest = a tuple: the star stands last -/
theorem star_items {prog : Program} {w : World} {A : Around} {E : Value → Shared → Prop} {s : Shared} {l : Addr} {items : Array Value} {i : Nat} {Q : List Value → Shared → Prop} (isT : IsTup s.heap l items) (free : A.handled = none) (le : i ≤ items.size) (few : items.size ≤ 1000)
    (told : ∀ (h' : Heap) (tk : Nat), (∀ b o, s.heap.get? b = some o → h'.get? b = some o) → Q (items.toList.take i ++ [.ref h'.objs.size]) { s with heap := h'.push { cls := .type "list", data := .seq (items.toList.drop i).toArray }, toks := tk }) :
    wpAny (model prog w) A (unpackItems (.ref l) (i + 1) (some i)) Q E s := by
  have lt : l < s.heap.objs.size := let ⟨o, ho, _⟩ := isT; Heap.lt_size ho
  have ne : l ≠ s.heap.objs.size := Nat.ne_of_lt lt
  have big : items.size ≤ sizeLine := by rw [sizeLine_eq]; omega
  unfold unpackItems notIterableAtAll
  apply wpAny_bind
  apply wpAny_bind
  refine wpAny_specialOf isT.typeIs slot_tuple_iter.lookup (wpAny_pure ?_)
  rw [if_neg (show ¬ ((false : Bool) = true) from Bool.false_ne_true)]
  apply wpAny_bind
  refine wpAny_holding (iter_tuple isT ?_)
  apply wpAny_bind
  refine wpAny_holding (draw_tuple ne i 0 _ _ ⟨_, Heap.get?_push_size _ rfl, rfl, rfl⟩ (isT.push _) (by omega) fun h1 at1 sb1 => ?_)
  have isT1 : IsTup h1 l items := (isT.push _).extBut sb1.extBut ne
  have at1' := at1
  rw [Nat.zero_add] at at1'
  rw [List.drop_zero]
  have len1 : (items.toList.take i).length = i := by
    rw [List.length_take, Array.length_toList]
    exact Nat.min_eq_left le
  rw [if_neg (show ¬ ((items.toList.take i).length < i) by omega)]
  have lI : s.heap.objs.size < h1.objs.size := let ⟨o, ho, _⟩ := at1'; Heap.lt_size ho
  have ll : l < h1.objs.size := let ⟨o, ho, _⟩ := isT1; Heap.lt_size ho
  apply wpAny_bind
  refine wpAny_holding (PySem.W.kun_collect (s := { s with heap := h1 }) (T := "tuple_iterator") (.inr (.inr (.inr rfl))) (Walks.tuple (A := A.in1) free s.heap.objs.size l ne items) (fun j u st => st.1.typeIs) (k := i) le ⟨at1', isT1⟩ lI ll (fun h2 tk kept => ?_) big)
  have len2 : (items.toList.drop i).length = items.size - i := List.length_drop.trans (congrArg (· - i) Array.length_toList)
  have z0 : i + 1 - 1 - i = 0 := by omega
  show wpAny _ _ (if (items.toList.drop i).length < i + 1 - 1 - i then _ else _) _ _ _
  rw [z0, if_neg (Nat.not_lt_zero _)]
  show wpAny _ _ (newList ((items.toList.drop i).take ((items.toList.drop i).length - 0)) >>= fun d => pure (items.toList.take i ++ [d] ++ (items.toList.drop i).drop ((items.toList.drop i).length - 0))) _ _ _
  rw [Nat.sub_zero, List.take_length, List.drop_length]
  have all : ∀ b o, s.heap.get? b = some o → h2.get? b = some o := fun b o e => kept b o (Nat.ne_of_lt (Heap.lt_size e)) (sb1.extBut b o (Nat.ne_of_lt (Heap.lt_size e)) (Heap.get?_push_of_some _ e))
  refine wpAny_bind (wpAny_newList (wpAny_pure ?_) (by rw [len2]; omega))
  rw [List.append_nil]
  exact told h2 tk all
/-- (t1, .., *rest) = a tuple of that many and more -/
def gStarT (K : PySem.W.Frag) (i : Nat) (t : TGs) : TG := fun v σ H Q => ∃ a xs, v = .ref a ∧ SqT K H a xs ∧ i ≤ xs.length ∧ xs.length ≤ 1000 ∧ ∀ p, H p = none → t (xs.take i ++ [.ref p]) σ (upd H p (.lst (xs.drop i))) Q
theorem pgs_starL {X : Cx} {e : Expr} {p : Pos} {t : TG} (h : PG X e t) : PGs X [.Starred e p] (gCons t gNil) := by
  constructor
  rintro pins s σ H vs us Q I r ⟨v, vr, rfl, told⟩
  match us, r with
  | u :: ur, .cons ru rr =>
    refine assignInOrder_cons (thn (h.run pins s σ H _ _ _ I ru told) fun _ s1 z => ?_)
    obtain ⟨σ1, H1, J, rfl, q⟩ := z
    match ur, rr with
    | [], .nil => exact assignInOrder_nil ⟨σ1, H1, J, q⟩
theorem pg_starT {X : Cx} {es : List Expr} {k i : Nat} {t : TGs} {pos : Pos} (calm : X.calm = true) (each : PGs X es t)
    (many : (assignEach es X.env).length = i + 1 := by rfl) (star : (assignEach es X.env).findIdx? (·.1) = some i := by rfl) : PG X (.Tuple es k pos) (gStarT X.K i t) := by
  constructor
  rintro pins s σ H v u Q I r ⟨a, xs, rfl, hq, le, few, q⟩
  cases r
  obtain ⟨its, rv, isT, hz⟩ := I.tuple hq
  have len : its.toArray.size = xs.length := by rw [List.size_toArray]; exact rv.length.symm
  rw [arm_assign_Tuple]
  apply wpAny_bind
  apply wpAny_standAt
  unfold unpack
  rw [many, star]
  apply wpAny_bind
  refine wpAny_holding (star_items isT (I.ok.hd calm) (len ▸ le) (len ▸ few) fun h' tk kept => ?_)
  have J : Inv X pins σ H { s with heap := h', toks := tk } := I.kept kept
  have J2 := J.lnew (t' := tk) (rv.drop i) (by rw [List.length_drop, sizeLine_eq]; omega)
  exact each.run pins _ σ _ _ _ Q J2 ((rv.take i).append (show Vals [V.ref h'.objs.size] [Value.ref h'.objs.size] from .cons rfl .nil)) (q _ J.fresh)
end Tg

namespace Tg
open PySem PySem.Spec PyProof.Rows L2
/-! ### promises of defs that are called where no repr is under way (str and repr of lists ask for it) -/
section
variable {P : Program} {w : World} {K : PySem.W.Frag} {mg : Str → Option Value} {base : Heap} {CX : CXT} {k : Nat} {f : Addr} {fd : FuncData} {ps : List Str} {sp : Sp}
/-- FnOk's promise, asked only where no repr is under way -/
structure FnG (P : Program) (w : World) (K : PySem.W.Frag) (mg : Str → Option Value) (base : Heap) (CX : CXT) (k : Nat) (f : Addr) (fd : FuncData) (ps : List Str) (sp : Sp) : Prop where
  arity : ∀ {zs : List V} {H : Hp} {Q : VK} {E : XK}, sp zs H Q E → zs.length = ps.length
  runs : ∀ {A : Around} {outer : List Env} {s : Shared} {H : Hp} {given : Args} {us : List Value} {zs : List V} {Q : VK} {E : XK}, A.guards = some [] → Room k A →
    Env0 P w K mg base A outer s H → BindsTo s fd given (ps.zip us) → Vals zs us → sp zs H Q E → codeAny (model P w) A (.call (.ref f) given) (CR CX outer P w H s Q E) s
theorem FnG.of (F : FnOk P w K mg base CX k f fd ps sp) : FnG P w K mg base CX k f fd ps sp := ⟨fun h => F.len _ _ _ _ h, fun _ r e b v h => F.run _ _ _ _ _ _ _ _ _ r e b v h⟩
end
section
variable {P : Program} {w : World} {K : PySem.W.Frag} {mg : Str → Option Value} {base : Heap}
/-- where a body ends: what its call hands back -/
theorem body_end {CX : CXT} {N : List Str} {qual : Str} {scope : Scope} {f : Addr} {cdv : Value} {A : Around} {outer : List Env} {s s' : Shared} {H : Hp} {Q : VK} {E : XK} {fl : Flow}
    (h : SP (cxOf CX P w K mg base N qual scope f cdv A outer s H E) [] { nx := fun _ H' => Q .non H', rt := Q } fl s') :
    CR CX outer P w H s Q E (match fl with | .ret u => .ok (.ret u) | .next => .ok (.ret .none) | x => .ok x) s' := by
  cases fl with
  | ret u =>
    obtain ⟨v, _, Hx, J, rv, z⟩ := h
    exact ⟨v, Hx, J.os, J.bare, J.base, J.hok, rv, z⟩
  | next =>
    obtain ⟨_, Hx, J, z⟩ := h
    exact ⟨V.non, Hx, J.os, J.bare, J.base, J.hok, rfl, z⟩
  | brk => exact h.elim fun _ z => z.elim fun _ y => y.2.elim
  | cont => exact h.elim fun _ z => z.elim fun _ y => y.2.elim
/-- a def by its body, where no repr is under way -/
theorem okG {x qual : Str} {st : Stmt} {f : Addr} {fd : FuncData} {N ps : List Str} {k : Nat} {sp : Sp} (F : Fun K x qual st f fd) (S : FnScope N ps (defScope st))
    (many : ∀ zs H Q E, sp zs H Q E → zs.length = ps.length)
    (bodies : ∀ (cdv : Value) (A : Around) (outer : List Env) (s : Shared) (H : Hp) (zs : List V) (Q : VK) (E : XK), A.guards = some [] → Room k (A.deeper (envOfC qual (defScope st) s.heap.objs.size f cdv)) → sp zs H Q E →
      ∃ t, PSs (cxOf CX0 P w K mg base N qual (defScope st) f cdv A outer s H E).nox (defBody st) t ∧ t { nx := fun _ H' => Q .non H', rt := Q } (start N zs) H) : FnG P w K mg base CX0 (k + 1) f fd ps sp := by
  obtain ⟨_, _, _, _, _, _, cdv, _, _, rfl, at_f, code⟩ := F.ex
  refine ⟨fun h => many _ _ _ _ h, fun {A outer s H given us zs Q E} hg room e0 binds rel h => ?_⟩
  have stays : ∀ b o, base.get? b = some o → s.heap.get? b = some o := fun b o z => (e0.bs b o z).1
  have written := e0.mod.kin.keeps stays
  have endless := e0.mod.nolimit.keeps stays
  have slots : ∀ y ∈ ps.zip us, (defScope st).names.lookup y.1 = some .local ∨ ((defScope st).names.lookup y.1 = some .cell ∧ ((cellsFrom (s.heap.objs.size + 1) (defScope st).names []).lookup y.1).isSome = true) := fun y hy =>
    (S.par y.1 (List.of_mem_zip hy).1).imp id fun z => ⟨z, PySem.W.cellsFrom_some _ _ _ (.inl z)⟩
  refine codeAny_call_function room.depth (written _ _ at_f) rfl S.co S.gen rfl (PySem.W.codeRec_of written code) (binds _ _ _ _ (wpAny_newFunctionEnv_cells S.kind slots fun env he s1 fresh => ?_))
  subst he
  obtain ⟨t, ht, read⟩ := bodies cdv A outer s H zs Q E hg (room.deeper _) h
  have I := inv_start (CX := CX0) (P := P) (w := w) (E := E) S room.hd e0 (many _ _ _ _ h) rel fresh
  refine ⟨endless.keeps fresh.toInCall.keep, codeAny_func (wpAny_mono (ht.nox.run [] s1 (start N zs) H _ I read) (fun fl s' z => ?_) fun _ _ z => z)⟩
  have told := body_end z
  cases fl with
  | ret u => exact told
  | next => exact told
  | brk => exact False.elim told
  | cont => exact False.elim told
end
section
variable {X : Cx} {CX : CXT} {k : Nat} {f : Addr} {fd : FuncData} {ps : List Str} {sp : Sp} {E : XK} {x : Str} {p pos : Pos} {e : Expr} {es : List Expr} {t : TA}
/-- the reading of f(e, ..) for such a def -/
abbrev tCallG (sp : Sp) (E : XK) (t : TA) : TE := fun σ H Q => t σ H fun zs H1 => sp zs H1 Q E
theorem pe_callG (F : FnG X.prog X.w X.K X.mg X.base CX k f fd ps sp) (quiet : X.A.guards = some []) (room : Room k X.A) (gl : Gl X x) (at_x : X.mg x = some (.ref f)) (kept : PySem.W.keepIn X.K (.ref f) = true)
    (binds : Binds X.K fd ps []) (lets : Passes CX X E) (args : PA X (e :: es) t) (nodebug : (x == ("__debug__" : Str)) = false := by decide)
    (one : starEach (e :: es) X.env = (false, eval e X.env) :: starEach es X.env := by rfl) (nostar : (backTo pos (starEach es X.env)).any (·.1) = false := by rfl) : PE X (.Call (.Name x p) (e :: es) [] pos) (tCallG sp E t) := by
  constructor
  intro pins s σ H Q I read
  refine wpAny_Call_Name_kw (ld_glob I gl at_x (PySem.W.callWith_K (h₀ := X.base) I.ok.mod.kin kept (thn (args.run pos pins s σ H _ I read) fun us s1 y => ?_) one nostar) nodebug)
  obtain ⟨zs, H1, J, rel, h⟩ := y
  have len : (us ++ []).length = ps.length := by
    rw [List.append_nil, ← rel.length]
    exact F.arity h
  have bound := binds s1 us J.kIn len
  rw [List.append_nil] at bound
  refine ⟨J.kIn, wpAny_call (codeAny_mono (F.runs (given := ⟨us, []⟩) quiet room J.env0 bound rel h) fun a s' z => ?_)⟩
  match a, z with
  | .error er, z => exact lets pins σ H1 s1 er s' J z
  | .ok (.ret u), z => exact J.after z
/-! ### str(x) of data -/
def rShow (K : PySem.W.Frag) : List V → Hp → VK → Prop := fun xs H Q => ∃ (a : Addr) (d : PyData), xs = [.ref a] ∧ Dp K H (.ref a) d ∧ d.showable = true ∧ d.hasDict = false ∧ d.depth ≤ 60 ∧ d.shown.length ≤ sizeLine ∧ Q (.str d.shown) H
theorem call_strD (deep : X.A.units + 64 < cLine) (quiet : X.A.guards = some []) : CallR X (.type "str") (rShow X.K) := by
  rintro pins s σ H _ _ Q I (_ | ⟨ra, rb⟩) ⟨a, d, e, dp, h1, h2, h3, h4, h⟩
  · exact nomatch e
  · obtain ⟨rfl, rfl⟩ := List.cons.inj e
    cases rb
    obtain ⟨as, rd⟩ := Dp.reads I d _ _ dp ra
    cases (show _ = Value.ref a from ra)
    exact str_of_reads rd h1 (fun z => absurd (h2.symm.trans z) (by decide)) quiet (by omega) (fun _ _ z => z) (fun hx u tk kp => ⟨.str d.shown, H, I.kept kp, ⟨u, rfl⟩, h⟩) h4
end
/-! ### the law's own head, for such a def -/
/-- a law's promise: of a list of at most 63 ints it gives True -/
def spScript (K : PySem.W.Frag) : Sp := fun zs H Q _ => ∃ (a : Addr) (ns : List Int), zs = [.ref a] ∧ SqL K H a (ns.map V.int) ∧ ns.length ≤ 63 ∧ ∀ Hx, Q (.bl true) Hx
section
variable {P : Program} {w : World} {K : PySem.W.Frag} {mg mb : Str → Option Value} {k : Nat} {fa a : Addr} {fd : FuncData} {x : Str} {s1 : Shared} {vs : List Value} {ns : List Int}
theorem law_from (KX : K.In s1.heap) (globals : s1.heap.Ns mainGlobals mg) (builtins : s1.heap.Ns builtinsNs mb) (boot : ∀ y : Str, y ≠ "__name__" → mb y = bootBuiltins y) (lim : s1.heap.NoLimit) (nogens : s1.gens = #[])
    (script : s1.heap.get? a = some { cls := .type "list", data := .seq vs.toArray }) (room : Room k callerA) (F : ∀ B : Heap, K.In B → B.Ns mainGlobals mg → FnG P w K mg B CX0 k fa fd [x] (spScript K))
    (bind : ∀ (s : Shared) (u : Value), BindsTo s fd ⟨[u], []⟩ [(x, u)]) (H : Hp) (only : Only H) (here : SqL K H a (ns.map V.int)) (few : ns.length ≤ 63) (fine : HOk P w H s1.heap) (alone : ∀ b, H b ≠ none → b = a ∧ K.lookup a = none) :
    codeAny (model P w) callerA (.call (.ref fa) ⟨[.ref a], []⟩) (fun r s' => r = .ok (.ret (.bool true)) ∧ OldK s1.heap s'.heap ∧ s'.os = s1.os ∧ AllBare s'.gens) s1 := by
  have free : ∀ {b : Addr}, (b = a → K.lookup a = none → False) → H b = none := fun {b} z => by
    cases hb : H b with
    | none => rfl
    | some u => exact ((fun y => z y.1 y.2) (alone b (by rw [hb]; exact fun e => nomatch e))).elim
  have dicts : ∀ {b : Addr} {m : Str → Option Value}, s1.heap.Ns b m → (hidT s1.heap H).Ns b m := fun {b m} y => by
    obtain ⟨o, es, ep, e, dd, r⟩ := y
    refine ⟨o, es, ep, hidT_get e (free fun z _ => ?_), dd, r⟩
    rw [z, script] at e
    cases e
    exact nomatch dd
  have kin : K.In (hidT s1.heap H) := fun b o e => hidT_get (KX b o e) (free fun z y => by
    rw [z, y] at e
    exact nomatch e)
  obtain ⟨mc, c1, c2⟩ := lim
  have e0 : Env0 P w K mg (hidT s1.heap H) callerA [] s1 H := {
    frames := rfl
    mod := ⟨kin, dicts globals, ⟨mb, dicts builtins, boot⟩, ⟨mc, dicts c1, c2⟩⟩
    bs := fun _ _ z => of_hidT z
    bsz := Nat.le_of_eq (hidT_size _ _)
    funs := trivial
    frf := fun b z => nomatch (show b ∈ ([] : List Addr) from z)
    hok := fine
    bare := .of_eq nogens }
  have run := (F _ kin (dicts globals)).runs (given := ⟨[.ref a], []⟩) (us := [.ref a]) (zs := [.ref a]) (Q := fun v _ => v = .bl true) (E := fun _ _ _ => False) rfl room e0 (bind s1 (.ref a)) (.cons rfl .nil) ⟨a, ns, rfl, here, few, fun _ => rfl⟩
  refine codeAny_mono run fun r s' told => ?_
  match r, told with
  | .error er, told => exact told.elim
  | .ok (.ret u), told =>
    obtain ⟨v, Hx, os, bare, un, fine2, rel, is_true⟩ := told
    cases (show v = .bl true from is_true)
    cases (show u = Value.bool true from rel)
    refine ⟨rfl, .of_keep fun b o e => ?_, os, bare⟩
    rcases only b with z | ⟨og, _, z⟩
    · exact un.keep b o e z (fun y => nomatch (show b ∈ ([] : List Addr) from y)) (by simp)
    · have still := (fine2 b _ (un.frzs b og _ z)).1
      cases e.symm.trans (fine b _ z).1
      exact still
end
theorem walk_g {l : PySem.W.OpenLaw} {k : Nat} {q : Program} {loose : List Str} {XP : (Str → Option Value) → Heap → Prop} {YP : World → Heap → Prop} {d : DefRec} {K : Params → PySem.W.Frag} {x : Str} (most : l.most = some 63) (plain : d.params.defaults = [])
    (room : Room k callerA) (inK : ∀ w h, YP w h → (K w.params).In h)
    (law : ∀ w mg fa h, (K w.params).In h → h.Ns mainGlobals mg → mg d.name = some (.ref fa) → ∃ fd : FuncData, (∀ (s : Shared) (v : Value), BindsTo s fd ⟨[v], []⟩ [(x, v)]) ∧ ∀ B : Heap, (K w.params).In B → B.Ns mainGlobals mg → FnG l.prog w (K w.params) mg B CX0 k fa fd [x] (spScript (K w.params))) :
    PySem.W.WalkO q loose XP YP l.row.toRowW d [] (fun f zs => PySem.call f zs) := by
  refine Att.attach_call most plain fun w _ s1 mg mb fa _ _ _ _ a vs ns G Y _ _ _ at_law script these few nogens => ?_
  have KX := inK w _ Y
  obtain ⟨fd, bind, F⟩ := law w mg fa _ KX G.T.g at_law
  have rel := vals_ints these
  have line : ns.length ≤ sizeLine := Nat.le_trans few (by decide)
  have go := law_from (ns := ns) KX G.T.g G.T.b G.T.builtins G.T.nolimit nogens script room F bind
  cases look : (K w.params).lookup a with
  | some o =>
    cases script.symm.trans (KX a o look)
    refine go (fun _ => none) (fun _ => .inl rfl) (.inr ⟨_, vs.toArray, _, look, rfl, rfl, rfl, ?_, ?_⟩) few (fun b u z => ((nomatch z : (none : Option HO) = some u → False) z).elim) (fun b z => absurd rfl z)
    · rw [List.size_toArray, these.length]
      exact line
    · rw [List.toList_toArray]
      exact rel
  | none =>
    obtain ⟨o, eo⟩ : ∃ o : HO, o = .frz { cls := .type "list", data := .seq vs.toArray } (.lst (ns.map V.int)) := ⟨_, rfl⟩
    have at_a : ∀ b, (if b = a then some o else none) = none ∨ (b = a ∧ (if b = a then some o else none) = some o) := fun b => by
      by_cases z : b = a
      · exact .inr ⟨z, if_pos z⟩
      · exact .inl (if_neg z)
    refine go (fun b => if b = a then some o else none) (fun b => ?_) (.inl (.inr ⟨_, (if_pos rfl).trans (congrArg some eo)⟩)) few (fun b u z => ?_) (fun b z => ?_)
    · rcases at_a b with z | ⟨_, z⟩
      · exact .inl z
      · exact .inr ⟨_, _, z.trans (congrArg some eo)⟩
    · rcases at_a b with y | ⟨e, y⟩
      · exact nomatch y.symm.trans z
      · cases y.symm.trans z
        subst e
        rw [eo]
        exact ⟨script, by rw [List.length_map]; exact line, vs, _, rel, script⟩
    · rcases at_a b with y | ⟨e, _⟩
      · exact absurd y z
      · exact ⟨e, look⟩
end Tg

/-! repr of own objects by their own __repr__, and {x!r} of data, where no repr is under way -/
namespace Tg
open PySem PySem.Spec PyProof.Rows L2
section
variable {prog : Program} {w : World} {A : Around} {E : Value → Shared → Prop} {s : Shared} {K : PySem.W.Frag} {x C f : Addr} {ox : Obj} {dx : Option Obj}
theorem repr_in {Q : Value → Shared → Prop} (room : A.in1.units < cLine) (inK : K.In s.heap) (I : PySem.W.InstAt s.heap x ox C dx) (at_ : PySem.W.findIn K (.ref C) "__repr__" = some (some (.ref f))) (fn : PySem.W.isFn K (.ref f) = true)
    (h : wpAny (model prog w) A.in1 (call (.ref f) [.ref x]) (fun r s' => ∃ y t, r = .str y t ∧ Q r s') E s) : wpAny (model prog w) A (call (.builtin "repr") [.ref x]) Q E s := by
  refine Calls.call_function_entry (id := "repr") PySem.F.kind_repr PySem.F.plain_repr PySem.F.entry_repr (PySem.F.args_repr1 (.ref x)) ?_
  unfold Builtin.«repr»
  refine wpAny_bind (m := oneArg "repr" _) (wpAny_pure (wpAny_bind (wpAny_cRoomFor room (wpAny_bind (wpAny_bind (I.type.here ((PySem.W.looks_findIn inK at_).here ?_)))))))
  show wpAny _ A.in1 (if (some (Value.ref f)).isNone = true then _ else _) _ E s
  rw [if_neg (fun z => nomatch z)]
  refine wpAny_bind (m := callSpecialIfBound? (.ref x) (Str.ofString "__repr__") _) (PySem.W.ifBound_K inK I at_ fn (wpAny_mono h (fun r s' told => ?_) fun _ _ y => y))
  obtain ⟨y, t, rfl, q⟩ := told
  refine wpAny_bind (m := isInstance (.str y t) (.type "str")) (wpAny_isInstance (T := "str") (typeIs_str _ y t) isSubtype_str_str ?_)
  first
    | exact wpAny_pure ⟨_, rfl, q⟩
    | (rw [if_pos rfl]; exact wpAny_pure ⟨_, rfl, q⟩)
    | (simp only [if_true]; exact wpAny_pure ⟨_, rfl, q⟩)
end
section
variable {X : Cx} {n : Nat}
def rReprO (C : Addr) (sp : Sp) (E : XK) : List V → Hp → VK → Prop := fun vs H Q => ∃ a dx fs, vs = [.ref a] ∧ H a = some (.ins C dx fs) ∧ sp [.ref a] H (fun v H' => ∃ y : Str, v = .str y ∧ Q v H') E
theorem cr_reprO {CX : CXT} {C f : Addr} {fd : FuncData} {sp : Sp} {E : XK} (F : FnG X.prog X.w X.K X.mg X.base CX n f fd ["self"] sp) (at_ : PySem.W.findIn X.K (.ref C) "__repr__" = some (some (.ref f))) (fn : PySem.W.isFn X.K (.ref f) = true) (hb : Binds X.K fd ["self"] []) (hx : Passes CX X E) (hr : Room (n + 1) X.A) (quiet : X.A.guards = some []) :
    CallR X (.builtin "repr") (rReprO C sp E) := by
  rintro pins s σ H vs us Q I r ⟨a, dx, fs, rfl, ha, told⟩
  obtain rfl : us = [.ref a] := by
    cases r with
    | cons p t => cases t; cases p; rfl
  obtain ⟨atA, J, _⟩ := ins_get I.hok ha
  obtain ⟨od, J, _⟩ := J.look
  have sb : Sub X n X.A.in1 := Sub.in1 ⟨hr, rfl⟩
  refine repr_in (by have := hr.units; show X.A.units + 1 < cLine; omega) I.kIn J at_ fn ?_
  have e0 : Env0 X.prog X.w X.K X.mg X.base X.A.in1 X.stack s H := by
    have env := I.env0
    exact ⟨sb.fr.symm ▸ env.frames, env.mod, env.bs, env.bsz, env.funs, env.frf, env.hok, env.bare⟩
  refine wpAny_call (codeAny_mono (F.runs (A := X.A.in1) (outer := X.stack) (s := s) (given := ⟨[.ref a], []⟩) (us := [.ref a]) (zs := [.ref a]) quiet sb.room e0 (by
    have z := hb s [.ref a] I.kIn rfl
    simpa using z) (.cons rfl .nil) told) fun r s' done => ?_)
  cases r with
  | error e => exact hx pins σ H s e s' I done
  | ok fl =>
    cases fl with
    | ret w =>
      obtain ⟨z, H', I', rz, y, ez, q⟩ := I.after done
      subst ez
      obtain ⟨t, rfl⟩ := rz
      exact ⟨y, t, rfl, .str y, H', I', ⟨t, rfl⟩, q⟩
    | next => exact False.elim done
    | brk => exact False.elim done
    | cont => exact False.elim done
/-- f'..' of two parts or more, by a name -/
def tJn (ts : List TE) : TE := fun σ H Q => tJs ts Str.empty σ H fun out H1 => Q (.str out) H1
theorem pe_jn {v1 v2 : Expr} {rest : List Expr} {ts : List TE} {pos : Pos} (h : PJ X (v1 :: v2 :: rest) ts) : PE X (.JoinedStr (v1 :: v2 :: rest) pos) (tJn ts) := pe_joined h
/-! ### {x!r} of data -/
def tFmtRD (K : PySem.W.Frag) (te : TE) : TE := fun σ H Q => te σ H fun x H1 => ∃ d : PyData, Dp K H1 x d ∧ d.showable = true ∧ d.hasDict = false ∧ d.depth ≤ 60 ∧ d.shown.length ≤ sizeLine ∧ Q (.str d.shown) H1
theorem pe_fmtRD {e : Expr} {te : TE} {pos : Pos} (deep : X.A.units + 64 < cLine) (quiet : X.A.guards = some []) (he : PE X e te) : PE X (.FormattedValue e 114 none pos) (tFmtRD X.K te) := by
  refine ⟨fun pins s σ H Q I h => ?_⟩
  refine wpAny_FormattedValue_repr (thn (he.run pins s σ H _ I h) fun v s1 ⟨x, H1, I1, r1, d, dp, h1, h2, h3, h4, q⟩ => ?_)
  obtain ⟨as, rd⟩ := Dp.reads I1 d x v dp r1
  cases dp with
  | non =>
    cases r1
    exact pyReprObj_none (wpAny_formatField_str ⟨.str "None", H1, I1.tok _, ⟨_, rfl⟩, q⟩ ⟨.str "None", H1, I1.tok _, ⟨_, rfl⟩, q⟩ h4)
  | bl b =>
    cases r1
    exact pyReprObj_bool (wpAny_formatField_str ⟨.str _, H1, I1.tok _, ⟨_, rfl⟩, q⟩ ⟨.str _, H1, I1.tok _, ⟨_, rfl⟩, q⟩ h4)
  | int i =>
    obtain ⟨t, rfl⟩ := r1
    exact pyReprObj_int (of_decide_eq_true h1) (wpAny_formatField_str ⟨.str _, H1, I1.tok _, ⟨_, rfl⟩, q⟩ ⟨.str _, H1, I1.tok _, ⟨_, rfl⟩, q⟩ h4)
  | str y =>
    obtain ⟨t, rfl⟩ := r1
    exact pyReprObj_str (wpAny_formatField_str ⟨.str _, H1, I1.tok _, ⟨_, rfl⟩, q⟩ ⟨.str _, H1, I1.tok _, ⟨_, rfl⟩, q⟩ h4) h4
  | lst _ _ =>
    cases r1
    exact pyReprObj_of_reads rd h1 (fun z => absurd (h2.symm.trans z) (by decide)) quiet (by omega) (fun _ _ z => z) (fun hx u tk kp => wpAny_formatField_str ⟨.str _, H1, I1.kept kp, ⟨_, rfl⟩, q⟩ ⟨.str _, H1, (I1.kept (t' := tk) kp).tok _, ⟨_, rfl⟩, q⟩ h4) h4
  | tup _ _ =>
    cases r1
    exact pyReprObj_of_reads rd h1 (fun z => absurd (h2.symm.trans z) (by decide)) quiet (by omega) (fun _ _ z => z) (fun hx u tk kp => wpAny_formatField_str ⟨.str _, H1, I1.kept kp, ⟨_, rfl⟩, q⟩ ⟨.str _, H1, (I1.kept (t' := tk) kp).tok _, ⟨_, rfl⟩, q⟩ h4) h4
end
theorem pe_fmtRDK {X : Cx} {e : Expr} {te : TE} {pos : Pos} (K : PySem.W.Frag) (deep : X.A.units + 64 < cLine) (quiet : X.A.guards = some []) (he : PE X e te) (hK : X.K = K := by rfl) : PE X (.FormattedValue e 114 none pos) (tFmtRD K te) := by
  subst hK
  exact pe_fmtRD deep quiet he
section
variable {P : Program} {w : World} {K : PySem.W.Frag} {mg : Str → Option Value} {base : Heap}
/-- a def that is called where no repr is under way -/
def CalG (P : Program) (w : World) (K : PySem.W.Frag) (mg : Str → Option Value) (base : Heap) (k : Nat) (x : Str) (ps : List Str) (sp : Sp) : Prop := ∃ f fd, FnG P w K mg base CX0 k f fd ps sp ∧ mg x = some (.ref f) ∧ PySem.W.keepIn K (.ref f) = true ∧ Binds K fd ps []
theorem pe_calG {X : Cx} {k : Nat} {x : Str} {ps : List Str} {sp : Sp} {e : Expr} {es : List Expr} {t : TA} {p pos : Pos} (c : CalG X.prog X.w X.K X.mg X.base k x ps sp) (quiet : X.A.guards = some []) (hr : Room k X.A) (gl : Gl X x) (ha : PA X (e :: es) t) (nodebug : (x == ("__debug__" : Str)) = false := by decide)
    (one : starEach (e :: es) X.env = (false, eval e X.env) :: starEach es X.env := by rfl) (nostar : (backTo pos (starEach es X.env)).any (·.1) = false := by rfl) : PE X (.Call (.Name x p) (e :: es) [] pos) (tCallG sp E0 t) := by
  obtain ⟨f, fd, F, hm, hk, hb⟩ := c
  exact pe_callG F quiet hr gl hm hk hb pass0 ha nodebug one nostar
end
end Tg

set_option maxHeartbeats 1000000
namespace Tg
open PySem PySem.Spec PyProof.Rows L2
/-! ### wish_text -/
set_option maxHeartbeats 1000000
set_option maxHeartbeats 1000000
abbrev sWT : Stmt := topS 36
abbrev NWT : List Str := ["wish", "word", "key", "rest", "texts", "signs"]
theorem scWT : FnScope NWT ["wish"] (defScope sWT) := ⟨rfl, rfl, rfl, by decide +kernel, rfl, by decide +kernel, by decide +kernel⟩
theorem n100 {n : Nat} (h : n ≤ 100) : n ≤ sizeLine := Nat.le_trans h (by decide)
/-- the wish's text -/
def spWT (K : PySem.W.Frag) : Sp := fun vs H Q _ => ∃ (x : V) (y : Wx), vs = [x] ∧ Dp K H x y.d ∧ y ∈ allW ∧ ∀ H', Same H H' → Q (.str y.t) H'
def signs3 : List (Key × V) := [(.inr "is", .str "="), (.inr "isnt", .str "!="), (.inr "begins", .str "^")]
section
variable {P : Program} {w : World} {K : PySem.W.Frag} {mg : Str → Option Value} {base : Heap}
theorem ok_wt {f : Addr} {fd : FuncData} {k : Nat} (F : Fun K "wish_text" "wish_text" sWT f fd) : FnOk P w K mg base CX0 (k + 1) f fd ["wish"] (spWT K) := by
  refine F.ok scWT (fun vs H Q E h => ?_) (fun cdv A outer s H vs Q E hr h => ?_)
  · obtain ⟨x, y, rfl, _⟩ := h
    rfl
  · obtain ⟨x, y, rfl, hx, hy, q⟩ := h
    have hu := hu_of hr
    have few := few_ok hy
    refine ⟨_, pss_cons (ps_asg (pv 0) (pg_starT (i := 2) rfl (pgs_cons (pg_name (i := 1) scWT.nd rfl (.inl rfl)) (pgs_cons (pg_name (i := 2) scWT.nd rfl (.inl rfl)) (pgs_starL (pg_name (i := 3) scWT.nd rfl (.inl rfl)))))))
      (pss_cons (ps_if (pt_cmpR op_eq (pv 1) pe_str (nomark _))
        (pss_one (ps_ret (pv 2)))
        pss_nil)
      (pss_cons (ps_if (pt_cmpR op_eq (pv 1) pe_str (nomark _))
        (pss_one (ps_ret (pe_jn (.cons pe_str (.cons (pe_fmt (pv 2)) .nil)))))
        pss_nil)
      (pss_cons (ps_if (pt_cmpR op_eq (pv 1) pe_str (nomark _))
        (pss_cons (ps_set (i := 4) scWT.nd rfl (.inl rfl) (pe_bm PySem.F.plainAttrs_str PySem.F.slot_str_join PySem.F.type_str_join mt_join pe_str (pa_cons (pe_ix ix_list (pv 3) pe_int (fun _ _ => rfl)) pa_nil)))
        (pss_one (ps_ret (pe_jn (.cons (pe_fmt (pv 2)) (.cons pe_str (.cons (pe_fmt (pv 4)) (.cons pe_str .nil))))))))
        pss_nil)
      (pss_cons (ps_set (i := 5) scWT.nd rfl (.inl rfl) (pe_disp (pps_cons pe_str pe_str (pps_cons pe_str pe_str (pps_cons pe_str pe_str pps_nil))) rfl rfl (by decide) (by decide)))
      (pss_one (ps_ret (pe_jn (.cons (pe_fmt (pv 2)) (.cons (pe_fmt (pe_dget hu (pv 5) (pv 1) (fun _ _ => rfl))) (.cons (pe_fmt (pe_ix ix_list (pv 3) pe_int (fun _ _ => rfl))) .nil)))))))))), ?_⟩
    cases y with
    | is a t =>
      obtain ⟨l1, l2⟩ := of_decide_eq_true few
      obtain ⟨z, v, rfl, hz, dv⟩ := dp_three hx
      cases dv
      refine ⟨_, rfl, z, _, rfl, hz, (by show 2 ≤ 3; decide), (by show 3 ≤ 1000; decide), fun p np => ?_⟩
      have s1 := same_new (o := .lst [.str t]) np
      refine ⟨_, _, rfl, ⟨_, _, rfl, ⟨_, _, rfl, ⟨rfl, ?_⟩⟩⟩⟩
      refine ⟨_, rfl, rfl, _, rfl, if_n (by decide +kernel) ⟨_, rfl, rfl, _, rfl, if_n (by decide +kernel) ⟨_, rfl, rfl, _, rfl, if_n (by decide +kernel) ?_⟩⟩⟩
      refine fun d nd => ⟨upd_same, signs3, rfl, by decide, ?_⟩
      have pd : p ≠ d := ne_of_none upd_same nd
      have s2 : Same H (upd (upd (upd H p (.lst [.str t])) d (.dK [])) d (.dK (mergeK [] signs3))) := fun b o e => by
        have nb : b ≠ d := ne_of_none (s1 _ _ e) nd
        rw [upd_ne nb, upd_ne nb]
        exact s1 _ _ e
      have hp : (upd (upd (upd H p (.lst [.str t])) d (.dK [])) d (.dK (mergeK [] signs3))) p = some (.lst [.str t]) := by
        rw [upd_ne pd, upd_ne pd, upd_same]
      have e0 : Str.empty ++ a = a := Str.empty_append _
      refine ⟨_, rfl, .inl ⟨a, rfl, n100 (by omega), _, rfl, by rw [e0]; exact n100 (by omega), ?_⟩⟩
      refine ⟨_, rfl, _, rfl, d, .str "=", rfl, .inl ⟨_, .inr "is", .inl upd_same, rfl, rfl⟩, .inl ⟨_, rfl, by decide, _, rfl, by rw [e0, Str.length_append]; exact n100 (by show a.length + 1 ≤ 100; omega), ?_⟩⟩
      refine ⟨_, rfl, p, _, _, _, rfl, rfl, SqL.of hp, rfl, .inl ⟨t, rfl, n100 (by omega), _, rfl, by rw [e0, Str.length_append, Str.length_append]; exact n100 (by show a.length + 1 + t.length ≤ 100; omega), ?_⟩⟩
      rw [e0]
      exact q _ s2
    | isnt a t =>
      obtain ⟨l1, l2⟩ := of_decide_eq_true few
      obtain ⟨z, v, rfl, hz, dv⟩ := dp_three hx
      cases dv
      refine ⟨_, rfl, z, _, rfl, hz, (by show 2 ≤ 3; decide), (by show 3 ≤ 1000; decide), fun p np => ?_⟩
      have s1 := same_new (o := .lst [.str t]) np
      refine ⟨_, _, rfl, ⟨_, _, rfl, ⟨_, _, rfl, ⟨rfl, ?_⟩⟩⟩⟩
      refine ⟨_, rfl, rfl, _, rfl, if_n (by decide +kernel) ⟨_, rfl, rfl, _, rfl, if_n (by decide +kernel) ⟨_, rfl, rfl, _, rfl, if_n (by decide +kernel) ?_⟩⟩⟩
      refine fun d nd => ⟨upd_same, signs3, rfl, by decide, ?_⟩
      have pd : p ≠ d := ne_of_none upd_same nd
      have s2 : Same H (upd (upd (upd H p (.lst [.str t])) d (.dK [])) d (.dK (mergeK [] signs3))) := fun b o e => by
        have nb : b ≠ d := ne_of_none (s1 _ _ e) nd
        rw [upd_ne nb, upd_ne nb]
        exact s1 _ _ e
      have hp : (upd (upd (upd H p (.lst [.str t])) d (.dK [])) d (.dK (mergeK [] signs3))) p = some (.lst [.str t]) := by
        rw [upd_ne pd, upd_ne pd, upd_same]
      have e0 : Str.empty ++ a = a := Str.empty_append _
      refine ⟨_, rfl, .inl ⟨a, rfl, n100 (by omega), _, rfl, by rw [e0]; exact n100 (by omega), ?_⟩⟩
      refine ⟨_, rfl, _, rfl, d, .str "!=", rfl, .inl ⟨_, .inr "isnt", .inl upd_same, rfl, rfl⟩, .inl ⟨_, rfl, by decide, _, rfl, by rw [e0, Str.length_append]; exact n100 (by show a.length + 2 ≤ 100; omega), ?_⟩⟩
      refine ⟨_, rfl, p, _, _, _, rfl, rfl, SqL.of hp, rfl, .inl ⟨t, rfl, n100 (by omega), _, rfl, by rw [e0, Str.length_append, Str.length_append]; exact n100 (by show a.length + 2 + t.length ≤ 100; omega), ?_⟩⟩
      rw [e0]
      exact q _ s2
    | oneof a ts =>
      obtain ⟨l1, l2, l3⟩ := of_decide_eq_true few
      obtain ⟨z, v, rfl, hz, dv⟩ := dp_three hx
      refine ⟨_, rfl, z, _, rfl, hz, (by show 2 ≤ 3; decide), (by show 3 ≤ 1000; decide), fun p np => ?_⟩
      have s1 := same_new (o := .lst [v]) np
      refine ⟨_, _, rfl, ⟨_, _, rfl, ⟨_, _, rfl, ⟨rfl, ?_⟩⟩⟩⟩
      refine ⟨_, rfl, rfl, _, rfl, if_n (by decide +kernel) ⟨_, rfl, rfl, _, rfl, if_n (by decide +kernel) ⟨_, rfl, rfl, _, rfl, if_y (by decide +kernel) ?_⟩⟩⟩
      cases dv with
      | tup ht ha =>
        rw [dp_strs ha] at ht
        refine ⟨rfl, _, rfl, p, _, _, _, rfl, rfl, SqL.of upd_same, rfl, ?_⟩
        have sm := sum_few l2 l3
        refine ⟨_, _, ts, rfl, rfl, .inr (sqT_same s1 ht), by show _ + ts.length * 1 ≤ _; omega, ?_⟩
        have lj : (Txt.join (Str.ofString "|") ts).length ≤ 30 := by
          have z := StrLaws.join_length_le (Str.ofString "|") ts
          have e1 : Txt.join (Str.ofString "|") ts = Str.join (Str.ofString "|") ts := StrLaws.glued_eq_join _ _
          have e2 : (Str.ofString "|").length = 1 := rfl
          rw [e1]
          rw [e2] at z
          omega
        have e0 : Str.empty ++ a = a := Str.empty_append _
        have e2 : (Str.ofString "=(").length = 2 := rfl
        have e3 : (Str.ofString ")").length = 1 := rfl
        refine ⟨_, rfl, .inl ⟨a, rfl, n100 (by omega), _, rfl, by rw [e0]; exact n100 (by omega), ?_⟩⟩
        refine ⟨_, rfl, by rw [e0, Str.length_append, e2]; exact n100 (by omega), ?_⟩
        refine ⟨_, rfl, .inl ⟨_, rfl, n100 (by omega), _, rfl, by rw [e0, Str.length_append, Str.length_append, e2]; exact n100 (by omega), ?_⟩⟩
        refine ⟨_, rfl, by rw [e0, Str.length_append, Str.length_append, Str.length_append, e2, e3]; exact n100 (by omega), ?_⟩
        rw [e0]
        exact q _ s1
    | begins a t =>
      obtain ⟨l1, l2⟩ := of_decide_eq_true few
      obtain ⟨z, v, rfl, hz, dv⟩ := dp_three hx
      cases dv
      refine ⟨_, rfl, z, _, rfl, hz, (by show 2 ≤ 3; decide), (by show 3 ≤ 1000; decide), fun p np => ?_⟩
      have s1 := same_new (o := .lst [.str t]) np
      refine ⟨_, _, rfl, ⟨_, _, rfl, ⟨_, _, rfl, ⟨rfl, ?_⟩⟩⟩⟩
      refine ⟨_, rfl, rfl, _, rfl, if_n (by decide +kernel) ⟨_, rfl, rfl, _, rfl, if_n (by decide +kernel) ⟨_, rfl, rfl, _, rfl, if_n (by decide +kernel) ?_⟩⟩⟩
      refine fun d nd => ⟨upd_same, signs3, rfl, by decide, ?_⟩
      have pd : p ≠ d := ne_of_none upd_same nd
      have s2 : Same H (upd (upd (upd H p (.lst [.str t])) d (.dK [])) d (.dK (mergeK [] signs3))) := fun b o e => by
        have nb : b ≠ d := ne_of_none (s1 _ _ e) nd
        rw [upd_ne nb, upd_ne nb]
        exact s1 _ _ e
      have hp : (upd (upd (upd H p (.lst [.str t])) d (.dK [])) d (.dK (mergeK [] signs3))) p = some (.lst [.str t]) := by
        rw [upd_ne pd, upd_ne pd, upd_same]
      have e0 : Str.empty ++ a = a := Str.empty_append _
      refine ⟨_, rfl, .inl ⟨a, rfl, n100 (by omega), _, rfl, by rw [e0]; exact n100 (by omega), ?_⟩⟩
      refine ⟨_, rfl, _, rfl, d, .str "^", rfl, .inl ⟨_, .inr "begins", .inl upd_same, rfl, rfl⟩, .inl ⟨_, rfl, by decide, _, rfl, by rw [e0, Str.length_append]; exact n100 (by show a.length + 1 ≤ 100; omega), ?_⟩⟩
      refine ⟨_, rfl, p, _, _, _, rfl, rfl, SqL.of hp, rfl, .inl ⟨t, rfl, n100 (by omega), _, rfl, by rw [e0, Str.length_append, Str.length_append]; exact n100 (by show a.length + 1 + t.length ≤ 100; omega), ?_⟩⟩
      rw [e0]
      exact q _ s2
    | has a =>
      obtain ⟨z, rfl, hz⟩ := dp_two hx
      refine ⟨_, rfl, z, _, rfl, hz, (by show 2 ≤ 2; decide), (by show 2 ≤ 1000; decide), fun p np => ?_⟩
      have s1 := same_new (o := .lst []) np
      refine ⟨_, _, rfl, ⟨_, _, rfl, ⟨_, _, rfl, ⟨rfl, ?_⟩⟩⟩⟩
      exact ⟨_, rfl, rfl, _, rfl, if_y (by decide +kernel) ⟨_, rfl, q _ s1⟩⟩
    | lacks a =>
      have l1 := of_decide_eq_true few
      obtain ⟨z, rfl, hz⟩ := dp_two hx
      refine ⟨_, rfl, z, _, rfl, hz, (by show 2 ≤ 2; decide), (by show 2 ≤ 1000; decide), fun p np => ?_⟩
      have s1 := same_new (o := .lst []) np
      refine ⟨_, _, rfl, ⟨_, _, rfl, ⟨_, _, rfl, ⟨rfl, ?_⟩⟩⟩⟩
      refine ⟨_, rfl, rfl, _, rfl, if_n (by decide +kernel) ⟨_, rfl, rfl, _, rfl, if_y (by decide +kernel) ?_⟩⟩
      have e0 : Str.empty ++ Str.ofString "!" = Str.ofString "!" := Str.empty_append _
      refine ⟨_, rfl, by rw [e0]; exact n100 (by decide), ⟨_, rfl, .inl ⟨a, rfl, n100 (by omega), _, rfl, by rw [e0, Str.length_append]; exact n100 (by show 1 + a.length ≤ 100; omega), ?_⟩⟩⟩
      rw [e0]
      exact q _ s1
end
end Tg

set_option maxHeartbeats 1000000
namespace Tg
open PySem PySem.Spec PyProof.Rows L2
/-! ### loose_wish -/
set_option maxHeartbeats 1000000
set_option maxHeartbeats 1000000
abbrev sLz : Stmt := topS 37
abbrev NLz : List Str := ["text", "word", "sign", "key", "found_sign", "behind"]
theorem scLz : FnScope NLz ["text"] (defScope sLz) := ⟨rfl, rfl, rfl, by decide +kernel, rfl, by decide +kernel, by decide +kernel⟩
/-- what a text is parted in is short -/
def lzB (z : Str) : Bool := decide (z.length ≤ 40) && [Str.ofString "!=", Str.ofString "^", Str.ofString "="].all fun s => decide ((Txt.partition z s).2.2.length ≤ 40)
theorem lz_all : (allW.all fun y => lzB y.t) = true := by decide +kernel
def trip : List (Str × Str) := [(Str.ofString "isnt", Str.ofString "!="), (Str.ofString "begins", Str.ofString "^"), (Str.ofString "is", Str.ofString "=")]
/-- the signs asked for so far are not in the text -/
structure NoYet (z : Str) (i : Nat) : Prop where
  a : 1 ≤ i → cutAt z "!=" = none
  b : 2 ≤ i → cutAt z "^" = none
  c : 3 ≤ i → cutAt z "=" = none
theorem len0 {y : Str} (h : y.length = 0) : y = Str.empty := by
  cases y with
  | mk a =>
    have e : a = #[] := Array.eq_empty_of_size_eq_zero h
    rw [e]
    rfl
theorem tru_ne {y : Str} (h : y ≠ Str.empty) : true = ((y.length : Int) != 0) := by
  symm
  rw [bne_iff_ne]
  exact fun z => h (len0 (by omega))
theorem tru_em {y : Str} (h : y = Str.empty) : false = ((y.length : Int) != 0) := by
  rw [h]
  rfl
theorem mid_of (x y : Str) : (Txt.partition x y).2.1 = Str.empty ∨ (Txt.partition x y).2.1 = y := by
  unfold Txt.partition
  split
  · first | exact .inr rfl | exact .inl rfl
  · first | exact .inl rfl | exact .inr rfl
theorem mid_len {x y : Str} (h : y.length ≤ 40) : (Txt.partition x y).2.1.length ≤ sizeLine := by
  rcases mid_of x y with e | e
  · rw [e]
    exact n100 (by show 0 ≤ 100; omega)
  · rw [e]
    exact n100 (by omega)
theorem trip_len {i : Nat} {w sg : Str} (e : trip[i]? = some (w, sg)) : sg.length ≤ 40 := by
  match i, e with
  | 0, e => cases e; decide
  | 1, e => cases e; decide
  | 2, e => cases e; decide
  | i + 3, e => cases e
theorem cut_no {z c : Str} (h : (Txt.partition z c).2.1 = Str.empty) : cutAt z c = none := if_pos h
theorem cut_yes {z c : Str} (h : (Txt.partition z c).2.1 ≠ Str.empty) : cutAt z c = some ((Txt.partition z c).1, (Txt.partition z c).2.2) := if_neg h
/-- what stands behind the sign is written as one of some -/
def OneB (b : Str) : Bool := Txt.startswith b "(" && Txt.endswith b ")"
structure Found (z w sg : Str) : Prop where
  one : w = "is" → OneB (Txt.partition z sg).2.2 = true → (looseW z).d = .tuple [.str "oneof", .str (Txt.partition z sg).1, .tuple ((if (Txt.partition z sg).2.2 = "()" then [] else Txt.split (cutS (Txt.partition z sg).2.2 (some 1) (some (-1))) "|").map .str)]
  other : ¬ (w = "is" ∧ OneB (Txt.partition z sg).2.2 = true) → (looseW z).d = .tuple [.str w, .str (Txt.partition z sg).1, .str (Txt.partition z sg).2.2]
theorem lz_step {z w sg : Str} {i : Nat} (sh : lzB z = true) (nb : Txt.startswith z "!" = false) (no : NoYet z i) (e : trip[i]? = some (w, sg)) :
    (sg.length == 0) = false ∧ (Txt.partition z sg).2.2.length ≤ 40 ∧ ((Txt.partition z sg).2.1 = Str.empty → NoYet z (i + 1)) ∧ ((Txt.partition z sg).2.1 ≠ Str.empty → Found z w sg) := by
  unfold lzB at sh
  rw [Bool.and_eq_true] at sh
  have all := fun s hs => of_decide_eq_true (List.all_eq_true.mp sh.2 s hs)
  have nb' : ¬ Txt.startswith z "!" = true := fun y => by rw [nb] at y; cases y
  match i, e with
  | 0, e =>
    cases e
    refine ⟨rfl, all _ (.head _), fun h => ⟨fun _ => cut_no h, fun l => absurd l (by omega), fun l => absurd l (by omega)⟩, fun h => ⟨fun y => absurd y (by decide +kernel), fun _ => ?_⟩⟩
    unfold looseW
    rw [if_neg nb', cut_yes h]
    rfl
  | 1, e =>
    cases e
    refine ⟨rfl, all _ (.tail _ (.head _)), fun h => ⟨fun _ => no.a (Nat.le_refl _), fun _ => cut_no h, fun l => absurd l (by omega)⟩, fun h => ⟨fun y => absurd y (by decide +kernel), fun _ => ?_⟩⟩
    unfold looseW
    rw [if_neg nb', no.a (Nat.le_refl _), cut_yes h]
    rfl
  | 2, e =>
    cases e
    refine ⟨rfl, all _ (.tail _ (.tail _ (.head _))), fun h => ⟨fun _ => no.a (by omega), fun _ => no.b (by omega), fun _ => cut_no h⟩, fun h => ⟨fun _ o => ?_, fun o => ?_⟩⟩
    · unfold looseW
      rw [if_neg nb', no.a (by omega), no.b (Nat.le_refl _), cut_yes h]
      unfold OneB at o
      rw [Bool.and_eq_true] at o
      show Wx.d (if _ then _ else _) = _
      rw [if_pos o]
      rfl
    · unfold looseW
      rw [if_neg nb', no.a (by omega), no.b (Nat.le_refl _), cut_yes h]
      show Wx.d (if _ then _ else _) = _
      rw [if_neg fun y => o ⟨rfl, by unfold OneB; rw [y.1, y.2]; rfl⟩]
      rfl
  | i + 3, e => cases e
theorem lz_last {z : Str} (nb : Txt.startswith z "!" = false) (no : NoYet z 3) : (looseW z).d = .tuple [.str "has", .str z] := by
  unfold looseW
  rw [if_neg (fun y => by rw [nb] at y; cases y), no.a (by omega), no.b (by omega), no.c (Nat.le_refl _)]
  rfl
theorem strs_dp {K : PySem.W.Frag} {H : Hp} : ∀ ts : List Str, DpAll K H (ts.map V.str) (ts.map PyData.str)
  | [] => .nil
  | t :: ts => .cons (.str t) (strs_dp ts)
def spLz (K : PySem.W.Frag) : Sp := fun vs H Q _ => ∃ (z : Str) (S : List Addr), vs = [.str z] ∧ lzB z = true ∧ Up H S ∧ ∀ (x : V) (H' : Hp), Same H H' → Dp K (hid H' S) x (looseW z).d → Q x H'
section
variable {P : Program} {w : World} {K : PySem.W.Frag} {mg : Str → Option Value} {base : Heap}
theorem ok_lz {f : Addr} {fd : FuncData} {k : Nat} (F : Fun K "loose_wish" "loose_wish" sLz f fd) (m_tuple : mg "tuple" = none) : FnOk P w K mg base CX0 (k + 1) f fd ["text"] (spLz K) := by
  refine F.ok scLz (fun vs H Q E h => ?_) (fun cdv A outer s H vs Q E hr h => ?_)
  · obtain ⟨z, S, rfl, _⟩ := h
    rfl
  · obtain ⟨z, S, rfl, hz, up, q⟩ := h
    have hu := hu_of hr
    refine ⟨_, pss_cons (ps_if (pt_val (pe_bm PySem.F.plainAttrs_str PySem.F.slot_str_startswith PySem.F.type_str_startswith mt_startswith (pv 0) (pa_cons pe_str pa_nil)))
        (pss_one (ps_ret (pe_tup (pa_cons pe_str (pa_cons (pe_slice sl_str (pv 0) (po_some pe_int) po_none) pa_nil)))))
        pss_nil)
      (pss_cons (ps_for PassesOwn.never rfl (pi_tup (pe_tup (pa_cons (pe_tup (pa_cons pe_str (pa_cons pe_str pa_nil))) (pa_cons (pe_tup (pa_cons pe_str (pa_cons pe_str pa_nil))) (pa_cons (pe_tup (pa_cons pe_str (pa_cons pe_str pa_nil))) pa_nil))))) (pg_tup rfl (pgs_cons (pg_name (i := 1) scLz.nd rfl (.inl rfl)) (pgs_cons (pg_name (i := 2) scLz.nd rfl (.inl rfl)) pgs_nil)))
        (pss_cons (ps_asg (pe_partition (pv 0) (pv 2)) (pg_tup rfl (pgs_cons (pg_name (i := 3) scLz.nd rfl (.inl rfl)) (pgs_cons (pg_name (i := 4) scLz.nd rfl (.inl rfl)) (pgs_cons (pg_name (i := 5) scLz.nd rfl (.inl rfl)) pgs_nil)))))
        (pss_cons (ps_if (PW.pt (pw_and (pt_truth (pv 4) (fun _ => rfl)) (pw_and (pt_cmpR op_eq (pv 1) pe_str (nomark _)) (pw_and (pt_val (pe_bm PySem.F.plainAttrs_str PySem.F.slot_str_startswith PySem.F.type_str_startswith mt_startswith (pv 5) (pa_cons pe_str pa_nil))) (pw_and1 (pt_val (pe_bm PySem.F.plainAttrs_str PySem.F.slot_str_endswith PySem.F.type_str_endswith mt_endswith (pv 5) (pa_cons pe_str pa_nil))))))))
          (pss_one (ps_ret (pe_tup (pa_cons pe_str (pa_cons (pv 3) (pa_cons (pe_ifExp (pt_cmpR op_ne (pv 5) pe_str (nomark _)) (pe_callTy call_tuple_of (by rfl) m_tuple (by decide +kernel) (pa_cons (pe_split (pe_slice sl_str (pv 5) (po_some pe_int) (po_some (pe_un un_neg pe_int))) pe_str) pa_nil)) (pe_tup pa_nil)) pa_nil))))))
          pss_nil)
        (pss_one (ps_if (pt_truth (pv 4) (fun _ => rfl))
          (pss_one (ps_ret (pe_tup (pa_cons (pv 1) (pa_cons (pv 3) (pa_cons (pv 5) pa_nil))))))
          pss_nil)))))
      (pss_one (ps_ret (pe_tup (pa_cons pe_str (pa_cons (pv 0) pa_nil)))))), ?_⟩
    refine ⟨_, rfl, rfl, _, _, rfl, rfl, _, rfl, ?_⟩
    refine ite2 (fun g => ?_) (fun g => ?_)
    · have zl : z.length ≤ 40 := by
        unfold lzB at hz
        rw [Bool.and_eq_true] at hz
        exact of_decide_eq_true hz.1
      refine ⟨_, rfl, _, rfl, z, rfl, n100 (by omega), by show 2 ≤ sizeLine; decide, fun t nt => ?_⟩
      have s1 := same_new (o := .tup [.str "lacks", .str (cutS z (some 1) none)]) nt
      refine q _ _ s1 ?_
      have e : looseW z = .lacks (cutS z (some 1) none) := if_pos g
      rw [e]
      exact .tup (SqT.of (hid_of upd_same (up.new nt))) (.cons (.str _) (.cons (.str _) .nil))
    · refine ⟨by decide, fun t1 n1 => ⟨by decide, fun t2 n2 => ⟨by decide, fun t3 n3 => ⟨by show 3 ≤ sizeLine; decide, fun t4 n4 => ?_⟩⟩⟩⟩
      have nb : Txt.startswith z "!" = false := Bool.eq_false_iff.mpr g
      obtain ⟨H4, e4⟩ : ∃ H4, upd (upd (upd (upd H t1 (.tup [.str "isnt", .str "!="])) t2 (.tup [.str "begins", .str "^"])) t3 (.tup [.str "is", .str "="])) t4 (.tup [.ref t1, .ref t2, .ref t3]) = H4 := ⟨_, rfl⟩
      have s4 : Same H H4 := by
        rw [← e4]
        exact ((same_new n1).trans (same_new n2)).trans ((same_new n3).trans (same_new n4))
      have h3 : H4 t3 = some (.tup [.str "is", .str "="]) := by
        rw [← e4]
        exact same_new n4 _ _ upd_same
      have h2 : H4 t2 = some (.tup [.str "begins", .str "^"]) := by
        rw [← e4]
        exact same_new n4 _ _ (same_new n3 _ _ upd_same)
      have h1 : H4 t1 = some (.tup [.str "isnt", .str "!="]) := by
        rw [← e4]
        exact same_new n4 _ _ (same_new n3 _ _ (same_new n2 _ _ upd_same))
      have h4 : H4 t4 = some (.tup [.ref t1, .ref t2, .ref t3]) := by
        rw [← e4]
        exact upd_same
      rw [e4]
      refine ⟨t4, rfl, ⟨_, SqT.of h4⟩, for_tup (xs := [.ref t1, .ref t2, .ref t3]) (fun i σ Hc => NoYet z i ∧ Same H4 Hc ∧ ∃ b c d e g, σ = [some (.str z), b, c, d, e, g]) ⟨⟨fun l => absurd l (by omega), fun l => absurd l (by omega), fun l => absurd l (by omega)⟩, Same.refl _, _, _, _, _, _, rfl⟩ (fun i σ Hc _ h => SqT.of (h.2.1 _ _ h4)) (fun i x σ Hc hx h => ?_) (fun σ Hc h => ?_)⟩
      · obtain ⟨no, sc, b, c, d, e, gg, rfl⟩ := h
        obtain ⟨tt, w', sg, rfl, ht, et⟩ : ∃ (tt : Addr) (w' sg : Str), x = .ref tt ∧ H4 tt = some (.tup [.str w', .str sg]) ∧ trip[i]? = some (w', sg) := by
          match i, hx with
          | 0, hx =>
            cases hx
            exact ⟨_, _, _, rfl, h1, rfl⟩
          | 1, hx =>
            cases hx
            exact ⟨_, _, _, rfl, h2, rfl⟩
          | 2, hx =>
            cases hx
            exact ⟨_, _, _, rfl, h3, rfl⟩
          | i + 3, hx => cases hx
        obtain ⟨ne, sh, next, found⟩ := lz_step hz nb no et
        have zl : z.length ≤ 40 := by
          unfold lzB at hz
          rw [Bool.and_eq_true] at hz
          exact of_decide_eq_true hz.1
        refine ⟨tt, _, rfl, SqT.of (sc _ _ ht), rfl, _, _, rfl, _, _, rfl, rfl, ?_⟩
        refine ⟨_, rfl, ⟨z, rfl⟩, _, rfl, z, sg, rfl, rfl, ne, n100 (by omega), fun r nr => ?_⟩
        have s5 := s4.trans (sc.trans (same_new (o := .tup [.str (Txt.partition z sg).1, .str (Txt.partition z sg).2.1, .str (Txt.partition z sg).2.2]) nr))
        have s45 := sc.trans (same_new (o := .tup [.str (Txt.partition z sg).1, .str (Txt.partition z sg).2.1, .str (Txt.partition z sg).2.2]) nr)
        refine ⟨r, _, rfl, SqT.of upd_same, rfl, _, _, rfl, _, _, rfl, _, _, rfl, rfl, ?_⟩
        generalize upd Hc r (.tup [.str (Txt.partition z sg).1, .str (Txt.partition z sg).2.1, .str (Txt.partition z sg).2.2]) = H5 at s5 s45 ⊢
        have ml := mid_len (x := z) (trip_len et)
        by_cases em : (Txt.partition z sg).2.1 = Str.empty
        · refine ⟨_, rfl, false, ⟨ml, tru_em em⟩, if_n rfl (if_n rfl ?_)⟩
          exact ⟨_, rfl, false, ⟨ml, tru_em em⟩, if_n rfl ⟨next em, s45, _, _, _, _, _, rfl⟩⟩
        · refine ⟨_, rfl, true, ⟨ml, tru_ne em⟩, if_y rfl ?_⟩
          have fnd := found em
          have up5 : Up H5 S := up.same s5
          -- otherwise: word, key and what stands behind
          have rest : ¬ (w' = "is" ∧ OneB (Txt.partition z sg).2.2 = true) → ∀ (r' : Addr), H5 r' = none → Q (.ref r') (upd H5 r' (.tup [.str w', .str (Txt.partition z sg).1, .str (Txt.partition z sg).2.2])) := fun h r' nr' => by
            refine q _ _ (s5.trans (same_new nr')) ?_
            rw [fnd.other h]
            exact .tup (SqT.of (hid_of upd_same (up5.new nr'))) (.cons (.str _) (.cons (.str _) (.cons (.str _) .nil)))
          refine ⟨_, rfl, rfl, _, rfl, ?_⟩
          by_cases ew : w' = "is"
          · refine if_y (decide_eq_true (by rw [ew])) ?_
            have rest2 : OneB (Txt.partition z sg).2.2 = false → ∀ (r' : Addr), H5 r' = none → Q (.ref r') (upd H5 r' (.tup [.str w', .str (Txt.partition z sg).1, .str (Txt.partition z sg).2.2])) := fun h => rest fun y => by
              rw [h] at y
              cases y.2
            refine ⟨_, rfl, rfl, _, _, rfl, rfl, _, rfl, ite2 (fun g1 => ?_) (fun g1 => if_n rfl ?_)⟩
            · refine ⟨_, rfl, rfl, _, _, rfl, rfl, _, rfl, ite2 (fun g2 => ?_) (fun g2 => ?_)⟩
              · have one : OneB (Txt.partition z sg).2.2 = true := by
                  unfold OneB
                  rw [g1, g2]
                  rfl
                have fo := fnd.one ew one
                refine ⟨_, rfl, _, rfl, rfl, _, rfl, ite2 (fun g3 => ?_) (fun g3 => ?_)⟩
                · have g4 : ¬ (Txt.partition z sg).2.2 = "()" := fun y => by
                    rw [y] at g3
                    cases g3
                  rw [if_neg g4] at fo
                  have cl := Nat.le_trans (cutS_length (Txt.partition z sg).2.2 (some 1) (some (-1))) sh
                  refine ⟨_, rfl, _, rfl, 1, rfl, -1, rfl, _, rfl, n100 (by omega), ⟨_, rfl⟩, _, _, rfl, rfl, rfl, n100 (by omega), fun l nl => ?_⟩
                  refine ⟨l, _, rfl, .inl ⟨SqL.of upd_same, fun t6 n6 => ⟨by show 3 ≤ sizeLine; decide, fun t7 n7 => ?_⟩⟩⟩
                  have s6 := (same_new (o := .lst ((Txt.split (cutS (Txt.partition z sg).2.2 (some 1) (some (-1))) "|").map V.str)) nl).trans (same_new (o := .tup ((Txt.split (cutS (Txt.partition z sg).2.2 (some 1) (some (-1))) "|").map V.str)) n6)
                  have s7 := same_new (o := .tup [.str "oneof", .str (Txt.partition z sg).1, .ref t6]) n7
                  refine q _ _ (s5.trans (s6.trans s7)) ?_
                  rw [fo]
                  exact .tup (SqT.of (hid_of upd_same ((up5.same s6).new n7))) (.cons (.str _) (.cons (.str _) (.cons (.tup (SqT.of (hid_of (s7 _ _ upd_same) ((up5.same (same_new nl)).new n6))) (strs_dp _)) .nil)))
                · have g4 : (Txt.partition z sg).2.2 = "()" := by
                    by_cases y : (Txt.partition z sg).2.2 = "()"
                    · exact y
                    · exact absurd (by simp [y]) g3
                  rw [if_pos g4] at fo
                  refine ⟨by decide, fun t6 n6 => ⟨by show 3 ≤ sizeLine; decide, fun t7 n7 => ?_⟩⟩
                  have s6 := same_new (o := .tup []) n6
                  have s7 := same_new (o := .tup [.str "oneof", .str (Txt.partition z sg).1, .ref t6]) n7
                  refine q _ _ (s5.trans (s6.trans s7)) ?_
                  rw [fo]
                  exact .tup (SqT.of (hid_of upd_same ((up5.same s6).new n7))) (.cons (.str _) (.cons (.str _) (.cons (.tup (SqT.of (hid_of (s7 _ _ upd_same) (up5.new n6))) .nil) .nil)))
              · exact ⟨_, rfl, true, ⟨ml, tru_ne em⟩, if_y rfl ⟨_, rfl, _, rfl, _, rfl, by show 3 ≤ sizeLine; decide, rest2 (by unfold OneB; rw [g1, Bool.eq_false_iff.mpr g2]; rfl)⟩⟩
            · exact ⟨_, rfl, true, ⟨ml, tru_ne em⟩, if_y rfl ⟨_, rfl, _, rfl, _, rfl, by show 3 ≤ sizeLine; decide, rest2 (by unfold OneB; rw [Bool.eq_false_iff.mpr g1]; rfl)⟩⟩
          · refine if_n (decide_eq_false (fun y => ew (V.str.inj y))) (if_n rfl ?_)
            exact ⟨_, rfl, true, ⟨ml, tru_ne em⟩, if_y rfl ⟨_, rfl, _, rfl, _, rfl, by show 3 ≤ sizeLine; decide, rest fun y => ew y.1⟩⟩
      · obtain ⟨no, sc, b, c, d, e, gg, rfl⟩ := h
        refine ⟨_, rfl, by show 2 ≤ sizeLine; decide, fun t nt => ?_⟩
        have s1 := same_new (o := .tup [.str "has", .str z]) nt
        refine q _ _ (s4.trans (sc.trans s1)) ?_
        rw [lz_last nb no]
        exact .tup (SqT.of (hid_of upd_same ((up.same (s4.trans sc)).new nt))) (.cons (.str _) (.cons (.str _) .nil))
end
end Tg

namespace Tg
open PySem PySem.Spec PyProof.Rows L2
/-! ### a comprehension without a test, of each item of which something is known that stands -/
section
variable {K : PySem.W.Frag} {g : TG} {te : TE} {vs : List Nat} {σ : L2.St} {H1 : Hp} {D : Addr} {Qd : Hp → Prop} {J : It}
theorem lc_rel (n : Nat) (Rl : Nat → V → Hp → Prop) (mono : ∀ i y H H', Rl i y H → Same H H' → Rl i y H') (put : ∀ i y H zs, Rl i y H → Rl i y (upd H D (.lst zs))) (nD : H1 D = none) (small : n < sizeLine)
    (stop : ∀ Hc, Same H1 Hc → J.stop n Hc) (go : ∀ i Hc, i < n → Same H1 Hc → J.go i Hc)
    (hs : ∀ i x Hc H' (Q : VK), i < n → Same H1 Hc → (∃ zs, Hc D = some (.lst zs)) → J.yld i Hc x H' → (∀ y H4, Same H' H4 → Rl i y H4 → Q y H4) → g x (wipe σ vs) H' fun σ2 H2 => wipe σ2 vs = wipe σ vs ∧ te σ2 H2 Q)
    (grow : ∀ i x Hc H', i < n → Same H1 Hc → J.yld i Hc x H' → Same Hc H')
    (hd : ∀ ys H', Same H1 H' → H' D = some (.lst ys) → ys.length = n → (∀ (i : Nat) (y : V), ys[i]? = some y → Rl i y H') → Qd H') :
    Walked J (upd H1 D (.lst [])) (TurnL g te vs σ D) Qd := by
  refine ⟨fun i m H => m = n - i ∧ i ≤ n ∧ Same H1 H ∧ ∃ ys, H D = some (.lst ys) ∧ ys.length = i ∧ ∀ (j : Nat) (y : V), ys[j]? = some y → Rl j y H, ⟨n, by omega, Nat.zero_le _, fun b o e => ?_, [], upd_same, rfl, fun j y e => by simp at e⟩, ?_⟩
  · rw [upd_ne (ne_of_none e nD)]
    exact e
  rintro i m H ⟨rfl, hi, sm, ys, hD, ly, hy⟩
  by_cases lt : i < n
  · refine .inr ⟨go i H lt sm, fun H' => Same H1 H' ∧ ∃ ys, H' D = some (.lst ys) ∧ ys.length = i + 1 ∧ ∀ (j : Nat) (y : V), ys[j]? = some y → Rl j y H', fun H' h => ⟨n - (i + 1), by omega, rfl, lt, h.1, h.2⟩, fun x H' yl => ?_⟩
    have s2 := grow i x H H' lt sm yl
    have z := hs i x H H' (fun y H4 => Grows D (fun H' => Same H1 H' ∧ ∃ ys, H' D = some (.lst ys) ∧ ys.length = i + 1 ∧ ∀ (j : Nat) (u : V), ys[j]? = some u → Rl j u H') y H4) lt sm ⟨ys, hD⟩ yl fun y H4 s4 hr => by
      refine ⟨ys, s4 _ _ (s2 _ _ hD), by omega, fun b o e => ?_, ys ++ [y], upd_same, by rw [List.length_append, ly]; rfl, fun j u e => put j u H4 _ ?_⟩
      · rw [upd_ne (ne_of_none e nD)]
        exact s4 _ _ (s2 _ _ (sm _ _ e))
      · rcases Nat.lt_or_ge j ys.length with c | c
        · rw [List.getElem?_append_left c] at e
          exact mono j u H H4 (hy j u e) (s2.trans s4)
        · have ej : j = ys.length := by
            have := (List.getElem?_eq_some_iff.mp e).1
            rw [List.length_append] at this
            have z1 : [y].length = 1 := rfl
            omega
          subst ej
          rw [List.getElem?_append_right (Nat.le_refl _), Nat.sub_self] at e
          cases e
          rw [ly]
          exact hr
    refine cast (congrArg (g x (wipe σ vs) H') (funext fun σ2 => funext fun H2 => ?_)) z
    unfold tYes
    exact congrArg _ (if_pos rfl).symm
  · obtain rfl : i = n := by omega
    exact .inl ⟨stop H sm, hd ys H sm hD ly hy⟩
/-- the same over a tuple -/
theorem lc_relT {a : Addr} {xs : List V} (Rl : Nat → V → Hp → Prop) (mono : ∀ i y H H', Rl i y H → Same H H' → Rl i y H') (put : ∀ i y H zs, Rl i y H → Rl i y (upd H D (.lst zs))) (nD : H1 D = none) (hx : ∀ H, SqT K H a xs) (small : xs.length < sizeLine)
    (hs : ∀ (i : Nat) (x : V) (Hc : Hp) (Q : VK), xs[i]? = some x → Same H1 Hc → (∃ zs, Hc D = some (.lst zs)) → (∀ y H4, Same Hc H4 → Rl i y H4 → Q y H4) → g x (wipe σ vs) Hc fun σ2 H2 => wipe σ2 vs = wipe σ vs ∧ te σ2 H2 Q)
    (hd : ∀ ys H', Same H1 H' → H' D = some (.lst ys) → ys.length = xs.length → (∀ (i : Nat) (y : V), ys[i]? = some y → Rl i y H') → Qd H') :
    Walked (Itt K a) (upd H1 D (.lst [])) (TurnL g te vs σ D) Qd :=
  lc_rel (J := Itt K a) xs.length Rl mono put nD small (fun Hc _ => ⟨xs, hx Hc, Nat.le_refl _⟩) (fun i Hc lt _ => ⟨xs, xs[i], hx Hc, List.getElem?_eq_getElem lt⟩)
    (fun i x Hc H' Q lt sm zs yl q => by
      obtain ⟨rfl, h⟩ := yl
      exact hs i x _ Q (h xs (hx _)) sm zs q) (fun i x Hc H' _ _ yl => by rw [yl.1]; exact Same.refl _) hd
end
end Tg

set_option maxHeartbeats 1000000
namespace Tg
open PySem PySem.Spec PyProof.Rows L2
set_option maxHeartbeats 1000000
set_option maxHeartbeats 1000000
section
variable {K : PySem.W.Frag} {g : TG} {te : TE} {vs : List Nat} {σ : L2.St} {H1 : Hp} {D : Addr} {Qd : Hp → Prop}
/-- the same over a list -/
theorem lc_relL {a : Addr} {xs : List V} (Rl : Nat → V → Hp → Prop) (mono : ∀ i y H H', Rl i y H → Same H H' → Rl i y H') (put : ∀ i y H zs, Rl i y H → Rl i y (upd H D (.lst zs))) (nD : H1 D = none) (hx : SqL K H1 a xs) (small : xs.length < sizeLine)
    (hs : ∀ (i : Nat) (x : V) (Hc : Hp) (Q : VK), xs[i]? = some x → Same H1 Hc → (∃ zs, Hc D = some (.lst zs)) → (∀ y H4, Same Hc H4 → Rl i y H4 → Q y H4) → g x (wipe σ vs) Hc fun σ2 H2 => wipe σ2 vs = wipe σ vs ∧ te σ2 H2 Q)
    (hd : ∀ ys H', Same H1 H' → H' D = some (.lst ys) → ys.length = xs.length → (∀ (i : Nat) (y : V), ys[i]? = some y → Rl i y H') → Qd H') :
    Walked (Itl K a) (upd H1 D (.lst [])) (TurnL g te vs σ D) Qd :=
  lc_rel (J := Itl K a) xs.length Rl mono put nD small (fun Hc sm => ⟨xs, sm.seq hx, Nat.le_refl _⟩) (fun i Hc lt sm => ⟨xs, xs[i], sm.seq hx, List.getElem?_eq_getElem lt⟩)
    (fun i x Hc H' Q lt sm zs yl q => by
      obtain ⟨rfl, h⟩ := yl
      exact hs i x _ Q (h xs (sm.seq hx)) sm zs q) (fun i x Hc H' _ _ yl => by rw [yl.1]; exact Same.refl _) hd
theorem hid_put {H : Hp} {D : Addr} {o : HO} : hid (upd H D o) [D] = hid H [D] := by
  funext b
  unfold hid
  by_cases e : b = D
  · rw [if_pos (by rw [e]; exact .head _), if_pos (by rw [e]; exact .head _)]
  · rw [if_neg (by simpa using e), if_neg (by simpa using e), upd_ne e]
theorem hid_putS {H : Hp} {D : Addr} {o : HO} {S : List Addr} : hid (upd H D o) (D :: S) = hid H (D :: S) := by
  funext b
  unfold hid
  by_cases e : b = D
  · rw [if_pos (by rw [e]; exact .head _), if_pos (by rw [e]; exact .head _)]
  · rw [upd_ne e]
theorem up_cons {H : Hp} {D : Addr} {o : HO} {S : List Addr} (h : H D = some o) (u : Up H S) : Up H (D :: S) := fun b hb z => by
  obtain rfl | hb := List.mem_cons.mp hb
  · rw [h] at z
    cases z
  · exact u b hb z
theorem dpAll_pt : ∀ {H : Hp} {xs : List V} {ds : List PyData}, xs.length = ds.length → (∀ (i : Nat) (x : V) (d : PyData), xs[i]? = some x → ds[i]? = some d → Dp K H x d) → DpAll K H xs ds
  | _, [], [], _, _ => .nil
  | _, [], _ :: _, h, _ => nomatch h
  | _, _ :: _, [], h, _ => nomatch h
  | _, x :: xs, d :: ds, h, f => .cons (f 0 x d rfl rfl) (dpAll_pt (Nat.succ.inj h) fun i y e h1 h2 => f (i + 1) y e h1 h2)
end
/-! ### wishes_text, wishes_of, read_wishes -/
abbrev sWsT : Stmt := topS 38
abbrev sWO : Stmt := topS 39
abbrev NWsT : List Str := ["wishes", "wish"]
abbrev NWO : List Str := ["text", "wishes", "part", "wish"]
theorem scWsT : FnScope NWsT ["wishes"] (defScope sWsT) := ⟨rfl, rfl, rfl, by decide +kernel, rfl, by decide +kernel, by decide +kernel⟩
theorem scWO : FnScope NWO ["text"] (defScope sWO) := ⟨rfl, rfl, rfl, by decide +kernel, rfl, by decide +kernel, by decide +kernel⟩
theorem n1000 {n : Nat} (h : n ≤ 1000) : n ≤ sizeLine := Nat.le_trans h (by decide)
/-- the text of wishes -/
def joinW (ys : List Wx) : Str := Txt.join (Str.ofString " ") (ys.map Wx.t)
def wsT (ys : List Wx) : Str := if ys = [] then "*" else joinW ys
/-- at most six of the law's wishes -/
structure GoodW (ys : List Wx) : Prop where
  ok : ∀ y, y ∈ ys → y ∈ allW
  few : ys.length ≤ 6
theorem GoodW.sum {ys : List Wx} (g : GoodW ys) : ((ys.map Wx.t).map (·.length)).sum ≤ 6 * 40 := sum_few (by rw [List.length_map]; exact g.few) fun t ht => by
  obtain ⟨y, hy, rfl⟩ := List.mem_map.mp ht
  exact (wx_t (g.ok y hy)).few
theorem GoodW.len {ys : List Wx} (g : GoodW ys) : (joinW ys).length ≤ 300 := by
  have z := StrLaws.join_length_le (Str.ofString " ") (ys.map Wx.t)
  have e1 : joinW ys = Str.join (Str.ofString " ") (ys.map Wx.t) := StrLaws.glued_eq_join _ _
  have e2 : (Str.ofString " ").length = 1 := rfl
  have s := g.sum
  have f := g.few
  rw [e1]
  rw [e2, List.length_map] at z
  omega
theorem split_back {ys : List Wx} (g : GoodW ys) (ne : ys ≠ []) : Txt.split (joinW ys) (Str.ofString " ") = ys.map Wx.t :=
  TL.split_join (s := 32) (S := []) rfl (by decide +kernel) (fun z => ne (List.map_eq_nil_iff.mp z)) fun p hp => by
    obtain ⟨y, hy, rfl⟩ := List.mem_map.mp hp
    exact (wx_t (g.ok y hy)).free
theorem join_star {ys : List Wx} (g : GoodW ys) (ne : ys ≠ []) : joinW ys ≠ "*" := fun z => by
  have e := split_back g ne
  rw [z] at e
  have e2 : Txt.split (Str.ofString "*") (Str.ofString " ") = [Str.ofString "*"] := by decide +kernel
  have e3 := e2.symm.trans e
  match ys, e3 with
  | y :: r, e3 => exact (wx_t (g.ok y List.mem_cons_self)).star (List.cons.inj e3).1.symm
theorem join_ne {ys : List Wx} (g : GoodW ys) (ne : ys ≠ []) : joinW ys ≠ Str.empty := fun z => by
  have e := split_back g ne
  rw [z] at e
  have e2 : Txt.split Str.empty (Str.ofString " ") = [Str.empty] := by decide +kernel
  have e3 := e2.symm.trans e
  match ys, e3 with
  | y :: r, e3 => exact (wx_t (g.ok y List.mem_cons_self)).ne (List.cons.inj e3).1.symm
def spWsT (K : PySem.W.Frag) : Sp := fun vs H Q _ => ∃ (l : Addr) (xs : List V) (ys : List Wx), vs = [.ref l] ∧ SqL K H l xs ∧ DpAll K H xs (ys.map Wx.d) ∧ GoodW ys ∧ ∀ H', Same H H' → Q (.str (wsT ys)) H'
/-- a new list of the wishes -/
def spWsO (K : PySem.W.Frag) : Sp := fun vs H Q _ => ∃ (ys : List Wx) (S : List Addr), vs = [.str (wsT ys)] ∧ GoodW ys ∧ Up H S ∧ ∀ (l : Addr) (xs : List V) (H' : Hp), Same H H' → H l = none → H' l = some (.lst xs) → DpAll K (hid H' (l :: S)) xs (ys.map Wx.d) → Q (.ref l) H'
section
variable {P : Program} {w : World} {K : PySem.W.Frag} {mg : Str → Option Value} {base : Heap} {t1 : Tok}
theorem ok_wst {f : Addr} {fd : FuncData} {k : Nat} (F : Fun K "wishes_text" "wishes_text" sWsT f fd) (C_wish_text : Cal P w K mg base k "wish_text" ["wish"] (spWT K)) (g_NO_WISHES : mg "NO_WISHES" = some (.str "*" t1)) : FnOk P w K mg base CX0 (k + 1) f fd ["wishes"] (spWsT K) := by
  refine F.ok scWsT (fun vs H Q E h => ?_) (fun cdv A outer s H vs Q E hr h => ?_)
  · obtain ⟨l, xs, ys, rfl, _⟩ := h
    rfl
  · obtain ⟨l, xs, ys, rfl, hl, ha, g, q⟩ := h
    refine ⟨_, pss_one (ps_ret (pe_orT (pe_bm PySem.F.plainAttrs_str PySem.F.slot_str_join PySem.F.type_str_join mt_join pe_str (pa_cons (pe_lc (own := [("wish", 1)]) (g := (gName 1)) (tt := tYes) rfl scWsT.nd (pi_list (pv 0)) (blkOk_by (own := [("wish", 1)]) (N := NWsT) (sc := defScope sWsT) (by decide +kernel)) (fun _ _ _ _ _ => (pg_name (i := 1) scWsT.nd rfl (.inl rfl))) (fun _ _ _ _ _ => pts_nil) (fun _ _ _ _ _ => (pe_cal C_wish_text (hr.mono (by omega)) (by rfl) (pa_cons (pv 1) pa_nil)))) pa_nil)) (pe_one (pe_glob (v := .str "*") rfl g_NO_WISHES ⟨_, rfl⟩)))), ?_⟩
    have lx : xs.length = ys.length := by rw [dpAll_len ha, List.length_map]
    refine ⟨rfl, _, rfl, l, rfl, ⟨_, hl⟩, fun D nD => lc_mapL (xs := xs) ((ys.map Wx.t).map V.str) (by rw [List.length_map, List.length_map, lx]) nD hl (by rw [lx]; exact small1000 (by have := g.few; omega)) (fun i x y Hc Q' hx hy sm q' => ?_) fun H1 s1 hD => ?_⟩
    · rw [List.getElem?_map, List.getElem?_map] at hy
      obtain ⟨d, hd, dx⟩ := dpAll_at ha i x hx
      rw [List.getElem?_map] at hd
      obtain ⟨y0, hy0, rfl⟩ := Option.map_eq_some_iff.mp hd
      rw [hy0] at hy
      cases hy
      exact ⟨rfl, _, rfl, x, y0, rfl, dp_same sm dx, g.ok _ (List.mem_of_getElem? hy0), fun H2 s2 => q' H2 s2⟩
    · refine ⟨_, D, ys.map Wx.t, rfl, rfl, .inl (SqL.of hD), ?_, ?_⟩
      · have z := g.sum
        have f := g.few
        show _ + _ * 1 ≤ _
        rw [List.length_map]
        omega
      · by_cases e : ys = []
        · subst e
          refine ⟨false, ⟨by show 0 ≤ _; omega, rfl⟩, if_n rfl ?_⟩
          exact q H1 s1
        · refine ⟨true, ⟨n1000 (by have := g.len; unfold joinW at this; omega), tru_ne (join_ne g e)⟩, if_y rfl ?_⟩
          have z := q H1 s1
          unfold wsT at z
          rw [if_neg e] at z
          exact z
theorem ok_wso {f : Addr} {fd : FuncData} {k : Nat} (F : Fun K "wishes_of" "wishes_of" sWO f fd) (C_loose_wish : Cal P w K mg base k "loose_wish" ["text"] (spLz K)) (C_is_wish : Cal P w K mg base k "is_wish" ["thing"] (spIs (WshV K))) (m_all : mg "all" = none) (g_NO_WISHES : mg "NO_WISHES" = some (.str "*" t1)) :
    FnOk P w K mg base CX0 (k + 1) f fd ["text"] (spWsO K) := by
  refine F.ok scWO (fun vs H Q E h => ?_) (fun cdv A outer s H vs Q E hr h => ?_)
  · obtain ⟨ys, S, rfl, _⟩ := h
    rfl
  · obtain ⟨ys, S, rfl, g, upS, q⟩ := h
    refine ⟨_, pss_cons (ps_if (pt_cmpR op_eq (pv 0) (pe_glob (v := .str "*") rfl g_NO_WISHES ⟨_, rfl⟩) (nomark _))
        (pss_one (ps_ret (pe_lst pa_nil)))
        pss_nil)
      (pss_cons (ps_setLc (i := 1) (own := [("part", 2)]) (g := (gName 2)) (tt := tYes) rfl scWO.nd rfl rfl (sw_true rfl rfl rfl (by decide +kernel)) (pi_list (pe_split (pv 0) pe_str)) (blkOk_by (own := [("part", 2)]) (N := NWO) (sc := defScope sWO) (by decide +kernel)) (fun _ _ _ _ _ => (pg_name (i := 2) scWO.nd rfl (.inl rfl))) (fun _ _ _ _ _ => pts_nil) (fun _ _ _ _ _ => (pe_cal C_loose_wish (hr.mono (by omega)) (by rfl) (pa_cons (pv 2) pa_nil))))
      (pss_one (ps_ret (pe_ifExp (pt_val (pe_callB (cr_all rfl) (by rfl) m_all PyProof.Rows.boot_all (pa_cons (pe_lc (own := [("wish", 3)]) (g := gName 3) (tt := tYes) rfl scWO.nd (pi_list (pv 1)) (blkOk_by (own := [("wish", 3)]) (N := NWO) (sc := defScope sWO) (by decide +kernel)) (fun _ _ _ _ _ => (pg_name (i := 3) scWO.nd rfl (.inl rfl))) (fun _ _ _ _ _ => pts_nil) (fun _ _ _ _ _ => (pe_cal C_is_wish (hr.mono (by omega)) (by rfl) (pa_cons (pv 3) pa_nil)))) pa_nil))) (pv 1) pe_non)))), ?_⟩
    refine ⟨_, rfl, rfl, _, rfl, ?_⟩
    by_cases e : ys = []
    · subst e
      refine if_y (by decide +kernel) ⟨by decide, fun l nl => ?_⟩
      exact q l [] _ (same_new nl) nl upd_same .nil
    · have e1 : wsT ys = joinW ys := if_neg e
      rw [e1]
      refine if_n (decide_eq_false fun z => join_star g e (V.str.inj z)) ?_
      have jl := g.len
      refine ⟨_, rfl, ⟨_, rfl⟩, _, _, rfl, rfl, rfl, n1000 (by omega), fun L nL => ?_⟩
      rw [split_back g e]
      have fw := g.few
      have lt0 : ((ys.map Wx.t).map V.str).length = ys.length := by rw [List.length_map, List.length_map]
      refine ⟨L, rfl, ⟨_, SqL.of upd_same⟩, fun D nD => lc_relL (xs := (ys.map Wx.t).map V.str) (fun i v Hc => ∃ y, ys[i]? = some y ∧ Dp K (hid Hc (D :: S)) v y.d) (fun i v H3 H4 ⟨y, h1, h2⟩ s => ⟨y, h1, dp_same (hid_same s) h2⟩) (fun i v H3 zs ⟨y, h1, h2⟩ => ⟨y, h1, by rw [hid_putS]; exact h2⟩) nD (SqL.of upd_same) (by rw [lt0]; exact small1000 (by omega)) (fun i x Hc Q' hx sm hz q' => ?_) fun vs H1 s1 hD lv each => ?_⟩
      · rw [List.getElem?_map, List.getElem?_map] at hx
        obtain ⟨t, ht, rfl⟩ := Option.map_eq_some_iff.mp hx
        obtain ⟨y, hy, rfl⟩ := Option.map_eq_some_iff.mp ht
        have my := g.ok _ (List.mem_of_getElem? hy)
        obtain ⟨zs, hz⟩ := hz
        refine ⟨rfl, _, rfl, y.t, (D :: S), rfl, List.all_eq_true.mp lz_all _ my, (up_cons hz (upS.same ((same_new nL).trans sm))), fun x H3 s3 dx => q' x H3 s3 ⟨y, hy, ?_⟩⟩
        rw [(wx_t my).back] at dx
        exact dx
      · rw [lt0] at lv
        have sH : Same H H1 := (same_new nL).trans s1
        have nDH : H D = none := by
          cases hd : H D with
          | none => rfl
          | some o =>
            have := same_new (o := .lst ((ys.map Wx.t).map V.str)) nL _ _ hd
            rw [nD] at this
            cases this
        have dall : DpAll K (hid H1 (D :: S)) vs (ys.map Wx.d) := dpAll_pt (by rw [lv, List.length_map]) fun i x d hx hd => by
          obtain ⟨y, hy, dy⟩ := each i x hx
          rw [List.getElem?_map, hy] at hd
          cases hd
          exact dy
        refine ⟨_, rfl, D, rfl, ⟨_, SqL.of hD⟩, fun D2 nD2 => lc_mapL (xs := vs) ((ys.map fun _ => true).map V.bl) (by rw [List.length_map, List.length_map, lv]) nD2 (SqL.of hD) (by rw [lv]; exact small1000 (by omega)) (fun i x b Hc Q' hx hb sm q' => ?_) fun H2 s2 hD2 => ?_⟩
        · obtain ⟨y, hy, dy⟩ := each i x hx
          have my := g.ok _ (List.mem_of_getElem? hy)
          rw [List.getElem?_map, List.getElem?_map, hy] at hb
          cases hb
          have gw := allW_good my
          unfold gwB at gw
          rw [Bool.and_eq_true, Bool.and_eq_true] at gw
          exact ⟨rfl, _, rfl, x, true, rfl, ⟨y.d, dp_same sm (dp_same (hid_sub _ _) dy), whB_ok gw.1.2, gw.2.symm⟩, fun H3 s3 => q' H3 s3⟩
        · refine ⟨D2, ys.map fun _ => true, rfl, SqL.of hD2, _, rfl, if_y ?_ ?_⟩
          · rw [List.all_map]
            exact List.all_eq_true.mpr (fun b hb => rfl)
          · exact ⟨_, rfl, q D vs H2 (sH.trans s2) nDH (s2 _ _ hD) (dpAll_same (hid_same s2) dall)⟩
end
end Tg

set_option maxHeartbeats 1000000
namespace Tg
open PySem PySem.Spec PyProof.Rows L2 LamX
/-! ### _law_time, _law_worth; _law_labels_text -/
theorem at4 {a b c d : Int} {P : Int → Prop} {v : Int} (h0 : 0 ≤ v) (h1 : v < 4) (pa : P a) (pb : P b) (pc : P c) (pd : P d) : ∃ x, atI [V.int a, V.int b, V.int c, V.int d] v = some (.int x) ∧ P x := by
  obtain ⟨n, ev⟩ := Int.eq_ofNat_of_zero_le h0
  subst ev
  match n, h1 with
  | 0, _ => exact ⟨a, rfl, pa⟩
  | 1, _ => exact ⟨b, rfl, pb⟩
  | 2, _ => exact ⟨c, rfl, pc⟩
  | 3, _ => exact ⟨d, rfl, pd⟩
  | n + 4, h => exact absurd h (by omega)
theorem app_empty (z : Str) (c : Nat) : z ++ SX.S (List.replicate 0 c) = z := Str.append_empty z
section
variable {P : Program} {w : World} {K : PySem.W.Frag} {mg : Str → Option Value} {base : Heap}
end
end Tg

namespace Tg
open PySem PySem.Spec PyProof.Rows L2
/-! ### a sign many times -/
def rTimes (c : Nat) : R2 := fun x y H Q => ∃ n : Nat, x = .str (SX.S [c]) ∧ y = .int (n : Nat) ∧ n ≤ 1000 ∧ Q (.str (SX.S (List.replicate n c))) H
theorem op_times {X : Cx} {c : Nat} : OpR X (binaryOp .Mult) (rTimes c) := by
  rintro pins s σ H _ _ v u Q I rx ry ⟨n, rfl, rfl, few, q⟩
  obtain ⟨t, rfl⟩ := rx
  obtain ⟨t2, rfl⟩ := ry
  have l1 : (SX.S [c]).length = 1 := rfl
  have rep : ∀ (m : Nat) (acc : Array Nat), (List.replicate m (SX.S [c]).cps).foldl (· ++ ·) acc = acc ++ (List.replicate m c).toArray := fun m => by
    induction m with
    | zero =>
      intro acc
      show acc = acc ++ #[]
      simp
    | succ m ih =>
      intro acc
      rw [List.replicate_succ, List.foldl_cons, ih]
      apply Array.ext'
      simp [List.replicate_succ]
  refine PySem.P.mul_str ?_ (fun _ _ => ?_) (fun _ _ => ?_) ?_
  · rw [decide_eq_false (by omega), decide_eq_false (by omega)]
    rfl
  · rw [l1]
    intro z
    have : (1 : Int) ≤ (2 ^ 63 - 1) / (n : Int) := by
      by_cases n0 : n = 0
      · subst n0
        omega
      · exact (Int.le_ediv_iff_mul_le (by omega)).mpr (by omega)
    omega
  · rw [l1]
    unfold Builtin.Str.tooLong
    exact decide_eq_false (by rw [sizeLine_eq]; omega)
  · by_cases c0 : (n : Int) < 1
    · obtain rfl : n = 0 := by omega
      rw [if_pos c0]
      exact ⟨by decide, .str (SX.S []), H, I.tok _, ⟨_, rfl⟩, q⟩
    · rw [if_neg c0]
      by_cases c1 : ((n : Int) == 1 || (SX.S [c]).length == 0) = true
      · rw [if_pos c1]
        have n1 : n = 1 := by
          rw [l1] at c1
          have : ((n : Int) == 1) = true := by
            cases e : (n : Int) == 1 with
            | true => rfl
            | false =>
              rw [e] at c1
              cases c1
          have := beq_iff_eq.mp this
          omega
        subst n1
        exact ⟨.str (SX.S [c]), H, I, ⟨t, rfl⟩, q⟩
      · rw [if_neg c1]
        have e : (List.replicate (n : Int).toNat (SX.S [c]).cps).foldl (· ++ ·) #[] = (List.replicate n c).toArray := by
          rw [show (n : Int).toNat = n from rfl, rep]
          simp
        rw [e]
        refine ⟨?_, .str (SX.S (List.replicate n c)), H, I.tok _, ⟨_, rfl⟩, q⟩
        rw [SX.S_len, List.length_replicate, sizeLine_eq]
        omega
end Tg

namespace Tg
open PySem PySem.Spec PyProof.Rows L2
/-! ### sorted of a set of numbers, however many (the library's own rule ends at 63) -/
/-- a set's members, handed out in some order: whole numbers, the set's keys -/
theorem keys_out {es : Array (Int × Value)} {vs : List Value} (good : ∀ e ∈ es.toList, GoodE e) (pm : vs.Perm (es.toList.map (·.2))) :
    IntsAre vs (vs.map Builtin.Re.reRawOf) ∧ (vs.map Builtin.Re.reRawOf).Perm (es.toList.map keyOf) := by
  refine ⟨ints_of vs fun v hv => ?_, ?_⟩
  · have there := pm.mem_iff.mp hv
    rw [List.mem_map] at there
    obtain ⟨e, he, rfl⟩ := there
    have ⟨k, tk, h1, _⟩ := good e he
    exact ⟨k, tk, h1⟩
  · exact List.map_map (f := (·.2)) (g := Builtin.Re.reRawOf) (l := es.toList) ▸ pm.map Builtin.Re.reRawOf
/-- the rising list of just the n numbers of S -/
def Rising (S : Int → Bool) (n : Nat) (ns : List Int) : Prop := ns.Pairwise (· < ·) ∧ (∀ k : Int, k ∈ ns ↔ S k = true) ∧ ns.length = n
/-- what stood before a list was made and sorted stands behind it -/
theorem sorted_keeps {h : Heap} {o u : Obj} {vs : List Value} {out : Array Value} {b : Addr} (q : h.get? b = some u) : (sortedHeap (h.push o) h.objs.size vs out).get? b = some u := by
  have lt := Heap.lt_size q
  exact (sortedHeap_old (Nat.ne_of_lt lt) (size_push' h o ▸ Nat.lt_succ_of_lt lt)).trans (Heap.get?_push_of_some o q)
section
variable {P : Program} {w : World} {A : Around} {s : Shared} {E : Value → Shared → Prop} {a : Addr}
theorem sorted_setA {S : Int → Bool} {n : Nat} {Q : Value → Shared → Prop} (R : SetR w s.heap a S n) (free : A.handled = none) (few : n ≤ sizeLine)
    (told : ∀ s' p (out : List Value) (c : Nat) (ns : List Int), (∀ b o, s.heap.get? b = some o → s'.heap.get? b = some o) → s'.gens = s.gens → s'.os = s.os → s.heap.objs.size ≤ p →
      s'.heap.get? p = some (seqObj "list" out.toArray c) → IntsAre out ns → Rising S n ns → Q (.ref p) s') : wpAny (model P w) A (call (.builtin "sorted") [.ref a]) Q E s := by
  have ⟨o, es, ep, tbl, at_a, exact_set, dat, good, once, mem, bound, fits, count, ris, led⟩ := R
  apply Calls.call_function_entry kind_sorted plain_sorted entry_sorted (args_sorted1 _)
  unfold Builtin.«sorted»
  apply wpAny_bind
  apply wpAny_pure
  apply wpAny_bind
  apply collect_set (A := A.in1) free ⟨o, at_a, exact_set.1, dat⟩ fits bound ris led
  intro s1 vs kept more gens1 os1 pm
  obtain ⟨are, perm⟩ := keys_out good pm
  have many : vs.length = n := by
    have := pm.length_eq
    rw [List.length_map] at this
    exact this.trans (Array.length_toList.trans count)
  have room : vs.length ≤ sizeLine := many ▸ few
  have at_l := Heap.get?_push_size s1.heap (o := seqObj "list" vs.toArray 0) rfl
  apply wpAny_bind
  refine wpAny_newList (hsz := room) (wpAny_bind (wpAny_holding (wpAny_call_entry slot_list_sort ⟨_, at_l, rfl⟩ entry_list_sort ?_ (args_list_sort _))))
  refine SrtO.list_sort_ord SrtO.swo_int at_l room (SrtO.ints_sortable are) fun out up stable => ⟨_, rfl, ?_⟩
  have ⟨a1, a2, a3⟩ := SrtO.ints_out are up stable
  have pn := a2.trans perm
  have ⟨c, hc⟩ := sortedHeap_at (out := out.toArray) at_l
  refine wpAny_pure ⟨_, rfl, told _ s1.heap.objs.size out c _ (fun b u e => ?_) gens1 os1 more hc a1 ⟨lt_of_le_nodup _ a3 (pn.nodup_iff.mpr once), fun k => pn.mem_iff.trans (mem k).symm, ?_⟩⟩
  · exact sorted_keeps (kept b u e)
  · rw [pn.length_eq, List.length_map]
    exact Array.length_toList.trans count
end
def rSortedSetA (w : World) : List V → Hp → VK → Prop := fun vs H Q => ∃ (a : Addr) (S : Int → Bool) (n : Nat), vs = [V.ref a] ∧ H a = some (SetO w a S n) ∧ n ≤ sizeLine ∧
  ∀ ns p, Rising S n ns → H p = none → Q (.ref p) (upd H p (.lst (ns.map V.int)))
theorem cr_sortedSetA {X : Cx} (calm : X.calm = true) : CallR X (.builtin "sorted") (rSortedSetA X.w) := by
  rintro pins s σ H vs us Q I rel ⟨a, S, n, rfl, ha, few, q⟩
  rw [Vals.ref1 rel]
  refine sorted_setA (setO_get I ha) (I.ok.hd calm) few fun s' p out c ns k g o hp hg hi up => ?_
  have len : (ns.map V.int).length ≤ sizeLine := by
    rw [List.length_map, up.2.2]
    exact few
  have new := I.hok.fresh hp
  have J := I.call' (s' := s') (ch := []) (H' := upd H p (.lst (ns.map V.int))) o (Un.laid k hp new) (I.hok.laid k hp ⟨len, out, c, vals_of_ints hi, hg⟩) (g.symm ▸ I.bare) (fun _ z => nomatch z)
  exact ⟨.ref p, _, J, rfl, q ns p up new⟩
end Tg

set_option maxHeartbeats 2000000
namespace Tg
open PySem PySem.Spec PyProof.Rows L2 PpSet
/-! ### sets of texts, as sets of truths are told by the library -/
/-- the text of a member -/
def txOf (e : Int × Value) : Str := match e.2 with
  | .str z _ => z
  | _ => ""
def TxE (w : World) (e : Int × Value) : Prop := ∃ z t, e.2 = Value.str z t ∧ e.1 = keyH w (.inr z)
/-- the set of texts at a: S its members, n how many -/
def TxS (w : World) (h : Heap) (a : Addr) (S : Str → Bool) (n : Nat) : Prop :=
  ∃ ob ms ep tb, h.get? a = some ob ∧ ob.ExactSet ∧ ob.data = .set ms ep tb ∧ (∀ e ∈ ms.toList, TxE w e) ∧ (ms.toList.map txOf).Nodup ∧ (∀ k, S k = true ↔ k ∈ ms.toList.map txOf) ∧
    ms.size < scanBound ∧ tb.fits ms.size = true ∧ ms.size = n ∧ Ris tb.place.toList ∧ (w.params.followText "set-order" = true ∨ tb.led = true)
section
variable {P : Program} {w : World} {h h' : Heap} {a : Addr} {S : Str → Bool} {n : Nat}
theorem TxS.stays (R : TxS w h a S n) (same : ∀ ob, h.get? a = some ob → h'.get? a = some ob) : TxS w h' a S n :=
  let ⟨ob, ms, ep, tb, at_a, rest⟩ := R
  ⟨ob, ms, ep, tb, same ob at_a, rest⟩
theorem TxE.key {e : Int × Value} (g : TxE w e) : ∃ t, e.2 = .str (txOf e) t ∧ e.1 = keyH w (.inr (txOf e)) := by
  obtain ⟨z, t, h1, h2⟩ := g
  have q : txOf e = z := by
    unfold txOf
    rw [h1]
  rw [q]
  exact ⟨t, h1, h2⟩
theorem TxE.all {l : List (Int × Value)} (g : ∀ e ∈ l, TxE w e) : ElemsOf (mixKind P w) l := fun e he => by
  obtain ⟨t, h1, h2⟩ := (g e he).key
  refine ⟨⟨.inr (txOf e), ?_, h2⟩, ?_⟩
  · rw [h1]
    exact mixKind_str P w _ t
  · rw [h1]
    rfl
theorem TxE.is_ {e : Int × Value} (g : TxE w e) (k : Str) : (mixKind P w).is (.inr k) e.2 = true ↔ txOf e = k := by
  obtain ⟨t, h1, _⟩ := g.key
  constructor
  · intro q
    have := (mixKind P w).inj e.2 _ _ q (by rw [h1]; exact mixKind_str P w _ t)
    exact (Sum.inr.inj this).symm
  · intro q
    rw [h1, q]
    exact mixKind_str P w k t
theorem TxE.mem {l : List (Int × Value)} (g : ∀ e ∈ l, TxE w e) (k : Str) : k ∈ l.map txOf ↔ ∃ e ∈ l, (mixKind P w).is (.inr k) e.2 = true := by
  rw [List.mem_map]
  exact ⟨fun ⟨e, he, q⟩ => ⟨e, he, ((g e he).is_ k).2 q⟩, fun ⟨e, he, q⟩ => ⟨e, he, ((g e he).is_ k).1 q⟩⟩
end
section
variable {P : Program} {w : World} {A : Around} {E : Value → Shared → Prop} {s : Shared} {a : Addr} {S : Str → Bool} {n : Nat}
/-- the end of an add: the table grows, or doesn't -/
theorem txs_tail {g : Bool → Sem Unit} (quiet : ∀ (b : Bool) (s1 : Shared) (Q1 : Unit → Shared → Prop), Q1 () s1 → wpAny (model P w) A (g b) Q1 E s1)
    {ob : Obj} {ms : Array (Int × Value)} {ep : Nat} {tb : SetTable} (at_a : s.heap.get? a = some ob) (exact_ : ob.ExactSet) (dat : ob.data = .set ms ep tb)
    {ms1 : Array (Int × Value)} {tb1 : SetTable} {S1 : Str → Bool} (good : ∀ e ∈ ms1.toList, TxE w e) (once : (ms1.toList.map txOf).Nodup) (mem : ∀ k, S1 k = true ↔ k ∈ ms1.toList.map txOf)
    (few : ms1.size < scanBound) (fit : tb1.fits ms1.size = true) (ris : Ris tb1.place.toList) (led : w.params.followText "set-order" = true ∨ tb1.led = true) {dummy : Bool} {R : Option Bool → Shared → Prop}
    (told : ∀ h1, Heap.SameBut a s.heap h1 → TxS w h1 a S1 ms1.size → R (some true) { s with heap := h1 }) :
    wpAny (model P w) A (do
        storeSet a ms1 tb1
        if (!dummy && tb1.tooFull) = true then do
            g (relayAll tb1 ms1 (SetTable.grown ms1.size)).2.2
            storeSet a (relayAll tb1 ms1 (SetTable.grown ms1.size)).1 (relayAll tb1 ms1 (SetTable.grown ms1.size)).2.1
            pure (some true)
          else pure (some true)) R E s :=
  by
  refine wpAny_bind (wpAny_storeSet_of at_a dat ?_ (fits_of_scanBound few))
  have at1 := storeB_at (es' := ms1) (t' := tb1) at_a dat
  have sb1 := Heap.SameBut.update s.heap a (Obj.putSet ms1 tb1)
  split
  · have perm := relayAll_perm tb1 ms1 (SetTable.grown ms1.size)
    have fit2 := relayAll_fits tb1 ms1 (SetTable.grown ms1.size)
    have ris2 := relayAll_ris tb1 ms1 (SetTable.grown ms1.size)
    have led2 := relayAll_led tb1 ms1 (SetTable.grown ms1.size)
    revert perm fit2 ris2 led2
    rcases relayAll tb1 ms1 (SetTable.grown ms1.size) with ⟨ms2, tb2, gave⟩
    intro perm fit2 ris2 led2
    dsimp only at perm fit2 ris2 led2 ⊢
    have many : ms2.size = ms1.size := by rw [← Array.length_toList, perm.length_eq, Array.length_toList]
    have few2 : ms2.size < scanBound := many ▸ few
    refine wpAny_bind (quiet _ _ _ (wpAny_bind (wpAny_storeSet_of at1 rfl ?_ (fits_of_scanBound few2))))
    have at2 := storeB_at (es' := ms2) (t' := tb2) at1 rfl
    refine wpAny_pure (told _ (sb1.trans (Heap.SameBut.update _ a _)) ⟨_, ms2, _, tb2, at2, exact_, rfl, fun e he => good e (perm.mem_iff.mp he), (perm.map txOf).nodup_iff.mpr once,
      fun k => (mem k).trans (perm.map txOf).mem_iff.symm, few2, fit2, many, ris2, led.imp id fun z => led2.trans z⟩)
  · exact wpAny_pure (told _ sb1 ⟨_, ms1, _, tb1, at1, exact_, rfl, good, once, mem, few, fit, rfl, ris, led⟩)
/-- one more -/
abbrev more (S : Str → Bool) (z : Str) : Str → Bool := fun j => S j || decide (j = z)
theorem txs_hashed {z : Str} {tk : Tok} {Q : Bool → Shared → Prop} (R : TxS w s.heap a S n) (room : n + 1 < scanBound)
    (told : ∀ h1, Heap.SameBut a s.heap h1 → TxS w h1 a (more S z) (if S z = true then n else n + 1) → Q (!S z) { s with heap := h1 }) :
    wpAny (model P w) A (setAddHashed a (.str z tk) ((mixKind P w).hash (.inr z))) Q E s := by
  obtain ⟨ob, ms, ep, tb, at_a, exact_, dat, good, once, mem, few, fit, many, ris, led⟩ := R
  have isK : (mixKind P w).is (.inr z) (.str z tk) = true := mixKind_str P w z tk
  have scan : (Value.str z tk).scannable = true := rfl
  have els : ElemsOf (mixKind P w) ms.toList := TxE.all good
  unfold setAddHashed
  unfold setAddHashedIn
  refine wpAny_holding (wpAny_bind (wpAny_setState_of at_a dat fit ?_))
  dsimp only
  rw [byScan_of scan few els]
  simp only [↓reduceIte]
  unfold setAddByScan
  refine wpAny_bind (wpAny_bind (wpAny_rule (wpAny_bind (wpAny_setScan_of isK at_a dat fit els ?_))))
  cases there : List.findIdx? (fun e => (mixKind P w).is (.inr z) e.2) ms.toList with
  | some j =>
    dsimp only
    obtain ⟨lt, hit, _⟩ := List.findIdx?_eq_some_iff_getElem.mp there
    have yes : S z = true := (mem z).2 ((TxE.mem (P := P) good z).2 ⟨ms.toList[j], List.getElem_mem lt, hit⟩)
    apply wpAny_pure
    apply wpAny_pure
    have q := told s.heap (Heap.SameBut.refl a s.heap) ⟨ob, ms, ep, tb, at_a, exact_, dat, good, once, fun i => by
      rw [more, Bool.or_eq_true, decide_eq_true_eq, ← mem i]
      exact ⟨fun q => q.elim id (fun e => e ▸ yes), .inl⟩, few, fit, by rw [if_pos yes]; exact many, ris, led⟩
    rw [yes] at q
    exact q
  | none =>
    dsimp only
    have new : z ∉ ms.toList.map txOf := fun q => by
      obtain ⟨e, he, y⟩ := (TxE.mem (P := P) good z).1 q
      rw [List.findIdx?_eq_none_iff.mp there e he] at y
      cases y
    have no : S z = false := by
      cases q : S z with
      | false => rfl
      | true => exact absurd ((mem z).1 q) new
    have quiet : ∀ (b : Bool) (s1 : Shared) (Q1 : Unit → Shared → Prop), Q1 () s1 → wpAny (model P w) A (match b with | true => rule "set.scan.the-table-gave-way" | false => pure ()) Q1 E s1 := fun b s1 Q1 q => by
      cases b
      · exact wpAny_pure q
      · exact wpAny_rule q
    have perm := layNew_perm tb ms ((mixKind P w).hash (.inr z)) (.str z tk)
    have fit1 := layNew_fits tb ms ((mixKind P w).hash (.inr z)) (.str z tk)
    have ris1 := layNew_ris tb ms ((mixKind P w).hash (.inr z)) (.str z tk) ris
    have led1 := layNew_led tb ms ((mixKind P w).hash (.inr z)) (.str z tk)
    revert perm fit1 ris1 led1
    rcases layNew tb ms ((mixKind P w).hash (.inr z)) (.str z tk) with ⟨ms1, tb1, dummy, gave⟩
    intro perm fit1 ris1 led1
    dsimp only at perm fit1 ris1 led1 ⊢
    rw [Array.toList_push] at perm
    have pc : ms1.toList.Perm (((mixKind P w).hash (.inr z), Value.str z tk) :: ms.toList) := perm.trans (List.perm_append_singleton _ _)
    have pk : (ms1.toList.map txOf).Perm (z :: ms.toList.map txOf) := pc.map txOf
    have good1 : ∀ e ∈ ms1.toList, TxE w e := fun e he => (List.mem_cons.mp (pc.mem_iff.mp he)).elim (fun q => q ▸ ⟨z, tk, rfl, rfl⟩) (good e)
    have once1 : (ms1.toList.map txOf).Nodup := pk.nodup_iff.mpr (List.nodup_cons.mpr ⟨new, once⟩)
    have mem1 : ∀ i, more S z i = true ↔ i ∈ ms1.toList.map txOf := fun i => by
      rw [more, Bool.or_eq_true, decide_eq_true_eq, mem i, pk.mem_iff, List.mem_cons]
      exact Or.comm
    have many1 : ms1.size = n + 1 := by rw [← Array.length_toList, pc.length_eq, List.length_cons, Array.length_toList, many]
    have few1 : ms1.size < scanBound := many1 ▸ room
    have ledd : w.params.followText "set-order" = true ∨ tb1.led = true := led.imp id fun q => led1.trans q
    have fin : ∀ h1, Heap.SameBut a s.heap h1 → TxS w h1 a (more S z) ms1.size → Q true { s with heap := h1 } := fun h1 sb r => by
      have q := told h1 sb
      rw [no] at q
      rw [many1] at r
      exact q r
    refine wpAny_bind (quiet _ _ _ ?_)
    split
    · refine wpAny_bind ?_
      rw [hashByValue_scannable 8 scan]
      refine wpAny_pure (txs_tail quiet at_a exact_ dat good1 once1 mem1 few1 ?_ ?_ ?_ fun h1 sb r => ?_)
      · first | exact fit1 | (split <;> first | exact fit1 | exact SetTable.fits_plain_off fit1)
      · first | exact ris1 | (split <;> exact ris1)
      · first | exact ledd | (split <;> exact ledd)
      · dsimp only
        exact wpAny_pure (fin h1 sb r)
    · apply wpAny_bind
      apply wpAny_pure
      simp only [↓reduceIte]
      refine txs_tail quiet at_a exact_ dat good1 once1 mem1 few1 fit1 ris1 ledd fun h1 sb r => ?_
      dsimp only
      exact wpAny_pure (fin h1 sb r)
theorem TxS.typeIs (R : TxS w s.heap a S n) : s.TypeIs (.ref a) "set" :=
  let ⟨ob, _, _, _, at_a, exact_, _⟩ := R
  ⟨ob, at_a, exact_.1⟩
/-- a.add(z) -/
theorem txs_add {z : Str} {tk : Tok} {Q : Value → Shared → Prop} (R : TxS w s.heap a S n) (room : n + 1 < scanBound)
    (told : ∀ h1, Heap.SameBut a s.heap h1 → TxS w h1 a (more S z) (if S z = true then n else n + 1) → Q .none { s with heap := h1, toks := s.toks + 1 }) :
    wpAny (model P w) A (call (.builtin "set.add") [.ref a, .str z tk]) Q E s := by
  refine wpAny_call_entry F.slot_set_add R.typeIs F.entry_set_add ?_ (F.args_set_add_2 _ _)
  unfold Builtin.«set.add»
  unfold Builtin.Frozenset.oneOther
  simp only [bind_assoc, List.isEmpty_nil]
  unfold Builtin.Frozenset.addrOf; unfold setAdd
  apply wpAny_bind
  apply wpAny_pure
  try dsimp only
  apply wpAny_bind
  apply wpAny_pure
  try dsimp only
  refine wpAny_bind (wpAny_holding (wpAny_bind ((mixKind P w).pyHash (mixKind_str P w z tk) ?_)))
  refine txs_hashed (s := { s with toks := s.toks + 1 }) R room fun h1 sb r => ?_
  change wpAny _ _ (ret Value.none) _ _ _
  exact wpAny_pure ⟨_, rfl, told h1 sb r⟩
end
theorem txs_fresh {h : Heap} (w : World) : TxS w (h.push { cls := .type "set", dict := none, data := .set #[] 0 (.fresh 0 0 (!w.params.followText "set-order")) }) h.objs.size (fun _ => false) 0 := by
  have order : w.params.followText "set-order" = true ∨ (SetTable.fresh 0 0 (!w.params.followText "set-order")).led = true := by
    rcases Bool.eq_false_or_eq_true (w.params.followText "set-order") with q | q
    · exact .inl q
    · refine .inr ?_
      rw [q]
      rfl
  exact ⟨_, #[], 0, _, Heap.get?_push_size _ rfl, ⟨rfl, rfl, rfl⟩, rfl, fun e he => (by simp at he), by simp, fun k => (by simp), by decide, by rfl, rfl, List.Pairwise.nil, order⟩
/-- the set of texts at a -/
def TxO (w : World) (a : Addr) (S : Str → Bool) (n : Nat) : HO := .ext fun h => TxS w h a S n
theorem txO_new {w : World} {P : Program} {H : Hp} {h : Heap} {a : Addr} {S : Str → Bool} {n : Nat} (R : TxS w h a S n) : ObjOk P w H h a (TxO w a S n) :=
  ⟨R, let ⟨ob, _, _, _, at_a, _⟩ := R; ⟨ob, at_a⟩, fun h1 h2 p k => TxS.stays p k⟩
section
variable {X : Cx} {pins : List (Addr × Obj)} {σ : L2.St} {H : Hp} {s : Shared} {E : Value → Shared → Prop} {D : Addr} {S : Str → Bool} {n : Nat} {Q : Value → Shared → Prop}
theorem txO_get (I : Inv X pins σ H s) (there : H D = some (TxO X.w D S n)) : TxS X.w s.heap D S n := (I.hok D _ there).1
theorem txO_add {z : Str} {tk : Tok} (I : Inv X pins σ H s) (there : H D = some (TxO X.w D S n)) (room : n + 1 < scanBound)
    (told : ∀ s1, Inv X pins σ (upd H D (TxO X.w D (more S z) (if S z = true then n else n + 1))) s1 → Q .none s1) : wpAny (model X.prog X.w) X.A (call (.builtin "set.add") [.ref D, .str z tk]) Q E s := by
  refine txs_add (txO_get I there) room fun h1 sb new => told _ (I.write (e := D) (t' := s.toks + 1) (by rw [there]; trivial) (.inl rfl) (fun b u hb hu => (sb.2 b hb).trans hu) ?_ (txO_new new))
  have ⟨ob, _, _, _, at_a, _⟩ := new
  exact ⟨ob, at_a⟩
end
end Tg

set_option maxHeartbeats 2000000
namespace Tg
open PySem PySem.Spec PyProof.Rows L2 PpSet
/-! ### sorted of a set of texts -/
/-- just the n texts of S, in order -/
structure InOrder (S : Str → Bool) (n : Nat) (ys : List Str) : Prop where
  up : sortedS ys = true
  once : ys.Nodup
  mem : ∀ z, z ∈ ys ↔ S z = true
  many : ys.length = n
theorem strs_own : ∀ (vs : List Value), (∀ v ∈ vs, ∃ z t, v = Value.str z t) → StrsAre vs (vs.map fun v => txOf (0, v))
  | [], _ => .nil
  | v :: vs, h => by
    obtain ⟨z, t, rfl⟩ := h v (.head _)
    exact .cons z t (strs_own vs fun u hu => h u (.tail _ hu))
theorem members_out {w : World} {ms : Array (Int × Value)} {vs : List Value} (good : ∀ e ∈ ms.toList, TxE w e) (pm : vs.Perm (ms.toList.map (·.2))) :
    StrsAre vs (vs.map fun v => txOf (0, v)) ∧ (vs.map fun v => txOf (0, v)).Perm (ms.toList.map txOf) := by
  refine ⟨strs_own vs fun v hv => ?_, ?_⟩
  · obtain ⟨e, he, rfl⟩ := List.mem_map.mp (pm.mem_iff.mp hv)
    obtain ⟨z, t, q, _⟩ := good e he
    exact ⟨z, t, q⟩
  · have q := pm.map fun v => txOf (0, v)
    rw [List.map_map] at q
    exact q
section
variable {P : Program} {w : World} {A : Around} {s : Shared} {E : Value → Shared → Prop} {a : Addr}
theorem sorted_txs {S : Str → Bool} {n : Nat} {Q : Value → Shared → Prop} (R : TxS w s.heap a S n) (free : A.handled = none) (few : n ≤ sizeLine)
    (told : ∀ s' p (out : List Value) (c : Nat) (ys : List Str), (∀ b o, s.heap.get? b = some o → s'.heap.get? b = some o) → s'.gens = s.gens → s'.os = s.os → s.heap.objs.size ≤ p →
      s'.heap.get? p = some (seqObj "list" out.toArray c) → StrsAre out ys → InOrder S n ys → Q (.ref p) s') : wpAny (model P w) A (call (.builtin "sorted") [.ref a]) Q E s := by
  have ⟨ob, ms, ep, tb, at_a, exact_, dat, good, once, mem, bound, fits, count, ris, led⟩ := R
  apply Calls.call_function_entry kind_sorted plain_sorted entry_sorted (args_sorted1 _)
  unfold Builtin.«sorted»
  apply wpAny_bind
  apply wpAny_pure
  apply wpAny_bind
  apply collect_set (A := A.in1) free ⟨ob, at_a, exact_.1, dat⟩ fits bound ris led
  intro s1 vs kept grown gens1 os1 pm
  obtain ⟨are, perm⟩ := members_out good pm
  have many : vs.length = n := by
    have := pm.length_eq
    rw [List.length_map] at this
    exact this.trans (Array.length_toList.trans count)
  have room : vs.length ≤ sizeLine := many ▸ few
  have at_l := Heap.get?_push_size s1.heap (o := seqObj "list" vs.toArray 0) rfl
  apply wpAny_bind
  refine wpAny_newList (hsz := room) (wpAny_bind (wpAny_holding (wpAny_call_entry slot_list_sort ⟨_, at_l, rfl⟩ entry_list_sort ?_ (args_list_sort _))))
  refine list_sort_treeKAny strKind_oneLt at_l are.keysOf (fun v1 v2 rest e => keyKind_strs (by rw [← e]; exact are)) room fun st hp hs => ⟨_, rfl, ?_⟩
  obtain ⟨ys, g1, g2, g3⟩ := sorted_out_str are hp hs
  have pn := g2.trans perm
  have ⟨c, hc⟩ := sortedHeap_at (vs := vs) (out := (arrOf st).map (·.2)) at_l
  refine wpAny_pure ⟨_, rfl, told _ s1.heap.objs.size _ c ys (fun b u e => ?_) gens1 os1 grown (by rw [Array.toArray_toList]; exact hc) g1 ⟨g3, pn.nodup_iff.mpr once, fun k => pn.mem_iff.trans (mem k).symm, ?_⟩⟩
  · have lt := Heap.lt_size (kept b u e)
    exact (sortedHeap_old (Nat.ne_of_lt lt) (size_push' s1.heap _ ▸ Nat.lt_succ_of_lt lt)).trans (Heap.get?_push_of_some _ (kept b u e))
  · rw [pn.length_eq, List.length_map]
    exact Array.length_toList.trans count
end
def rSortedTx (w : World) : List V → Hp → VK → Prop := fun vs H Q => ∃ (a : Addr) (S : Str → Bool) (n : Nat), vs = [V.ref a] ∧ H a = some (TxO w a S n) ∧ n ≤ sizeLine ∧
  ∀ ys p, InOrder S n ys → H p = none → Q (.ref p) (upd H p (.lst (ys.map V.str)))
theorem cr_sortedTx {X : Cx} (calm : X.calm = true) : CallR X (.builtin "sorted") (rSortedTx X.w) := by
  rintro pins s σ H vs us Q I rel ⟨a, S, n, rfl, ha, few, q⟩
  rw [Vals.ref1 rel]
  refine sorted_txs (txO_get I ha) (I.ok.hd calm) few fun s' p out c ys k g o hp hg hi up => ?_
  have len : (ys.map V.str).length ≤ sizeLine := by
    rw [List.length_map, up.many]
    exact few
  have new := I.hok.fresh hp
  have J := I.call' (s' := s') (ch := []) (H' := upd H p (.lst (ys.map V.str))) o (Un.laid k hp new) (I.hok.laid k hp ⟨len, out, c, vals_of_strs hi, hg⟩) (g.symm ▸ I.bare) (fun _ z => nomatch z)
  exact ⟨.ref p, _, J, rfl, q ys p up new⟩
end Tg

namespace Tg
open PySem PySem.Spec PyProof.Rows L2
/-! ### just one list has the texts of a set in order -/
theorem txt_ext {x y : Str} (h : x.cps.toList = y.cps.toList) : x = y := by
  obtain ⟨a⟩ := x
  obtain ⟨b⟩ := y
  congr 1
  exact Array.toList_inj.mp h
theorem up_pairs : ∀ (p : Str) (l : List Str), risingS p l = true → (p :: l).Pairwise (fun a b => a.cps.toList ≤ b.cps.toList)
  | p, [], _ => List.pairwise_singleton _ _
  | p, x :: r, h => by
    have h' : (!ltCps x.cps.toList p.cps.toList && risingS x r) = true := h
    rw [Bool.and_eq_true, Bool.not_eq_true', ltCps_eq, decide_eq_false_iff_not] at h'
    have rest := up_pairs x r h'.2
    have first : p.cps.toList ≤ x.cps.toList := h'.1
    refine List.pairwise_cons.mpr ⟨fun y hy => ?_, rest⟩
    obtain rfl | hy := List.mem_cons.mp hy
    · exact first
    · exact List.le_trans first ((List.pairwise_cons.mp rest).1 y hy)
theorem sortedS_pairs {l : List Str} (h : sortedS l = true) : l.Pairwise (fun a b => a.cps.toList ≤ b.cps.toList) := by
  cases l with
  | nil => exact .nil
  | cons x r => exact up_pairs x r h
theorem one_up : ∀ {a b : List Str}, a.Nodup → b.Nodup → (∀ z, z ∈ a ↔ z ∈ b) → a.Pairwise (fun x y => x.cps.toList ≤ y.cps.toList) → b.Pairwise (fun x y => x.cps.toList ≤ y.cps.toList) → a = b
  | [], [], na, nb, m, sa, sb => rfl
  | [], q :: _, _, _, m, _, _ => nomatch (m q).mpr (.head _)
  | p :: _, [], _, _, m, _, _ => nomatch (m p).mp (.head _)
  | p :: a, q :: b, na, nb, m, sa, sb => by
    have e : p = q := by
      rcases List.mem_cons.mp ((m p).mp (.head _)) with e | m1
      · exact e
      · rcases List.mem_cons.mp ((m q).mpr (.head _)) with e | m2
        · exact e.symm
        · exact txt_ext (List.le_antisymm ((List.pairwise_cons.mp sa).1 q m2) ((List.pairwise_cons.mp sb).1 p m1))
    subst e
    have a1 := List.nodup_cons.mp na
    have b1 := List.nodup_cons.mp nb
    rw [one_up a1.2 b1.2 (fun z => ⟨fun hz => (List.mem_cons.mp ((m z).mp (.tail _ hz))).resolve_left fun e => a1.1 (by rw [← e]; exact hz), fun hz => (List.mem_cons.mp ((m z).mpr (.tail _ hz))).resolve_left fun e => b1.1 (by rw [← e]; exact hz)⟩) (List.pairwise_cons.mp sa).2 (List.pairwise_cons.mp sb).2]
theorem InOrder.one {S S' : Str → Bool} {n n' : Nat} {ys zs : List Str} (a : InOrder S n ys) (b : InOrder S' n' zs) (e : ∀ z, S z = true ↔ S' z = true) : ys = zs :=
  one_up a.once b.once (fun z => (a.mem z).trans ((e z).trans (b.mem z).symm)) (sortedS_pairs a.up) (sortedS_pairs b.up)
end Tg

namespace Tg
open PySem PySem.Spec PyProof.Rows L2
/-! ### dicts compared, their values data -/
def DpK (K : PySem.W.Frag) (H : Hp) (kvs : List (Key × V)) (ds : List (Key × PyData)) : Prop := Paired (fun (p : Key × V) (q : Key × PyData) => p.1 = q.1 ∧ Dp K H p.2 q.2 ∧ SeqAt.shaped q.2 = true) kvs ds
def findD (ds : List (Key × PyData)) (k : Key) : Option PyData := (ds.find? fun p => decide (p.1 = k)).map (·.2)
def hitsD (da db : List (Key × PyData)) : Bool := da.all fun p => match findD db p.1 with
  | none => false
  | some e => PyData.eqv p.2 e
def eqvK (da db : List (Key × PyData)) : Bool := da.length == db.length && hitsD da db
section
variable {H : Hp} {X : Cx} {s : Shared} {σ : L2.St} {pins : List (Addr × Obj)}
theorem find_both {k : Key} : ∀ {kb : List (Key × V)} {db : List (Key × PyData)} {vb : List (Key × Value)}, DpK X.K H kb db → KV kb vb →
    (valueAt vb k = none ∧ findD db k = none) ∨ ∃ y u e, valueAt vb k = some u ∧ findD db k = some e ∧ RelV y u ∧ Dp X.K H y e ∧ SeqAt.shaped e = true
  | _, _, _, .nil, .nil => .inl ⟨rfl, rfl⟩
  | p :: kb, q :: db, v :: vb, .cons ⟨e1, d1, s1⟩ t1, .cons ⟨e2, r2⟩ t2 => by
    have ih := find_both (k := k) t1 t2
    unfold valueAt findD at ih ⊢
    rw [List.find?_cons, List.find?_cons]
    by_cases h : v.1 = k
    · rw [decide_eq_true h, decide_eq_true (e1.symm.trans (e2.trans h))]
      exact .inr ⟨p.2, v.2, q.2, rfl, rfl, r2, d1, s1⟩
    · rw [decide_eq_false h, decide_eq_false (fun z => h (e2.symm.trans (e1.trans z)))]
      exact ih
theorem hits_of {A : Around} (hu : A.in1.units + 64 < cLine) (I : Inv X pins σ H s) {kb : List (Key × V)} {db : List (Key × PyData)} {vb : List (Key × Value)} (pb : DpK X.K H kb db) (rb : KV kb vb) :
    ∀ {ka : List (Key × V)} {da : List (Key × PyData)} {va : List (Key × Value)}, DpK X.K H ka da → KV ka va → PySem.W.KeqHits A.in1 s vb va (hitsD da db)
  | _, _, _, .nil, .nil => .nil
  | p :: ka, q :: da, v :: va, .cons ⟨e1, d1, s1⟩ t1, .cons ⟨e2, r2⟩ t2 => by
    have ih := hits_of hu I pb rb t1 t2
    obtain ⟨k, u⟩ := v
    have ek : k = q.1 := e2.symm.trans e1
    subst ek
    rcases find_both (X := X) (k := q.1) pb rb with ⟨n1, n2⟩ | ⟨y, z, e, f1, f2, ry, dy, sy⟩
    · have eh : hitsD (q :: da) db = false := by
        unfold hitsD
        rw [List.all_cons, n2]
        rfl
      rw [eh]
      exact .miss n1
    · have eh : hitsD (q :: da) db = (PyData.eqv q.2 e && hitsD da db) := by
        unfold hitsD
        rw [List.all_cons, f2]
      rw [eh]
      obtain ⟨as, ra⟩ := Dp.reads I q.2 p.2 u d1 r2
      obtain ⟨bs, rz⟩ := Dp.reads I e y z dy ry
      exact .hit f1 (PySem.W.keq_at ra rz s1 sy hu) ih
def rEqK (K : PySem.W.Frag) (neg : Bool) : R2 := fun x y H Q => ∃ (a b : Addr) (ka kb : List (Key × V)) (da db : List (Key × PyData)), x = .ref a ∧ y = .ref b ∧ H a = some (.dK ka) ∧ H b = some (.dK kb) ∧ DpK K H ka da ∧ DpK K H kb db ∧ Q (.bl (if neg = true then !eqvK da db else eqvK da db)) H
theorem sizes_of {K : PySem.W.Frag} {ka : List (Key × V)} {da : List (Key × PyData)} {va : List (Key × Value)} (p : DpK K H ka da) (r : KV ka va) : va.length = da.length := (Paired.length r).symm.trans (Paired.length p)
theorem op_eqK (hu : X.A.units + 65 < cLine) : OpR X (compareOp .Eq) (rEqK X.K false) := by
  rintro pins s σ H x y v u Q I rx ry ⟨a, b, ka, kb, da, db, rfl, rfl, ha, hb, pa, pb, q⟩
  cases rx
  cases ry
  obtain ⟨_, la, va, ra, oa⟩ := (show ObjOk X.prog X.w H s.heap a (.dK ka) from I.hok a _ ha)
  obtain ⟨_, lb, vb, rb, ob⟩ := (show ObjOk X.prog X.w H s.heap b (.dK kb) from I.hok b _ hb)
  refine PySem.W.keq_eq la lb oa ob (by omega) (fun _ => hits_of (A := X.A) (by show X.A.units + 1 + 64 < cLine; omega) I pb rb pa ra) ?_
  rw [sizes_of pa ra, sizes_of pb rb]
  exact ⟨.bl _, H, I, rfl, q⟩
theorem op_neK (hu : X.A.units + 65 < cLine) : OpR X (compareOp .NotEq) (rEqK X.K true) := by
  rintro pins s σ H x y v u Q I rx ry ⟨a, b, ka, kb, da, db, rfl, rfl, ha, hb, pa, pb, q⟩
  cases rx
  cases ry
  obtain ⟨_, la, va, ra, oa⟩ := (show ObjOk X.prog X.w H s.heap a (.dK ka) from I.hok a _ ha)
  obtain ⟨_, lb, vb, rb, ob⟩ := (show ObjOk X.prog X.w H s.heap b (.dK kb) from I.hok b _ hb)
  refine PySem.W.keq_ne la lb oa ob (by omega) (fun _ => hits_of (A := X.A) (by show X.A.units + 1 + 64 < cLine; omega) I pb rb pa ra) ?_
  rw [sizes_of pa ra, sizes_of pb rb]
  exact ⟨.bl _, H, I, rfl, q⟩
end
end Tg

set_option maxHeartbeats 1000000
namespace Tg
open PySem PySem.Spec PyProof.Rows L2
/-! ### _law_wish_text, _law_wishes_text -/
set_option maxHeartbeats 1000000
set_option maxHeartbeats 1000000
abbrev sQT : Stmt := topS 57
abbrev sQs : Stmt := topS 58
abbrev NQs : List Str := ["_law_wishes_here", "_law_wish_here"]
theorem scQT : FnScope ["_law_wish_here"] ["_law_wish_here"] (defScope sQT) := ⟨rfl, rfl, rfl, by decide +kernel, rfl, by decide +kernel, by decide +kernel⟩
theorem scQs : FnScope NQs ["_law_wishes_here"] (defScope sQs) := ⟨rfl, rfl, rfl, by decide +kernel, rfl, by decide +kernel, by decide +kernel⟩
section
variable {P : Program} {w : World} {K : PySem.W.Frag} {mg : Str → Option Value} {base : Heap}
theorem ok_qt {f : Addr} {fd : FuncData} {k : Nat} (F : Fun K "_law_wish_text" "_law_wish_text" sQT f fd) (m_int : mg "int" = none) : FnOk P w K mg base CX0 (k + 1) f fd ["_law_wish_here"] (spWT K) := by
  refine F.ok scQT (fun vs H Q E h => ?_) (fun cdv A outer s H vs Q E hr h => ?_)
  · obtain ⟨x, y, rfl, _⟩ := h
    rfl
  · obtain ⟨x, y, rfl, hx, hy, q⟩ := h
    have hu := hu_of hr
    have few := few_ok hy
    refine ⟨_, pss_cons (ps_if (pt_cmpR op_eq (pe_ix ix_tup (pv 0) pe_int (fun _ _ => rfl)) pe_str (nomark _))
        (pss_one (ps_ret (pe_op op_add_str (pe_op op_add_str (pe_op op_add_str (pe_ix ix_tup (pv 0) pe_int (fun _ _ => rfl)) pe_str) (pe_bm PySem.F.plainAttrs_str PySem.F.slot_str_join PySem.F.type_str_join mt_join pe_str (pa_cons (pe_ix ix_tup (pv 0) pe_int (fun _ _ => rfl)) pa_nil))) pe_str)))
        pss_nil)
      (pss_cons (ps_if (pt_cmpR op_in_seq (pe_ix ix_tup (pv 0) pe_int (fun _ _ => rfl)) (pe_lst (pa_cons pe_str (pa_cons pe_str pa_nil))) (by with_unfolding_all rfl))
        (pss_one (ps_ret (pe_op op_add_str (pe_op (op_times (c := 33)) pe_str (pe_callTy call_int1 (by rfl) m_int (by decide +kernel) (pa_cons (pe_cmpR op_eq (pe_ix ix_tup (pv 0) pe_int (fun _ _ => rfl)) pe_str (nomark _)) pa_nil))) (pe_ix ix_tup (pv 0) pe_int (fun _ _ => rfl)))))
        pss_nil)
      (pss_one (ps_ret (pe_op op_add_str (pe_op op_add_str (pe_ix ix_tup (pv 0) pe_int (fun _ _ => rfl)) (pe_dget hu (pe_disp (pps_cons pe_str pe_str (pps_cons pe_str pe_str (pps_cons pe_str pe_str pps_nil))) rfl rfl (by decide) (by decide)) (pe_ix ix_tup (pv 0) pe_int (fun _ _ => rfl)) (fun _ _ => rfl))) (pe_ix ix_tup (pv 0) pe_int (fun _ _ => rfl)))))), ?_⟩
    cases y with
    | is a t =>
      obtain ⟨l1, l2⟩ := of_decide_eq_true few
      obtain ⟨z, v, rfl, hz, dv⟩ := dp_three hx
      cases dv
      refine ⟨_, rfl, z, _, _, _, rfl, rfl, hz, rfl, rfl, _, rfl, if_n (by decide +kernel) ?_⟩
      refine ⟨_, rfl, z, _, _, _, rfl, rfl, hz, rfl, by show 2 ≤ sizeLine; decide, fun l nl => ?_⟩
      have s1 := same_new (o := .lst [.str "has", .str "lacks"]) nl
      have hz1 := sqT_same s1 hz
      refine ⟨l, _, rfl, .inl (SqL.of upd_same), rfl, rfl, _, rfl, if_n (by decide +kernel) ?_⟩
      have hl1 : (upd H l (.lst [.str "has", .str "lacks"])) l = some (.lst [.str "has", .str "lacks"]) := upd_same
      generalize upd H l (.lst [.str "has", .str "lacks"]) = H1 at s1 hz1 hl1 ⊢
      refine ⟨_, rfl, z, _, _, _, rfl, rfl, hz1, rfl, fun d nd => ⟨upd_same, signs3, rfl, by decide, ?_⟩⟩
      have s2 : Same H1 (upd (upd H1 d (.dK [])) d (.dK (mergeK [] signs3))) := fun b o e => by
        have nb : b ≠ d := ne_of_none e nd
        rw [upd_ne nb, upd_ne nb]
        exact e
      have hz2 := sqT_same s2 hz1
      have e1 : (Str.ofString "=").length = 1 := rfl
      refine ⟨_, rfl, z, _, _, _, rfl, rfl, hz2, rfl, d, .str "=", rfl, .inl ⟨_, .inr "is", .inl upd_same, rfl, rfl⟩, _, _, rfl, rfl, n100 (by rw [e1]; omega), _, rfl, z, _, _, _, rfl, rfl, hz2, rfl, _, _, rfl, rfl, n100 (by rw [Str.length_append, e1]; omega), q _ (s1.trans s2)⟩
    | isnt a t =>
      obtain ⟨l1, l2⟩ := of_decide_eq_true few
      obtain ⟨z, v, rfl, hz, dv⟩ := dp_three hx
      cases dv
      refine ⟨_, rfl, z, _, _, _, rfl, rfl, hz, rfl, rfl, _, rfl, if_n (by decide +kernel) ?_⟩
      refine ⟨_, rfl, z, _, _, _, rfl, rfl, hz, rfl, by show 2 ≤ sizeLine; decide, fun l nl => ?_⟩
      have s1 := same_new (o := .lst [.str "has", .str "lacks"]) nl
      have hz1 := sqT_same s1 hz
      refine ⟨l, _, rfl, .inl (SqL.of upd_same), rfl, rfl, _, rfl, if_n (by decide +kernel) ?_⟩
      have hl1 : (upd H l (.lst [.str "has", .str "lacks"])) l = some (.lst [.str "has", .str "lacks"]) := upd_same
      generalize upd H l (.lst [.str "has", .str "lacks"]) = H1 at s1 hz1 hl1 ⊢
      refine ⟨_, rfl, z, _, _, _, rfl, rfl, hz1, rfl, fun d nd => ⟨upd_same, signs3, rfl, by decide, ?_⟩⟩
      have s2 : Same H1 (upd (upd H1 d (.dK [])) d (.dK (mergeK [] signs3))) := fun b o e => by
        have nb : b ≠ d := ne_of_none e nd
        rw [upd_ne nb, upd_ne nb]
        exact e
      have hz2 := sqT_same s2 hz1
      have e1 : (Str.ofString "!=").length = 2 := rfl
      refine ⟨_, rfl, z, _, _, _, rfl, rfl, hz2, rfl, d, .str "!=", rfl, .inl ⟨_, .inr "isnt", .inl upd_same, rfl, rfl⟩, _, _, rfl, rfl, n100 (by rw [e1]; omega), _, rfl, z, _, _, _, rfl, rfl, hz2, rfl, _, _, rfl, rfl, n100 (by rw [Str.length_append, e1]; omega), q _ (s1.trans s2)⟩
    | begins a t =>
      obtain ⟨l1, l2⟩ := of_decide_eq_true few
      obtain ⟨z, v, rfl, hz, dv⟩ := dp_three hx
      cases dv
      refine ⟨_, rfl, z, _, _, _, rfl, rfl, hz, rfl, rfl, _, rfl, if_n (by decide +kernel) ?_⟩
      refine ⟨_, rfl, z, _, _, _, rfl, rfl, hz, rfl, by show 2 ≤ sizeLine; decide, fun l nl => ?_⟩
      have s1 := same_new (o := .lst [.str "has", .str "lacks"]) nl
      have hz1 := sqT_same s1 hz
      refine ⟨l, _, rfl, .inl (SqL.of upd_same), rfl, rfl, _, rfl, if_n (by decide +kernel) ?_⟩
      have hl1 : (upd H l (.lst [.str "has", .str "lacks"])) l = some (.lst [.str "has", .str "lacks"]) := upd_same
      generalize upd H l (.lst [.str "has", .str "lacks"]) = H1 at s1 hz1 hl1 ⊢
      refine ⟨_, rfl, z, _, _, _, rfl, rfl, hz1, rfl, fun d nd => ⟨upd_same, signs3, rfl, by decide, ?_⟩⟩
      have s2 : Same H1 (upd (upd H1 d (.dK [])) d (.dK (mergeK [] signs3))) := fun b o e => by
        have nb : b ≠ d := ne_of_none e nd
        rw [upd_ne nb, upd_ne nb]
        exact e
      have hz2 := sqT_same s2 hz1
      have e1 : (Str.ofString "^").length = 1 := rfl
      refine ⟨_, rfl, z, _, _, _, rfl, rfl, hz2, rfl, d, .str "^", rfl, .inl ⟨_, .inr "begins", .inl upd_same, rfl, rfl⟩, _, _, rfl, rfl, n100 (by rw [e1]; omega), _, rfl, z, _, _, _, rfl, rfl, hz2, rfl, _, _, rfl, rfl, n100 (by rw [Str.length_append, e1]; omega), q _ (s1.trans s2)⟩
    | oneof a ts =>
      obtain ⟨l1, l2, l3⟩ := of_decide_eq_true few
      obtain ⟨z, v, rfl, hz, dv⟩ := dp_three hx
      cases dv with
      | tup ht ha =>
        rw [dp_strs ha] at ht
        refine ⟨_, rfl, z, _, _, _, rfl, rfl, hz, rfl, rfl, _, rfl, if_y (by decide +kernel) ?_⟩
        have lj : (Txt.join (Str.ofString "|") ts).length ≤ 30 := by
          have z := StrLaws.join_length_le (Str.ofString "|") ts
          have e1 : Txt.join (Str.ofString "|") ts = Str.join (Str.ofString "|") ts := StrLaws.glued_eq_join _ _
          have e2 : (Str.ofString "|").length = 1 := rfl
          have sm := sum_few l2 l3
          rw [e1]
          rw [e2] at z
          omega
        have sm := sum_few l2 l3
        have e2 : (Str.ofString "=(").length = 2 := rfl
        have e3 : (Str.ofString ")").length = 1 := rfl
        refine ⟨_, rfl, z, _, _, _, rfl, rfl, hz, rfl, _, _, rfl, rfl, n100 (by omega), ?_⟩
        refine ⟨rfl, _, rfl, z, _, _, _, rfl, rfl, hz, rfl, _, _, ts, rfl, rfl, .inr ht, by show _ + ts.length * 1 ≤ _; omega, ?_⟩
        refine ⟨_, _, rfl, rfl, n100 (by rw [Str.length_append]; omega), _, _, rfl, rfl, n100 (by rw [Str.length_append, Str.length_append]; omega), q _ (Same.refl _)⟩
    | has a =>
      have l1 := of_decide_eq_true few
      obtain ⟨z, rfl, hz⟩ := dp_two hx
      refine ⟨_, rfl, z, _, _, _, rfl, rfl, hz, rfl, rfl, _, rfl, if_n (by decide +kernel) ?_⟩
      refine ⟨_, rfl, z, _, _, _, rfl, rfl, hz, rfl, by show 2 ≤ sizeLine; decide, fun l nl => ?_⟩
      have s1 := same_new (o := .lst [.str "has", .str "lacks"]) nl
      have hz1 := sqT_same s1 hz
      refine ⟨l, _, rfl, .inl (SqL.of upd_same), rfl, rfl, _, rfl, if_y (by decide +kernel) ?_⟩
      refine ⟨_, rfl, z, _, _, _, rfl, rfl, hz1, rfl, rfl, .inr ⟨false, rfl, 0, rfl, rfl, by decide, _, rfl, z, _, _, _, rfl, rfl, hz1, rfl, _, _, rfl, rfl, n100 (by show 0 + a.length ≤ 100; omega), ?_⟩⟩
      have e0 : SX.S (List.replicate 0 33) ++ a = a := Str.empty_append a
      rw [e0]
      exact q _ s1
    | lacks a =>
      have l1 := of_decide_eq_true few
      obtain ⟨z, rfl, hz⟩ := dp_two hx
      refine ⟨_, rfl, z, _, _, _, rfl, rfl, hz, rfl, rfl, _, rfl, if_n (by decide +kernel) ?_⟩
      refine ⟨_, rfl, z, _, _, _, rfl, rfl, hz, rfl, by show 2 ≤ sizeLine; decide, fun l nl => ?_⟩
      have s1 := same_new (o := .lst [.str "has", .str "lacks"]) nl
      have hz1 := sqT_same s1 hz
      refine ⟨l, _, rfl, .inl (SqL.of upd_same), rfl, rfl, _, rfl, if_y (by decide +kernel) ?_⟩
      refine ⟨_, rfl, z, _, _, _, rfl, rfl, hz1, rfl, rfl, .inr ⟨true, rfl, 1, rfl, rfl, by decide, _, rfl, z, _, _, _, rfl, rfl, hz1, rfl, _, _, rfl, rfl, n100 (by show 1 + a.length ≤ 100; omega), ?_⟩⟩
      have e0 : SX.S (List.replicate 1 33) = Str.ofString "!" := by decide +kernel
      rw [e0]
      exact q _ s1
end
section
variable {P : Program} {w : World} {K : PySem.W.Frag} {mg : Str → Option Value} {base : Heap}
theorem eq_wnil (ys : List Wx) : PyData.eqv (.list (ys.map Wx.d)) (.list []) = ys.isEmpty := by
  cases ys <;> rfl
theorem wx_form : ∀ {ys : List Wx}, (∀ y, y ∈ ys → y ∈ allW) → PyData.canLayAll0 (ys.map Wx.d) = true ∧ PyData.depthAll (ys.map Wx.d) ≤ 4
  | [], _ => ⟨rfl, Nat.zero_le _⟩
  | y :: ys, h => by
    obtain ⟨z1, z2⟩ := wx_form (ys := ys) fun u hu => h u (List.mem_cons_of_mem _ hu)
    have gw := allW_good (h y List.mem_cons_self)
    unfold gwB at gw
    rw [Bool.and_eq_true, Bool.and_eq_true, Bool.and_eq_true] at gw
    refine ⟨?_, ?_⟩
    · show (PyData.canLay0 y.d && PyData.canLayAll0 (ys.map Wx.d)) = true
      rw [SeqAt.canLay_of_shaped gw.1.1.1, z1]
      rfl
    · have z3 := of_decide_eq_true gw.1.1.2
      simp only [PyData.depthAll, List.map_cons]
      omega
theorem wx_sh {ys : List Wx} (h : ∀ y, y ∈ ys → y ∈ allW) : SeqAt.shaped (.list (ys.map Wx.d)) = true := by
  obtain ⟨z1, z2⟩ := wx_form h
  refine shaped_of z1 ?_
  show PyData.depthAll _ + 1 ≤ 64
  omega
theorem wx_refl_all : (allW.all fun y => PyData.eqv y.d y.d) = true := by decide +kernel
theorem wx_refl : ∀ {ys : List Wx}, (∀ y, y ∈ ys → y ∈ allW) → PyData.eqv (.list (ys.map Wx.d)) (.list (ys.map Wx.d)) = true
  | [], _ => rfl
  | y :: ys, h => by
    have ih := wx_refl (ys := ys) fun u hu => h u (List.mem_cons_of_mem _ hu)
    have e := List.all_eq_true.mp wx_refl_all y (h y List.mem_cons_self)
    show (PyData.eqv y.d y.d && PyData.eqv (.list (ys.map Wx.d)) (.list (ys.map Wx.d))) = true
    rw [e, ih]
    rfl
theorem ok_qs {f : Addr} {fd : FuncData} {k : Nat} (F : Fun K "_law_wishes_text" "_law_wishes_text" sQs f fd) (L_wish_text : Cal P w K mg base k "_law_wish_text" ["_law_wish_here"] (spWT K)) (m_int : mg "int" = none) : FnOk P w K mg base CX0 (k + 1) f fd ["_law_wishes_here"] (spWsT K) := by
  refine F.ok scQs (fun vs H Q E h => ?_) (fun cdv A outer s H vs Q E hr h => ?_)
  · obtain ⟨l, xs, ys, rfl, _⟩ := h
    rfl
  · obtain ⟨l, xs, ys, rfl, hl, ha, g, q⟩ := h
    have hu := hr.units
    refine ⟨_, pss_one (ps_ret (pe_op op_add_str (pe_bm PySem.F.plainAttrs_str PySem.F.slot_str_join PySem.F.type_str_join mt_join pe_str (pa_cons (pe_lc (own := [("_law_wish_here", 1)]) (g := (gName 1)) (tt := tYes) rfl scQs.nd (pi_list (pv 0)) (blkOk_by (own := [("_law_wish_here", 1)]) (N := NQs) (sc := defScope sQs) (by decide +kernel)) (fun _ _ _ _ _ => (pg_name (i := 1) scQs.nd rfl (.inl rfl))) (fun _ _ _ _ _ => pts_nil) (fun _ _ _ _ _ => (pe_cal L_wish_text (hr.mono (by omega)) (by rfl) (pa_cons (pv 1) pa_nil)))) pa_nil)) (pe_op (op_times (c := 42)) pe_str (pe_callTy call_int1 (by rfl) m_int (by decide +kernel) (pa_cons (pe_cmpR (op_eqD hu) (pv 0) (pe_lst pa_nil) (nomark _)) pa_nil))))), ?_⟩
    have lx : xs.length = ys.length := by rw [dpAll_len ha, List.length_map]
    refine ⟨rfl, _, rfl, l, rfl, ⟨_, hl⟩, fun D nD => lc_mapL (xs := xs) ((ys.map Wx.t).map V.str) (by rw [List.length_map, List.length_map, lx]) nD hl (by rw [lx]; exact small1000 (by have := g.few; omega)) (fun i x y Hc Q' hx hy sm q' => ?_) fun H1 s1 hD => ?_⟩
    · rw [List.getElem?_map, List.getElem?_map] at hy
      obtain ⟨d, hd, dx⟩ := dpAll_at ha i x hx
      rw [List.getElem?_map] at hd
      obtain ⟨y0, hy0, rfl⟩ := Option.map_eq_some_iff.mp hd
      rw [hy0] at hy
      cases hy
      exact ⟨rfl, _, rfl, x, y0, rfl, dp_same sm dx, g.ok _ (List.mem_of_getElem? hy0), fun H2 s2 => q' H2 s2⟩
    · refine ⟨_, D, ys.map Wx.t, rfl, rfl, .inl (SqL.of hD), ?_, ?_⟩
      · have z := g.sum
        have f := g.few
        show _ + _ * 1 ≤ _
        rw [List.length_map]
        omega
      · refine ⟨_, rfl, by show 0 ≤ sizeLine; decide, fun e ne => ?_⟩
        have s3 := same_new (o := .lst []) ne
        have s13 := s1.trans s3
        refine ⟨_, _, .lst (s13.seq hl) (dpAll_same s13 ha), .lst (SqL.of upd_same) .nil, wx_sh g.ok, (wx_sh (ys := []) fun _ h => nomatch h), ?_⟩
        have qq := q _ s13
        have jl := g.len
        unfold joinW at jl
        by_cases em : ys = []
        · subst em
          refine .inr ⟨true, rfl, 1, rfl, rfl, by decide, _, _, rfl, rfl, n100 (by decide +kernel), ?_⟩
          have e1 : Txt.join (Str.ofString " ") (([] : List Wx).map Wx.t) ++ SX.S (List.replicate 1 42) = Str.ofString "*" := by decide +kernel
          rw [e1]
          exact qq
        · have ef : PyData.eqv (.list (ys.map Wx.d)) (.list []) = false := by
            rw [eq_wnil]
            cases ys with
            | nil => exact absurd rfl em
            | cons p r => rfl
          refine .inr ⟨false, congrArg (fun b => [V.bl b]) ef, 0, rfl, rfl, by decide, _, _, rfl, rfl, n1000 (by show _ + 0 ≤ _; omega), ?_⟩
          rw [app_empty]
          unfold wsT at qq
          rw [if_neg em] at qq
          exact qq
end
end Tg

namespace Tg
open PySem PySem.Spec PyProof.Rows L2
/-! lines as lists of signs -/
open SX (S)
open TL (numL)
theorem num_S (n : Nat) : Str.ofString (toString ((n : Nat) : Int)) = S (numL n) := by
  rw [← TL.tl_num n]
/-- no number but 0 begins with 0 -/
theorem num_head {n : Nat} (h : 0 < n) : ∃ c r, numL n = c :: r ∧ c ≠ 48 := by
  refine Nat.strongRecOn (motive := fun n => 0 < n → ∃ c r, numL n = c :: r ∧ c ≠ 48) n (fun n ih h => ?_) h
  by_cases lt : n < 10
  · exact ⟨48 + n, [], TL.numL_lt lt, by omega⟩
  · obtain ⟨c, r, e, ne⟩ := ih (n / 10) (by omega) (by omega)
    exact ⟨c, r ++ [48 + n % 10], by rw [TL.numL_step (by omega), e]; rfl, ne⟩
theorem num_len {n k : Nat} (hk : 0 < k) (h : n < 10 ^ k) : (numL n).length ≤ k := TL.numL_len hk h
theorem num_pos (n : Nat) : 0 < (numL n).length := List.length_pos_iff.mpr (TL.numL_ne n)
theorem num_all (n : Nat) : ∀ c, c ∈ numL n → 48 ≤ c ∧ c ≤ 57 := fun c h => TL.numL_digits n c h
theorem yes_b {σ : L2.St} {H : Hp} {Q : Bool → Hp → Prop} (h : Q true H) : tYes σ H Q := h
theorem z3000 {n : Nat} (h : n ≤ 3000) : n ≤ sizeLine := Nat.le_trans h (by decide)
theorem len_S (l : List Nat) : (S l).length = l.length := SX.S_len l
section
variable {P : Program} {w : World} {K : PySem.W.Frag} {mg : Str → Option Value} {base : Heap} {f : Addr} {fd : FuncData} {k : Nat}
end
theorem num12 {n : Nat} (h : n < 10 ^ 17) : (numL n).length ≤ 17 := num_len (by decide) h
abbrev sRF : Stmt := topS 6
abbrev NRF : List Str := ["text", "most", "sign"]
theorem scRF : FnScope NRF ["text", "most"] (defScope sRF) := ⟨rfl, rfl, rfl, by decide +kernel, rfl, by decide +kernel, by decide +kernel⟩
theorem str_ne {a b : Str} (h : a ≠ b) : decide (V.str a = V.str b) = false := decide_eq_false fun z => h (V.str.inj z)
section
variable {P : Program} {w : World} {K : PySem.W.Frag} {mg : Str → Option Value} {base : Heap} {f : Addr} {fd : FuncData} {k : Nat} {CB : Addr}
def spRF : Sp := fun vs H Q _ => ∃ n : Nat, vs = [.str (S (numL n)), .int 40] ∧ n < 10 ^ 17 ∧ ∀ H', Same H H' → Q (.int (n : Int)) H'
theorem ok_rf {t1 : Tok} (F : Fun K "read_figures" "read_figures" sRF f fd) (m_len : mg "len" = none) (m_all : mg "all" = none) (m_int : mg "int" = none) (g_FIGURES : mg "FIGURES" = some (.str "0123456789" t1)) : FnOk P w K mg base CX0 (k + 1) f fd ["text", "most"] spRF := by
  refine F.ok scRF (fun vs H Q E h => ?_) (fun cdv A outer s H vs Q E hr h => ?_)
  · obtain ⟨n, rfl, _⟩ := h
    rfl
  · obtain ⟨n, rfl, n12, q⟩ := h
    refine ⟨_, pss_cons (ps_if (PW.pt (pw_or (pt_not (pt_chain op_lt op_le pe_int (pe_callB call_len_str (by rfl) m_len PySem.boot_len (pa_cons (pv 0) pa_nil)) (pv 1)))
        (pw_or1 (pt_not (pt_val (pe_callB (cr_all rfl) (by rfl) m_all PyProof.Rows.boot_all (pa_cons (pe_lc (own := [("sign", 2)]) (g := gName 2) (tt := tYes) rfl scRF.nd (pi_str (pv 0)) (blkOk_by (N := NRF) (sc := defScope sRF) (by decide +kernel))
          (fun _ _ _ _ _ => pg_name (i := 2) scRF.nd rfl (Or.inl rfl)) (fun _ _ _ _ _ => pts_nil) (fun _ _ _ _ _ => pe_cmpR op_in_sign (pv 2) (pe_glob (v := .str "0123456789") (by rfl) g_FIGURES ⟨_, rfl⟩) (by with_unfolding_all rfl))) pa_nil)))))))
        (pss_one (ps_ret pe_non)) pss_nil)
      (pss_cons (ps_if (PW.pt (pw_and (pt_cmpR op_eq (pe_ix ix_str (pv 0) pe_int (fun _ _ => rfl)) pe_str (nomark _)) (pw_and1 (pt_cmpR op_ne (pv 0) pe_str (nomark _)))))
        (pss_one (ps_ret pe_non)) pss_nil)
      (pss_one (ps_ret (pe_callTy call_int_str (by rfl) m_int (by decide +kernel) (pa_cons (pv 0) pa_nil))))), ?_⟩
    have h1 := num12 n12
    have h0 := num_pos n
    have sz : (S (numL n)).cps.size = (numL n).length := by simp
    have small : (S (numL n)).length ≤ sizeLine := by
      rw [len_S]
      exact z3000 (by omega)
    have ln := len_S (numL n)
    refine ⟨_, rfl, S (numL n), rfl, small, 0, _, rfl, rfl, true, congrArg V.bl (decide_eq_true (by rw [ln]; omega)), if_t ⟨_, rfl, _, 40, rfl, rfl, true, congrArg V.bl (decide_eq_true (by rw [ln]; omega)), if_f ?_⟩⟩
    refine ⟨_, rfl, S (numL n), rfl, fun D nD => lc_it walk_str (fun j Hc => Same H Hc ∧ Hc D = some (.lst ((List.replicate j true).map V.bl))) ⟨same_new nD, upd_same⟩ (fun _ _ _ _ => trivial) ?_ ?_⟩
    · rintro j v Hp0 Hc hj ⟨sc, hD⟩ ⟨rfl, c, ec, rfl⟩
      have ec' : (numL n)[j]? = some c := by
        rw [← Array.getElem?_toList] at ec
        exact ec
      have jl : j < (numL n).length := (List.getElem?_eq_some_iff.mp ec').1
      obtain ⟨c0, c1⟩ := num_all n c (List.mem_of_getElem? ec')
      have dig : decide (c ∈ (Str.ofString "0123456789").cps.toList) = true := decide_eq_true (by
        have e : (Str.ofString "0123456789").cps.toList = [48, 49, 50, 51, 52, 53, 54, 55, 56, 57] := by decide +kernel
        rw [e]
        simp only [List.mem_cons, List.not_mem_nil, or_false]
        omega)
      refine ⟨rfl, yes_b (if_t ?_)⟩
      refine ⟨_, rfl, c, _, rfl, rfl, _, hD, ?_, same_put nD sc, ?_⟩
      · rw [List.length_map, List.length_replicate]
        exact small1000 (by omega)
      · rw [upd_same, dig, List.replicate_succ', List.map_append]
        rfl
    · rintro H2 ⟨s2, hD⟩
      refine ⟨D, _, rfl, SqL.of hD, true, congrArg V.bl (by simp), if_f ?_⟩
      have fin : Q (.int (n : Int)) H2 := q H2 s2
      have last : ∀ Hx, Hx = H2 → (∃ a n', ([V.str (S (numL n))] : List V) = [.str a] ∧ PySem.intText? a = some n' ∧ a.length ≤ 640 ∧ Q (.int n') Hx) := fun Hx e => by
        subst e
        refine ⟨S (numL n), (n : Int), rfl, ?_, by rw [ln]; omega, fin⟩
        rw [← num_S]
        exact TL.int_num (by omega)
      by_cases z : n = 0
      · subst z
        refine ⟨_, rfl, S (numL 0), 0, 48, rfl, rfl, small, rfl, rfl, true, congrArg V.bl (decide_eq_true rfl), if_t ?_⟩
        exact ⟨_, rfl, rfl, false, congrArg V.bl (by have e : decide (V.str (S [48]) = V.str (Str.ofString "0")) = true := decide_eq_true rfl; show (!decide (V.str (S [48]) = V.str (Str.ofString "0"))) = false; rw [e]; rfl), if_f ⟨_, rfl, last H2 rfl⟩⟩
      · obtain ⟨c, r, e, ne⟩ := num_head (n := n) (by omega)
        have at0 : atI (S (numL n)).cps.toList 0 = some c := by
          show atI (numL n) 0 = some c
          rw [e]
          show atI (c :: r) ((0 : Nat) : Int) = some c
          exact atI_nat rfl
        refine ⟨_, rfl, S (numL n), 0, c, rfl, rfl, small, at0, rfl, false, congrArg V.bl (str_ne fun z => ne ?_), if_f ⟨_, rfl, last H2 rfl⟩⟩
        have z' : S [c] = S [48] := z
        exact (List.cons.inj (SX.S_inj z')).1
end
end Tg

/-! parts of texts as lists of signs -/
namespace Tg
open PySem PySem.Spec PyProof.Rows L2
open SX (S)
/-- a part of a list of signs -/
def cutL (l : List Nat) (lo hi : Option Int) : List Nat := (l.drop (HT.sIx l.length 0 lo)).take (HT.sIx l.length l.length hi - HT.sIx l.length 0 lo)
theorem cutS_L (l : List Nat) (lo hi : Option Int) : cutS (S l) lo hi = S (cutL l lo hi) := by
  unfold cutS cutL
  rw [SX.S_len]
theorem cutL_from (l : List Nat) (m : Nat) : cutL l (some (m : Int)) none = l.drop m := by
  unfold cutL
  rw [HT.sIx_nat]
  show (l.drop (min m l.length)).take (l.length - min m l.length) = _
  by_cases h : m ≤ l.length
  · rw [Nat.min_eq_left h, List.take_of_length_le (by rw [List.length_drop]; omega)]
  · rw [Nat.min_eq_right (by omega), List.drop_of_length_le (by omega : l.length ≤ m), List.drop_length, List.take_nil]
end Tg

set_option maxHeartbeats 1000000
namespace Tg
open PySem PySem.Spec PyProof.Rows L2
/-! ### whole numbers and stretches, written and read -/
set_option maxHeartbeats 1000000
open SX (S)
open TL (numL)
abbrev sRWh : Stmt := topS 7
abbrev sWh : Stmt := topS 33
theorem scRW_ : FnScope ["text", "most", "number"] ["text", "most"] (defScope sRWh) := ⟨rfl, rfl, rfl, by decide +kernel, rfl, by decide +kernel, by decide +kernel⟩
theorem scWh : FnScope ["text"] ["text"] (defScope sWh) := ⟨rfl, rfl, rfl, by decide +kernel, rfl, by decide +kernel, by decide +kernel⟩
/-- the text of a whole number -/
def nT (i : Int) : Str := Str.ofString (toString i)
theorem str_app (a b : String) : Str.ofString (a ++ b) = Str.ofString a ++ Str.ofString b := by
  rw [Str.ofString_eq_toList, Str.ofString_eq_toList, Str.ofString_eq_toList]
  refine TL.ext_tl ?_
  rw [TL.tl_append]
  show ((a ++ b).toList.map Char.toNat) = (a.toList.map Char.toNat) ++ (b.toList.map Char.toNat)
  rw [String.toList_append, List.map_append]
theorem nT_pos (n : Nat) : nT (n : Int) = S (numL n) := num_S n
theorem nT_neg (m : Nat) : nT (Int.negSucc m) = Str.ofString "-" ++ S (numL (m + 1)) := by
  have e : toString (Int.negSucc m) = "-" ++ toString (((m + 1 : Nat)) : Int) := rfl
  unfold nT
  rw [e, str_app]
  rw [num_S]
theorem pos_dash (n : Nat) : Txt.startswith (S (numL n)) (Str.ofString "-") = false := by
  unfold Txt.startswith
  rw [StrLaws.subAt_eq]
  cases e : numL n with
  | nil => exact absurd e (TL.numL_ne n)
  | cons c r =>
    have hc := num_all n c (by rw [e]; exact List.mem_cons_self)
    have z : ((S (c :: r)).cps.toList.drop 0).take (Str.ofString "-").length = [c] := by
      show ((c :: r).drop 0).take 1 = [c]
      rfl
    rw [z]
    have z2 : ([c] == (Str.ofString "-").cps.toList) = false := by
      have e2 : (Str.ofString "-").cps.toList = [45] := by decide +kernel
      rw [e2]
      exact beq_eq_false_iff_ne.mpr fun y => by
        have := (List.cons.inj y).1
        omega
    rw [z2, Bool.and_false]
theorem neg_dash (m : Nat) : Txt.startswith (Str.ofString "-" ++ S (numL (m + 1))) (Str.ofString "-") = true := PySem.W.KT.starts_app _ _
theorem neg_rest (m : Nat) : cutS (Str.ofString "-" ++ S (numL (m + 1))) (some 1) none = S (numL (m + 1)) := by
  have e : Str.ofString "-" ++ S (numL (m + 1)) = S (45 :: numL (m + 1)) := TL.ext_tl (by
    rw [TL.tl_append]
    have e2 : TL.tl (Str.ofString "-") = [45] := by decide +kernel
    rw [e2]
    rfl)
  rw [e, cutS_L]
  have z := cutL_from (45 :: numL (m + 1)) 1
  exact congrArg S z
def spWh : Sp := fun vs H Q _ => ∃ i : Int, vs = [.str (nT i)] ∧ i.natAbs < 10 ^ 17 ∧ ∀ H', Same H H' → Q (.int i) H'
def spRWh : Sp := fun vs H Q _ => ∃ i : Int, vs = [.str (nT i), .int 40] ∧ i.natAbs < 10 ^ 17 ∧ ∀ H', Same H H' → Q (.int i) H'
theorem nT_le {i : Int} (h : i.natAbs < 10 ^ 17) : (nT i).length ≤ 18 := by
  cases i with
  | ofNat n =>
    have z := num12 (n := n) (by simpa using h)
    show (nT (n : Int)).length ≤ 18
    rw [nT_pos, len_S]
    omega
  | negSucc m =>
    have z := num12 (n := m + 1) (by simpa using h)
    have e : (Str.ofString "-").length = 1 := rfl
    rw [nT_neg, Str.length_append, e, len_S]
    omega
section
variable {P : Program} {w : World} {K : PySem.W.Frag} {mg : Str → Option Value} {base : Heap} {t1 : Tok}
theorem ok_rwh {f : Addr} {fd : FuncData} {k : Nat} (F : Fun K "read_whole" "read_whole" sRWh f fd) (C_read_figures : Cal P w K mg base k "read_figures" ["text", "most"] spRF) : FnOk P w K mg base CX0 (k + 1) f fd ["text", "most"] spRWh := by
  refine F.ok scRW_ (fun vs H Q E h => ?_) (fun cdv A outer s H vs Q E hr h => ?_)
  · obtain ⟨i, rfl, _⟩ := h
    rfl
  · obtain ⟨i, rfl, h17, q⟩ := h
    refine ⟨_, pss_cons (ps_if (pt_not (pt_val (pe_bm PySem.F.plainAttrs_str PySem.F.slot_str_startswith PySem.F.type_str_startswith mt_startswith (pv 0) (pa_cons pe_str pa_nil))))
        (pss_one (ps_ret (pe_cal C_read_figures (hr.mono (by omega)) (by rfl) (pa_cons (pv 0) (pa_cons (pv 1) pa_nil)))))
        pss_nil)
      (pss_cons (ps_set (i := 2) scRW_.nd rfl (.inl rfl) (pe_cal C_read_figures (hr.mono (by omega)) (by rfl) (pa_cons (pe_slice sl_str (pv 0) (po_some pe_int) po_none) (pa_cons (pv 1) pa_nil))))
      (pss_one (ps_ret (pe_ifExp (pt_truth (pv 2) (fun _ => rfl)) (pe_un un_neg (pv 2)) pe_non)))), ?_⟩
    cases i with
    | ofNat n =>
      have e := nT_pos n
      refine ⟨_, rfl, rfl, _, _, rfl, rfl, _, rfl, if_y (by show (!Txt.startswith (nT (n : Int)) _) = true; rw [e, pos_dash]; rfl) ?_⟩
      refine ⟨_, rfl, _, rfl, n, congrArg (fun z => [V.str z, V.int 40]) e, by simpa using h17, fun H' s' => q H' s'⟩
    | negSucc m =>
      have e := nT_neg m
      refine ⟨_, rfl, rfl, _, _, rfl, rfl, _, rfl, if_n (by show (!Txt.startswith (nT (Int.negSucc m)) _) = false; rw [e, neg_dash]; rfl) ?_⟩
      have hc : cutS (nT (Int.negSucc m)) (some 1) none = S (numL (m + 1)) := by rw [e, neg_rest]
      refine ⟨_, rfl, 1, rfl, nT (Int.negSucc m), rfl, n100 (by have := nT_le h17; omega), ?_⟩
      rw [hc]
      refine ⟨_, rfl, m + 1, rfl, by simpa using h17, fun H' s' => ?_⟩
      refine ⟨_, rfl, true, ?_, if_y rfl ⟨_, rfl, m + 1, rfl, ?_⟩⟩
      · show true = (((m + 1 : Nat) : Int) != 0)
        symm
        rw [bne_iff_ne]
        omega
      · exact q H' s'
theorem ok_wh {f : Addr} {fd : FuncData} {k : Nat} (F : Fun K "whole_of" "whole_of" sWh f fd) (C_read_whole : Cal P w K mg base k "read_whole" ["text", "most"] spRWh) (g_MOST_FIGURES : mg "MOST_FIGURES" = some (.int 40 t1)) : FnOk P w K mg base CX0 (k + 1) f fd ["text"] spWh := by
  refine F.ok scWh (fun vs H Q E h => ?_) (fun cdv A outer s H vs Q E hr h => ?_)
  · obtain ⟨i, rfl, _⟩ := h
    rfl
  · obtain ⟨i, rfl, h17, q⟩ := h
    refine ⟨_, pss_one (ps_ret (pe_cal C_read_whole (hr.mono (by omega)) (by rfl) (pa_cons (pv 0) (pa_cons (pe_glob (v := .int 40) rfl g_MOST_FIGURES ⟨_, rfl⟩) pa_nil)))), ?_⟩
    exact ⟨_, rfl, i, rfl, h17, q⟩
theorem log17 {i : Int} (h : i.natAbs < 10 ^ 17) : i.natAbs.log2 < 1920 := by
  by_cases z : i.natAbs = 0
  · rw [z]
    decide
  · exact (Nat.log2_lt z).mpr (Nat.lt_trans h (by decide))
theorem nT_dot (i : Int) : 46 ∉ TL.tl (nT i) := by
  cases i with
  | ofNat n =>
    show 46 ∉ TL.tl (nT (n : Int))
    rw [nT_pos]
    exact TL.numL_free (.inl (by omega))
  | negSucc m =>
    rw [nT_neg, TL.tl_append]
    intro h
    obtain h | h := List.mem_append.mp h
    · exact absurd h (by decide +kernel)
    · exact TL.numL_free (n := m + 1) (s := 46) (.inl (by omega)) h
end
end Tg

namespace Tg
open PySem PySem.Spec PyProof.Rows L2
abbrev sGc : Stmt := topS 8
abbrev sLo : Stmt := topS 11
theorem scGc : FnScope ["one", "two"] ["one", "two"] (defScope sGc) := ⟨rfl, rfl, rfl, by decide +kernel, rfl, by decide +kernel, by decide +kernel⟩
theorem scLo : FnScope ["top", "bottom", "common"] ["top", "bottom"] (defScope sLo) := ⟨rfl, rfl, rfl, by decide +kernel, rfl, by decide +kernel, by decide +kernel⟩
def gc (t b : Int) : Int := ((Nat.gcd t.natAbs b.natAbs : Nat) : Int)
/-- a number of halves, in its lowest terms -/
def lw (t b : Int) : Int × Int := (t / gc t b, b / gc t b)
theorem gc_pos {t b : Int} (h : 0 < b) : 0 < gc t b := Int.natCast_pos.mpr (Nat.gcd_pos_of_pos_right _ (by omega))
theorem gc_le {t b : Int} (h : 0 < b) : (gc t b).natAbs ≤ b.natAbs := Nat.le_of_dvd (by omega) (Nat.gcd_dvd_right _ _)
theorem abs_is (i : Int) : (if i < 0 then -i else i) = ((i.natAbs : Nat) : Int) := by
  split <;> omega
def mu2 (i : Nat) (σ : L2.St) : Nat := match σ[i]? with
  | some (some (.int b)) => b.toNat
  | _ => 0
section
variable {P : Program} {w : World} {K : PySem.W.Frag} {mg : Str → Option Value} {base : Heap} {C : Addr}
def spGc : Sp := fun vs H Q _ => ∃ x y : Nat, vs = [.int (x : Nat), .int (y : Nat)] ∧ Q (.int ((Nat.gcd x y : Nat) : Int)) H
theorem ok_gc {f : Addr} {fd : FuncData} {k : Nat} (F : Fun K "greatest_common" "greatest_common" sGc f fd) : FnOk P w K mg base CX0 (k + 1) f fd ["one", "two"] spGc := by
  refine F.ok scGc (fun vs H Q E h => ?_) (fun cdv A outer s H vs Q E hr h => ?_)
  · obtain ⟨a, b, rfl, _⟩ := h
    rfl
  · obtain ⟨x, y, rfl, q⟩ := h
    refine ⟨_, pss_cons (ps_while PassesOwn.never (pt_cmpR op_gt (pv 1) pe_int (nomark _))
        (pss_one (ps_par (i := 0) (j := 1) rfl scGc.nd rfl rfl (by decide) rfl rfl (pa_cons (pv 1) (pa_cons (pe_op op_mod (pv 0) (pv 1)) pa_nil)) rfl)))
      (pss_one (ps_ret (pv 0))), ?_⟩
    refine while_by (fun σ H2 => ∃ a b : Nat, σ = [some (.int (a : Nat)), some (.int (b : Nat))] ∧ H2 = H ∧ Nat.gcd a b = Nat.gcd x y) (fun σ _ => mu2 1 σ) ⟨x, y, rfl, rfl, rfl⟩ ?_ ?_
    · rintro σ H2 ⟨a, b, rfl, rfl, e⟩
      refine ⟨_, rfl, _, _, rfl, rfl, _, rfl, ite2 (fun g => ?_) (fun g => ?_)⟩
      · have g1 : 0 < b := by
          have := of_decide_eq_true g
          omega
        refine ⟨_, rfl, _, rfl, _, rfl, _, _, rfl, rfl, (by omega), _, _, rfl, ⟨b, a % b, ?_, rfl, ?_⟩, ?_⟩
        · rfl
        · rw [← e, Nat.gcd_comm a b, Nat.gcd_rec b a, Nat.gcd_comm]
        · show (((a : Nat) : Int) % ((b : Nat) : Int)).toNat < ((b : Nat) : Int).toNat
          have := Nat.mod_lt a g1
          have e2 : (((a : Nat) : Int) % ((b : Nat) : Int)) = ((a % b : Nat) : Int) := rfl
          rw [e2]
          omega
      · have g1 : b = 0 := by
          have : ¬ ((b : Nat) : Int) > 0 := fun z => g (decide_eq_true z)
          omega
        subst g1
        rw [Nat.gcd_zero_right] at e
        refine ⟨_, rfl, ?_⟩
        rw [e]
        exact q
    · rintro σ H2 Q1 Q2 hq ⟨v, e, a, b, e1, e2, c, e3, h⟩
      exact ⟨v, e, a, b, e1, e2, c, e3, hq _ _ h⟩
def spLo (K : PySem.W.Frag) : Sp := fun vs H Q _ => ∃ t b : Int, vs = [.int t, .int b] ∧ 0 < b ∧ b.natAbs < 2 ^ 8000 ∧ ∀ p H', Same H H' → H p = none → H' p = some (.tup [.int (lw t b).1, .int (lw t b).2]) → Q (.ref p) H'
theorem ok_lo {f : Addr} {fd : FuncData} {k : Nat} (F : Fun K "lowest" "lowest" sLo f fd) (C_greatest_common : Cal P w K mg base k "greatest_common" ["one", "two"] spGc) (m_abs : mg "abs" = none) : FnOk P w K mg base CX0 (k + 1) f fd ["top", "bottom"] (spLo K) := by
  refine F.ok scLo (fun vs H Q E h => ?_) (fun cdv A outer s H vs Q E hr h => ?_)
  · obtain ⟨a, b, rfl, _⟩ := h
    rfl
  · obtain ⟨t, b, rfl, b0, b1, q⟩ := h
    refine ⟨_, pss_cons (ps_set (i := 2) scLo.nd rfl (.inl rfl) (pe_cal C_greatest_common (hr.mono (by omega)) (by rfl) (pa_cons (pe_callB call_abs (by rfl) m_abs (by decide +kernel) (pa_cons (pv 0) pa_nil)) (pa_cons (pv 1) pa_nil))))
      (pss_one (ps_ret (pe_tup (pa_cons (pe_op op_fdivW (pv 0) (pv 2)) (pa_cons (pe_op op_fdivW (pv 1) (pv 2)) pa_nil))))), ?_⟩
    have wd : CDivW t (gc t b) ∧ CDivW b (gc t b) := ⟨wide_div (gc_pos b0) (Nat.lt_of_le_of_lt (gc_le b0) b1) (by decide) (by decide), wide_div (gc_pos b0) (Nat.lt_of_le_of_lt (gc_le b0) b1) (by decide) (by decide)⟩
    refine ⟨_, rfl, _, rfl, _, rfl, t.natAbs, b.natAbs, ?_, ?_⟩
    · rw [abs_is, show ((b.natAbs : Nat) : Int) = b by omega]
      rfl
    · exact ⟨_, rfl, _, rfl, _, _, rfl, rfl, wd.1, _, rfl, _, rfl, _, _, rfl, rfl, wd.2, (by show 2 ≤ sizeLine; decide), fun p np => q p _ (same_new np) np upd_same⟩
end
abbrev sLow : Stmt := topS 52
theorem scLow : FnScope ["_law_top", "_law_bottom", "_law_one", "_law_two"] ["_law_top", "_law_bottom"] (defScope sLow) := ⟨rfl, rfl, rfl, by decide +kernel, rfl, by decide +kernel, by decide +kernel⟩
section
variable {P : Program} {w : World} {K : PySem.W.Frag} {mg : Str → Option Value} {base : Heap} {C : Addr}
theorem ok_low {f : Addr} {fd : FuncData} {k : Nat} (F : Fun K "_law_low" "_law_low" sLow f fd) (m_abs : mg "abs" = none) : FnOk P w K mg base CX0 (k + 1) f fd ["_law_top", "_law_bottom"] (spLo K) := by
  refine F.ok scLow (fun vs H Q E h => ?_) (fun cdv A outer s H vs Q E hr h => ?_)
  · obtain ⟨a, b, rfl, _⟩ := h
    rfl
  · obtain ⟨t, b, rfl, b0, b1, q⟩ := h
    refine ⟨_, pss_cons (ps_par (i := 2) (j := 3) rfl scLow.nd rfl rfl (by decide) rfl rfl (pa_cons (pe_callB call_abs (by rfl) m_abs (by decide +kernel) (pa_cons (pv 0) pa_nil)) (pa_cons (pe_callB call_abs (by rfl) m_abs (by decide +kernel) (pa_cons (pv 1) pa_nil)) pa_nil)) rfl)
      (pss_cons (ps_while PassesOwn.never (pt_cmpR op_gt (pv 3) pe_int (nomark _))
        (pss_one (ps_par (i := 2) (j := 3) rfl scLow.nd rfl rfl (by decide) rfl rfl (pa_cons (pv 3) (pa_cons (pe_op op_mod (pv 2) (pv 3)) pa_nil)) rfl)))
      (pss_cons (ps_if (pt_cmpR op_lt (pv 1) pe_int (nomark _))
        (pss_one (ps_set (i := 2) scLow.nd rfl (.inl rfl) (pe_op op_sub pe_int (pv 2))))
        pss_nil)
      (pss_one (ps_ret (pe_tup (pa_cons (pe_op op_fdivW (pv 0) (pv 2)) (pa_cons (pe_op op_fdivW (pv 1) (pv 2)) pa_nil))))))), ?_⟩
    have wd : CDivW t (gc t b) ∧ CDivW b (gc t b) := ⟨wide_div (gc_pos b0) (Nat.lt_of_le_of_lt (gc_le b0) b1) (by decide) (by decide), wide_div (gc_pos b0) (Nat.lt_of_le_of_lt (gc_le b0) b1) (by decide) (by decide)⟩
    refine ⟨_, rfl, t, rfl, _, rfl, b, rfl, _, _, rfl, ?_⟩
    rw [abs_is, abs_is]
    refine while_by (fun σ H2 => ∃ c d : Nat, σ = [some (.int t), some (.int b), some (.int (c : Nat)), some (.int (d : Nat))] ∧ H2 = H ∧ Nat.gcd c d = Nat.gcd t.natAbs b.natAbs) (fun σ _ => mu2 3 σ) ⟨_, _, rfl, rfl, rfl⟩ ?_ ?_
    · rintro σ H2 ⟨c, d, rfl, rfl, e⟩
      refine ⟨_, rfl, _, _, rfl, rfl, _, rfl, ite2 (fun g => ?_) (fun g => ?_)⟩
      · have g1 : 0 < d := by
          have := of_decide_eq_true g
          omega
        refine ⟨_, rfl, _, rfl, _, rfl, _, _, rfl, rfl, (by omega), _, _, rfl, ⟨d, c % d, rfl, rfl, ?_⟩, ?_⟩
        · rw [← e, Nat.gcd_comm c d, Nat.gcd_rec d c, Nat.gcd_comm]
        · show (((c : Nat) : Int) % ((d : Nat) : Int)).toNat < ((d : Nat) : Int).toNat
          have := Nat.mod_lt c g1
          have e2 : (((c : Nat) : Int) % ((d : Nat) : Int)) = ((c % d : Nat) : Int) := rfl
          rw [e2]
          omega
      · have g1 : d = 0 := by
          have : ¬ ((d : Nat) : Int) > 0 := fun z => g (decide_eq_true z)
          omega
        subst g1
        rw [Nat.gcd_zero_right] at e
        refine ⟨_, rfl, _, _, rfl, rfl, _, rfl, if_n (decide_eq_false (by omega)) ?_⟩
        rw [e]
        exact ⟨_, rfl, _, rfl, _, _, rfl, rfl, wd.1, _, rfl, _, rfl, _, _, rfl, rfl, wd.2, (by show 2 ≤ sizeLine; decide), fun p np => q p _ (same_new np) np upd_same⟩
    · rintro σ H2 Q1 Q2 hq ⟨v, e, a, b, e1, e2, c, e3, h⟩
      exact ⟨v, e, a, b, e1, e2, c, e3, hq _ _ h⟩
end
end Tg

namespace Tg
open PySem PySem.Spec PyProof.Rows L2
/-! ### data that may be compared: written plainly, at most n deep, and equal to itself -/
structure Form (d : PyData) (n : Nat) : Prop where
  lay : d.canLay0 = true
  deep : d.depth ≤ n
  own : PyData.eqv d d = true
structure Forms (ds : List PyData) (n : Nat) : Prop where
  lay : PyData.canLayAll0 ds = true
  deep : PyData.depthAll ds ≤ n
  own : PyData.eqvAll ds ds = true
theorem Form.shaped {d : PyData} {n : Nat} (h : Form d n) (few : n ≤ 64) : SeqAt.shaped d = true := shaped_of h.lay (Nat.le_trans h.deep few)
theorem Form.up {d : PyData} {n m : Nat} (h : Form d n) (le : n ≤ m) : Form d m := ⟨h.lay, Nat.le_trans h.deep le, h.own⟩
theorem Form.int (i : Int) (n : Nat) : Form (.int i) n := ⟨rfl, Nat.zero_le _, by show (i == i) = true; exact beq_self_eq_true i⟩
theorem Form.bl (b : Bool) (n : Nat) : Form (.bool b) n := ⟨rfl, Nat.zero_le _, by show (b == b) = true; exact beq_self_eq_true b⟩
theorem Form.non (n : Nat) : Form .none n := ⟨rfl, Nat.zero_le _, rfl⟩
theorem Form.str {z : Str} (h : PyData.strOk z = true) (n : Nat) : Form (.str z) n := ⟨h, Nat.zero_le _, by show (z == z) = true; exact beq_self_eq_true z⟩
theorem Forms.nil (n : Nat) : Forms [] n := ⟨rfl, Nat.zero_le _, rfl⟩
theorem Forms.cons {d : PyData} {ds : List PyData} {n : Nat} (a : Form d n) (b : Forms ds n) : Forms (d :: ds) n :=
  ⟨by show (d.canLay0 && PyData.canLayAll0 ds) = true; rw [a.lay, b.lay]; rfl, Nat.max_le.mpr ⟨a.deep, b.deep⟩, by show (PyData.eqv d d && PyData.eqvAll ds ds) = true; rw [a.own, b.own]; rfl⟩
theorem Forms.of {n : Nat} : ∀ {ds : List PyData}, (∀ d, d ∈ ds → Form d n) → Forms ds n
  | [], _ => .nil n
  | d :: r, h => .cons (h d (.head _)) (.of fun e he => h e (.tail _ he))
theorem Forms.map {α : Type} {f : α → PyData} {n : Nat} (h : ∀ x, Form (f x) n) (xs : List α) : Forms (xs.map f) n := .of fun d hd => by
  obtain ⟨x, _, rfl⟩ := List.mem_map.mp hd
  exact h x
theorem Form.list {ds : List PyData} {n : Nat} (h : Forms ds n) : Form (.list ds) (n + 1) := ⟨h.lay, Nat.succ_le_succ h.deep, h.own⟩
theorem Form.tup {ds : List PyData} {n : Nat} (h : Forms ds n) : Form (.tuple ds) (n + 1) := ⟨h.lay, Nat.succ_le_succ h.deep, h.own⟩
end Tg

set_option maxHeartbeats 1000000
namespace Tg
open PySem PySem.Spec PyProof.Rows L2
open SX (S)
open TL (numL tl)
/-! ### asks: what they are, their data and their texts -/
inductive Ask where
  | fold (x : Str) (ws : List Wx)
  | by_ (x : Str) (ks : List Str) (a : Ask)
  | each (x : Str) (a : Ask) (n m : Int)
  | both (x : Str) (a b : Ask)
  | fill (x : Str) (a : Ask)
  | above (a : Ask) (n m : Int)
  | top (n : Int) (a : Ask)
  | shift (n : Int) (a : Ask)
/-- a part of an ask, by its kind -/
inductive Part where
  | what (x : Str)
  | wishes (ws : List Wx)
  | word (k x : Str)
  | keys (ks : List Str)
  | num (n m : Int)
  | many (n : Int)
  | by_ (n : Int)
  | ask (a : Ask)
def kTr : Str := "what of tracks"
def kEa : Str := "word of each"
def kBo : Str := "word of both"
def kFi : Str := "word of fill"
def Part.kind : Part → Str
  | .what _ => "what"
  | .wishes _ => "wishes"
  | .word k _ => k
  | .keys _ => "keys"
  | .num _ _ => "number"
  | .many _ => "many"
  | .by_ _ => "by"
  | .ask _ => "ask"
def Ask.word : Ask → Str
  | .fold _ _ => "fold"
  | .by_ _ _ _ => "by"
  | .each _ _ _ _ => "each"
  | .both _ _ _ => "both"
  | .fill _ _ => "fill"
  | .above _ _ _ => "above"
  | .top _ _ => "top"
  | .shift _ _ => "shift"
def Ask.parts : Ask → List Part
  | .fold x ws => [.what x, .wishes ws]
  | .by_ x ks a => [.word kTr x, .keys ks, .ask a]
  | .each x a n m => [.word kEa x, .ask a, .num n m]
  | .both x a b => [.word kBo x, .ask a, .ask b]
  | .fill x a => [.word kFi x, .ask a]
  | .above a n m => [.ask a, .num n m]
  | .top n a => [.many n, .ask a]
  | .shift n a => [.by_ n, .ask a]
def Ask.d : Ask → PyData
  | .fold x ws => .tuple [.str "fold", .str x, .list (ws.map Wx.d)]
  | .by_ x ks a => .tuple [.str "by", .str x, .tuple (ks.map .str), a.d]
  | .each x a n m => .tuple [.str "each", .str x, a.d, .tuple [.int n, .int m]]
  | .both x a b => .tuple [.str "both", .str x, a.d, b.d]
  | .fill x a => .tuple [.str "fill", .str x, a.d]
  | .above a n m => .tuple [.str "above", a.d, .tuple [.int n, .int m]]
  | .top n a => .tuple [.str "top", .int n, a.d]
  | .shift n a => .tuple [.str "shift", .int n, a.d]
def Part.d : Part → PyData
  | .what x => .str x
  | .wishes ws => .list (ws.map Wx.d)
  | .word _ x => .str x
  | .keys ks => .tuple (ks.map .str)
  | .num n m => .tuple [.int n, .int m]
  | .many n => .int n
  | .by_ n => .int n
  | .ask a => a.d
theorem ask_d (a : Ask) : a.d = .tuple (.str a.word :: a.parts.map Part.d) := by cases a <;> rfl
/-- how deep asks stand within one another -/
def Ask.deep : Ask → Nat
  | .fold _ _ => 0
  | .by_ _ _ a => a.deep + 1
  | .each _ a _ _ => a.deep + 1
  | .both _ a b => max a.deep b.deep + 1
  | .fill _ a => a.deep + 1
  | .above a _ _ => a.deep + 1
  | .top _ a => a.deep + 1
  | .shift _ a => a.deep + 1
/-! ### what asks are told of -/
def whatsL : List Str := ["count", "sum", "least", "greatest", "first", "last", "mean", "spread", "rise", "held"]
def tracksL : List Str := ["count", "sum", "least", "greatest", "mean"]
def eachL : List Str := ["plus", "minus", "times"]
def bothL : List Str := ["plus", "minus", "times", "over"]
def fillL : List Str := ["last", "straight"]
def keysL : List (List Str) := [[], ["a"], ["host"], ["zone9", "a"], ["none", "host"], ["a", "host", "zone9"]]
/-- the words of a kind -/
def wordsK (k : Str) : List Str := if k = kTr then tracksL else if k = kEa then eachL else if k = kBo then bothL else if k = kFi then fillL else []
/-- a number in lowest terms, small -/
structure GoodN (n m : Int) : Prop where
  pos : 0 < m
  low : gc n m = 1
  n17 : n.natAbs < 10 ^ 17
  m17 : m.natAbs < 10 ^ 17
structure GoodWs (ws : List Wx) : Prop where
  g : GoodW ws
  two : ws.length ≤ 2
def GoodP : Part → Prop
  | .what x => x ∈ whatsL
  | .wishes ws => GoodWs ws
  | .word k x => x ∈ wordsK k
  | .keys ks => ks ∈ keysL
  | .num n m => GoodN n m
  | .many n => 1 ≤ n ∧ n.natAbs < 10 ^ 17
  | .by_ n => n.natAbs < 10 ^ 17
  | .ask _ => True
def GoodA : Ask → Prop
  | .fold x ws => x ∈ whatsL ∧ GoodWs ws
  | .by_ x ks a => x ∈ tracksL ∧ ks ∈ keysL ∧ GoodA a
  | .each x a n m => x ∈ eachL ∧ GoodA a ∧ GoodN n m
  | .both x a b => x ∈ bothL ∧ GoodA a ∧ GoodA b
  | .fill x a => x ∈ fillL ∧ GoodA a
  | .above a n m => GoodA a ∧ GoodN n m
  | .top n a => (1 ≤ n ∧ n.natAbs < 10 ^ 17) ∧ GoodA a
  | .shift n a => n.natAbs < 10 ^ 17 ∧ GoodA a
/-- a part that is good, an ask less deep than n -/
def PartOk (n : Nat) : Part → Prop
  | .ask b => GoodA b ∧ b.deep < n
  | p => GoodP p
theorem w_tr : wordsK kTr = tracksL := by decide +kernel
theorem w_ea : wordsK kEa = eachL := by decide +kernel
theorem w_bo : wordsK kBo = bothL := by decide +kernel
theorem w_fi : wordsK kFi = fillL := by decide +kernel
theorem parts_ok {a : Ask} {n : Nat} (g : GoodA a) (h : a.deep ≤ n) : ∀ p, p ∈ a.parts → PartOk n p := by
  intro p hp
  cases a with
  | fold x ws =>
    obtain rfl | hp := List.mem_cons.mp hp
    · exact g.1
    · rw [List.eq_of_mem_singleton hp]
      exact g.2
  | by_ x ks a =>
    have h : a.deep + 1 ≤ n := h
    obtain rfl | hp := List.mem_cons.mp hp
    · show x ∈ wordsK kTr
      rw [w_tr]
      exact g.1
    · obtain rfl | hp := List.mem_cons.mp hp
      · exact g.2.1
      · rw [List.eq_of_mem_singleton hp]
        exact ⟨g.2.2, by omega⟩
  | each x a u m =>
    have h : a.deep + 1 ≤ n := h
    obtain rfl | hp := List.mem_cons.mp hp
    · show x ∈ wordsK kEa
      rw [w_ea]
      exact g.1
    · obtain rfl | hp := List.mem_cons.mp hp
      · exact ⟨g.2.1, by omega⟩
      · rw [List.eq_of_mem_singleton hp]
        exact g.2.2
  | both x a b =>
    have h : max a.deep b.deep + 1 ≤ n := h
    obtain rfl | hp := List.mem_cons.mp hp
    · show x ∈ wordsK kBo
      rw [w_bo]
      exact g.1
    · obtain rfl | hp := List.mem_cons.mp hp
      · exact ⟨g.2.1, by omega⟩
      · rw [List.eq_of_mem_singleton hp]
        exact ⟨g.2.2, by omega⟩
  | fill x a =>
    have h : a.deep + 1 ≤ n := h
    obtain rfl | hp := List.mem_cons.mp hp
    · show x ∈ wordsK kFi
      rw [w_fi]
      exact g.1
    · rw [List.eq_of_mem_singleton hp]
      exact ⟨g.2, by omega⟩
  | above a u m =>
    have h : a.deep + 1 ≤ n := h
    obtain rfl | hp := List.mem_cons.mp hp
    · exact ⟨g.1, by omega⟩
    · rw [List.eq_of_mem_singleton hp]
      exact g.2
  | top u a =>
    have h : a.deep + 1 ≤ n := h
    obtain rfl | hp := List.mem_cons.mp hp
    · exact g.1
    · rw [List.eq_of_mem_singleton hp]
      exact ⟨g.2, by omega⟩
  | shift u a =>
    have h : a.deep + 1 ≤ n := h
    obtain rfl | hp := List.mem_cons.mp hp
    · exact g.1
    · rw [List.eq_of_mem_singleton hp]
      exact ⟨g.2, by omega⟩
/-- every statement of asks that speaks of their parts alone -/
theorem Ask.by_parts {C : Ask → Prop} (h : ∀ a, GoodA a → (∀ p, p ∈ a.parts → ∀ b, p = .ask b → GoodA b ∧ b.deep < a.deep ∧ C b) → C a) : ∀ (n : Nat) (a : Ask), a.deep ≤ n → GoodA a → C a
  | 0, a, l, g => h a g fun p hp b e => by
    subst e
    have := (parts_ok g l _ hp).2
    omega
  | n + 1, a, l, g => h a g fun p hp b e => by
    subst e
    have z := parts_ok g (Nat.le_refl _) _ hp
    exact ⟨z.1, z.2, Ask.by_parts h n b (by have := z.2; omega) z.1⟩
theorem parts_few (a : Ask) : a.parts.length ≤ 3 := by cases a <;> simp [Ask.parts]
theorem parts_ne (a : Ask) : a.parts ≠ [] := by cases a <;> exact fun z => nomatch z
/-! ### texts in pieces, between commas -/
abbrev cb : Str := Str.ofString ", "
def cnt' (c : Nat) (z : Str) : Int := cnt c z.cps.toList
/-- how many brackets more are open behind a text than ahead of it -/
def dep (z : Str) : Int := cnt' 40 z - cnt' 41 z
theorem cnt_app (c : Nat) (a b : Str) : cnt' c (a ++ b) = cnt' c a + cnt' c b := by
  unfold cnt'
  rw [cps_toList_append, cnt_append]
theorem dep_app (a b : Str) : dep (a ++ b) = dep a + dep b := by
  unfold dep
  rw [cnt_app, cnt_app]
  omega
theorem dep_open : dep (Str.ofString "(") = 1 := by decide +kernel
theorem dep_close : dep (Str.ofString ")") = -1 := by decide +kernel
def J2 (xs : List Str) : Str := Str.join cb xs
theorem J2_cons (x y : Str) (r : List Str) : J2 (x :: y :: r) = x ++ cb ++ J2 (y :: r) := rfl
/-- pieces behind d open brackets, of which none but the last closes all -/
def Cl : Int → List Str → Prop
  | _, [] => False
  | d, [p] => d + dep p = 0
  | d, p :: q :: r => 0 < d + dep p ∧ Cl (d + dep p) (q :: r)
theorem Cl.ne {d : Int} {xs : List Str} (h : Cl d xs) : xs ≠ [] := fun z => by
  subst z
  exact h
def addLast : List Str → Str → List Str
  | [], _ => []
  | [p], z => [p ++ z]
  | p :: q :: r, z => p :: addLast (q :: r) z
def addHead (z : Str) : List Str → List Str
  | [] => []
  | p :: r => (z ++ p) :: r
theorem addLast_ne : ∀ {xs : List Str} {z : Str}, xs ≠ [] → addLast xs z ≠ []
  | [], _, h => absurd rfl h
  | [_], _, _ => fun z => nomatch z
  | _ :: _ :: _, _, _ => fun z => nomatch z
theorem addLast_app : ∀ (xs : List Str) {ys : List Str} {z : Str}, ys ≠ [] → addLast (xs ++ ys) z = xs ++ addLast ys z
  | [], _, _, _ => rfl
  | [p], y :: ys, z, _ => rfl
  | p :: q :: r, ys, z, h => by
    show p :: addLast (q :: r ++ ys) z = _
    rw [addLast_app (q :: r) h]
    rfl
theorem J2_last : ∀ {xs : List Str} {z : Str}, xs ≠ [] → J2 (addLast xs z) = J2 xs ++ z
  | [], _, h => absurd rfl h
  | [p], z, _ => rfl
  | [p, q], z, _ => by
    show p ++ cb ++ (q ++ z) = (p ++ cb ++ q) ++ z
    rw [Str.append_assoc, Str.append_assoc, Str.append_assoc]
  | p :: q :: s :: r, z, _ => by
    have e := J2_last (xs := q :: s :: r) (z := z) (fun y => nomatch y)
    show p ++ cb ++ J2 (addLast (q :: s :: r) z) = (p ++ cb ++ J2 (q :: s :: r)) ++ z
    rw [e, Str.append_assoc, Str.append_assoc, Str.append_assoc]
theorem J2_head : ∀ {xs : List Str} {z : Str}, xs ≠ [] → J2 (addHead z xs) = z ++ J2 xs
  | [], _, h => absurd rfl h
  | [p], z, _ => rfl
  | p :: q :: r, z, _ => by
    show (z ++ p) ++ cb ++ J2 (q :: r) = z ++ (p ++ cb ++ J2 (q :: r))
    simp only [Str.append_assoc]
theorem J2_app : ∀ {xs ys : List Str}, xs ≠ [] → ys ≠ [] → J2 (xs ++ ys) = J2 xs ++ cb ++ J2 ys
  | [], _, h, _ => absurd rfl h
  | [p], y :: ys, _, _ => rfl
  | p :: q :: r, ys, _, h => by
    have e := J2_app (xs := q :: r) (ys := ys) (fun y => nomatch y) h
    show p ++ cb ++ J2 (q :: r ++ ys) = (p ++ cb ++ J2 (q :: r)) ++ cb ++ J2 ys
    rw [e]
    simp only [Str.append_assoc]
theorem J2_flat : ∀ {Ps : List (List Str)}, Ps ≠ [] → (∀ P, P ∈ Ps → P ≠ []) → J2 Ps.flatten = J2 (Ps.map J2)
  | [], h, _ => absurd rfl h
  | [P], _, _ => by
    rw [List.flatten_cons, List.flatten_nil, List.append_nil]
    rfl
  | P :: R :: Ps, _, h => by
    have e := J2_flat (Ps := R :: Ps) (fun y => nomatch y) fun Q hQ => h Q (List.mem_cons_of_mem _ hQ)
    have n1 := h P List.mem_cons_self
    have n2 : (R :: Ps).flatten ≠ [] := fun z => by
      rw [List.flatten_cons, List.append_eq_nil_iff] at z
      exact h R (List.mem_cons_of_mem _ List.mem_cons_self) z.1
    rw [List.flatten_cons, J2_app n1 n2, e]
    rfl
/-- an ask's pieces: a word and a bracket ahead, a bracket behind -/
def wrapP (w : Str) (xs : List Str) : List Str := addHead (w ++ Str.ofString "(") (addLast xs (Str.ofString ")"))
theorem J2_wrap {w : Str} {xs : List Str} (h : xs ≠ []) : J2 (wrapP w xs) = (w ++ Str.ofString "(") ++ (J2 xs ++ Str.ofString ")") := by
  unfold wrapP
  rw [J2_head (addLast_ne h), J2_last h]
theorem cl_last : ∀ {xs : List Str} {d : Int}, 0 ≤ d → Cl d xs → Cl (d + 1) (addLast xs (Str.ofString ")"))
  | [], _, _, h => h
  | [p], d, _, h => by
    show d + 1 + dep (p ++ Str.ofString ")") = 0
    rw [dep_app, dep_close]
    have h : d + dep p = 0 := h
    omega
  | [p, q], d, d0, h => by
    have h1 : 0 < d + dep p := h.1
    refine ⟨by omega, ?_⟩
    have z := cl_last (xs := [q]) (d := d + dep p) (by omega) h.2
    rw [show d + 1 + dep p = d + dep p + 1 from by omega]
    exact z
  | p :: q :: s :: r, d, d0, h => by
    have h1 : 0 < d + dep p := h.1
    refine ⟨by omega, ?_⟩
    have z := cl_last (xs := q :: s :: r) (d := d + dep p) (by omega) h.2
    rw [show d + 1 + dep p = d + dep p + 1 from by omega]
    exact z
theorem cl_app : ∀ {xs ys : List Str} {d : Int}, 0 ≤ d → Cl d xs → Cl 1 ys → Cl (d + 1) (xs ++ ys)
  | [], _, _, _, h, _ => h.elim
  | [p], [], d, _, _, h => h.elim
  | [p], y :: ys, d, _, h, h2 => by
    have h : d + dep p = 0 := h
    show 0 < d + 1 + dep p ∧ Cl (d + 1 + dep p) (y :: ys)
    rw [show d + 1 + dep p = 1 from by omega]
    exact ⟨by decide, h2⟩
  | p :: q :: r, ys, d, d0, h, h2 => by
    have h1 : 0 < d + dep p := h.1
    have z := cl_app (xs := q :: r) (d := d + dep p) (by omega) h.2 h2
    show 0 < d + 1 + dep p ∧ Cl (d + 1 + dep p) (q :: (r ++ ys))
    rw [show d + 1 + dep p = d + dep p + 1 from by omega]
    exact ⟨by omega, z⟩
theorem cl_flat : ∀ {Ps : List (List Str)}, Ps ≠ [] → (∀ P, P ∈ Ps → Cl 0 P) → Cl 1 (addLast Ps.flatten (Str.ofString ")"))
  | [], h, _ => absurd rfl h
  | [P], _, h => by
    rw [List.flatten_cons, List.flatten_nil, List.append_nil]
    exact cl_last (d := 0) (by decide) (h P List.mem_cons_self)
  | P :: R :: Ps, _, h => by
    have z := cl_flat (Ps := R :: Ps) (fun y => nomatch y) fun Q hQ => h Q (List.mem_cons_of_mem _ hQ)
    have n2 : (R :: Ps).flatten ≠ [] := fun y => by
      rw [List.flatten_cons, List.append_eq_nil_iff] at y
      exact (h R (List.mem_cons_of_mem _ List.mem_cons_self)).ne y.1
    rw [List.flatten_cons, addLast_app P n2]
    exact cl_app (d := 0) (by decide) (h P List.mem_cons_self) z
theorem cl_head {w : Str} (hw : dep w = 0) : ∀ {xs : List Str}, Cl 1 xs → Cl 0 (addHead (w ++ Str.ofString "(") xs)
  | [], h => h
  | [p], h => by
    have h : 1 + dep p = 0 := h
    show 0 + dep ((w ++ Str.ofString "(") ++ p) = 0
    rw [dep_app, dep_app, hw, dep_open]
    omega
  | p :: q :: r, h => by
    have h1 : 0 < 1 + dep p := h.1
    show 0 < 0 + dep ((w ++ Str.ofString "(") ++ p) ∧ Cl (0 + dep ((w ++ Str.ofString "(") ++ p)) (q :: r)
    have e : 0 + dep ((w ++ Str.ofString "(") ++ p) = 1 + dep p := by
      rw [dep_app, dep_app, hw, dep_open]
      omega
    rw [e]
    exact h
/-! ### parting at the commas that stand outside of all brackets -/
abbrev SpS : Type := List Str × Str × Int
def stepS (st : SpS) (p : Str) : SpS :=
  let part := if st.2.2 = 0 then p else st.2.1 ++ cb ++ p
  (if st.2.2 + dep p = 0 then st.1 ++ [part] else st.1, part, st.2.2 + dep p)
theorem step_run : ∀ {r : List Str} {acc : List Str} {c : Str} {d : Int}, 0 < d → Cl d r → r.foldl stepS (acc, c, d) = (acc ++ [c ++ cb ++ J2 r], c ++ cb ++ J2 r, 0)
  | [], _, _, _, _, h => h.elim
  | [p], acc, c, d, d0, h => by
    have h : d + dep p = 0 := h
    show stepS (acc, c, d) p = _
    unfold stepS
    dsimp only
    rw [if_neg (by omega : ¬ d = 0), if_pos h, h]
    rfl
  | p :: q :: r, acc, c, d, d0, h => by
    have h1 : 0 < d + dep p := h.1
    have z := step_run (r := q :: r) (acc := acc) (c := c ++ cb ++ p) (d := d + dep p) h1 h.2
    show (q :: r).foldl stepS (stepS (acc, c, d) p) = _
    have e : stepS (acc, c, d) p = (acc, c ++ cb ++ p, d + dep p) := by
      unfold stepS
      dsimp only
      rw [if_neg (by omega : ¬ d = 0), if_neg (by omega : ¬ d + dep p = 0)]
    rw [e, z, J2_cons]
    simp only [Str.append_assoc]
theorem step_one {P : List Str} {acc : List Str} {c : Str} (h : Cl 0 P) : P.foldl stepS (acc, c, 0) = (acc ++ [J2 P], J2 P, 0) := by
  match P, h with
  | [], h => exact h.elim
  | [p], h =>
    have h : 0 + dep p = 0 := h
    show stepS (acc, c, 0) p = _
    unfold stepS
    dsimp only
    rw [if_pos rfl, if_pos h, h]
    rfl
  | p :: q :: r, h =>
    have h1 : 0 < 0 + dep p := h.1
    show (q :: r).foldl stepS (stepS (acc, c, 0) p) = _
    have e : stepS (acc, c, 0) p = (acc, p, 0 + dep p) := by
      unfold stepS
      dsimp only
      rw [if_pos rfl, if_neg (by omega : ¬ 0 + dep p = 0)]
    rw [e, step_run h1 h.2, J2_cons]
theorem step_all : ∀ {Ps : List (List Str)} {acc : List Str} {c : Str}, (∀ P, P ∈ Ps → Cl 0 P) → ∃ c', Ps.flatten.foldl stepS (acc, c, 0) = (acc ++ Ps.map J2, c', 0)
  | [], acc, c, _ => ⟨c, by rw [List.flatten_nil, List.map_nil, List.append_nil]; rfl⟩
  | P :: Ps, acc, c, h => by
    obtain ⟨c', e⟩ := step_all (Ps := Ps) (acc := acc ++ [J2 P]) (c := J2 P) fun Q hQ => h Q (List.mem_cons_of_mem _ hQ)
    refine ⟨c', ?_⟩
    rw [List.flatten_cons, List.foldl_append, step_one (h P List.mem_cons_self), e, List.map_cons, List.append_assoc]
    rfl
end Tg

set_option maxHeartbeats 1000000
namespace Tg
open PySem PySem.Spec PyProof.Rows L2
open SX (S)
open TL (numL tl)
/-! ### the texts of asks -/
def ksT (ks : List Str) : Str := if ks = [] then "-" else Txt.join (Str.ofString "+") ks
def rT (n m : Int) : Str := if m = 1 then nT n else (nT n ++ Str.ofString "/") ++ nT m
def Part.t0 : Part → Str
  | .what x => x
  | .wishes ws => wsT ws
  | .word _ x => x
  | .keys ks => ksT ks
  | .num n m => rT n m
  | .many n => nT n
  | .by_ n => nT n
  | .ask _ => ""
def Ask.ps : Ask → List Str
  | .fold x ws => wrapP "fold" ([x] ++ ([wsT ws] ++ []))
  | .by_ x ks a => wrapP "by" ([x] ++ ([ksT ks] ++ (a.ps ++ [])))
  | .each x a n m => wrapP "each" ([x] ++ (a.ps ++ ([rT n m] ++ [])))
  | .both x a b => wrapP "both" ([x] ++ (a.ps ++ (b.ps ++ [])))
  | .fill x a => wrapP "fill" ([x] ++ (a.ps ++ []))
  | .above a n m => wrapP "above" (a.ps ++ ([rT n m] ++ []))
  | .top n a => wrapP "top" ([nT n] ++ (a.ps ++ []))
  | .shift n a => wrapP "shift" ([nT n] ++ (a.ps ++ []))
def Part.ps : Part → List Str
  | .what x => [x]
  | .wishes ws => [wsT ws]
  | .word _ x => [x]
  | .keys ks => [ksT ks]
  | .num n m => [rT n m]
  | .many n => [nT n]
  | .by_ n => [nT n]
  | .ask a => a.ps
theorem ask_ps (a : Ask) : a.ps = wrapP a.word (a.parts.map Part.ps).flatten := by cases a <;> rfl
def Ask.t (a : Ask) : Str := J2 a.ps
def Part.t (p : Part) : Str := J2 p.ps
/-- it is no ask -/
def Part.low : Part → Bool
  | .ask _ => false
  | _ => true
theorem low_t {p : Part} (h : p.low = true) : p.t = p.t0 := by cases p <;> first | rfl | cases h
theorem low_ps {p : Part} (h : p.low = true) : p.ps = [p.t0] := by cases p <;> first | rfl | cases h
/-- a text of one piece -/
structure Atom (z : Str) : Prop where
  free : 44 ∉ z.cps.toList
  flat : dep z = 0
  few : z.length ≤ 330
  op : cnt' 40 z ≤ 2
  op0 : 0 ≤ cnt' 40 z
theorem cnt_pos (c : Nat) : ∀ l : List Nat, 0 ≤ cnt c l
  | [] => by rw [cnt_nil]; decide
  | n :: r => by
    rw [cnt_cons]
    have := cnt_pos c r
    split <;> omega
theorem cnt0 (c : Nat) (z : Str) : 0 ≤ cnt' c z := cnt_pos c _
theorem atom_free {z : Str} (h1 : 40 ∉ z.cps.toList) (h2 : 41 ∉ z.cps.toList) (h3 : 44 ∉ z.cps.toList) (l : z.length ≤ 330) : Atom z := by
  have e1 : cnt' 40 z = 0 := cnt_none 40 _ h1
  have e2 : cnt' 41 z = 0 := cnt_none 41 _ h2
  refine ⟨h3, ?_, l, by omega, by omega⟩
  unfold dep
  omega
def plainW (z : Str) : Bool := decide (40 ∉ z.cps.toList) && decide (41 ∉ z.cps.toList) && decide (44 ∉ z.cps.toList) && decide (z.length ≤ 20)
theorem atom_plain {z : Str} (h : plainW z = true) : Atom z := by
  unfold plainW at h
  simp only [decide_eq_true_eq, Bool.and_eq_true] at h
  exact atom_free h.1.1.1 h.1.1.2 h.1.2 (by omega)
theorem whats_pl : (whatsL.all plainW) = true := by decide +kernel
theorem tracks_pl : (tracksL.all plainW) = true := by decide +kernel
theorem each_pl : (eachL.all plainW) = true := by decide +kernel
theorem both_pl : (bothL.all plainW) = true := by decide +kernel
theorem fill_pl : (fillL.all plainW) = true := by decide +kernel
theorem keys_pl : (keysL.all fun ks => plainW (ksT ks)) = true := by decide +kernel
theorem word_pl {k x : Str} (h : x ∈ wordsK k) : plainW x = true := by
  unfold wordsK at h
  split at h
  · exact List.all_eq_true.mp tracks_pl x h
  split at h
  · exact List.all_eq_true.mp each_pl x h
  split at h
  · exact List.all_eq_true.mp both_pl x h
  split at h
  · exact List.all_eq_true.mp fill_pl x h
  · cases h
theorem nT_free (c : Nat) (h : c ≠ 45 ∧ (c < 48 ∨ 57 < c)) (i : Int) : c ∉ (nT i).cps.toList := int_text_free' c h i
theorem atom_num {i : Int} (h : i.natAbs < 10 ^ 17) : Atom (nT i) := by
  have := nT_le h
  exact atom_free (nT_free _ ⟨by decide, by decide⟩ i) (nT_free _ ⟨by decide, by decide⟩ i) (nT_free _ ⟨by decide, by decide⟩ i) (by omega)
theorem rT_free (c : Nat) (h : c ≠ 45 ∧ (c < 48 ∨ 57 < c)) (h2 : c ≠ 47) (n m : Int) : c ∉ (rT n m).cps.toList := by
  unfold rT
  split
  · exact nT_free c h n
  · rw [mem_cps_append, mem_cps_append]
    rintro ((z | z) | z)
    · exact nT_free c h n z
    · have e : (Str.ofString "/").cps.toList = [47] := by decide +kernel
      rw [e] at z
      exact h2 (List.mem_singleton.mp z)
    · exact nT_free c h m z
theorem rT_le {n m : Int} (g : GoodN n m) : (rT n m).length ≤ 40 := by
  have h1 := nT_le g.n17
  have h2 := nT_le g.m17
  unfold rT
  split
  · omega
  · have e : (Str.ofString "/").length = 1 := rfl
    rw [Str.length_append, Str.length_append, e]
    omega
theorem atom_rat {n m : Int} (g : GoodN n m) : Atom (rT n m) := by
  have := rT_le g
  exact atom_free (rT_free _ ⟨by decide, by decide⟩ (by decide) n m) (rT_free _ ⟨by decide, by decide⟩ (by decide) n m) (rT_free _ ⟨by decide, by decide⟩ (by decide) n m) (by omega)
theorem wish_pl : (allW.all fun y => decide (44 ∉ y.t.cps.toList) && decide (dep y.t = 0) && decide (cnt' 40 y.t ≤ 1)) = true := by decide +kernel
theorem atom_wishes {ws : List Wx} (g : GoodWs ws) : Atom (wsT ws) := by
  have z : ∀ y, y ∈ ws → 44 ∉ y.t.cps.toList ∧ dep y.t = 0 ∧ cnt' 40 y.t ≤ 1 := fun y hy => by
    have h := List.all_eq_true.mp wish_pl y (g.g.ok y hy)
    simp only [decide_eq_true_eq, Bool.and_eq_true] at h
    exact ⟨h.1.1, h.1.2, h.2⟩
  have tw := g.two
  match ws, z, tw, g with
  | [], _, _, _ => exact atom_plain (by decide +kernel)
  | [y], z, _, g =>
    obtain ⟨h1, h2, h3⟩ := z y List.mem_cons_self
    have l := (wx_t (g.g.ok y List.mem_cons_self)).few
    have e : wsT [y] = y.t := by
      have e0 : wsT [y] = Txt.join (Str.ofString " ") [y.t] := if_neg (fun z => nomatch z)
      rw [e0, TL.join_eq]
      rfl
    rw [e]
    exact ⟨h1, h2, by omega, by omega, cnt0 _ _⟩
  | [y, u], z, _, g =>
    obtain ⟨h1, h2, h3⟩ := z y List.mem_cons_self
    obtain ⟨k1, k2, k3⟩ := z u (.tail _ (.head _))
    have l := (wx_t (g.g.ok y List.mem_cons_self)).few
    have l2 := (wx_t (g.g.ok u (.tail _ (.head _)))).few
    have e : wsT [y, u] = y.t ++ Str.ofString " " ++ u.t := by
      have e0 : wsT [y, u] = Txt.join (Str.ofString " ") [y.t, u.t] := if_neg (fun z => nomatch z)
      rw [e0, TL.join_eq]
      rfl
    have d0 : dep (Str.ofString " ") = 0 := by decide +kernel
    have c0 : cnt' 40 (Str.ofString " ") = 0 := by decide +kernel
    have f0 : 44 ∉ (Str.ofString " ").cps.toList := by decide +kernel
    have l0 : (Str.ofString " ").length = 1 := rfl
    rw [e]
    refine ⟨?_, ?_, ?_, ?_, cnt0 _ _⟩
    · rw [mem_cps_append, mem_cps_append]
      rintro ((z | z) | z)
      · exact h1 z
      · exact f0 z
      · exact k1 z
    · rw [dep_app, dep_app]
      omega
    · rw [Str.length_append, Str.length_append]
      omega
    · rw [cnt_app, cnt_app]
      omega
  | _ :: _ :: _ :: _, _, tw, _ => exact absurd tw (by simp only [List.length_cons]; omega)
theorem atom_of {p : Part} (g : GoodP p) (h : p.low = true) : Atom p.t0 := by
  cases p with
  | what x => exact atom_plain (List.all_eq_true.mp whats_pl x g)
  | wishes ws => exact atom_wishes g
  | word k x => exact atom_plain (word_pl g)
  | keys ks => exact atom_plain (List.all_eq_true.mp keys_pl ks g)
  | num n m => exact atom_rat g
  | many n => exact atom_num g.2
  | by_ n => exact atom_num g
  | ask a => cases h
theorem atom_cl {z : Str} (h : Atom z) : Cl 0 [z] := by
  show 0 + dep z = 0
  rw [h.flat]
  rfl
def asksW : List Str := ["fold", "by", "each", "both", "fill", "above", "top", "shift"]
theorem word_in (a : Ask) : a.word ∈ asksW := by
  cases a with
  | fold _ _ => exact .head _
  | by_ _ _ _ => exact .tail _ (.head _)
  | each _ _ _ _ => exact .tail _ (.tail _ (.head _))
  | both _ _ _ => exact .tail _ (.tail _ (.tail _ (.head _)))
  | fill _ _ => exact .tail _ (.tail _ (.tail _ (.tail _ (.head _))))
  | above _ _ _ => exact .tail _ (.tail _ (.tail _ (.tail _ (.tail _ (.head _)))))
  | top _ _ => exact .tail _ (.tail _ (.tail _ (.tail _ (.tail _ (.tail _ (.head _))))))
  | shift _ _ => exact .tail _ (.tail _ (.tail _ (.tail _ (.tail _ (.tail _ (.tail _ (.head _)))))))
theorem words_ok : (asksW.all fun z => decide (dep z = 0) && decide (44 ∉ z.cps.toList) && decide (40 ∉ z.cps.toList) && decide (z.length ≤ 5)) = true := by decide +kernel
theorem word_ok (a : Ask) : dep a.word = 0 ∧ 44 ∉ a.word.cps.toList ∧ 40 ∉ a.word.cps.toList ∧ a.word.length ≤ 5 := by
  have z := List.all_eq_true.mp words_ok _ (word_in a)
  simp only [Bool.and_eq_true, decide_eq_true_eq] at z
  exact ⟨z.1.1.1, z.1.1.2, z.1.2, z.2⟩
/-- what is known of an ask's text -/
structure TxA (a : Ask) : Prop where
  cl : Cl 0 a.ps
  free : ∀ z, z ∈ a.ps → 44 ∉ z.cps.toList
  len : a.t.length + 100 ≤ 500 * 2 ^ a.deep
  op : cnt' 40 a.t + 1 ≤ 4 * 2 ^ a.deep
theorem ps_cl {a : Ask} (g : GoodA a) (h : ∀ p, p ∈ a.parts → ∀ b, p = .ask b → TxA b) : ∀ P, P ∈ a.parts.map Part.ps → Cl 0 P := by
  intro P hP
  obtain ⟨p, hp, rfl⟩ := List.mem_map.mp hP
  cases e : p.low with
  | true =>
    rw [low_ps e]
    refine atom_cl (atom_of ?_ e)
    have z := parts_ok g (Nat.le_refl _) p hp
    cases p <;> first | exact z | cases e
  | false =>
    cases p with
    | ask b => exact (h _ hp b rfl).cl
    | _ => cases e
theorem free_last : ∀ {xs : List Str} {z : Str} {c : Nat}, (∀ x, x ∈ xs → c ∉ x.cps.toList) → c ∉ z.cps.toList → ∀ x, x ∈ addLast xs z → c ∉ x.cps.toList
  | [], _, _, _, _, _, hx => nomatch hx
  | [p], z, c, h, hz, x, hx => by
    rw [List.mem_singleton.mp hx, mem_cps_append]
    rintro (y | y)
    · exact h p List.mem_cons_self y
    · exact hz y
  | p :: q :: r, z, c, h, hz, x, hx => by
    obtain rfl | hx := List.mem_cons.mp hx
    · exact h _ List.mem_cons_self
    · exact free_last (xs := q :: r) (fun y hy => h y (.tail _ hy)) hz x hx
theorem free_head {xs : List Str} {z : Str} {c : Nat} (h : ∀ x, x ∈ xs → c ∉ x.cps.toList) (hz : c ∉ z.cps.toList) : ∀ x, x ∈ addHead z xs → c ∉ x.cps.toList := by
  cases xs with
  | nil => exact fun x hx => nomatch hx
  | cons p r =>
    intro x hx
    obtain rfl | hx := List.mem_cons.mp hx
    · rw [mem_cps_append]
      rintro (y | y)
      · exact hz y
      · exact h p List.mem_cons_self y
    · exact h x (.tail _ hx)
theorem free_ps {a : Ask} (g : GoodA a) (h : ∀ p, p ∈ a.parts → ∀ b, p = .ask b → TxA b) : ∀ z, z ∈ (a.parts.map Part.ps).flatten → 44 ∉ z.cps.toList := by
  intro z hz
  obtain ⟨P, hP, hz⟩ := List.mem_flatten.mp hz
  obtain ⟨p, hp, rfl⟩ := List.mem_map.mp hP
  cases e : p.low with
  | true =>
    rw [low_ps e] at hz
    rw [List.mem_singleton.mp hz]
    refine (atom_of ?_ e).free
    have z := parts_ok g (Nat.le_refl _) p hp
    cases p <;> first | exact z | cases e
  | false =>
    cases p with
    | ask b => exact (h _ hp b rfl).free z hz
    | _ => cases e
theorem ps_ne {a : Ask} (cl : ∀ P, P ∈ a.parts.map Part.ps → Cl 0 P) : (a.parts.map Part.ps).flatten ≠ [] := by
  have ne := parts_ne a
  cases e : a.parts with
  | nil => exact absurd e ne
  | cons p r =>
    rw [e] at cl
    intro z
    rw [List.map_cons, List.flatten_cons, List.append_eq_nil_iff] at z
    exact (cl p.ps (by rw [List.map_cons]; exact List.mem_cons_self)).ne z.1
/-- an ask's text by its parts' -/
theorem ask_t {a : Ask} (cl : ∀ P, P ∈ a.parts.map Part.ps → Cl 0 P) : a.t = (a.word ++ Str.ofString "(") ++ (J2 (a.parts.map Part.t) ++ Str.ofString ")") := by
  have ne : a.parts.map Part.ps ≠ [] := fun z => parts_ne a (List.map_eq_nil_iff.mp z)
  unfold Ask.t
  rw [ask_ps, J2_wrap (ps_ne cl), J2_flat ne (fun P hP => (cl P hP).ne), List.map_map]
  rfl
theorem J2_len : ∀ {xs : List Str}, xs.length ≤ 3 → (J2 xs).length ≤ (xs.map (·.length)).sum + 4
  | [], _ => by decide
  | [a], _ => by
    show a.length ≤ _
    simp only [List.sum_cons, List.sum_nil, List.map_cons, List.map_nil]
    omega
  | [a, b], _ => by
    show (a ++ cb ++ b).length ≤ _
    have e : cb.length = 2 := rfl
    simp only [List.map_cons, List.map_nil, List.sum_cons, List.sum_nil, Str.length_append, e]
    omega
  | [a, b, c], _ => by
    show (a ++ cb ++ (b ++ cb ++ c)).length ≤ _
    have e : cb.length = 2 := rfl
    simp only [List.map_cons, List.map_nil, List.sum_cons, List.sum_nil, Str.length_append, e]
    omega
  | _ :: _ :: _ :: _ :: _, h => absurd h (by simp only [List.length_cons]; omega)
theorem J2_cnt : ∀ {xs : List Str}, xs.length ≤ 3 → cnt' 40 (J2 xs) ≤ (xs.map (cnt' 40)).sum
  | [], _ => by decide +kernel
  | [a], _ => by
    show cnt' 40 a ≤ _
    simp only [List.sum_cons, List.sum_nil, List.map_cons, List.map_nil]
    omega
  | [a, b], _ => by
    show cnt' 40 (a ++ cb ++ b) ≤ _
    have e : cnt' 40 cb = 0 := by decide +kernel
    simp only [List.map_cons, List.map_nil, List.sum_cons, List.sum_nil, cnt_app, e]
    omega
  | [a, b, c], _ => by
    show cnt' 40 (a ++ cb ++ (b ++ cb ++ c)) ≤ _
    have e : cnt' 40 cb = 0 := by decide +kernel
    simp only [List.map_cons, List.map_nil, List.sum_cons, List.sum_nil, cnt_app, e]
    omega
  | _ :: _ :: _ :: _ :: _, h => absurd h (by simp only [List.length_cons]; omega)
theorem pow_up {n m : Nat} (h : n ≤ m) : 2 ^ n ≤ 2 ^ m := Nat.pow_le_pow_right (by decide) h
theorem pow_up' {n m : Nat} (h : n ≤ m) : (2 : Int) ^ n ≤ 2 ^ m := by
  have z := pow_up h
  have e1 : ((2 ^ n : Nat) : Int) = (2 : Int) ^ n := by push_cast; rfl
  have e2 : ((2 ^ m : Nat) : Int) = (2 : Int) ^ m := by push_cast; rfl
  omega
theorem plain_len {z : Str} (h : plainW z = true) : z.length ≤ 20 ∧ cnt' 40 z = 0 := by
  unfold plainW at h
  simp only [decide_eq_true_eq, Bool.and_eq_true] at h
  exact ⟨h.2, cnt_none 40 _ h.1.1.1⟩
theorem txA : ∀ {n : Nat} {a : Ask}, a.deep ≤ n → GoodA a → TxA a := fun {n a} l g => by
  refine Ask.by_parts (C := TxA) (fun a g h => ?_) n a l g
  have hp : ∀ p, p ∈ a.parts → ∀ b, p = .ask b → TxA b := fun p hp b e => (h p hp b e).2.2
  have cl := ps_cl g hp
  have fr := free_ps g hp
  have ne := ps_ne cl
  obtain ⟨w1, w2, w3, w4⟩ := word_ok a
  have f1 : 44 ∉ (Str.ofString "(").cps.toList := by decide +kernel
  have f2 : 44 ∉ (Str.ofString ")").cps.toList := by decide +kernel
  have lens : a.t.length + 100 ≤ 500 * 2 ^ a.deep ∧ cnt' 40 a.t + 1 ≤ 4 * 2 ^ a.deep := by
    have et := ask_t cl
    have jl := J2_len (xs := a.parts.map Part.t) (by rw [List.length_map]; exact parts_few a)
    have jc := J2_cnt (xs := a.parts.map Part.t) (by rw [List.length_map]; exact parts_few a)
    have l1 : (Str.ofString "(").length = 1 := rfl
    have l2 : (Str.ofString ")").length = 1 := rfl
    have c1 : cnt' 40 (Str.ofString "(") = 1 := by decide +kernel
    have c2 : cnt' 40 (Str.ofString ")") = 0 := by decide +kernel
    have c3 : cnt' 40 a.word = 0 := cnt_none 40 _ w3
    have eL : a.t.length = a.word.length + 1 + ((J2 (a.parts.map Part.t)).length + 1) := by
      rw [et, Str.length_append, Str.length_append, Str.length_append, l1, l2]
    have eC : cnt' 40 a.t = 1 + cnt' 40 (J2 (a.parts.map Part.t)) := by
      rw [et, cnt_app, cnt_app, cnt_app, c1, c2, c3]
      omega
    have d1 : ∀ {n : Nat}, 500 * 2 ^ (n + 1) = 2 * (500 * 2 ^ n) := fun {n} => by rw [Nat.pow_succ]; omega
    have d2 : ∀ {n : Nat}, (4 : Int) * 2 ^ (n + 1) = 2 * (4 * 2 ^ n) := fun {n} => by rw [Int.pow_succ]; omega
    have p1 : ∀ {n : Nat}, 500 ≤ 500 * 2 ^ n := fun {n} => by have := pow_up (Nat.zero_le n); omega
    have p2 : ∀ {n : Nat}, (4 : Int) ≤ 4 * 2 ^ n := fun {n} => by have := pow_up' (Nat.zero_le n); omega
    cases a with
    | fold x ws =>
      have a1 := plain_len (List.all_eq_true.mp whats_pl x g.1)
      have a2 := atom_wishes g.2
      have b1 := a2.few
      have b2 := a2.op
      simp only [Ask.parts, List.map_cons, List.map_nil, List.sum_cons, List.sum_nil] at jl jc
      simp only [Ask.parts, List.map_cons, List.map_nil] at eL eC
      have e1 : (Part.what x).t = x := rfl
      have e2 : (Part.wishes ws).t = wsT ws := rfl
      rw [e1, e2] at jl jc eL eC
      have d0 : (Ask.fold x ws).deep = 0 := rfl
      rw [d0]
      exact ⟨by omega, by omega⟩
    | by_ x ks a =>
      have ha := h _ (.tail _ (.tail _ (.head _))) a rfl
      have b1 := ha.2.2.len
      have b2 := ha.2.2.op
      have a1 := plain_len (List.all_eq_true.mp tracks_pl x g.1)
      have a2 := plain_len (List.all_eq_true.mp keys_pl ks g.2.1)
      simp only [Ask.parts, List.map_cons, List.map_nil, List.sum_cons, List.sum_nil] at jl jc
      simp only [Ask.parts, List.map_cons, List.map_nil] at eL eC
      have e1 : (Part.word kTr x).t = x := rfl
      have e2 : (Part.keys ks).t = ksT ks := rfl
      have e3 : (Part.ask a).t = a.t := rfl
      rw [e1, e2, e3] at jl jc eL eC
      have d0 : (Ask.by_ x ks a).deep = a.deep + 1 := rfl
      rw [d0, d1, d2]
      have := @p1 a.deep
      have := @p2 a.deep
      exact ⟨by omega, by omega⟩
    | each x a n m =>
      have ha := h _ (.tail _ (.head _)) a rfl
      have b1 := ha.2.2.len
      have b2 := ha.2.2.op
      have a1 := plain_len (List.all_eq_true.mp each_pl x g.1)
      have a2 := rT_le g.2.2
      have a3 : cnt' 40 (rT n m) = 0 := cnt_none 40 _ (rT_free 40 ⟨by decide, by decide⟩ (by decide) n m)
      simp only [Ask.parts, List.map_cons, List.map_nil, List.sum_cons, List.sum_nil] at jl jc
      simp only [Ask.parts, List.map_cons, List.map_nil] at eL eC
      have e1 : (Part.word kEa x).t = x := rfl
      have e2 : (Part.num n m).t = rT n m := rfl
      have e3 : (Part.ask a).t = a.t := rfl
      rw [e1, e2, e3] at jl jc eL eC
      have d0 : (Ask.each x a n m).deep = a.deep + 1 := rfl
      rw [d0, d1, d2]
      have := @p1 a.deep
      have := @p2 a.deep
      exact ⟨by omega, by omega⟩
    | both x a b =>
      have ha := h _ (.tail _ (.head _)) a rfl
      have hb := h _ (.tail _ (.tail _ (.head _))) b rfl
      have b1 := ha.2.2.len
      have b2 := ha.2.2.op
      have b3 := hb.2.2.len
      have b4 := hb.2.2.op
      have a1 := plain_len (List.all_eq_true.mp both_pl x g.1)
      simp only [Ask.parts, List.map_cons, List.map_nil, List.sum_cons, List.sum_nil] at jl jc
      simp only [Ask.parts, List.map_cons, List.map_nil] at eL eC
      have e1 : (Part.word kBo x).t = x := rfl
      have e2 : (Part.ask b).t = b.t := rfl
      have e3 : (Part.ask a).t = a.t := rfl
      rw [e1, e2, e3] at jl jc eL eC
      have d0 : (Ask.both x a b).deep = max a.deep b.deep + 1 := rfl
      rw [d0, d1, d2]
      have u1 := pow_up (Nat.le_max_left a.deep b.deep)
      have u2 := pow_up (Nat.le_max_right a.deep b.deep)
      have u3 := pow_up' (Nat.le_max_left a.deep b.deep)
      have u4 := pow_up' (Nat.le_max_right a.deep b.deep)
      exact ⟨by omega, by omega⟩
    | fill x a =>
      have ha := h _ (.tail _ (.head _)) a rfl
      have b1 := ha.2.2.len
      have b2 := ha.2.2.op
      have a1 := plain_len (List.all_eq_true.mp fill_pl x g.1)
      simp only [Ask.parts, List.map_cons, List.map_nil, List.sum_cons, List.sum_nil] at jl jc
      simp only [Ask.parts, List.map_cons, List.map_nil] at eL eC
      have e1 : (Part.word kFi x).t = x := rfl
      have e3 : (Part.ask a).t = a.t := rfl
      rw [e1, e3] at jl jc eL eC
      have d0 : (Ask.fill x a).deep = a.deep + 1 := rfl
      rw [d0, d1, d2]
      have := @p1 a.deep
      have := @p2 a.deep
      exact ⟨by omega, by omega⟩
    | above a n m =>
      have ha := h _ (.head _) a rfl
      have b1 := ha.2.2.len
      have b2 := ha.2.2.op
      have a2 := rT_le g.2
      have a3 : cnt' 40 (rT n m) = 0 := cnt_none 40 _ (rT_free 40 ⟨by decide, by decide⟩ (by decide) n m)
      simp only [Ask.parts, List.map_cons, List.map_nil, List.sum_cons, List.sum_nil] at jl jc
      simp only [Ask.parts, List.map_cons, List.map_nil] at eL eC
      have e2 : (Part.num n m).t = rT n m := rfl
      have e3 : (Part.ask a).t = a.t := rfl
      rw [e2, e3] at jl jc eL eC
      have d0 : (Ask.above a n m).deep = a.deep + 1 := rfl
      rw [d0, d1, d2]
      have := @p1 a.deep
      have := @p2 a.deep
      exact ⟨by omega, by omega⟩
    | top n a =>
      have ha := h _ (.tail _ (.head _)) a rfl
      have b1 := ha.2.2.len
      have b2 := ha.2.2.op
      have a2 := nT_le g.1.2
      have a3 : cnt' 40 (nT n) = 0 := cnt_none 40 _ (nT_free 40 ⟨by decide, by decide⟩ n)
      simp only [Ask.parts, List.map_cons, List.map_nil, List.sum_cons, List.sum_nil] at jl jc
      simp only [Ask.parts, List.map_cons, List.map_nil] at eL eC
      have e2 : (Part.many n).t = nT n := rfl
      have e3 : (Part.ask a).t = a.t := rfl
      rw [e2, e3] at jl jc eL eC
      have d0 : (Ask.top n a).deep = a.deep + 1 := rfl
      rw [d0, d1, d2]
      have := @p1 a.deep
      have := @p2 a.deep
      exact ⟨by omega, by omega⟩
    | shift n a =>
      have ha := h _ (.tail _ (.head _)) a rfl
      have b1 := ha.2.2.len
      have b2 := ha.2.2.op
      have a2 := nT_le g.1
      have a3 : cnt' 40 (nT n) = 0 := cnt_none 40 _ (nT_free 40 ⟨by decide, by decide⟩ n)
      simp only [Ask.parts, List.map_cons, List.map_nil, List.sum_cons, List.sum_nil] at jl jc
      simp only [Ask.parts, List.map_cons, List.map_nil] at eL eC
      have e2 : (Part.by_ n).t = nT n := rfl
      have e3 : (Part.ask a).t = a.t := rfl
      rw [e2, e3] at jl jc eL eC
      have d0 : (Ask.shift n a).deep = a.deep + 1 := rfl
      rw [d0, d1, d2]
      have := @p1 a.deep
      have := @p2 a.deep
      exact ⟨by omega, by omega⟩
  refine ⟨?_, ?_, lens.1, lens.2⟩
  · rw [ask_ps]
    exact cl_head w1 (cl_flat (fun z => parts_ne a (List.map_eq_nil_iff.mp z)) cl)
  · rw [ask_ps]
    refine free_head (free_last fr f2) ?_
    rw [mem_cps_append]
    rintro (z | z)
    · exact w2 z
    · exact f1 z
end Tg

namespace Tg
open PySem PySem.Spec PyProof.Rows L2
/-! ### set(xs), xs a list of ints; sorted of it -/
section
variable {w : World} {P : Program} {s : Shared} {A : Around} {E : Value → Shared → Prop}
/-- a set without members, as it is laid -/
def emp (w : World) : Obj := { cls := .type "set", dict := none, data := .set #[] 0 (.fresh 0 0 (!w.params.followText "set-order")) }
/-- what has to come of it -/
def Came (w : World) (s : Shared) (ns : List Int) (h' : Heap) (c : Nat) : Prop := SetR w h' s.heap.objs.size (fun j => decide (j ∈ ns)) c ∧ c ≤ ns.length ∧ ∀ b o, s.heap.get? b = some o → h'.get? b = some o
theorem isl_plain {l : Addr} {items : Array Value} {hp : Heap} (h : hp.IsList l items) : ∃ o, hp.get? l = some o ∧ o.cls = .type "list" ∧ ∃ n, o.data = .seq items n := by
  exact h
set_option maxHeartbeats 3200000 in
theorem call_setL {l : Addr} {items : Array Value} (ns : List Int) {Q : Value → Shared → Prop} (calm : A.handled = none) (hl : s.heap.IsList l items) (are : IntsAre items.toList ns) (few : ns.length + 1 < scanBound)
    (out : ∀ (h' : Heap) (tk c : Nat), Came w s ns h' c → Q (.ref s.heap.objs.size) { s with heap := h', toks := tk }) : wpAny (model P w) A (call (.type "set") [.ref l]) Q E s := by
  have many : items.size = ns.length := by
    have z := IntsAre.length are
    rwa [Array.length_toList] at z
  obtain ⟨cc, rest, line⟩ := F.called_set.mro
  have f1 := F.called_set.made
  have f2 := F.called_set.sub
  refine wpAny_call (codeAny_of_tree (show wpAny _ _ (callAny (.type "set") _) _ _ _ from wpAny_pure ⟨Code.quiet_builtin _ (by decide +kernel), codeAny_builtin F.entry_type_call ?_⟩))
  rw [Around.under_plain (weight_type_call_type "set" [.ref l] []) rfl]; have f3 := F.called_set.notType
  have f4 := F.called_set.canCreate
  have f5 := F.typeCall_set_1 (.ref l); repeat (any_goals (first | assumption | wp_step))
  refine codeAny_mono (code_set_led1 (.ref l) (E := E) (Q₁ := fun obj s₁ => obj = .ref s.heap.objs.size ∧ s₁ = { s with heap := s.heap.push (emp w) }) ⟨rfl, rfl⟩) fun r s₁ hr => ?_
  match r, hr with
  | .error e, hr => exact hr
  | .ok .next, hr => exact hr.elim
  | .ok .brk, hr => exact hr.elim
  | .ok .cont, hr => exact hr.elim
  | .ok (.ret obj), ⟨eo, es⟩ =>
    subst eo
    subst es
    have at0 : (s.heap.push (emp w)).get? s.heap.objs.size = some (emp w) := Heap.get?_push_size _ rfl
    have ty0 : Shared.TypeIs { s with heap := s.heap.push (emp w) } (.ref s.heap.objs.size) "set" := ⟨_, at0, rfl⟩
    have f6 := F.called_set.init.lookup
    have f7 := F.called_set.init.bind (.ref s.heap.objs.size); repeat (any_goals (first | assumption | wp_step))
    refine codeAny_mono (codeAny_call_builtin (R := wants (fun r s₂ => r = .none ∧ ∃ h' tk c, s₂ = { s with heap := h', toks := tk } ∧ Came w s ns h' c) E) F.called_set.init.plain F.entry_set_init (check_set_init_1 ty0 ?_)) fun r₂ s₂ hr₂ => ?_
    · obtain ⟨⟨ocls, odict, odata, oslots⟩, hol, hcl, nl, hdl⟩ := isl_plain hl
      simp only at hcl hdl
      subst hcl
      subst hdl
      have below : l < s.heap.objs.size := Heap.lt_size hol
      have at1 : (s.heap.push (emp w)).get? l = some { cls := .type "list", dict := odict, data := .seq items nl, slots := oslots } := Heap.get?_push_of_some _ hol
      have g1 := F.sub_list_set
      have g2 := F.sub_list_frozenset
      have g3 : (Value.type "list" == Value.type "dict") = false := by decide
      have hl1 : (s.heap.push (emp w)).IsList l items := hl.push _
      unfold Builtin.«set.__init__» noKeywords Builtin.Frozenset.updateFrom; generalize hPI : pyIter = PI
      wp_walk
      subst hPI
      refine wpAny_pyIter_list hl1 (wpAny_bind (wpAny_runValue ?_))
      have hh3 : A.in1.in1.in1.handled = none := by simp [calm]
      have apart : l ≠ (s.heap.push (emp w)).objs.size := by
        rw [Heap.size_push]
        exact Nat.ne_of_lt (Nat.lt_succ_of_lt below)
      have off : s.heap.objs.size ∉ [(s.heap.push (emp w)).objs.size, l] := by
        rw [Heap.size_push]
        simp only [List.mem_cons, List.mem_singleton, List.not_mem_nil, or_false, not_or]
        exact ⟨Nat.ne_of_lt (Nat.lt_succ_self _), Nat.ne_of_gt below⟩
      have vals : ∀ (i : Nat) (v : Value), items[i]? = some v → ∃ k t, ns[i]? = some k ∧ v = .int k t := fun i v hv => by
        have hi : i < ns.length := many ▸ (Array.getElem?_eq_some_iff.mp hv).1
        obtain ⟨t, e⟩ := PyProof.Rows.IntsAre.int_at are i v (by rw [Array.getElem?_toList]; exact hv)
        rw [List.getD_eq_getElem?_getD, List.getElem?_eq_getElem hi] at e
        exact ⟨ns[i], t, List.getElem?_eq_getElem hi, e⟩
      refine set_update_ints ((Walks.list hh3 _ l apart items).toS) s.heap.objs.size off ns many few vals (items.size - 0) 0 _ (by omega) (Nat.zero_le _) ⟨⟨_, Heap.get?_push_size _ rfl, rfl, rfl⟩, hl1.push _⟩ ?_ ?_
      · exact ⟨0, Nat.le_refl 0, setR_new_at (Heap.get?_push_of_some _ at0)⟩
      · intro s' c' hm hc' hS'
        obtain ⟨h', g2', d', tk', os'⟩ := s'
        obtain rfl : g2' = s.gens := hm.gens
        obtain rfl : d' = s.drawn := hm.drawn
        obtain rfl : os' = s.os := hm.os
        show wpAny _ _ _ _ _ _
        refine wpAny_pure (show wpAny _ _ (ret Value.none) _ _ _ from wpAny_pure ⟨rfl, h', tk', c', rfl, hS', many ▸ hc', fun b o e => ?_⟩)
        have lt := Heap.lt_size e
        refine hm.heap b o ?_ (Heap.get?_push_of_some _ (Heap.get?_push_of_some _ e))
        simp only [List.mem_cons, List.mem_singleton, List.not_mem_nil, or_false, not_or]
        rw [Heap.size_push]
        exact ⟨Nat.ne_of_lt lt, Nat.ne_of_lt (Nat.lt_succ_of_lt lt)⟩
    · match r₂, hr₂ with
      | .error e, hr₂ => exact hr₂
      | .ok .next, hr₂ => exact hr₂.elim
      | .ok .brk, hr₂ => exact hr₂.elim
      | .ok .cont, hr₂ => exact hr₂.elim
      | .ok (.ret r), ⟨e1, h', tk, c', e2, come⟩ =>
        subst e1
        subst e2; repeat (any_goals (first | assumption | wp_step))
        exact out _ _ _ come
end
section
variable {X : Cx}
theorem few_of : ∀ {rs L : List Int}, rs.Nodup → (∀ r, r ∈ rs → r ∈ L) → rs.length ≤ L.length
  | [], L, _, _ => Nat.zero_le _
  | r :: rs, L, nd, h => by
    have n1 := (List.nodup_cons.mp nd).1
    have hr : r ∈ L := h r List.mem_cons_self
    have i := few_of (rs := rs) (L := L.erase r) (List.nodup_cons.mp nd).2 fun q hq => (List.mem_erase_of_ne (fun z : q = r => n1 (by rw [← z]; exact hq))).mpr (h q (List.mem_cons_of_mem _ hq))
    rw [List.length_erase_of_mem hr] at i
    have := List.length_pos_of_mem hr
    show rs.length + 1 ≤ L.length
    omega
/-- a set has no more members than any list that has them -/
theorem setR_few {w : World} {h : Heap} {a : Addr} {S : Int → Bool} {n : Nat} (R : SetR w h a S n) {L : List Int} (all : ∀ k, S k = true → k ∈ L) : n ≤ L.length := by
  obtain ⟨o, es, ep, t, _, _, _, _, nd, mem, _, _, size, _⟩ := R
  have z := few_of nd fun r hr => all r ((mem r).mpr hr)
  rw [List.length_map, Array.length_toList, size] at z
  exact z
/-- set(xs) -/
def rSetL (K : PySem.W.Frag) (w : World) : List V → Hp → VK → Prop := fun vs H Q => ∃ (l : Addr) (ns : List Int), vs = [V.ref l] ∧ SqL K H l (ns.map V.int) ∧ ns.length ≤ 1000 ∧ ∀ (a : Addr) (c : Nat), H a = none → (∀ L : List Int, (∀ k, k ∈ ns → k ∈ L) → c ≤ L.length) → Q (.ref a) (upd H a (SetO w a (fun j => decide (j ∈ ns)) c))
theorem cr_setL (hc : X.calm = true) : CallR X (.type "set") (rSetL X.K X.w) := by
  intro pins s σ H vs us Q I r want
  obtain ⟨l, ns, rfl, hl, few, q⟩ := want
  rw [Vals.ref1 r]
  obtain ⟨its, rv, isl, _⟩ := I.list hl
  refine call_setL ns (I.ok.hd hc) isl.isList ?_ (by unfold scanBound; omega) fun h' tk c come => ?_
  · exact intsAre_of rv
  · obtain ⟨R, le, kp⟩ := come
    exact ⟨.ref s.heap.objs.size, _, I.laid (t' := tk) kp (Nat.le_refl _) (setO_new R), rfl, q _ c (I.hok.fresh (Nat.le_refl _)) fun L hL => setR_few R fun k hk => hL k (of_decide_eq_true hk)⟩
end
end Tg

set_option maxHeartbeats 2000000
namespace Tg
open PySem PySem.Spec PyProof.Rows L2 PpSet
/-! ### set(xs), xs a list of texts -/
section
variable {w : World} {P : Program} {s : Shared} {A : Around} {E : Value → Shared → Prop}
theorem TxS.congr {h : Heap} {a : Addr} {S S' : Str → Bool} {n : Nat} (R : TxS w h a S n) (e : ∀ z, S z = S' z) : TxS w h a S' n := (funext e : S = S') ▸ R
theorem set_adds_txs {I : Addr} {fp wr : List Addr} {G : Array GenState → Array GenState → Prop} {n : Nat} {Pv : Nat → Value → Prop} {St : Nat → Shared → Prop} {R : Result → Shared → Prop}
    (W : WalksS P w A.in1 I fp wr G n Pv St) (D : Addr) (off : D ∉ fp) (zs : List Str) (len : n = zs.length) (bound : zs.length + 1 < scanBound) (vals : ∀ i v, Pv i v → ∃ z t, zs[i]? = some z ∧ v = .str z t) :
    ∀ (k i : Nat) (s : Shared), n - i = k → i ≤ n → St i s → (∃ c, c ≤ i ∧ TxS w s.heap D (fun j => decide (j ∈ zs.take i)) c) →
      (∀ s' c, Moved (D :: wr) G s s' → c ≤ n → TxS w s'.heap D (fun j => decide (j ∈ zs)) c → R (.ok (.ret .none)) s') →
      codeAny (model P w) A (.builtin "set.update.loop" ⟨[.ref D, .ref I], []⟩) R s := by
  have offw : D ∉ wr := fun z => off (W.sub _ z)
  have more_ : ∀ b, b ∈ wr → b ∈ D :: wr := fun b hb => List.mem_cons_of_mem _ hb
  intro k
  induction k with
  | zero =>
    intro i s ek hi st told out
    obtain ⟨c, hc, have_⟩ := told
    obtain rfl : i = n := by omega
    refine codeAny_builtin F.entry_set_update_loop ((Around.under_plainId F.plain_set_update_loop _).symm ▸ ?_)
    change wpAny _ A.in1 (pyNext (.ref I) >>= _) _ _ s
    refine wpAny_bind (W.done s _ _ st fun s1 mv => ?_)
    change wpAny _ A.in1 (ret Value.none) _ _ s1
    have all : zs.take i = zs := List.take_of_length_le (by omega)
    rw [all] at have_
    exact wpAny_pure (out s1 c (mv.mono more_) hc (have_.stays fun o e => mv.heap D o offw e))
  | succ k ih =>
    intro i s ek hi st told out
    obtain ⟨c, hc, have_⟩ := told
    have lt : i < n := by omega
    refine codeAny_builtin F.entry_set_update_loop ((Around.under_plainId F.plain_set_update_loop _).symm ▸ ?_)
    change wpAny _ A.in1 (pyNext (.ref I) >>= _) _ _ s
    refine wpAny_bind (W.item i s _ _ lt st fun v s1 pv_ st1 mv => ?_)
    obtain ⟨z, t, ez, rfl⟩ := vals i v pv_
    have have1 : TxS w s1.heap D (fun j => decide (j ∈ zs.take i)) c := have_.stays fun o e => mv.heap D o offw e
    change wpAny _ A.in1 (holding [Value.str z t] (setAdd D (.str z t)) >>= _) _ _ s1
    refine wpAny_bind (wpAny_holding (?_ : wpAny _ _ (setAdd D (.str z t)) _ _ _))
    unfold setAdd
    refine wpAny_holding (wpAny_bind ((mixKind P w).pyHash (mixKind_str P w z t) ?_))
    refine txs_hashed (s := { s1 with toks := s1.toks + 1 }) have1 (by omega) fun h1 sb have2 => ?_
    have have3 : TxS w h1 D (fun j => decide (j ∈ zs.take (i + 1))) (if decide (z ∈ zs.take i) = true then c else c + 1) := have2.congr fun j => by
      rw [List.take_add_one, ez]
      simp [List.mem_append, more]
    have c3 : (if decide (z ∈ zs.take i) = true then c else c + 1) ≤ i + 1 := by
      split <;> omega
    refine wpAny_pure ⟨plainId_quiet F.plain_set_update_loop _, ih (i + 1) _ (by omega) lt (W.frame _ s1 _ _ st1 (Nat.le_succ _) fun b hb o e => ?_) ⟨_, c3, have3⟩ fun s2 c2 mv2 hc2 have4 => ?_⟩
    · rw [sb.2 b (fun q : b = D => off (by rw [← q]; exact hb))]
      exact e
    · refine out s2 c2 (Moved.trans W.gtrans ((mv.mono more_).then_heap (Nat.le_succ _) fun b o hb e => ?_) mv2) hc2 have4
      rw [sb.2 b (fun q : b = D => hb (by rw [q]; exact List.mem_cons_self))]
      exact e
/-- what has to come of it -/
def CameT (w : World) (s : Shared) (zs : List Str) (h' : Heap) (c : Nat) : Prop := TxS w h' s.heap.objs.size (fun j => decide (j ∈ zs)) c ∧ c ≤ zs.length ∧ ∀ b o, s.heap.get? b = some o → h'.get? b = some o
set_option maxHeartbeats 3200000 in
theorem call_setTx {l : Addr} {items : Array Value} (zs : List Str) {Q : Value → Shared → Prop} (calm : A.handled = none) (hl : s.heap.IsList l items) (are : StrsAre items.toList zs) (few : zs.length + 1 < scanBound)
    (out : ∀ (h' : Heap) (tk c : Nat), CameT w s zs h' c → Q (.ref s.heap.objs.size) { s with heap := h', toks := tk }) : wpAny (model P w) A (call (.type "set") [.ref l]) Q E s := by
  have many : items.size = zs.length := by
    have z := are.length
    rwa [Array.length_toList] at z
  obtain ⟨cc, rest, line⟩ := F.called_set.mro
  have f1 := F.called_set.made
  have f2 := F.called_set.sub
  refine wpAny_call (codeAny_of_tree (show wpAny _ _ (callAny (.type "set") _) _ _ _ from wpAny_pure ⟨Code.quiet_builtin _ (by decide +kernel), codeAny_builtin F.entry_type_call ?_⟩))
  rw [Around.under_plain (weight_type_call_type "set" [.ref l] []) rfl]; have f3 := F.called_set.notType
  have f4 := F.called_set.canCreate
  have f5 := F.typeCall_set_1 (.ref l); repeat (any_goals (first | assumption | wp_step))
  refine codeAny_mono (code_set_led1 (.ref l) (E := E) (Q₁ := fun obj s₁ => obj = .ref s.heap.objs.size ∧ s₁ = { s with heap := s.heap.push (emp w) }) ⟨rfl, rfl⟩) fun r s₁ hr => ?_
  match r, hr with
  | .error e, hr => exact hr
  | .ok .next, hr => exact hr.elim
  | .ok .brk, hr => exact hr.elim
  | .ok .cont, hr => exact hr.elim
  | .ok (.ret obj), ⟨eo, es⟩ =>
    subst eo
    subst es
    have at0 : (s.heap.push (emp w)).get? s.heap.objs.size = some (emp w) := Heap.get?_push_size _ rfl
    have ty0 : Shared.TypeIs { s with heap := s.heap.push (emp w) } (.ref s.heap.objs.size) "set" := ⟨_, at0, rfl⟩
    have f6 := F.called_set.init.lookup
    have f7 := F.called_set.init.bind (.ref s.heap.objs.size); repeat (any_goals (first | assumption | wp_step))
    refine codeAny_mono (codeAny_call_builtin (R := wants (fun r s₂ => r = .none ∧ ∃ h' tk c, s₂ = { s with heap := h', toks := tk } ∧ CameT w s zs h' c) E) F.called_set.init.plain F.entry_set_init (check_set_init_1 ty0 ?_)) fun r₂ s₂ hr₂ => ?_
    · obtain ⟨⟨ocls, odict, odata, oslots⟩, hol, hcl, nl, hdl⟩ := isl_plain hl
      simp only at hcl hdl
      subst hcl
      subst hdl
      have below : l < s.heap.objs.size := Heap.lt_size hol
      have at1 : (s.heap.push (emp w)).get? l = some { cls := .type "list", dict := odict, data := .seq items nl, slots := oslots } := Heap.get?_push_of_some _ hol
      have g1 := F.sub_list_set
      have g2 := F.sub_list_frozenset
      have g3 : (Value.type "list" == Value.type "dict") = false := by decide
      have hl1 : (s.heap.push (emp w)).IsList l items := hl.push _
      unfold Builtin.«set.__init__» noKeywords Builtin.Frozenset.updateFrom; generalize hPI : pyIter = PI
      wp_walk
      subst hPI
      refine wpAny_pyIter_list hl1 (wpAny_bind (wpAny_runValue ?_))
      have hh3 : A.in1.in1.in1.handled = none := by simp [calm]
      have apart : l ≠ (s.heap.push (emp w)).objs.size := by
        rw [Heap.size_push]
        exact Nat.ne_of_lt (Nat.lt_succ_of_lt below)
      have off : s.heap.objs.size ∉ [(s.heap.push (emp w)).objs.size, l] := by
        rw [Heap.size_push]
        simp only [List.mem_cons, List.mem_singleton, List.not_mem_nil, or_false, not_or]
        exact ⟨Nat.ne_of_lt (Nat.lt_succ_self _), Nat.ne_of_gt below⟩
      have vals : ∀ (i : Nat) (v : Value), items[i]? = some v → ∃ z t, zs[i]? = some z ∧ v = .str z t := fun i v hv => by
        obtain ⟨z, t, e1, e2⟩ := are.item i v (by rw [Array.getElem?_toList]; exact hv)
        exact ⟨z, t, e2, e1⟩
      refine set_adds_txs ((Walks.list hh3 _ l apart items).toS) s.heap.objs.size off zs many few vals (items.size - 0) 0 _ (by omega) (Nat.zero_le _) ⟨⟨_, Heap.get?_push_size _ rfl, rfl, rfl⟩, hl1.push _⟩ ?_ ?_
      · exact ⟨0, Nat.le_refl 0, ((txs_fresh w).stays fun ob e => Heap.get?_push_of_some _ e)⟩
      · intro s' c' hm hc' hS'
        obtain ⟨h', g2', d', tk', os'⟩ := s'
        obtain rfl : g2' = s.gens := hm.gens
        obtain rfl : d' = s.drawn := hm.drawn
        obtain rfl : os' = s.os := hm.os
        show wpAny _ _ _ _ _ _
        refine wpAny_pure (show wpAny _ _ (ret Value.none) _ _ _ from wpAny_pure ⟨rfl, h', tk', c', rfl, hS', many ▸ hc', fun b o e => ?_⟩)
        have lt := Heap.lt_size e
        refine hm.heap b o ?_ (Heap.get?_push_of_some _ (Heap.get?_push_of_some _ e))
        simp only [List.mem_cons, List.mem_singleton, List.not_mem_nil, or_false, not_or]
        rw [Heap.size_push]
        exact ⟨Nat.ne_of_lt lt, Nat.ne_of_lt (Nat.lt_succ_of_lt lt)⟩
    · match r₂, hr₂ with
      | .error e, hr₂ => exact hr₂
      | .ok .next, hr₂ => exact hr₂.elim
      | .ok .brk, hr₂ => exact hr₂.elim
      | .ok .cont, hr₂ => exact hr₂.elim
      | .ok (.ret r), ⟨e1, h', tk, c', e2, come⟩ =>
        subst e1
        subst e2; repeat (any_goals (first | assumption | wp_step))
        exact out _ _ _ come
end
section
variable {X : Cx}
theorem strs_of : ∀ {zs : List Str} {us : List Value}, Vals (zs.map V.str) us → StrsAre us zs
  | [], _, h => by
    cases h
    exact .nil
  | z :: zs, _, h => by
    cases h with
    | cons r t =>
      obtain ⟨k, rfl⟩ := r
      exact .cons z k (strs_of t)
/-- set(xs), xs texts -/
def rSetTx (K : PySem.W.Frag) (w : World) : List V → Hp → VK → Prop := fun vs H Q => ∃ (l : Addr) (zs : List Str), vs = [V.ref l] ∧ SqL K H l (zs.map V.str) ∧ zs.length ≤ 1000 ∧ ∀ (a : Addr) (c : Nat), H a = none → c ≤ zs.length → Q (.ref a) (upd H a (TxO w a (fun j => decide (j ∈ zs)) c))
theorem cr_setTx (hc : X.calm = true) : CallR X (.type "set") (rSetTx X.K X.w) := by
  intro pins s σ H vs us Q I r want
  obtain ⟨l, zs, rfl, hl, few, q⟩ := want
  rw [Vals.ref1 r]
  obtain ⟨its, rv, isl, _⟩ := I.list hl
  refine call_setTx zs (I.ok.hd hc) isl.isList (strs_of rv) (by unfold scanBound; omega) fun h' tk c come => ?_
  obtain ⟨R, le, kp⟩ := come
  exact ⟨.ref s.heap.objs.size, _, I.laid (t' := tk) kp (Nat.le_refl _) (txO_new R), rfl, q _ c (I.hok.fresh (Nat.le_refl _)) le⟩
end
end Tg

set_option maxHeartbeats 2000000
namespace Tg
open PySem PySem.Spec PyProof.Rows L2 PpSet
/-! ### set(xs), xs a tuple of texts; len(set(xs)) -/
section
variable {w : World} {P : Program} {s : Shared} {A : Around} {E : Value → Shared → Prop}
set_option maxHeartbeats 3200000 in
theorem call_setTxT {l : Addr} {items : Array Value} (zs : List Str) {Q : Value → Shared → Prop} (calm : A.handled = none) (hl : s.heap.IsTuple l items) (are : StrsAre items.toList zs) (few : zs.length + 1 < scanBound)
    (out : ∀ (h' : Heap) (tk c : Nat), CameT w s zs h' c → Q (.ref s.heap.objs.size) { s with heap := h', toks := tk }) : wpAny (model P w) A (call (.type "set") [.ref l]) Q E s := by
  have many : items.size = zs.length := by
    have z := are.length
    rwa [Array.length_toList] at z
  obtain ⟨cc, rest, line⟩ := F.called_set.mro
  have f1 := F.called_set.made
  have f2 := F.called_set.sub
  refine wpAny_call (codeAny_of_tree (show wpAny _ _ (callAny (.type "set") _) _ _ _ from wpAny_pure ⟨Code.quiet_builtin _ (by decide +kernel), codeAny_builtin F.entry_type_call ?_⟩))
  rw [Around.under_plain (weight_type_call_type "set" [.ref l] []) rfl]; have f3 := F.called_set.notType
  have f4 := F.called_set.canCreate
  have f5 := F.typeCall_set_1 (.ref l); repeat (any_goals (first | assumption | wp_step))
  refine codeAny_mono (code_set_led1 (.ref l) (E := E) (Q₁ := fun obj s₁ => obj = .ref s.heap.objs.size ∧ s₁ = { s with heap := s.heap.push (emp w) }) ⟨rfl, rfl⟩) fun r s₁ hr => ?_
  match r, hr with
  | .error e, hr => exact hr
  | .ok .next, hr => exact hr.elim
  | .ok .brk, hr => exact hr.elim
  | .ok .cont, hr => exact hr.elim
  | .ok (.ret obj), ⟨eo, es⟩ =>
    subst eo
    subst es
    have at0 : (s.heap.push (emp w)).get? s.heap.objs.size = some (emp w) := Heap.get?_push_size _ rfl
    have ty0 : Shared.TypeIs { s with heap := s.heap.push (emp w) } (.ref s.heap.objs.size) "set" := ⟨_, at0, rfl⟩
    have f6 := F.called_set.init.lookup
    have f7 := F.called_set.init.bind (.ref s.heap.objs.size); repeat (any_goals (first | assumption | wp_step))
    refine codeAny_mono (codeAny_call_builtin (R := wants (fun r s₂ => r = .none ∧ ∃ h' tk c, s₂ = { s with heap := h', toks := tk } ∧ CameT w s zs h' c) E) F.called_set.init.plain F.entry_set_init (check_set_init_1 ty0 ?_)) fun r₂ s₂ hr₂ => ?_
    · obtain ⟨⟨ocls, odict, odata, oslots⟩, hol, hcl, nl, hdl⟩ := hl
      simp only at hcl hdl
      subst hcl
      subst hdl
      have below : l < s.heap.objs.size := Heap.lt_size hol
      have at1 : (s.heap.push (emp w)).get? l = some { cls := .type "tuple", dict := odict, data := .seq items nl, slots := oslots } := Heap.get?_push_of_some _ hol
      have g1 := F.sub_tuple_set
      have g2 := F.sub_tuple_frozenset
      have g3 : (Value.type "tuple" == Value.type "dict") = false := by decide
      have hl1 : (s.heap.push (emp w)).IsTuple l items := ⟨_, at1, rfl, nl, rfl⟩
      unfold Builtin.«set.__init__» noKeywords Builtin.Frozenset.updateFrom; generalize hPI : pyIter = PI
      wp_walk
      subst hPI
      refine wpAny_pyIter_tuple hl1 (wpAny_bind (wpAny_runValue ?_))
      have hh3 : A.in1.in1.in1.handled = none := by simp [calm]
      have apart : l ≠ (s.heap.push (emp w)).objs.size := by
        rw [Heap.size_push]
        exact Nat.ne_of_lt (Nat.lt_succ_of_lt below)
      have off : s.heap.objs.size ∉ [(s.heap.push (emp w)).objs.size, l] := by
        rw [Heap.size_push]
        simp only [List.mem_cons, List.mem_singleton, List.not_mem_nil, or_false, not_or]
        exact ⟨Nat.ne_of_lt (Nat.lt_succ_self _), Nat.ne_of_gt below⟩
      have vals : ∀ (i : Nat) (v : Value), items[i]? = some v → ∃ z t, zs[i]? = some z ∧ v = .str z t := fun i v hv => by
        obtain ⟨z, t, e1, e2⟩ := are.item i v (by rw [Array.getElem?_toList]; exact hv)
        exact ⟨z, t, e2, e1⟩
      refine set_adds_txs ((Walks.tuple hh3 _ l apart items).toS) s.heap.objs.size off zs many few vals (items.size - 0) 0 _ (by omega) (Nat.zero_le _) ⟨⟨_, Heap.get?_push_size _ rfl, rfl, rfl⟩, ⟨_, Heap.get?_push_of_some _ at1, rfl, nl, rfl⟩⟩ ?_ ?_
      · exact ⟨0, Nat.le_refl 0, ((txs_fresh w).stays fun ob e => Heap.get?_push_of_some _ e)⟩
      · intro s' c' hm hc' hS'
        obtain ⟨h', g2', d', tk', os'⟩ := s'
        obtain rfl : g2' = s.gens := hm.gens
        obtain rfl : d' = s.drawn := hm.drawn
        obtain rfl : os' = s.os := hm.os
        show wpAny _ _ _ _ _ _
        refine wpAny_pure (show wpAny _ _ (ret Value.none) _ _ _ from wpAny_pure ⟨rfl, h', tk', c', rfl, hS', many ▸ hc', fun b o e => ?_⟩)
        have lt := Heap.lt_size e
        refine hm.heap b o ?_ (Heap.get?_push_of_some _ (Heap.get?_push_of_some _ e))
        simp only [List.mem_cons, List.mem_singleton, List.not_mem_nil, or_false, not_or]
        rw [Heap.size_push]
        exact ⟨Nat.ne_of_lt lt, Nat.ne_of_lt (Nat.lt_succ_of_lt lt)⟩
    · match r₂, hr₂ with
      | .error e, hr₂ => exact hr₂
      | .ok .next, hr₂ => exact hr₂.elim
      | .ok .brk, hr₂ => exact hr₂.elim
      | .ok .cont, hr₂ => exact hr₂.elim
      | .ok (.ret r), ⟨e1, h', tk, c', e2, come⟩ =>
        subst e1
        subst e2; repeat (any_goals (first | assumption | wp_step))
        exact out _ _ _ come
end
section
variable {X : Cx}
/-- set(xs), xs a tuple of texts that are unlike -/
def rSetTxT (K : PySem.W.Frag) (w : World) : List V → Hp → VK → Prop := fun vs H Q => ∃ (l : Addr) (zs : List Str), vs = [V.ref l] ∧ SqT K H l (zs.map V.str) ∧ zs.length ≤ 1000 ∧ zs.Nodup ∧ ∀ (a : Addr), H a = none → Q (.ref a) (upd H a (TxO w a (fun j => decide (j ∈ zs)) zs.length))
theorem few_str : ∀ {rs L : List Str}, rs.Nodup → (∀ r, r ∈ rs → r ∈ L) → rs.length ≤ L.length
  | [], L, _, _ => Nat.zero_le L.length
  | r :: rs, L, nd, sub => by
    have ⟨n1, n2⟩ := List.nodup_cons.mp nd
    have m := sub r List.mem_cons_self
    have z := few_str (rs := rs) (L := L.erase r) n2 fun q hq => (List.mem_erase_of_ne (fun e : q = r => n1 (e ▸ hq))).mpr (sub q (List.mem_cons_of_mem _ hq))
    rw [List.length_erase_of_mem m] at z
    have : 0 < L.length := List.length_pos_of_mem m
    rw [List.length_cons]
    omega
theorem cr_setTxT (hc : X.calm = true) : CallR X (.type "set") (rSetTxT X.K X.w) := by
  intro pins s σ H vs us Q I r want
  obtain ⟨l, zs, rfl, hl, few, nd, q⟩ := want
  rw [Vals.ref1 r]
  obtain ⟨its, rv, isl, _⟩ := I.tuple hl
  refine call_setTxT zs (I.ok.hd hc) isl (strs_of rv) (by unfold scanBound; omega) fun h' tk c come => ?_
  obtain ⟨R, le, kp⟩ := come
  have ec : c = zs.length := by
    obtain ⟨_, ms, _, _, _, _, _, _, once, mem, _, _, e, _⟩ := id R
    have z1 := few_str (rs := zs) (L := ms.toList.map txOf) nd fun z hz => (mem z).mp (decide_eq_true hz)
    have e5 : ms.toList.length = ms.size := Array.length_toList
    rw [List.length_map, e5, e] at z1
    omega
  subst ec
  exact ⟨.ref s.heap.objs.size, _, I.laid (t' := tk) kp (Nat.le_refl _) (txO_new R), rfl, q _ (I.hok.fresh (Nat.le_refl _))⟩
/-- len of a set of texts -/
def rLenTx (w : World) : List V → Hp → VK → Prop := fun vs H Q => ∃ (a : Addr) (S : Str → Bool) (n : Nat), vs = [V.ref a] ∧ H a = some (TxO w a S n) ∧ Q (.int n) H
theorem cr_lenTx : CallR X (.builtin "len") (rLenTx X.w) := by
  intro pins s σ H vs us Q I r want
  obtain ⟨a, S, n, rfl, ha, q⟩ := want
  rw [Vals.ref1 r]
  obtain ⟨ob, ms, ep, tb, at_a, ex, dat, _, _, _, few, fit, e, _⟩ := txO_get I ha
  refine call_len_set at_a ex dat fit (by unfold scanBound at few; omega) ⟨.int n, H, I.tok _, ⟨_, by rw [e]⟩, q⟩
end
end Tg

namespace Tg
open PySem PySem.Spec PyProof.Rows L2
/-! ### enumerate(t), t a tuple -/
set_option maxHeartbeats 1000000 in
theorem enum1_new {v : Value} {o : Obj} {Ok : Heap → Prop} (B : Begins v o Ok) :
    Meets (Builtin.«enumerate.__new__» ⟨[.type "enumerate", v], []⟩) (fun _ R s => Ok s.heap ∧ R (.ok (.ret (.ref (s.heap.push o).objs.size))) { s with heap := (s.heap.push o).push { cls := .type "enumerate", data := .fields #[.none, .bool false, .ref s.heap.objs.size, rawInt 0, .none, .none] } }) :=
  .of_wp fun prog w A R s want => by
    obtain ⟨hp, g, d, tk, os⟩ := s; obtain ⟨ok, want⟩ := want
    have isub := sub_enumerate
    have it0 : ∀ {A' : Around} {E : Value → Shared → Prop} {Q : Value → Shared → Prop}, Q (.ref hp.objs.size) ⟨hp.push o, g, d, tk, os⟩ → wpAny (model prog w) A' (pyIter v) Q E ⟨hp, g, d, tk, os⟩ := fun q => B.iter prog w _ _ ⟨hp, g, d, tk, os⟩ _ ok q
    wp_walk using it0
    apply wpAny_stack_any; intro fr; apply wpAny_pure
    split
    · rename_i c _ _ _ _ _
      cases (c == Value.type "enumerate") <;> (wp_walk using it0; exact ⟨_, rfl, want⟩)
    · wp_walk using it0; exact ⟨_, rfl, want⟩
theorem enum1_made {prog : Program} {w : World} {A : Around} {E : Value → Shared → Prop} {s : Shared} {v : Value} {o : Obj} {Ok : Heap → Prop} {Q : Value → Shared → Prop} (B : Begins v o Ok) (ok : Ok s.heap)
    (h : ∀ h', IsEnum h' (s.heap.objs.size + 1) s.heap.objs.size 0 .none → h'.get? s.heap.objs.size = some o → (∀ b o, s.heap.get? b = some o → h'.get? b = some o) → Q (.ref (s.heap.objs.size + 1)) { s with heap := h' }) :
    wpAny (model prog w) A (call (.type "enumerate") [v]) Q E s := by
  refine callType_new F.called_enumerate (by decide) (F.typeCall_enumerate_1 _) (F.newCall_enumerate_1 _) (fun obj => F.args_object_init_2 obj _) F.entry_enumerate_new (enum1_new B) ⟨ok, ?_⟩
  have more : (s.heap.push o).objs.size = s.heap.objs.size + 1 := by rw [Heap.size_push]
  show _ ∧ _
  rw [more]
  have he : IsEnum ((s.heap.push o).push { cls := .type "enumerate", data := .fields #[.none, .bool false, .ref s.heap.objs.size, rawInt 0, .none, .none] }) (s.heap.objs.size + 1) s.heap.objs.size 0 .none := by
    have z := Heap.get?_push_size (s.heap.push o) (o := { cls := .type "enumerate", data := .fields #[.none, .bool false, .ref s.heap.objs.size, rawInt 0, .none, .none] }) rfl
    rw [more] at z
    exact z
  exact ⟨⟨_, he, rfl⟩, h _ he (Heap.get?_push_of_some _ (Heap.get?_push_size _ B.free)) fun b o x => Heap.get?_push_of_some _ (Heap.get?_push_of_some _ x)⟩
/-- the tuple at a, each item with its place in a new pair -/
def IteT (K : PySem.W.Frag) (a : Addr) : It :=
  ⟨fun i H => ∃ (xs : List V) (x : V), SqT K H a xs ∧ xs[i]? = some x,
    fun i H v H' => ∃ T x, v = .ref T ∧ H T = none ∧ H' = upd H T (.tup [.int (i : Nat), x]) ∧ ∀ xs, SqT K H a xs → xs[i]? = some x,
    fun i H => ∃ xs : List V, SqT K H a xs ∧ xs.length = i⟩
theorem apart_ti {h : Heap} {a it : Addr} {items : Array Value} {i : Nat} (h1 : h.IsTuple a items) (h2 : h.IsTupleIter it a i) : a ≠ it := fun z => by
  obtain ⟨o, e, c, _⟩ := h1
  obtain ⟨o2, e2, c2, _⟩ := h2
  rw [z, e2] at e
  cases e
  rw [c2] at c
  exact absurd c (by decide)
theorem apart_te {h : Heap} {a e it : Addr} {items : Array Value} {k : Int} {old : Value} (h1 : h.IsTuple a items) (h2 : IsEnum h e it k old) : e ≠ a := fun z => by
  obtain ⟨o, e1, c, _⟩ := h1
  have h3 : h.get? a = _ := z ▸ h2
  rw [h3] at e1
  cases e1
  have c' : Value.type "enumerate" = Value.type "tuple" := c
  exact absurd c' (by decide)
theorem turn_enumT {P : Program} {w : World} {K : PySem.W.Frag} {elts : List Expr} {kk : Nat} {tpos : Pos} (a e it : Addr) :
    Turn P w K (.Tuple elts kk tpos) (IteT K a) [e, it] e (fun i h => (∃ old, IsEnum h e it (0 + (i : Int)) old) ∧ h.IsTupleIter it a i ∧ e ≠ it) where
  mem := List.mem_cons_self
  obj := fun i h st b hb => by
    obtain ⟨⟨old, he⟩, ⟨o, ho, _, hd⟩, _⟩ := st
    rw [List.mem_cons, List.mem_singleton] at hb
    rcases hb with rfl | rfl
    · exact ⟨_, he, fun v q => nomatch q⟩
    · exact ⟨o, ho, fun v q => by rw [hd] at q; cases q⟩
  keep := fun i h h' st k => ⟨st.1.imp fun old he => k e List.mem_cons_self _ he, st.2.1.at fun o q => k it (List.mem_cons_of_mem _ List.mem_cons_self) o q, st.2.2⟩
  item := by
    rintro X rfl rfl rfl hc i pins s σ H E I hf ⟨⟨old, he⟩, hit, hne⟩ ⟨xs, x, hq, hx⟩
    obtain ⟨its, rv, ist, _⟩ := I.tuple hq
    obtain ⟨u, hu, ru⟩ := Vals.get rv hx
    have isT : s.heap.IsTuple a its.toArray := ist
    have n1 := apart_ti isT hit
    have n2 := apart_te isT he
    have hil : i < its.toArray.size := by
      have := (List.getElem?_eq_some_iff.mp hu).1
      simpa using this
    have calm : X.A.in1.handled = none := by
      have := I.ok.hd hc
      simp [this]
    have G := GoesN.enumFrom (prog := X.prog) (w := X.w) (A := X.A) (elts := elts) (x1 := kk) (pos := tpos) 0 (Draws.tuple (prog := X.prog) (w := X.w) calm it a n1 its.toArray) e hne (by simp [hne, n2]) List.mem_cons_self
    refine G.goes i s _ E hil ⟨⟨old, he⟩, hit, isT⟩ fun v h' tk hy st' hk _ => ?_
    obtain ⟨T, t, u', ev, hT, hp, isp⟩ := hy
    obtain rfl : u' = u := by
      have z : its.toArray[i]? = some u' := hp
      rw [List.getElem?_toArray, hu] at z
      exact (Option.some.inj z).symm
    have new : ObjOk X.prog X.w (upd H T (.tup [.int (i : Nat), x])) h' T (.tup [.int (i : Nat), x]) := by
      refine ⟨by show 2 ≤ sizeLine; decide, [.int (0 + (i : Int)) t, u'], .cons ⟨_, by rw [Int.zero_add]⟩ (.cons ru .nil), isp⟩
    have J : Inv X pins σ (upd H T (.tup [.int (i : Nat), x])) { s with heap := h', toks := tk } := I.turnedNew (ch := [e, it]) (fun b ob hb q => hk b ob hb q) hf hT new
    refine ⟨.ref T, _, J, by rw [ev]; rfl, ⟨T, x, rfl, I.hok.fresh hT, rfl, fun ys hy => by rw [I.tuple_inj hy hq]; exact hx⟩, ⟨?_, st'.2.1, hne⟩, fun b hb => ?_⟩
    · obtain ⟨old2, he2⟩ := st'.1
      exact ⟨old2, he2⟩
    · have lt : b < s.heap.objs.size := by
        rw [List.mem_cons, List.mem_singleton] at hb
        rcases hb with rfl | rfl
        · exact Heap.lt_size he
        · obtain ⟨_, q, _⟩ := hit
          exact Heap.lt_size q
      rw [upd_ne (Nat.ne_of_lt (Nat.lt_of_lt_of_le lt hT))]
      exact (hf b hb).1
  done := by
    rintro X rfl rfl rfl hc i pins s σ H E I hf ⟨⟨old, he⟩, hit, hne⟩ ⟨xs, hq, hx⟩
    obtain ⟨its, rv, ist, _⟩ := I.tuple hq
    have isT : s.heap.IsTuple a its.toArray := ist
    have n1 := apart_ti isT hit
    have n2 := apart_te isT he
    have calm : X.A.in1.handled = none := by
      have := I.ok.hd hc
      simp [this]
    have ei : its.toArray.size = i := by
      rw [← hx, rv.length]
      simp
    have G := GoesN.enumFrom (prog := X.prog) (w := X.w) (A := X.A) (elts := elts) (x1 := kk) (pos := tpos) 0 (Draws.tuple (prog := X.prog) (w := X.w) calm it a n1 its.toArray) e hne (by simp [hne, n2]) List.mem_cons_self
    refine G.stops s _ E (by rw [ei]; exact ⟨⟨old, he⟩, hit, isT⟩) fun h' tk hk _ => ?_
    exact I.turnedL (t' := tk) (ch := [e, it]) (fun b ob hb q => hk b ob hb q) hf
  self := fun A i s Q E st q => by
    obtain ⟨⟨old, he⟩, _⟩ := st
    exact wpAny_pyIter_enum he q
end Tg

namespace Tg
open PySem PySem.Spec PyProof.Rows L2
def iEnumT (K : PySem.W.Frag) (ta : TA) : TI := fun σ H R => ta σ H fun vs H1 => ∃ (a : Addr) (xs : List V), vs = [.ref a] ∧ SqT K H1 a xs ∧ R (IteT K a) H1
theorem pi_enumT {X : Cx} {e : Expr} {ta : TA} {p pos tpos : Pos} {elts : List Expr} {kk : Nat} (hg : Gl X "enumerate") (hm : X.mg "enumerate" = none) (ha : PA X [e] ta) (hs : starEach [e] X.env = [(false, eval e X.env)] := by rfl) :
    PI X (.Tuple elts kk tpos) (.Call (.Name "enumerate" p) [e] [] pos) (iEnumT X.K ta) := by
  constructor
  intro pins s σ H R I told
  refine Call_ (ld_blt I hg hm boot_enumerate (callWith_type1 (thn (ha.run pos pins s σ H _ I told) fun us s1 come => ?_) hs rfl))
  obtain ⟨_, H1, I1, r1, a, xs, rfl, hq, q⟩ := come
  cases r1 with
  | cons r rr =>
    cases rr
    cases r
    obtain ⟨its, rv, ist, _⟩ := I1.tuple hq
    have isT : s1.heap.IsTuple a its.toArray := ist
    refine enum1_made (begins_tuple a its.toArray) isT fun h' he hit hk => wpAny_pyIter_enum he ?_
    have I2 := I1.kept (t' := s1.toks) hk
    refine ⟨s1.heap.objs.size + 1, [s1.heap.objs.size + 1, s1.heap.objs.size], _, _, H1, rfl, I2, turn_enumT a (s1.heap.objs.size + 1) s1.heap.objs.size, ⟨⟨.none, he⟩, ⟨_, hit, rfl, rfl⟩, Nat.succ_ne_self _⟩, fun b hb => ?_, q⟩
    have late : s1.heap.objs.size ≤ b := by
      rw [List.mem_cons, List.mem_singleton] at hb
      rcases hb with rfl | rfl
      · exact Nat.le_succ _
      · exact Nat.le_refl _
    exact I1.fpOk late (I1.hok.fresh late)
theorem walk_enumT {K : PySem.W.Frag} {a : Addr} {xs : List V} : Walk (IteT K a) xs.length (fun H => SqT K H a xs) (YPair (fun i => some (.int (i : Nat))) (fun i => xs[i]?)) := by
  refine ⟨fun i _ hi q => ⟨xs, xs[i], q, by simp [hi]⟩, fun _ q => ⟨xs, q, rfl⟩, fun i _ _ _ _ q ⟨T, x, e, n, l, at_i⟩ => ?_⟩
  exact ⟨T, .int (i : Nat), x, e, n, l, rfl, at_i xs q⟩
theorem walk_zipTT {K : PySem.W.Frag} {a b : Addr} {xs ys : List V} (hl : xs.length = ys.length) : Walk (RZ.ItzT K a b) xs.length (fun H => SqT K H a xs ∧ SqT K H b ys) (YPair (fun i => xs[i]?) (fun i => ys[i]?)) := by
  refine ⟨fun i _ hi q => ⟨xs, ys, xs[i], ys[i]'(hl ▸ hi), q.1, q.2, by simp [hi], by simp [hl ▸ hi]⟩, fun _ q => ⟨xs, ys, q.1, q.2, .inl (Nat.le_refl _)⟩, fun i _ _ _ _ q ⟨T, x, z, e, n, l, one, two⟩ => ?_⟩
  exact ⟨T, x, z, e, n, l, one xs q.1, two ys q.2⟩
/-! ### zip of three tuples -/
def Itz3 (K : PySem.W.Frag) (a b c : Addr) : It :=
  ⟨fun i H => ∃ (xs ys zs : List V) (x y z : V), SqT K H a xs ∧ SqT K H b ys ∧ SqT K H c zs ∧ xs[i]? = some x ∧ ys[i]? = some y ∧ zs[i]? = some z,
    fun i H v H' => ∃ T x y z, v = .ref T ∧ H T = none ∧ H' = upd H T (.tup [x, y, z]) ∧ (∀ xs, SqT K H a xs → xs[i]? = some x) ∧ (∀ ys, SqT K H b ys → ys[i]? = some y) ∧ ∀ zs, SqT K H c zs → zs[i]? = some z,
    fun i H => ∃ xs ys zs : List V, SqT K H a xs ∧ SqT K H b ys ∧ SqT K H c zs ∧ min (min xs.length ys.length) zs.length = i⟩
theorem mem56 {z TI TO i1 i2 i3 e : Addr} (h : e ∈ [z, TO, i1, i2, i3]) : e ∈ [z, TI, TO, i1, i2, i3] := by
  rw [List.mem_cons] at h ⊢
  exact h.imp id fun q => List.mem_cons_of_mem _ q
theorem turn_zip3T {P : Program} {w : World} {K : PySem.W.Frag} {elts : List Expr} {kk : Nat} {tpos : Pos} {z TI TO i1 i2 i3 a b c : Addr} (S : ZipSep3 z TI TO i1 i2 i3 [i1, a] [i2, b] [i3, c]) (n1 : a ≠ i1) (n2 : b ≠ i2) (n3 : c ≠ i3) :
    Turn P w K (.Tuple elts kk tpos) (Itz3 K a b c) [z, TI, TO, i1, i2, i3] z (fun i h => IsZip h z TI TO .none ∧ IsTupOf3 h TI (.ref i1) (.ref i2) (.ref i3) ∧ (∃ a1 a2 a3, IsTupOf3 h TO a1 a2 a3) ∧ h.IsTupleIter i1 a i ∧ h.IsTupleIter i2 b i ∧ h.IsTupleIter i3 c i) where
  mem := List.mem_cons_self
  obj := fun i h st e he => by
    obtain ⟨hz, hTI, ⟨_, _, _, hTO⟩, ⟨o1, e1, _, d1⟩, ⟨o2, e2, _, d2⟩, ⟨o3, e3, _, d3⟩⟩ := st
    simp only [List.mem_cons, List.not_mem_nil, or_false] at he
    rcases he with rfl | rfl | rfl | rfl | rfl | rfl
    · exact ⟨_, hz, fun v q => nomatch q⟩
    · exact ⟨_, hTI, fun v q => nomatch q⟩
    · exact ⟨_, hTO, fun v q => nomatch q⟩
    · exact ⟨o1, e1, fun v q => by rw [d1] at q; cases q⟩
    · exact ⟨o2, e2, fun v q => by rw [d2] at q; cases q⟩
    · exact ⟨o3, e3, fun v q => by rw [d3] at q; cases q⟩
  keep := fun i h h' st k => by
    obtain ⟨hz, hTI, ⟨a1, a2, a3, hTO⟩, h1, h2, h3⟩ := st
    exact ⟨k z (by simp) _ hz, k TI (by simp) _ hTI, ⟨a1, a2, a3, k TO (by simp) _ hTO⟩, h1.at fun o q => k i1 (by simp) o q, h2.at fun o q => k i2 (by simp) o q, h3.at fun o q => k i3 (by simp) o q⟩
  item := by
    rintro X rfl rfl rfl hc i pins s σ H E I hf ⟨hz, hTI, hTO, h1, h2, h3⟩ ⟨xs, ys, zs, x, y, u, hqx, hqy, hqz, hx, hy, hu⟩
    obtain ⟨l1, rv1, p1, _⟩ := I.tuple hqx
    obtain ⟨l2, rv2, p2, _⟩ := I.tuple hqy
    obtain ⟨l3, rv3, p3, _⟩ := I.tuple hqz
    obtain ⟨u1, hu1, ru1⟩ := rv1.get hx
    obtain ⟨u2, hu2, ru2⟩ := Vals.get rv2 hy
    obtain ⟨u3, hu3, ru3⟩ := rv3.get hu
    have q1 : s.heap.IsTuple a l1.toArray := p1
    have q2 : s.heap.IsTuple b l2.toArray := p2
    have q3 : s.heap.IsTuple c l3.toArray := p3
    have g1 := (List.getElem?_eq_some_iff.mp hu1).1
    have g2 := (List.getElem?_eq_some_iff.mp hu2).1
    have g3 := (List.getElem?_eq_some_iff.mp hu3).1
    have calm : X.A.in1.handled = none := by
      have := I.ok.hd hc
      simp [this]
    have G := GoesN.zip3 (prog := X.prog) (w := X.w) (A := X.A) (elts := elts) (x1 := kk) (pos := tpos) S (Draws.tuple (prog := X.prog) (w := X.w) calm i1 a n1 l1.toArray) (Draws.tuple (prog := X.prog) (w := X.w) calm i2 b n2 l2.toArray) (Draws.tuple (prog := X.prog) (w := X.w) calm i3 c n3 l3.toArray)
    refine G.goes i s _ E (by simp only [List.size_toArray]; omega) ⟨hz, hTI, hTO, ⟨h1, q1⟩, ⟨h2, q2⟩, ⟨h3, q3⟩⟩ fun v h' tk hyl st' hk _ => ?_
    obtain ⟨T, v1, v2, v3, ev, hT, w1, w2, w3, isp⟩ := hyl
    obtain rfl : v1 = u1 := by
      have w1' : l1.toArray[i]? = some v1 := w1
      rw [List.getElem?_toArray, hu1] at w1'
      exact (Option.some.inj w1').symm
    obtain rfl : v2 = u2 := by
      have w2' : l2.toArray[i]? = some v2 := w2
      rw [List.getElem?_toArray, hu2] at w2'
      exact (Option.some.inj w2').symm
    obtain rfl : v3 = u3 := by
      have w3' : l3.toArray[i]? = some v3 := w3
      rw [List.getElem?_toArray, hu3] at w3'
      exact (Option.some.inj w3').symm
    have new : ObjOk X.prog X.w (upd H T (.tup [x, y, u])) h' T (.tup [x, y, u]) :=
      ⟨by show 3 ≤ sizeLine; decide, [v1, v2, v3], .cons ru1 (.cons ru2 (.cons ru3 .nil)), isp⟩
    have J : Inv X pins σ (upd H T (.tup [x, y, u])) { s with heap := h', toks := tk } := I.turnedNew (ch := [z, TI, TO, i1, i2, i3]) (fun e ob hb q => hk e ob (fun hm => hb (mem56 hm)) q) hf hT new
    obtain ⟨sz, sTI, sTO, s1, s2, s3⟩ := st'
    refine ⟨.ref T, _, J, by rw [ev]; rfl, ⟨T, x, y, u, rfl, I.hok.fresh hT, rfl, fun l hl => by rw [I.tuple_inj hl hqx]; exact hx, fun l hl => by rw [I.tuple_inj hl hqy]; exact hy, fun l hl => by rw [I.tuple_inj hl hqz]; exact hu⟩, ⟨sz, sTI, sTO, s1.1, s2.1, s3.1⟩, fun e he => ?_⟩
    have lt : e < s.heap.objs.size := by
      obtain ⟨_, _, _, hTO⟩ := hTO
      obtain ⟨_, e1, _⟩ := h1
      obtain ⟨_, e2, _⟩ := h2
      obtain ⟨_, e3, _⟩ := h3
      simp only [List.mem_cons, List.not_mem_nil, or_false] at he
      rcases he with rfl | rfl | rfl | rfl | rfl | rfl
      · exact Heap.lt_size hz
      · exact Heap.lt_size hTI
      · exact Heap.lt_size hTO
      · exact Heap.lt_size e1
      · exact Heap.lt_size e2
      · exact Heap.lt_size e3
    rw [upd_ne (Nat.ne_of_lt (Nat.lt_of_lt_of_le lt hT))]
    exact (hf e he).1
  done := by
    rintro X rfl rfl rfl hc i pins s σ H E I hf ⟨hz, hTI, hTO, h1, h2, h3⟩ ⟨xs, ys, zs, hqx, hqy, hqz, hn⟩
    obtain ⟨l1, rv1, p1, _⟩ := I.tuple hqx
    obtain ⟨l2, rv2, p2, _⟩ := I.tuple hqy
    obtain ⟨l3, rv3, p3, _⟩ := I.tuple hqz
    have q1 : s.heap.IsTuple a l1.toArray := p1
    have q2 : s.heap.IsTuple b l2.toArray := p2
    have q3 : s.heap.IsTuple c l3.toArray := p3
    have calm : X.A.in1.handled = none := by
      have := I.ok.hd hc
      simp [this]
    have G := GoesN.zip3 (prog := X.prog) (w := X.w) (A := X.A) (elts := elts) (x1 := kk) (pos := tpos) S (Draws.tuple (prog := X.prog) (w := X.w) calm i1 a n1 l1.toArray) (Draws.tuple (prog := X.prog) (w := X.w) calm i2 b n2 l2.toArray) (Draws.tuple (prog := X.prog) (w := X.w) calm i3 c n3 l3.toArray)
    have ei : min (min l1.toArray.size l2.toArray.size) l3.toArray.size = i := by
      rw [← hn, rv1.length, rv2.length, rv3.length]
      simp
    refine G.stops s _ E (by rw [ei]; exact ⟨hz, hTI, hTO, ⟨h1, q1⟩, ⟨h2, q2⟩, ⟨h3, q3⟩⟩) fun h' tk hk _ => ?_
    exact I.turnedL (t' := tk) (ch := [z, TI, TO, i1, i2, i3]) (fun e ob hb q => hk e ob (fun hm => hb (mem56 hm)) q) hf
  self := fun _ _ _ _ _ st => wpAny_pyIter_zip st.1
def iZip3 (K : PySem.W.Frag) (ta : TA) : TI := fun σ H R => ta σ H fun vs H1 => ∃ a b c xs ys zs, vs = [.ref a, .ref b, .ref c] ∧ SqT K H1 a xs ∧ SqT K H1 b ys ∧ SqT K H1 c zs ∧ R (Itz3 K a b c) H1
theorem pi_zip3T {X : Cx} {e e2 e3 : Expr} {ta : TA} {p pos tpos : Pos} {elts : List Expr} {kk : Nat} (hg : Gl X "zip") (hm : X.mg "zip" = none) (ha : PA X [e, e2, e3] ta)
    (hs : starEach [e, e2, e3] X.env = (false, eval e X.env) :: starEach [e2, e3] X.env := by rfl) (hpl : (backTo pos (starEach [e2, e3] X.env)).any (·.1) = false := by rfl) :
    PI X (.Tuple elts kk tpos) (.Call (.Name "zip" p) [e, e2, e3] [] pos) (iZip3 X.K ta) := by
  constructor
  intro pins s σ H R I told
  refine Call_ (ld_blt I hg hm boot_zip (callWith_type1 (thn (ha.run pos pins s σ H _ I told) fun us s1 come => ?_) hs hpl))
  obtain ⟨_, H1, I1, r1, a, b, c, xs, ys, zs, rfl, hqx, hqy, hqz, q⟩ := come
  cases r1 with
  | cons r rr =>
  cases rr with
  | cons r' rr =>
  cases rr with
  | cons r'' rr =>
    cases rr
    cases r
    cases r'
    cases r''
    obtain ⟨l1, rv1, p1, _⟩ := I1.tuple hqx
    obtain ⟨l2, rv2, p2, _⟩ := I1.tuple hqy
    obtain ⟨l3, rv3, p3, _⟩ := I1.tuple hqz
    have q1 : s1.heap.IsTuple a l1.toArray := p1
    have q2 : s1.heap.IsTuple b l2.toArray := p2
    have q3 : s1.heap.IsTuple c l3.toArray := p3
    obtain ⟨o1, e1, _⟩ := id q1
    obtain ⟨o2, e2, _⟩ := id q2
    obtain ⟨o3, e3, _⟩ := id q3
    have la : a < s1.heap.objs.size := Heap.lt_size e1
    have lb : b < s1.heap.objs.size := Heap.lt_size e2
    have lc : c < s1.heap.objs.size := Heap.lt_size e3
    refine zip_begins3 (begins_tuple a l1.toArray) (begins_tuple b l2.toArray) (begins_tuple c l3.toArray) q1 q2 q3 fun h' hz hTI hTO t1 t2 t3 _ hk => wpAny_pyIter_zip hz ?_
    have I2 := I1.kept (t' := s1.toks) hk
    refine ⟨s1.heap.objs.size + 5, [s1.heap.objs.size + 5, s1.heap.objs.size + 3, s1.heap.objs.size + 4, s1.heap.objs.size, s1.heap.objs.size + 1, s1.heap.objs.size + 2], _, _, H1, rfl, I2,
      turn_zip3T (zip_sep3 (N := s1.heap.objs.size) (fp1 := [a]) (fp2 := [b]) (fp3 := [c]) (fun d hd => by simp at hd; rw [hd]; exact la) (fun d hd => by simp at hd; rw [hd]; exact lb) (fun d hd => by simp at hd; rw [hd]; exact lc)) (Nat.ne_of_lt la) (Nat.ne_of_lt (Nat.lt_succ_of_lt lb)) (Nat.ne_of_lt (Nat.lt_succ_of_lt (Nat.lt_succ_of_lt lc))),
      ⟨hz, hTI, ⟨_, _, _, hTO⟩, ⟨_, t1, rfl, rfl⟩, ⟨_, t2, rfl, rfl⟩, ⟨_, t3, rfl, rfl⟩⟩, fun d hd => ?_, q⟩
    have late : s1.heap.objs.size ≤ d := by
      simp only [List.mem_cons, List.not_mem_nil, or_false] at hd
      rcases hd with rfl | rfl | rfl | rfl | rfl | rfl
      · exact Nat.le_add_right _ _
      · exact Nat.le_add_right _ _
      · exact Nat.le_add_right _ _
      · exact Nat.le_refl _
      · exact Nat.le_add_right _ _
      · exact Nat.le_add_right _ _
    exact I1.fpOk late (I1.hok.fresh late)
def YTri (xs ys zs : List V) : Nat → Hp → V → Hp → Prop := fun i H v H' => ∃ T x y z, v = .ref T ∧ H T = none ∧ H' = upd H T (.tup [x, y, z]) ∧ xs[i]? = some x ∧ ys[i]? = some y ∧ zs[i]? = some z
theorem walk_zip3T {K : PySem.W.Frag} {a b c : Addr} {xs ys zs : List V} (h1 : ys.length = xs.length) (h2 : zs.length = xs.length) : Walk (Itz3 K a b c) xs.length (fun H => SqT K H a xs ∧ SqT K H b ys ∧ SqT K H c zs) (YTri xs ys zs) := by
  refine ⟨fun i _ hi q => ⟨xs, ys, zs, xs[i], ys[i]'(h1.symm ▸ hi), zs[i]'(h2.symm ▸ hi), q.1, q.2.1, q.2.2, by simp [hi], by simp [h1.symm ▸ hi], by simp [h2.symm ▸ hi]⟩, fun _ q => ⟨xs, ys, zs, q.1, q.2.1, q.2.2, by omega⟩, fun i H v H' _ q y => ?_⟩
  obtain ⟨T, x, y, z, e1, e2, e3, f1, f2, f3⟩ := y
  exact ⟨T, x, y, z, e1, e2, e3, f1 xs q.1, f2 ys q.2.1, f3 zs q.2.2⟩
/-! ### t.index(x), t a tuple of ints -/
theorem mt_tup_indexI {X : Cx} : MtR X "tuple.index" (fun x xs H Q => ∃ p, ∃ ns : List Int, ∃ k, x = .ref p ∧ xs = [.int k] ∧ SqT X.K H p (ns.map V.int) ∧ k ∈ ns ∧ Q (.int (ns.idxOf k : Nat)) H) := by
  rintro pins s σ H _ _ v us Q I rx rs ⟨p, ns, k, rfl, rfl, hq, hk, q⟩
  cases rx
  obtain ⟨_, rfl, t, rfl⟩ := vals1 rs
  have ⟨its, r, pl, hz⟩ := I.tuple hq
  have isT : s.heap.IsTuple p its.toArray := pl
  have hi : IntsAre its ns := by
    clear hq isT pl hz hk q
    induction ns generalizing its with
    | nil => cases r; exact .nil
    | cons n ns ih =>
      cases r with
      | cons r1 rr =>
        obtain ⟨t', rfl⟩ := r1
        exact .cons _ _ (ih _ rr)
  exact PySem.SeqAt.tuple_index_ints isT hi hk ⟨.int (ns.idxOf k : Nat), H, I.tok _, ⟨_, rfl⟩, q⟩
end Tg

namespace Tg
open PySem PySem.Spec PyProof.Rows L2
/-! ### comprehensions over a tuple that stands, and over two side by side, whose items are known beforehand -/
section
variable {K : PySem.W.Frag} {g : TG} {te : TE} {vs : List Nat} {σ : L2.St} {H1 : Hp} {D : Addr} {Qd : Hp → Prop}
theorem lc_mapTp {a : Addr} {xs : List V} (ys : List V) (ly : ys.length = xs.length) (nD : H1 D = none) (hx : SqT K H1 a xs) (small : xs.length < sizeLine)
    (hs : ∀ (i : Nat) (x y : V) (Hc : Hp) (Q : VK), xs[i]? = some x → ys[i]? = some y → Same H1 Hc → (∀ H4, Same Hc H4 → Q y H4) → g x (wipe σ vs) Hc fun σ2 H2 => wipe σ2 vs = wipe σ vs ∧ te σ2 H2 Q)
    (hd : ∀ H', Same H1 H' → H' D = some (.lst ys) → Qd H') : Walked (Itt K a) (upd H1 D (.lst [])) (TurnL g te vs σ D) Qd :=
  lc_walk (J := Itt K a) xs.length ys ly nD small (fun Hc sm => ⟨xs, sqT_same sm hx, Nat.le_refl _⟩) (fun i Hc lt sm => ⟨xs, xs[i], sqT_same sm hx, List.getElem?_eq_getElem lt⟩)
    (fun i x y Hc H' Q lt ey sm yl q => by
      obtain ⟨rfl, h⟩ := yl
      exact hs i x y _ Q (h xs (sqT_same sm hx)) ey sm q) (fun i x Hc H' _ _ yl => by rw [yl.1]; exact Same.refl _) hd
theorem lc_mapZT {a b : Addr} {xs zs : List V} (ys : List V) (lz : zs.length = xs.length) (ly : ys.length = xs.length) (nD : H1 D = none) (hx : SqT K H1 a xs) (hz : SqT K H1 b zs) (small : xs.length < sizeLine)
    (hs : ∀ (i : Nat) (x z y : V) (T : Addr) (Hc : Hp) (Q : VK), xs[i]? = some x → zs[i]? = some z → ys[i]? = some y → Same H1 Hc → Hc T = some (.tup [x, z]) → (∀ H4, Same Hc H4 → Q y H4) → g (.ref T) (wipe σ vs) Hc fun σ2 H2 => wipe σ2 vs = wipe σ vs ∧ te σ2 H2 Q)
    (hd : ∀ H', Same H1 H' → H' D = some (.lst ys) → Qd H') :
    Walked (RZ.ItzT K a b) (upd H1 D (.lst [])) (TurnL g te vs σ D) Qd :=
  lc_walk (J := RZ.ItzT K a b) xs.length ys ly nD small (fun Hc sm => ⟨xs, zs, sqT_same sm hx, sqT_same sm hz, .inl (Nat.le_refl _)⟩) (fun i Hc lt sm => ⟨xs, zs, xs[i], zs[i]'(by omega), sqT_same sm hx, sqT_same sm hz, List.getElem?_eq_getElem lt, List.getElem?_eq_getElem (by omega)⟩)
    (fun i x y Hc H' Q lt ey sm yl q => by
      obtain ⟨T, u, v, rfl, nT, rfl, h1, h2⟩ := yl
      exact hs i u v y T _ Q (h1 xs (sqT_same sm hx)) (h2 zs (sqT_same sm hz)) ey (sm.trans (same_new nT)) upd_same q)
    (fun i x Hc H' _ _ yl => by
      obtain ⟨T, u, v, rfl, nT, rfl, _, _⟩ := yl
      exact same_new nT) hd
end
end Tg

namespace Tg
open PySem PySem.Spec PyProof.Rows L2
/-! ### d.get(text), d a dict of the module -/
def tKGet (K : PySem.W.Frag) (d : Addr) (td ty : TE) : TE := fun σ H Q => td σ H fun x H1 => x = .ref d ∧ ty σ H1 fun y H2 => ∃ (z : Str) (r : Option Value), y = .str z ∧ PySem.W.nsIn K d z = some r ∧
  ((∃ u v, r = some u ∧ RelV v u ∧ Q v H2) ∨ (r = none ∧ Q .non H2))
theorem pe_kget1 {X : Cx} {d : Addr} {es : Array DictEntry} {n : Nat} {o e : Expr} {apos cpos : Pos} {td ty : TE} (D : KDict X.K X.w d es n) (ho : PE X o td) (he : PE X e ty) (m : M1 X o "get" apos e cpos) :
    PE X (.Call (.Attribute o "get" apos) [e] [] cpos) (tKGet X.K d td ty) := by
  constructor
  intro pins s σ H Q I told
  refine wpAny_Call_method m.base m.few m.line PySem.F.plainAttrs_dict PySem.F.slot_dict_get PySem.F.type_dict_get (thn (ho.run pins s σ H _ I told) fun u s1 y1 => ?_)
  obtain ⟨x, H1, I1, rx, rfl, q1⟩ := y1
  cases (show u = Value.ref d from rx)
  refine ⟨kd_type D I1, fun b q => ?_, ?_⟩
  · cases q
    exact ⟨_, I1.kIn _ _ D.at_, rfl⟩
  rw [m.trees]
  refine Calls.callWith_builtin rfl (Calls.evalArgs_plain (Calls.spliced_cons (thn (he.run pins s1 σ H1 _ I1 q1) fun iv s2 y2 => Calls.spliced_nil ?_)))
  obtain ⟨y, H2, I2, ry, z, r, rfl, e1, q2⟩ := y2
  obtain ⟨t, rfl⟩ := ry
  have mp := PySem.W.mapOf_K (prog := X.prog) (w := X.w) I2.kIn D.at_ D.lit
  refine call_meetsIn PySem.F.slot_dict_get mp.typeIs PySem.F.entry_dict_get (PySem.F.args_dict_get_2 _ _) (meets_dict_get (strKind X.prog X.w) d (strKind_is X.prog X.w z t) D.low) ⟨_, mp, ?_⟩
  rw [PySem.W.find_K D.at_ e1]
  rcases q2 with ⟨u, v, rfl, rv, q⟩ | ⟨rfl, q⟩
  · exact ⟨v, H2, I2.tok _, rv, q⟩
  · exact ⟨.non, H2, I2.tok _, rfl, q⟩
end Tg

/-! zip of a tuple and a list -/
namespace Tg
open PySem PySem.Spec PyProof.Rows L2
def ItzTL (K : PySem.W.Frag) (a b : Addr) : It :=
  ⟨fun i H => ∃ (xs ys : List V) (x y : V), SqT K H a xs ∧ SqL K H b ys ∧ xs[i]? = some x ∧ ys[i]? = some y,
    fun i H v H' => ∃ T x y, v = .ref T ∧ H T = none ∧ H' = upd H T (.tup [x, y]) ∧ (∀ xs, SqT K H a xs → xs[i]? = some x) ∧ ∀ ys, SqL K H b ys → ys[i]? = some y,
    fun i H => ∃ xs ys : List V, SqT K H a xs ∧ SqL K H b ys ∧ min xs.length ys.length = i⟩
theorem mem45b {z TI TO i1 i2 e : Addr} (h : e ∈ [z, TO, i1, i2]) : e ∈ [z, TI, TO, i1, i2] := by
  rw [List.mem_cons] at h ⊢
  exact h.imp id fun q => List.mem_cons_of_mem _ q
theorem turn_zipTL {P : Program} {w : World} {K : PySem.W.Frag} {elts : List Expr} {kk : Nat} {tpos : Pos} {z TI TO i1 i2 a b : Addr} (S : ZipSep2 z TI TO i1 i2 [i1, a] [i2, b]) (n1 : a ≠ i1) (n2 : b ≠ i2) :
    Turn P w K (.Tuple elts kk tpos) (ItzTL K a b) [z, TI, TO, i1, i2] z (fun i h => IsZip h z TI TO .none ∧ IsTupOf2 h TI (.ref i1) (.ref i2) ∧ (∃ a1 a2, IsTupOf2 h TO a1 a2) ∧ h.IsTupleIter i1 a i ∧ h.IsListIter i2 b i) where
  mem := List.mem_cons_self
  obj := fun i h st e he => by
    obtain ⟨hz, hTI, ⟨_, _, hTO⟩, ⟨o1, e1, _, d1⟩, ⟨o2, e2, _, d2⟩⟩ := st
    simp only [List.mem_cons, List.not_mem_nil, or_false] at he
    rcases he with rfl | rfl | rfl | rfl | rfl
    · exact ⟨_, hz, fun _ z => nomatch z⟩
    · exact ⟨_, hTI, fun _ z => nomatch z⟩
    · exact ⟨_, hTO, fun _ z => nomatch z⟩
    · exact ⟨o1, e1, fun _ z => by rw [d1] at z; cases z⟩
    · exact ⟨o2, e2, fun _ z => by rw [d2] at z; cases z⟩
  keep := fun i h h' st k => by
    obtain ⟨hz, hTI, ⟨a1, a2, hTO⟩, h1, h2⟩ := st
    exact ⟨k z (by simp) _ hz, k TI (by simp) _ hTI, ⟨a1, a2, k TO (by simp) _ hTO⟩, h1.at fun _ q => k i1 (by simp) _ q, h2.at fun _ q => k i2 (by simp) _ q⟩
  item := by
    rintro X rfl rfl rfl hc i pins s σ H E I hf ⟨hz, hTI, hTO, h1, h2⟩ ⟨xs, ys, x, y, hqx, hqy, hx, hy⟩
    obtain ⟨l1, rv1, p1, _⟩ := I.tuple hqx
    obtain ⟨l2, rv2, p2, _⟩ := I.list hqy
    obtain ⟨u1, hu1, ru1⟩ := Vals.get rv1 hx
    obtain ⟨u2, hu2, ru2⟩ := Vals.get rv2 hy
    have q1 : s.heap.IsTuple a l1.toArray := p1
    have q2 : s.heap.IsList b l2.toArray := p2.isList
    have g1 := (List.getElem?_eq_some_iff.mp hu1).1
    have g2 := (List.getElem?_eq_some_iff.mp hu2).1
    have calm : X.A.in1.handled = none := by
      have := I.ok.hd hc
      simp [this]
    have G := GoesN.zip2 (prog := X.prog) (w := X.w) (A := X.A) (elts := elts) (x1 := kk) (pos := tpos) S (Draws.tuple (prog := X.prog) (w := X.w) calm i1 a n1 l1.toArray) (Draws.list (prog := X.prog) (w := X.w) calm i2 b n2 l2.toArray)
    refine G.goes i s _ E (by simp only [List.size_toArray]; omega) ⟨hz, hTI, hTO, ⟨h1, q1⟩, ⟨h2, q2⟩⟩ fun v h' tk hyl st' hk _ => ?_
    obtain ⟨T, v1, v2, ev, hT, w1, w2, isp⟩ := hyl
    obtain rfl : v1 = u1 := by
      have w1' : l1.toArray[i]? = some v1 := w1
      rw [List.getElem?_toArray, hu1] at w1'
      exact (Option.some.inj w1').symm
    obtain rfl : v2 = u2 := by
      have w2' : l2.toArray[i]? = some v2 := w2
      rw [List.getElem?_toArray, hu2] at w2'
      exact (Option.some.inj w2').symm
    have new : ObjOk X.prog X.w (upd H T (.tup [x, y])) h' T (.tup [x, y]) :=
      ⟨Nat.le_trans (show 2 ≤ 1000 by decide) (by decide), [v1, v2], .cons ru1 (.cons ru2 .nil), isp⟩
    have J : Inv X pins σ (upd H T (.tup [x, y])) { s with heap := h', toks := tk } := I.turnedNew (ch := [z, TI, TO, i1, i2]) (fun e ob hb q => hk e ob (fun hm => hb (mem45b hm)) q) hf hT new
    obtain ⟨sz, sTI, sTO, s1, s2⟩ := st'
    refine ⟨.ref T, _, J, by rw [ev]; rfl, ⟨T, x, y, rfl, I.hok.fresh hT, rfl, fun l hl => by rw [I.tuple_inj hl hqx]; exact hx, fun l hl => by rw [I.list_inj hl hqy]; exact hy⟩, ⟨sz, sTI, sTO, s1.1, s2.1⟩, fun e he => ?_⟩
    have lt : e < s.heap.objs.size := by
      obtain ⟨_, _, hTO⟩ := hTO
      obtain ⟨_, e1, _⟩ := h1
      obtain ⟨_, e2, _⟩ := h2
      simp only [List.mem_cons, List.not_mem_nil, or_false] at he
      rcases he with rfl | rfl | rfl | rfl | rfl
      · exact Heap.lt_size hz
      · exact Heap.lt_size hTI
      · exact Heap.lt_size hTO
      · exact Heap.lt_size e1
      · exact Heap.lt_size e2
    rw [upd_ne (Nat.ne_of_lt (Nat.lt_of_lt_of_le lt hT))]
    exact (hf e he).1
  done := by
    rintro X rfl rfl rfl hc i pins s σ H E I hf ⟨hz, hTI, hTO, h1, h2⟩ ⟨xs, ys, hqx, hqy, hn⟩
    obtain ⟨l1, rv1, p1, _⟩ := I.tuple hqx
    obtain ⟨l2, rv2, p2, _⟩ := I.list hqy
    have q1 : s.heap.IsTuple a l1.toArray := p1
    have q2 : s.heap.IsList b l2.toArray := p2.isList
    have calm : X.A.in1.handled = none := by
      have := I.ok.hd hc
      simp [this]
    have G := GoesN.zip2 (prog := X.prog) (w := X.w) (A := X.A) (elts := elts) (x1 := kk) (pos := tpos) S (Draws.tuple (prog := X.prog) (w := X.w) calm i1 a n1 l1.toArray) (Draws.list (prog := X.prog) (w := X.w) calm i2 b n2 l2.toArray)
    have ei : min l1.toArray.size l2.toArray.size = i := by
      rw [← hn, rv1.length, rv2.length]
      simp
    refine G.stops s _ E (by rw [ei]; exact ⟨hz, hTI, hTO, ⟨h1, q1⟩, ⟨h2, q2⟩⟩) fun h' tk hk _ => ?_
    exact I.turnedL (t' := tk) (ch := [z, TI, TO, i1, i2]) (fun e ob hb q => hk e ob (fun hm => hb (mem45b hm)) q) hf
  self := fun _ _ _ _ _ st => wpAny_pyIter_zip st.1
def iZipTL (K : PySem.W.Frag) (ta : TA) : TI := fun σ H R => ta σ H fun vs H1 => ∃ a b xs ys, vs = [.ref a, .ref b] ∧ SqT K H1 a xs ∧ SqL K H1 b ys ∧ R (ItzTL K a b) H1
theorem pi_zipTL {X : Cx} {e e2 : Expr} {ta : TA} {p pos tpos : Pos} {elts : List Expr} {kk : Nat} (gl : Gl X "zip") (none_there : X.mg "zip" = none) (args : PA X [e, e2] ta)
    (star : starEach [e, e2] X.env = (false, eval e X.env) :: starEach [e2] X.env := by rfl) (plain : (backTo pos (starEach [e2] X.env)).any (·.1) = false := by rfl) :
    PI X (.Tuple elts kk tpos) (.Call (.Name "zip" p) [e, e2] [] pos) (iZipTL X.K ta) := by
  constructor
  intro pins s σ H R I told
  refine Call_ (ld_blt I gl none_there boot_zip (callWith_type1 (thn (args.run pos pins s σ H _ I told) fun us s1 come => ?_) star plain))
  obtain ⟨_, H1, I1, r1, a, b, xs, ys, rfl, hqx, hqy, q⟩ := come
  obtain ⟨u1, u2, rfl, ra, rb⟩ := vals2 r1
  cases ra
  cases rb
  obtain ⟨l1, rv1, p1, _⟩ := I1.tuple hqx
  obtain ⟨l2, rv2, p2, _⟩ := I1.list hqy
  have q1 : s1.heap.IsTuple a l1.toArray := p1
  have q2 : s1.heap.IsList b l2.toArray := p2.isList
  obtain ⟨o1, e1, _⟩ := id q1
  have la : a < s1.heap.objs.size := Heap.lt_size e1
  have lb := p2.lt
  refine zip_begins2 (begins_tuple a l1.toArray) (begins_list b l2.toArray) q1 q2 fun h' hz hTI hTO t1 t2 _ hk => wpAny_pyIter_zip hz ?_
  have I2 := I1.kept (t' := s1.toks) hk
  refine ⟨s1.heap.objs.size + 4, [s1.heap.objs.size + 4, s1.heap.objs.size + 2, s1.heap.objs.size + 3, s1.heap.objs.size, s1.heap.objs.size + 1], _, _, H1, rfl, I2,
    turn_zipTL (zip_sep2 (N := s1.heap.objs.size) (fp1 := [a]) (fp2 := [b]) (fun d hd => by simp at hd; rw [hd]; exact la) (fun d hd => by simp at hd; rw [hd]; exact lb)) (Nat.ne_of_lt la) (Nat.ne_of_lt (Nat.lt_succ_of_lt lb)),
    ⟨hz, hTI, ⟨_, _, hTO⟩, ⟨_, t1, rfl, rfl⟩, ⟨_, t2, rfl, rfl⟩⟩, fun d hd => ?_, q⟩
  have late : s1.heap.objs.size ≤ d := by
    simp only [List.mem_cons, List.not_mem_nil, or_false] at hd
    rcases hd with rfl | rfl | rfl | rfl | rfl
    · exact Nat.le_add_right _ _
    · exact Nat.le_add_right _ _
    · exact Nat.le_add_right _ _
    · exact Nat.le_refl _
    · exact Nat.le_add_right _ _
  exact I1.fpOk late (I1.hok.fresh late)
theorem walk_zipTL {K : PySem.W.Frag} {a b : Addr} {xs ys : List V} (hl : xs.length = ys.length) : Walk (ItzTL K a b) xs.length (fun H => SqT K H a xs ∧ SqL K H b ys) (YPair (fun i => xs[i]?) (fun i => ys[i]?)) := by
  refine ⟨fun i _ hi q => ⟨xs, ys, xs[i], ys[i]'(hl ▸ hi), q.1, q.2, by simp [hi], by simp [hl ▸ hi]⟩, fun _ q => ⟨xs, ys, q.1, q.2, by omega⟩, fun i _ _ _ _ q ⟨T, x, z, e, n, l, one, two⟩ => ?_⟩
  exact ⟨T, x, z, e, n, l, one xs q.1, two ys q.2⟩
end Tg

set_option maxHeartbeats 1000000
namespace Tg
open PySem PySem.Spec PyProof.Rows L2 LamX
/-! ### is_whole, is_ratio, are_keys, ratio_text -/
abbrev sIW : Stmt := topS 5
abbrev sIR : Stmt := topS 13
abbrev sAK : Stmt := topS 17
abbrev sRT_ : Stmt := topS 34
abbrev NIR : List Str := ["thing", "part"]
abbrev NAK : List Str := ["thing", "key"]
theorem scIW : FnScope ["thing"] ["thing"] (defScope sIW) := ⟨rfl, rfl, rfl, by decide +kernel, rfl, by decide +kernel, by decide +kernel⟩
theorem scIR : FnScope NIR ["thing"] (defScope sIR) := ⟨rfl, rfl, rfl, by decide +kernel, rfl, by decide +kernel, by decide +kernel⟩
theorem scAK : FnScope NAK ["thing"] (defScope sAK) := ⟨rfl, rfl, rfl, by decide +kernel, rfl, by decide +kernel, by decide +kernel⟩
theorem scRT_ : FnScope ["number", "top", "bottom"] ["number"] (defScope sRT_) := ⟨rfl, rfl, rfl, by decide +kernel, rfl, by decide +kernel, by decide +kernel⟩
def spIW : Sp := fun vs H Q _ => ∃ i : Int, vs = [.int i] ∧ ∀ H', Same H H' → Q (.bl true) H'
def spIR (K : PySem.W.Frag) : Sp := fun vs H Q _ => ∃ (a : Addr) (n m : Int), vs = [.ref a] ∧ SqT K H a [.int n, .int m] ∧ GoodN n m ∧ ∀ H', Same H H' → Q (.bl true) H'
def spAK (K : PySem.W.Frag) : Sp := fun vs H Q _ => ∃ (a : Addr) (ks : List Str), vs = [.ref a] ∧ SqT K H a (ks.map V.str) ∧ ks ∈ keysL ∧ ∀ H', Same H H' → Q (.bl true) H'
def spRT_ (K : PySem.W.Frag) : Sp := fun vs H Q _ => ∃ (a : Addr) (n m : Int), vs = [.ref a] ∧ SqT K H a [.int n, .int m] ∧ GoodN n m ∧ ∀ H', Same H H' → Q (.str (rT n m)) H'
theorem call_isiC {X : Cx} (K : PySem.W.Frag) (hK : X.K = K := by rfl) : CallR X (.builtin "isinstance") (rIsi K) := by
  subst hK
  exact call_isi
theorem low_is {n m : Int} (g : GoodN n m) : lw n m = (n, m) := by
  unfold lw
  rw [g.low, Int.ediv_one, Int.ediv_one]
theorem keys_few : ∀ ks, ks ∈ keysL → ks.length ≤ 3 ∧ ks.Nodup := by decide +kernel
section
variable {P : Program} {w : World} {K : PySem.W.Frag} {mg : Str → Option Value} {base : Heap}
theorem ok_iw {f : Addr} {fd : FuncData} {k : Nat} (F : Fun K "is_whole" "is_whole" sIW f fd) (m_isinstance : mg "isinstance" = none) (m_int : mg "int" = none) (m_bool : mg "bool" = none) : FnOk P w K mg base CX0 (k + 1) f fd ["thing"] spIW := by
  refine F.ok scIW (fun vs H Q E h => ?_) (fun cdv A outer s H vs Q E hr h => ?_)
  · obtain ⟨i, rfl, _⟩ := h
    rfl
  · obtain ⟨i, rfl, q⟩ := h
    refine ⟨_, pss_one (ps_ret (pe_and (pe_callB call_isi (by rfl) m_isinstance (by decide +kernel) (pa_cons (pv 0) (pa_cons (pe_bltn (v := .ty "int") (by rfl) m_int (by decide +kernel) rfl) pa_nil))) (pe_one (pe_not (pe_callB call_isi (by rfl) m_isinstance (by decide +kernel) (pa_cons (pv 0) (pa_cons (pe_bltn (v := .ty "bool") (by rfl) m_bool (by decide +kernel) rfl) pa_nil))))))), ?_⟩
    refine ⟨_, rfl, .int i, .ty "int", .type "int", .type "int", true, rfl, .ty _, .base (.int i), kit_ty (by decide +kernel), true, rfl, if_y rfl ?_⟩
    exact ⟨_, rfl, .int i, .ty "bool", .type "int", .type "bool", false, rfl, .ty _, .base (.int i), kit_ty (by decide +kernel), false, rfl, q H (Same.refl _)⟩
theorem ok_ir {f : Addr} {fd : FuncData} {k : Nat} (F : Fun K "is_ratio" "is_ratio" sIR f fd) (C_is_whole : Cal P w K mg base k "is_whole" ["thing"] spIW) (C_lowest : Cal P w K mg base k "lowest" ["top", "bottom"] (spLo K)) (m_isinstance : mg "isinstance" = none) (m_tuple : mg "tuple" = none) (m_len : mg "len" = none) (m_all : mg "all" = none) : FnOk P w K mg base CX0 (k + 1) f fd ["thing"] (spIR K) := by
  refine F.ok scIR (fun vs H Q E h => ?_) (fun cdv A outer s H vs Q E hr h => ?_)
  · obtain ⟨a, n, m, rfl, _⟩ := h
    rfl
  · obtain ⟨a, n, m, rfl, ha, g, q⟩ := h
    have hu := hr.units
    refine ⟨_, pss_cons (ps_if (PW.pt (pw_or (pt_not (pt_val (pe_callB call_isi (by rfl) m_isinstance (by decide +kernel) (pa_cons (pv 0) (pa_cons (pe_bltn (v := .ty "tuple") (by rfl) m_tuple (by decide +kernel) rfl) pa_nil))))) (pw_or (pt_cmpR op_ne (pe_callB call_len_seq (by rfl) m_len (by decide +kernel) (pa_cons (pv 0) pa_nil)) pe_int (nomark _)) (pw_or1 (pt_not (pt_val (pe_callB (cr_all rfl) (by rfl) m_all (by decide +kernel) (pa_cons (pe_lc (own := [("part", 1)]) (g := (gName 1)) (tt := tYes) rfl scIR.nd (pi_tup (pv 0)) (blkOk_by (own := [("part", 1)]) (N := NIR) (sc := defScope sIR) (by decide +kernel)) (fun _ _ _ _ _ => (pg_name (i := 1) scIR.nd rfl (.inl rfl))) (fun _ _ _ _ _ => pts_nil) (fun _ _ _ _ _ => (pe_cal C_is_whole (hr.mono (by omega)) (by rfl) (pa_cons (pv 1) pa_nil)))) pa_nil))))))))
        (pss_one (ps_ret pe_bl))
        pss_nil)
      (pss_one (ps_ret (pe_and (pe_cmpR op_gt (pe_ix ix_tup (pv 0) pe_int (fun _ _ => rfl)) pe_int (nomark _)) (pe_one (pe_cmpR (op_eqD hu) (pe_cal C_lowest (hr.mono (by omega)) (by rfl) (pa_cons (pe_ix ix_tup (pv 0) pe_int (fun _ _ => rfl)) (pa_cons (pe_ix ix_tup (pv 0) pe_int (fun _ _ => rfl)) pa_nil))) (pv 0) (nomark _)))))), ?_⟩
    refine ⟨_, rfl, .ref a, .ty "tuple", .type "tuple", .type "tuple", true, rfl, .ty _, tyT ha, kit_ty (by decide +kernel), true, rfl, if_n rfl ?_⟩
    refine ⟨_, rfl, a, _, rfl, .inr ha, rfl, _, rfl, if_n (by rw [decide_eq_true (show V.int (([V.int n, V.int m].length : Nat) : Int) = V.int 2 from rfl)]; rfl) ?_⟩
    refine ⟨_, rfl, a, rfl, ⟨_, ha⟩, fun D nD => lc_mapTp (xs := [.int n, .int m]) [.bl true, .bl true] rfl nD ha (by show 2 < sizeLine; decide) (fun i x y Hc Q' hx hy sm q' => ?_) fun H1 s1 hD => ?_⟩
    · have ex : ∃ j : Int, x = .int j := by
        match i, hx with
        | 0, hx => cases hx; exact ⟨_, rfl⟩
        | 1, hx => cases hx; exact ⟨_, rfl⟩
        | i + 2, hx => cases hx
      have ey : y = .bl true := by
        match i, hy with
        | 0, hy => cases hy; rfl
        | 1, hy => cases hy; rfl
        | i + 2, hy => cases hy
      obtain ⟨j, rfl⟩ := ex
      subst ey
      exact ⟨rfl, _, rfl, j, rfl, fun H4 s4 => q' H4 s4⟩
    · refine ⟨D, [true, true], rfl, SqL.of hD, _, rfl, if_n rfl ?_⟩
      have ha1 := sqT_same s1 ha
      refine ⟨_, rfl, a, _, _, _, rfl, rfl, ha1, rfl, _, _, rfl, rfl, _, rfl, ?_⟩
      rw [decide_eq_true g.pos]
      refine if_y rfl ⟨_, rfl, a, _, _, _, rfl, rfl, ha1, rfl, _, rfl, a, _, _, _, rfl, rfl, ha1, rfl, n, m, rfl, g.pos, Nat.lt_trans g.m17 (by decide +kernel), fun p H2 s2 np hp => ?_⟩
      rw [low_is g] at hp
      refine ⟨_, rfl, _, _, .tup (SqT.of hp) (.cons (.int n) (.cons (.int m) .nil)), .tup (sqT_same s2 ha1) (.cons (.int n) (.cons (.int m) .nil)), shaped_of rfl (by show 1 ≤ 64; decide), shaped_of rfl (by show 1 ≤ 64; decide), ?_⟩
      have e : PyData.eqv (.tuple [.int n, .int m]) (.tuple [.int n, .int m]) = true := (Form.tup (.cons (.int n 0) (.cons (.int m 0) (.nil 0)))).own
      rw [e]
      exact q _ (s1.trans s2)
theorem ok_ak {f : Addr} {fd : FuncData} {k : Nat} (F : Fun K "are_keys" "are_keys" sAK f fd) (m_isinstance : mg "isinstance" = none) (m_tuple : mg "tuple" = none) (m_str : mg "str" = none) (m_set : mg "set" = none) (m_len : mg "len" = none) (m_all : mg "all" = none) : FnOk P w K mg base CX0 (k + 1) f fd ["thing"] (spAK K) := by
  refine F.ok scAK (fun vs H Q E h => ?_) (fun cdv A outer s H vs Q E hr h => ?_)
  · obtain ⟨a, ks, rfl, _⟩ := h
    rfl
  · obtain ⟨a, ks, rfl, ha, g, q⟩ := h
    obtain ⟨few, nd⟩ := keys_few ks g
    refine ⟨_, pss_cons (ps_if (PW.pt (pw_or (pt_not (pt_val (pe_callB call_isi (by rfl) m_isinstance (by decide +kernel) (pa_cons (pv 0) (pa_cons (pe_bltn (v := .ty "tuple") (by rfl) m_tuple (by decide +kernel) rfl) pa_nil))))) (pw_or1 (pt_not (pt_val (pe_callB (cr_all rfl) (by rfl) m_all (by decide +kernel) (pa_cons (pe_lc (own := [("key", 1)]) (g := (gName 1)) (tt := tYes) rfl scAK.nd (pi_tup (pv 0)) (blkOk_by (own := [("key", 1)]) (N := NAK) (sc := defScope sAK) (by decide +kernel)) (fun _ _ _ _ _ => (pg_name (i := 1) scAK.nd rfl (.inl rfl))) (fun _ _ _ _ _ => pts_nil) (fun _ _ _ _ _ => (pe_callB (call_isiC K) (by rfl) m_isinstance (by decide +kernel) (pa_cons (pv 1) (pa_cons (pe_bltn (v := .ty "str") (by rfl) m_str (by decide +kernel) rfl) pa_nil))))) pa_nil)))))))
        (pss_one (ps_ret pe_bl))
        pss_nil)
      (pss_one (ps_ret (pe_cmpR op_eq (pe_callB cr_lenTx (by rfl) m_len (by decide +kernel) (pa_cons (pe_callTy (cr_setTxT rfl) (by rfl) m_set (by decide +kernel) (pa_cons (pv 0) pa_nil)) pa_nil)) (pe_callB call_len_seq (by rfl) m_len (by decide +kernel) (pa_cons (pv 0) pa_nil)) (nomark _)))), ?_⟩
    refine ⟨_, rfl, .ref a, .ty "tuple", .type "tuple", .type "tuple", true, rfl, .ty _, tyT ha, kit_ty (by decide +kernel), true, rfl, if_n rfl ?_⟩
    refine ⟨_, rfl, a, rfl, ⟨_, ha⟩, fun D nD => lc_mapTp (xs := ks.map V.str) ((ks.map fun _ => true).map V.bl) (by rw [List.length_map, List.length_map, List.length_map]) nD ha (by rw [List.length_map]; exact small1000 (by omega)) (fun i x y Hc Q' hx hy sm q' => ?_) fun H1 s1 hD => ?_⟩
    · rw [List.getElem?_map] at hx
      obtain ⟨z, hz, rfl⟩ := Option.map_eq_some_iff.mp hx
      rw [List.getElem?_map, List.getElem?_map, hz] at hy
      cases hy
      exact ⟨rfl, _, rfl, .str z, .ty "str", .type "str", .type "str", true, rfl, .ty _, .base (.str z), kit_ty (by decide +kernel), q' Hc (Same.refl _)⟩
    · refine ⟨D, ks.map fun _ => true, rfl, SqL.of hD, _, rfl, if_n ?_ ?_⟩
      · have e : (ks.map fun _ => true).all id = true := by
          rw [List.all_map]
          exact List.all_eq_true.mpr fun b hb => rfl
        rw [e]
        rfl
      have ha1 := sqT_same s1 ha
      refine ⟨_, rfl, a, ks, rfl, ha1, by omega, nd, fun S nS => ⟨S, _, _, rfl, upd_same, _, rfl, a, _, rfl, .inr (sqT_same (same_new nS) ha1), rfl, ?_⟩⟩
      have e : decide (V.int (ks.length : Int) = V.int ((ks.map V.str).length : Int)) = true := decide_eq_true (by rw [List.length_map])
      rw [e]
      exact q _ (s1.trans (same_new nS))
theorem ok_rt_ {f : Addr} {fd : FuncData} {k : Nat} (F : Fun K "ratio_text" "ratio_text" sRT_ f fd) (m_str : mg "str" = none) : FnOk P w K mg base CX0 (k + 1) f fd ["number"] (spRT_ K) := by
  refine F.ok scRT_ (fun vs H Q E h => ?_) (fun cdv A outer s H vs Q E hr h => ?_)
  · obtain ⟨a, n, m, rfl, _⟩ := h
    rfl
  · obtain ⟨a, n, m, rfl, ha, g, q⟩ := h
    refine ⟨_, pss_cons (ps_asg (pv 0) (pg_tup rfl (pgs_cons (pg_name (i := 1) scRT_.nd rfl (.inl rfl)) (pgs_cons (pg_name (i := 2) scRT_.nd rfl (.inl rfl)) pgs_nil))))
      (pss_one (ps_ret (pe_ifExp (pt_cmpR op_eq (pv 2) pe_int (nomark _)) (pe_callTy call_str_int (by rfl) m_str (by decide +kernel) (pa_cons (pv 1) pa_nil)) (pe_jn (.cons (pe_fmt (pv 1)) (.cons pe_str (.cons (pe_fmt (pv 2)) .nil))))))), ?_⟩
    have l1 := nT_le g.n17
    have l2 := nT_le g.m17
    refine ⟨_, rfl, a, _, rfl, ha, rfl, _, _, rfl, _, _, rfl, rfl, ?_⟩
    refine ⟨_, rfl, rfl, _, rfl, ite2 (fun h => ?_) (fun h => ?_)⟩
    · have e : m = 1 := by
        have := of_decide_eq_true h
        cases this
        rfl
      have z := q H (Same.refl _)
      unfold rT at z
      rw [if_pos e] at z
      exact ⟨_, rfl, _, rfl, log17 g.n17, z⟩
    · have e : ¬ m = 1 := fun z => h (decide_eq_true (by rw [z]))
      have z := q H (Same.refl _)
      unfold rT at z
      rw [if_neg e] at z
      have e1 : (Str.ofString "/").length = 1 := rfl
      have e0 : Str.empty ++ nT n = nT n := Str.empty_append _
      refine ⟨_, rfl, .inr ⟨n, rfl, log17 g.n17, _, rfl, ?_, ?_⟩⟩
      · show (Str.empty ++ nT n).length ≤ _
        rw [e0]
        exact n1000 (by omega)
      show tJs _ (Str.empty ++ nT n) _ _ _
      rw [e0]
      refine ⟨_, rfl, by rw [Str.length_append, e1]; exact n1000 (by omega), _, rfl, .inr ⟨m, rfl, log17 g.m17, _, rfl, ?_, z⟩⟩
      show ((nT n ++ Str.ofString "/") ++ nT m).length ≤ _
      rw [Str.length_append, Str.length_append, e1]
      exact n1000 (by omega)
end
end Tg

set_option maxHeartbeats 1000000
namespace Tg
open PySem PySem.Spec PyProof.Rows L2 LamX
/-! ### ratio_of, keys_of, part_text, part_of -/
abbrev sRO_ : Stmt := topS 35
abbrev sKO : Stmt := topS 41
abbrev sPT : Stmt := topS 40
abbrev sPO : Stmt := topS 42
abbrev NKO : List Str := ["text", "keys", "key"]
theorem scRO_ : FnScope ["text", "top_text", "stroke", "bottom_text", "top", "bottom", "number"] ["text"] (defScope sRO_) := ⟨rfl, rfl, rfl, by decide +kernel, rfl, by decide +kernel, by decide +kernel⟩
theorem scKO : FnScope NKO ["text"] (defScope sKO) := ⟨rfl, rfl, rfl, by decide +kernel, rfl, by decide +kernel, by decide +kernel⟩
theorem scPT : FnScope ["kind", "part"] ["kind", "part"] (defScope sPT) := ⟨rfl, rfl, rfl, by decide +kernel, rfl, by decide +kernel, by decide +kernel⟩
theorem scPO : FnScope ["kind", "text"] ["kind", "text"] (defScope sPO) := ⟨rfl, rfl, rfl, by decide +kernel, rfl, by decide +kernel, by decide +kernel⟩
def spRO_ : Sp := fun vs H Q _ => ∃ n m : Int, vs = [.str (rT n m)] ∧ GoodN n m ∧ ∀ p H', Same H H' → H p = none → H' p = some (.tup [.int n, .int m]) → Q (.ref p) H'
def spKO : Sp := fun vs H Q _ => ∃ ks : List Str, vs = [.str (ksT ks)] ∧ ks ∈ keysL ∧ ∀ p H', Same H H' → H p = none → H' p = some (.tup (ks.map V.str)) → Q (.ref p) H'
/-- the path from an ask to its first fold's list -/
inductive FP (K : PySem.W.Frag) : Ask → Hp → V → Addr → Prop where
  | fold {x : Str} {ws : List Wx} {H : Hp} {t L : Addr} {xs : List V} (ht : SqT K H t [.str "fold", .str x, .ref L]) (hl : H L = some (.lst xs)) (few : xs.length ≤ 2) : FP K (.fold x ws) H (.ref t) L
  | step {a b : Ask} {j : Nat} {H : Hp} {t L : Addr} {vs : List V} {v : V} (nf : a.word ≠ "fold") (hj : a.parts[j]? = some (.ask b)) (first : ∀ i c, i < j → a.parts[i]? ≠ some (.ask c)) (ht : SqT K H t (.str a.word :: vs)) (hv : vs[j]? = some v) (r : FP K b H v L) : FP K a H (.ref t) L
theorem FP.same {K : PySem.W.Frag} {H H' : Hp} (s : Same H H') : ∀ {a : Ask} {v : V} {L : Addr}, FP K a H v L → FP K a H' v L := by
  intro a v L h
  induction h with
  | fold ht hl few => exact .fold (sqT_same s ht) (s _ _ hl) few
  | step nf hj f ht hv r ih => exact .step nf hj f (sqT_same s ht) hv (ih s)
/-- what is new of a part that was read: its list, or the list of its first fold -/
def NewP (K : PySem.W.Frag) (H Hh : Hp) (v : V) : Part → Prop
  | .wishes _ => ∃ L xs, v = .ref L ∧ H L = none ∧ Hh L = some (.lst xs) ∧ xs.length ≤ 2
  | .ask b => ∃ L, H L = none ∧ FP K b Hh v L
  | _ => True
theorem NewP.same {K : PySem.W.Frag} {H H1 Hh Hh' : Hp} {v : V} {p : Part} (s : Same Hh Hh') (h : NewP K H1 Hh v p) (n : ∀ b, H1 b = none → H b = none) : NewP K H Hh' v p := by
  cases p with
  | wishes ws =>
    obtain ⟨L, xs, e, h1, h2, h3⟩ := h
    exact ⟨L, xs, e, n _ h1, s _ _ h2, h3⟩
  | ask b =>
    obtain ⟨L, h1, h2⟩ := h
    exact ⟨L, n _ h1, h2.same s⟩
  | _ => trivial
def spPT (K : PySem.W.Frag) : Sp := fun vs H Q _ => ∃ (v : V) (p : Part), vs = [.str p.kind, v] ∧ p.low = true ∧ GoodP p ∧ Dp K H v p.d ∧ ∀ H', Same H H' → Q (.str p.t0) H'
def spPO (K : PySem.W.Frag) : Sp := fun vs H Q _ => ∃ (p : Part) (S : List Addr), vs = [.str p.kind, .str p.t0] ∧ p.low = true ∧ GoodP p ∧ Up H S ∧ ∀ v H', Same H H' → v ≠ .non → Dp K (hid H' S) v p.d → NewP K H (hid H' S) v p → Q v H'
theorem keys_back : ∀ ks, ks ∈ keysL → (ks ≠ [] → ksT ks ≠ "-" ∧ Txt.split (ksT ks) (Str.ofString "+") = ks) ∧ (ksT ks).length ≤ 50 ∧ (ks.all lblB = true) := by decide +kernel
def kindsW : List Str := [kTr, kEa, kBo, kFi]
theorem kind_in {k x : Str} (h : x ∈ wordsK k) : k ∈ kindsW := by
  unfold wordsK at h
  split at h
  · rename_i e; rw [e]; exact .head _
  split at h
  · rename_i e; rw [e]; exact .tail _ (.head _)
  split at h
  · rename_i e; rw [e]; exact .tail _ (.tail _ (.head _))
  split at h
  · rename_i e; rw [e]; exact .tail _ (.tail _ (.tail _ (.head _)))
  · cases h
theorem kinds_ne : ∀ k, k ∈ kindsW → k ≠ "wishes" ∧ k ≠ "keys" ∧ k ≠ "number" ∧ k ≠ "ask" ∧ k ≠ "what" ∧ k ≠ "many" ∧ k ≠ "by" := by decide +kernel
theorem no_str {a b : Str} (h : a ≠ b) : decide (V.str a = V.str b) = false := decide_eq_false fun z => h (V.str.inj z)
theorem keys_full : ∀ ks, ks ∈ keysL → ksT ks ≠ Str.empty := by decide +kernel
theorem keys_sum : ∀ ks, ks ∈ keysL → (ks.map (·.length)).sum + ks.length * (Str.ofString "+").length ≤ 100 := by decide +kernel
theorem words_len : ∀ x, x ∈ whatsL ++ tracksL ++ eachL ++ bothL ++ fillL → x.length ≤ 20 := by decide +kernel
theorem rt_one {n m : Int} (e : m = 1) : Txt.partition (rT n m) (Str.ofString "/") = (nT n, Str.empty, Str.empty) := by
  have z : rT n m = nT n := if_pos e
  rw [z]
  exact TL.partition_none (s := 47) (S := []) (by decide +kernel) (nT_free 47 ⟨by decide, by decide⟩ n)
theorem rt_two {n m : Int} (e : ¬ m = 1) : Txt.partition (rT n m) (Str.ofString "/") = (nT n, Str.ofString "/", nT m) := by
  have z : rT n m = (nT n ++ Str.ofString "/") ++ nT m := if_neg e
  rw [z]
  exact TL.partition_app (s := 47) (S := []) (by decide +kernel) (nT_free 47 ⟨by decide, by decide⟩ n)
section
variable {P : Program} {w : World} {K : PySem.W.Frag} {mg : Str → Option Value} {base : Heap} {t1 : Tok}
theorem ok_ro_ {f : Addr} {fd : FuncData} {k : Nat} (F : Fun K "ratio_of" "ratio_of" sRO_ f fd) (C_whole_of : Cal P w K mg base k "whole_of" ["text"] spWh) (C_lowest : Cal P w K mg base k "lowest" ["top", "bottom"] (spLo K)) (C_ratio_text : Cal P w K mg base k "ratio_text" ["number"] (spRT_ K)) : FnOk P w K mg base CX0 (k + 1) f fd ["text"] spRO_ := by
  refine F.ok scRO_ (fun vs H Q E h => ?_) (fun cdv A outer s H vs Q E hr h => ?_)
  · obtain ⟨n, m, rfl, _⟩ := h
    rfl
  · obtain ⟨n, m, rfl, g, q⟩ := h
    refine ⟨_, pss_cons (ps_asg (pe_partition (pv 0) pe_str) (pg_tup rfl (pgs_cons (pg_name (i := 1) scRO_.nd rfl (.inl rfl)) (pgs_cons (pg_name (i := 2) scRO_.nd rfl (.inl rfl)) (pgs_cons (pg_name (i := 3) scRO_.nd rfl (.inl rfl)) pgs_nil)))))
      (pss_cons (ps_set (i := 4) scRO_.nd rfl (.inl rfl) (pe_cal C_whole_of (hr.mono (by omega)) (by rfl) (pa_cons (pv 1) pa_nil)))
      (pss_cons (ps_set (i := 5) scRO_.nd rfl (.inl rfl) (pe_ifExp (pt_truth (pv 2) (fun _ => rfl)) (pe_cal C_whole_of (hr.mono (by omega)) (by rfl) (pa_cons (pv 3) pa_nil)) pe_int))
      (pss_cons (ps_if (PW.pt (pw_or (pt_cmpR op_isN (pv 4) pe_non (nomark _)) (pw_or (pt_cmpR op_isN (pv 5) pe_non (nomark _)) (pw_or1 (pt_cmpR op_lt (pv 5) pe_int (nomark _))))))
        (pss_one (ps_ret pe_non))
        pss_nil)
      (pss_cons (ps_set (i := 6) scRO_.nd rfl (.inl rfl) (pe_cal C_lowest (hr.mono (by omega)) (by rfl) (pa_cons (pv 4) (pa_cons (pv 5) pa_nil))))
      (pss_one (ps_ret (pe_ifExp (pt_cmpR op_eq (pe_cal C_ratio_text (hr.mono (by omega)) (by rfl) (pa_cons (pv 6) pa_nil)) (pv 0) (nomark _)) (pv 6) pe_non))))))), ?_⟩
    have l1 := rT_le g
    refine ⟨_, rfl, ⟨_, rfl⟩, _, _, rfl, rfl, rfl, n100 (by omega), fun r nr => ?_⟩
    by_cases e : m = 1
    · rw [rt_one e]
      have s1 := same_new (o := .tup [.str (nT n), .str Str.empty, .str Str.empty]) nr
      refine ⟨r, _, rfl, SqT.of upd_same, rfl, _, _, rfl, _, _, rfl, _, _, rfl, rfl, ?_⟩
      refine ⟨_, rfl, n, rfl, g.n17, fun H2 s2 => ⟨_, rfl, false, ⟨by show 0 ≤ _; omega, rfl⟩, if_n rfl ?_⟩⟩
      subst e
      refine ⟨_, rfl, rfl, _, rfl, if_n (decide_eq_false (fun z => nomatch z)) ⟨_, rfl, rfl, _, rfl, if_n (decide_eq_false (fun z => nomatch z)) ⟨_, rfl, _, _, rfl, rfl, _, rfl, if_n (decide_eq_false (by have := g.pos; omega)) ?_⟩⟩⟩
      refine ⟨_, rfl, _, rfl, n, 1, rfl, g.pos, by decide +kernel, fun p H4 s4 np hp => ?_⟩
      rw [low_is g] at hp
      refine ⟨_, rfl, p, n, 1, rfl, SqT.of hp, g, fun H5 s5 => ⟨_, rfl, rfl, _, rfl, if_y (decide_eq_true rfl) ⟨_, rfl, q p H5 ((s1.trans s2).trans (s4.trans s5)) ((s1.trans s2).free np) (s5 _ _ hp)⟩⟩⟩
    · rw [rt_two e]
      have s1 := same_new (o := .tup [.str (nT n), .str (Str.ofString "/"), .str (nT m)]) nr
      refine ⟨r, _, rfl, SqT.of upd_same, rfl, _, _, rfl, _, _, rfl, _, _, rfl, rfl, ?_⟩
      refine ⟨_, rfl, n, rfl, g.n17, fun H2 s2 => ⟨_, rfl, true, ⟨by show 1 ≤ _; decide, (show true = (((Str.ofString "/").length : Int) != 0) from by decide +kernel)⟩, if_y rfl ⟨_, rfl, m, rfl, g.m17, fun H3 s3 => ?_⟩⟩⟩
      refine ⟨_, rfl, rfl, _, rfl, if_n (decide_eq_false (fun z => nomatch z)) ⟨_, rfl, rfl, _, rfl, if_n (decide_eq_false (fun z => nomatch z)) ⟨_, rfl, _, _, rfl, rfl, _, rfl, if_n (decide_eq_false (by have := g.pos; omega)) ?_⟩⟩⟩
      refine ⟨_, rfl, _, rfl, n, m, rfl, g.pos, Nat.lt_trans g.m17 (by decide +kernel), fun p H4 s4 np hp => ?_⟩
      rw [low_is g] at hp
      refine ⟨_, rfl, p, n, m, rfl, SqT.of hp, g, fun H5 s5 => ⟨_, rfl, rfl, _, rfl, if_y (decide_eq_true rfl) ⟨_, rfl, q p H5 ((s1.trans (s2.trans s3)).trans (s4.trans s5)) ((s1.trans (s2.trans s3)).free np) (s5 _ _ hp)⟩⟩⟩
theorem ok_ko {f : Addr} {fd : FuncData} {k : Nat} (F : Fun K "keys_of" "keys_of" sKO f fd) (C_is_label_text : Cal P w K mg base k "is_label_text" ["thing"] (spIs (LblV K))) (m_tuple : mg "tuple" = none) (m_all : mg "all" = none) (g_NOTHING : mg "NOTHING" = some (.str "-" t1)) : FnOk P w K mg base CX0 (k + 1) f fd ["text"] spKO := by
  refine F.ok scKO (fun vs H Q E h => ?_) (fun cdv A outer s H vs Q E hr h => ?_)
  · obtain ⟨ks, rfl, _⟩ := h
    rfl
  · obtain ⟨ks, rfl, g, q⟩ := h
    obtain ⟨kb, kl, ka⟩ := keys_back ks g
    obtain ⟨few, _⟩ := keys_few ks g
    refine ⟨_, pss_cons (ps_if (pt_cmpR op_eq (pv 0) (pe_glob (v := .str "-") rfl g_NOTHING ⟨_, rfl⟩) (nomark _))
        (pss_one (ps_ret (pe_tup pa_nil)))
        pss_nil)
      (pss_cons (ps_set (i := 1) scKO.nd rfl (.inl rfl) (pe_callTy call_tuple_of (by rfl) m_tuple (by decide +kernel) (pa_cons (pe_split (pv 0) pe_str) pa_nil)))
      (pss_one (ps_ret (pe_ifExp (pt_val (pe_callB (cr_all rfl) (by rfl) m_all (by decide +kernel) (pa_cons (pe_lc (own := [("key", 2)]) (g := (gName 2)) (tt := tYes) rfl scKO.nd (pi_tup (pv 1)) (blkOk_by (own := [("key", 2)]) (N := NKO) (sc := defScope sKO) (by decide +kernel)) (fun _ _ _ _ _ => (pg_name (i := 2) scKO.nd rfl (.inl rfl))) (fun _ _ _ _ _ => pts_nil) (fun _ _ _ _ _ => (pe_cal C_is_label_text (hr.mono (by omega)) (by rfl) (pa_cons (pv 2) pa_nil)))) pa_nil))) (pv 1) pe_non)))), ?_⟩
    refine ⟨_, rfl, rfl, _, rfl, ?_⟩
    by_cases e : ks = []
    · subst e
      refine if_y (by decide +kernel) ⟨by decide, fun p np => ?_⟩
      exact q p _ (same_new np) np upd_same
    · obtain ⟨k1, k2⟩ := kb e
      refine if_n (decide_eq_false fun z => k1 (V.str.inj z)) ?_
      refine ⟨_, rfl, ⟨_, rfl⟩, _, _, rfl, rfl, rfl, Nat.le_trans (by omega : (ksT ks).length + 2 ≤ 1000) (by decide), fun l nl => ?_⟩
      rw [k2]
      have s1 := same_new (o := .lst (ks.map V.str)) nl
      refine ⟨l, _, rfl, .inl ⟨SqL.of upd_same, fun t nt => ?_⟩⟩
      have s2 := same_new (o := .tup (ks.map V.str)) nt
      refine ⟨_, rfl, t, rfl, ⟨_, SqT.of upd_same⟩, fun D nD => lc_mapTp (xs := ks.map V.str) ((ks.map fun _ => true).map V.bl) (by rw [List.length_map, List.length_map, List.length_map]) nD (SqT.of upd_same) (by rw [List.length_map]; exact small1000 (by omega)) (fun i x y Hc Q' hx hy sm q' => ?_) fun H1 s3 hD => ?_⟩
      · rw [List.getElem?_map] at hx
        obtain ⟨z, hz, rfl⟩ := Option.map_eq_some_iff.mp hx
        rw [List.getElem?_map, List.getElem?_map, hz] at hy
        cases hy
        have lz := List.all_eq_true.mp ka z (List.mem_of_getElem? hz)
        have lv := LblV.str (K := K) (H := Hc) z (n1000 (by have := lbl_len lz; omega))
        rw [lz] at lv
        exact ⟨rfl, _, rfl, .str z, true, rfl, lv, fun H4 s4 => q' H4 s4⟩
      · refine ⟨D, ks.map fun _ => true, rfl, SqL.of hD, _, rfl, if_y ?_ ⟨_, rfl, ?_⟩⟩
        · rw [List.all_map]
          exact List.all_eq_true.mpr fun b hb => rfl
        · exact q t H1 ((s1.trans s2).trans s3) (s1.free nt) (s3 _ _ upd_same)
theorem ok_pt {f : Addr} {fd : FuncData} {k : Nat} (F : Fun K "part_text" "part_text" sPT f fd) (C_wishes_text : Cal P w K mg base k "wishes_text" ["wishes"] (spWsT K)) (C_ratio_text : Cal P w K mg base k "ratio_text" ["number"] (spRT_ K)) (m_str : mg "str" = none) (g_NOTHING : mg "NOTHING" = some (.str "-" t1)) : FnOk P w K mg base CX0 (k + 1) f fd ["kind", "part"] (spPT K) := by
  refine F.ok scPT (fun vs H Q E h => ?_) (fun cdv A outer s H vs Q E hr h => ?_)
  · obtain ⟨v, p, rfl, _⟩ := h
    rfl
  · obtain ⟨v, p, rfl, low, g, dv, q⟩ := h
    refine ⟨_, pss_cons (ps_if (pt_cmpR op_eq (pv 0) pe_str (nomark _))
        (pss_one (ps_ret (pe_cal C_wishes_text (hr.mono (by omega)) (by rfl) (pa_cons (pv 1) pa_nil))))
        pss_nil)
      (pss_cons (ps_if (pt_cmpR op_eq (pv 0) pe_str (nomark _))
        (pss_one (ps_ret (pe_orT (pe_bm PySem.F.plainAttrs_str PySem.F.slot_str_join PySem.F.type_str_join mt_join pe_str (pa_cons (pv 1) pa_nil)) (pe_one (pe_glob (v := .str "-") rfl g_NOTHING ⟨_, rfl⟩)))))
        pss_nil)
      (pss_one (ps_ret (pe_ifExp (pt_cmpR op_eq (pv 0) pe_str (nomark _)) (pe_cal C_ratio_text (hr.mono (by omega)) (by rfl) (pa_cons (pv 1) pa_nil)) (pe_callTy (SkE.call_str_str.or call_str_int) (by rfl) m_str (by decide +kernel) (pa_cons (pv 1) pa_nil)))))), ?_⟩
    refine ⟨_, rfl, rfl, _, rfl, ?_⟩
    cases p with
    | ask a => cases low
    | wishes ws =>
      refine if_y rfl ?_
      cases dv with
      | lst hl da => exact ⟨_, rfl, _, _, ws, rfl, hl, da, g.g, fun H' s' => q H' s'⟩
    | keys ks =>
      obtain ⟨kb, kl, ka⟩ := keys_back ks g
      obtain ⟨few, _⟩ := keys_few ks g
      refine if_n (no_str (a := "keys") (b := "wishes") (by decide +kernel)) ⟨_, rfl, rfl, _, rfl, if_y rfl ?_⟩
      cases dv with
      | tup ht da =>
        have e := dp_strs da
        subst e
        refine ⟨rfl, _, rfl, _, _, ks, rfl, rfl, .inr ht, ?_, ?_⟩
        · have := keys_sum ks g
          omega
        · by_cases e : ks = []
          · subst e
            exact ⟨false, ⟨by show 0 ≤ _; omega, rfl⟩, if_n rfl (q H (Same.refl _))⟩
          · have ej : ksT ks = Txt.join (Str.ofString "+") ks := if_neg e
            have z := q H (Same.refl _)
            have ez : (Part.keys ks).t0 = Txt.join (Str.ofString "+") ks := ej
            rw [ez] at z
            rw [ej] at kl
            have ne : Txt.join (Str.ofString "+") ks ≠ Str.empty := by
              rw [← ej]
              exact keys_full ks g
            exact ⟨true, ⟨n1000 (by omega), tru_ne ne⟩, if_y rfl z⟩
    | num n m =>
      refine if_n (no_str (a := "number") (b := "wishes") (by decide +kernel)) ⟨_, rfl, rfl, _, rfl, if_n (no_str (a := "number") (b := "keys") (by decide +kernel)) ⟨_, rfl, rfl, _, rfl, if_y rfl ?_⟩⟩
      cases dv with
      | tup ht da =>
        cases da with
        | cons d0 r0 =>
          cases r0 with
          | cons d1 r1 =>
            cases r1
            cases d0
            cases d1
            exact ⟨_, rfl, _, n, m, rfl, ht, g, fun H' s' => q H' s'⟩
    | what x =>
      refine if_n (no_str (a := "what") (b := "wishes") (by decide +kernel)) ⟨_, rfl, rfl, _, rfl, if_n (no_str (a := "what") (b := "keys") (by decide +kernel)) ⟨_, rfl, rfl, _, rfl, if_n (no_str (a := "what") (b := "number") (by decide +kernel)) ?_⟩⟩
      cases dv
      exact ⟨_, rfl, .inl ⟨_, rfl, q H (Same.refl _)⟩⟩
    | word k x =>
      obtain ⟨n1, n2, n3, _⟩ := kinds_ne k (kind_in g)
      refine if_n (no_str n1) ⟨_, rfl, rfl, _, rfl, if_n (no_str n2) ⟨_, rfl, rfl, _, rfl, if_n (no_str n3) ?_⟩⟩
      cases dv
      exact ⟨_, rfl, .inl ⟨_, rfl, q H (Same.refl _)⟩⟩
    | many n =>
      refine if_n (no_str (a := "many") (b := "wishes") (by decide +kernel)) ⟨_, rfl, rfl, _, rfl, if_n (no_str (a := "many") (b := "keys") (by decide +kernel)) ⟨_, rfl, rfl, _, rfl, if_n (no_str (a := "many") (b := "number") (by decide +kernel)) ?_⟩⟩
      cases dv
      exact ⟨_, rfl, .inr ⟨_, rfl, log17 g.2, q H (Same.refl _)⟩⟩
    | by_ n =>
      refine if_n (no_str (a := "by") (b := "wishes") (by decide +kernel)) ⟨_, rfl, rfl, _, rfl, if_n (no_str (a := "by") (b := "keys") (by decide +kernel)) ⟨_, rfl, rfl, _, rfl, if_n (no_str (a := "by") (b := "number") (by decide +kernel)) ?_⟩⟩
      cases dv
      exact ⟨_, rfl, .inr ⟨_, rfl, log17 g, q H (Same.refl _)⟩⟩
theorem ok_po {f : Addr} {fd : FuncData} {k : Nat} (F : Fun K "part_of" "part_of" sPO f fd) (C_wishes_of : Cal P w K mg base k "wishes_of" ["text"] (spWsO K)) (C_keys_of : Cal P w K mg base k "keys_of" ["text"] spKO) (C_ratio_of : Cal P w K mg base k "ratio_of" ["text"] spRO_) (C_whole_of : Cal P w K mg base k "whole_of" ["text"] spWh) : FnOk P w K mg base CX0 (k + 1) f fd ["kind", "text"] (spPO K) := by
  refine F.ok scPO (fun vs H Q E h => ?_) (fun cdv A outer s H vs Q E hr h => ?_)
  · obtain ⟨p, S, rfl, _⟩ := h
    rfl
  · obtain ⟨p, S, rfl, low, g, up, q⟩ := h
    refine ⟨_, pss_cons (ps_if (pt_cmpR op_eq (pv 0) pe_str (nomark _))
        (pss_one (ps_ret (pe_cal C_wishes_of (hr.mono (by omega)) (by rfl) (pa_cons (pv 1) pa_nil))))
        pss_nil)
      (pss_cons (ps_if (pt_cmpR op_eq (pv 0) pe_str (nomark _))
        (pss_one (ps_ret (pe_cal C_keys_of (hr.mono (by omega)) (by rfl) (pa_cons (pv 1) pa_nil))))
        pss_nil)
      (pss_cons (ps_if (pt_cmpR op_eq (pv 0) pe_str (nomark _))
        (pss_one (ps_ret (pe_cal C_ratio_of (hr.mono (by omega)) (by rfl) (pa_cons (pv 1) pa_nil))))
        pss_nil)
      (pss_one (ps_ret (pe_ifExp (pt_cmpR op_in_seq (pv 0) (pe_tup (pa_cons pe_str (pa_cons pe_str pa_nil))) (by with_unfolding_all rfl)) (pe_cal C_whole_of (hr.mono (by omega)) (by rfl) (pa_cons (pv 1) pa_nil)) (pv 1)))))), ?_⟩
    refine ⟨_, rfl, rfl, _, rfl, ?_⟩
    cases p with
    | ask a => cases low
    | wishes ws =>
      refine if_y rfl ⟨_, rfl, ws, S, rfl, g.g, up, fun l xs H' s' nl hl da => ?_⟩
      have upl : l ∉ S := up.new nl
      exact q (.ref l) H' s' (fun z => nomatch z) (.lst (SqL.of (hid_of hl upl)) (dpAll_same (hid_less fun b hb => .tail _ hb) da)) ⟨l, xs, rfl, nl, hid_of hl upl, by rw [dpAll_len da, List.length_map]; exact g.two⟩
    | keys ks =>
      refine if_n (no_str (a := "keys") (b := "wishes") (by decide +kernel)) ⟨_, rfl, rfl, _, rfl, if_y rfl ⟨_, rfl, ks, rfl, g, fun t H' s' nt ht => ?_⟩⟩
      exact q (.ref t) H' s' (fun z => nomatch z) (.tup (SqT.of (hid_of ht (up.new nt))) (strs_dp ks)) trivial
    | num n m =>
      refine if_n (no_str (a := "number") (b := "wishes") (by decide +kernel)) ⟨_, rfl, rfl, _, rfl, if_n (no_str (a := "number") (b := "keys") (by decide +kernel)) ⟨_, rfl, rfl, _, rfl, if_y rfl ⟨_, rfl, n, m, rfl, g, fun t H' s' nt ht => ?_⟩⟩⟩
      exact q (.ref t) H' s' (fun z => nomatch z) (.tup (SqT.of (hid_of ht (up.new nt))) (.cons (.int n) (.cons (.int m) .nil))) trivial
    | what x =>
      refine if_n (no_str (a := "what") (b := "wishes") (by decide +kernel)) ⟨_, rfl, rfl, _, rfl, if_n (no_str (a := "what") (b := "keys") (by decide +kernel)) ⟨_, rfl, rfl, _, rfl, if_n (no_str (a := "what") (b := "number") (by decide +kernel)) ⟨_, rfl, by show 2 ≤ sizeLine; decide, fun tp ntp => ⟨tp, _, rfl, .inr (SqT.of upd_same), rfl, rfl, _, rfl, if_n (by show inV (.str "what") [.str "many", .str "by"] = false; decide +kernel) ⟨_, rfl, q (.str x) _ (same_new ntp) (fun z => nomatch z) (.str x) trivial⟩⟩⟩⟩⟩
    | word k x =>
      obtain ⟨n1, n2, n3, n4, n5, n6, n7⟩ := kinds_ne k (kind_in g)
      refine if_n (no_str n1) ⟨_, rfl, rfl, _, rfl, if_n (no_str n2) ⟨_, rfl, rfl, _, rfl, if_n (no_str n3) ⟨_, rfl, by show 2 ≤ sizeLine; decide, fun tp ntp => ⟨tp, _, rfl, .inr (SqT.of upd_same), rfl, rfl, _, rfl, if_n ?_ ⟨_, rfl, q (.str x) _ (same_new ntp) (fun z => nomatch z) (.str x) trivial⟩⟩⟩⟩⟩
      show inV (.str k) [.str "many", .str "by"] = false
      rw [inV_two]
      exact decide_eq_false fun z => z.elim n6 n7
    | many n =>
      refine if_n (no_str (a := "many") (b := "wishes") (by decide +kernel)) ⟨_, rfl, rfl, _, rfl, if_n (no_str (a := "many") (b := "keys") (by decide +kernel)) ⟨_, rfl, rfl, _, rfl, if_n (no_str (a := "many") (b := "number") (by decide +kernel)) ⟨_, rfl, by show 2 ≤ sizeLine; decide, fun tp ntp => ⟨tp, _, rfl, .inr (SqT.of upd_same), rfl, rfl, _, rfl, if_y (by show inV (.str "many") [.str "many", .str "by"] = true; decide +kernel) ?_⟩⟩⟩⟩
      refine ⟨_, rfl, n, rfl, g.2, fun H2 s2 => q (.int n) H2 ((same_new ntp).trans s2) (fun z => nomatch z) (.int n) trivial⟩
    | by_ n =>
      refine if_n (no_str (a := "by") (b := "wishes") (by decide +kernel)) ⟨_, rfl, rfl, _, rfl, if_n (no_str (a := "by") (b := "keys") (by decide +kernel)) ⟨_, rfl, rfl, _, rfl, if_n (no_str (a := "by") (b := "number") (by decide +kernel)) ⟨_, rfl, by show 2 ≤ sizeLine; decide, fun tp ntp => ⟨tp, _, rfl, .inr (SqT.of upd_same), rfl, rfl, _, rfl, if_y (by show inV (.str "by") [.str "many", .str "by"] = true; decide +kernel) ?_⟩⟩⟩⟩
      refine ⟨_, rfl, n, rfl, g, fun H2 s2 => q (.int n) H2 ((same_new ntp).trans s2) (fun z => nomatch z) (.int n) trivial⟩
end
end Tg

set_option maxHeartbeats 1000000
namespace Tg
open PySem PySem.Spec PyProof.Rows L2 LamX
/-! ### what asks are: fits, has_form, asks_within, check_ask -/
abbrev sFt : Stmt := topS 18
abbrev sHF : Stmt := topS 19
abbrev sAW : Stmt := topS 20
abbrev sCA : Stmt := topS 21
abbrev NHF : List Str := ["thing", "kinds", "kind", "part"]
abbrev NAW : List Str := ["ask", "kind", "part"]
theorem scFt : FnScope ["kind", "part"] ["kind", "part"] (defScope sFt) := ⟨rfl, rfl, rfl, by decide +kernel, rfl, by decide +kernel, by decide +kernel⟩
theorem scHF : FnScope NHF ["thing"] (defScope sHF) := ⟨rfl, rfl, rfl, by decide +kernel, rfl, by decide +kernel, by decide +kernel⟩
theorem scAW : FnScope NAW ["ask"] (defScope sAW) := ⟨rfl, rfl, rfl, by decide +kernel, rfl, by decide +kernel, by decide +kernel⟩
theorem scCA : FnScope ["thing", "inner"] ["thing"] (defScope sCA) := ⟨rfl, rfl, rfl, by decide +kernel, rfl, by decide +kernel, by decide +kernel⟩
def otherK : List Str := ["number", "keys", "many", "by", "wishes", "ask"]
/-- the words of kinds, as the module holds them -/
structure WordsT (K : PySem.W.Frag) (w : World) (d : Addr) (es : Array DictEntry) (n : Nat) : Prop where
  kd : KDict K w d es n
  at_ : ∀ k, k ∈ kindsW → ∃ tw, PySem.W.nsIn K d k = some (some (.ref tw)) ∧ ∀ H, SqT K H tw ((wordsK k).map V.str)
  no : ∀ k, k ∈ otherK → PySem.W.nsIn K d k = some none
/-- the forms of asks, as the module holds them -/
structure FormsT (K : PySem.W.Frag) (w : World) (d : Addr) (es : Array DictEntry) (n : Nat) : Prop where
  kd : KDict K w d es n
  at_ : ∀ a : Ask, ∃ tf, PySem.W.nsIn K d a.word = some (some (.ref tf)) ∧ ∀ H, SqT K H tf (a.parts.map fun p => V.str p.kind)
def spFt (K : PySem.W.Frag) : Sp := fun vs H Q _ => ∃ (v : V) (p : Part) (n : Nat), vs = [.str p.kind, v] ∧ PartOk n p ∧ Dp K H v p.d ∧ ∀ H', Same H H' → Q (.bl true) H'
def spHF (K : PySem.W.Frag) : Sp := fun vs H Q _ => ∃ (v : V) (a : Ask), vs = [v] ∧ GoodA a ∧ Dp K H v a.d ∧ ∀ H', Same H H' → Q (.bl true) H'
def spAW (K : PySem.W.Frag) : Sp := fun vs H Q _ => ∃ (v : V) (a : Ask), vs = [v] ∧ GoodA a ∧ Dp K H v a.d ∧ ∀ l xs H', Same H H' → H' l = some (.lst xs) → (∀ x, x ∈ xs → ∃ b, GoodA b ∧ b.deep < a.deep ∧ Dp K H x b.d) → Q (.ref l) H'
def spCA (K : PySem.W.Frag) (n : Nat) : Sp := fun vs H Q _ => ∃ (v : V) (a : Ask), vs = [v] ∧ GoodA a ∧ a.deep < n ∧ Dp K H v a.d ∧ ∀ H', Same H H' → Q .non H'
theorem inV_mem {x : Str} : ∀ {xs : List Str}, x ∈ xs → inV (.str x) (xs.map V.str) = true
  | [], h => nomatch h
  | y :: ys, h => by
    show ((y == x) || inV (.str x) (ys.map V.str)) = true
    obtain rfl | h := List.mem_cons.mp h
    · rw [beq_self_eq_true]
      rfl
    · rw [inV_mem h, Bool.or_true]
theorem flat_strs : ∀ xs : List Str, (xs.map V.str).all flatV = true
  | [] => rfl
  | x :: xs => by
    show (true && (xs.map V.str).all flatV) = true
    rw [flat_strs xs]
    rfl
/-- an ask in the heap: a tuple of its word and its parts -/
theorem dp_node {K : PySem.W.Frag} {H : Hp} {v : V} {a : Ask} (h : Dp K H v a.d) : ∃ t vs, v = .ref t ∧ SqT K H t (.str a.word :: vs) ∧ DpAll K H vs (a.parts.map Part.d) := by
  rw [ask_d] at h
  cases h with
  | tup ht da =>
    cases da with
    | cons d0 r0 =>
      cases d0
      exact ⟨_, _, rfl, ht, r0⟩
theorem cut_tail (x : V) (vs : List V) : cutV (x :: vs) (some 1) none = vs := by
  unfold cutV
  rw [show (1 : Int) = ((1 : Nat) : Int) from rfl, HT.sIx_nat, HT.sIx_none]
  have e : min 1 (x :: vs).length = 1 := by rw [List.length_cons]; omega
  rw [e]
  show vs.take ((x :: vs).length - 1) = vs
  exact List.take_of_length_le (by rw [List.length_cons]; omega)
theorem at_0 {x : V} {vs : List V} : atI (x :: vs) 0 = some x := by
  show atI _ ((0 : Nat) : Int) = _
  exact atI_nat rfl
theorem no_cut0 {n : Nat} {A : Prop} : ¬ (HT.sIx (n + 1) 0 (some 1) = 0 ∧ A) := fun z => by
  have e := z.1
  rw [show (1 : Int) = ((1 : Nat) : Int) from rfl, HT.sIx_nat] at e
  omega
section
variable {P : Program} {w : World} {K : PySem.W.Frag} {mg : Str → Option Value} {base : Heap} {dW dF TW : Addr} {esW esF : Array DictEntry} {nW nF : Nat}
theorem ok_ft {f : Addr} {fd : FuncData} {k : Nat} (F : Fun K "fits" "fits" sFt f fd) (WT : WordsT K w dW esW nW) (tw : ∀ H, SqT K H TW (whatsL.map V.str)) (C_is_ratio : Cal P w K mg base k "is_ratio" ["thing"] (spIR K)) (C_are_keys : Cal P w K mg base k "are_keys" ["thing"] (spAK K)) (C_is_whole : Cal P w K mg base k "is_whole" ["thing"] spIW) (g_WHATS : mg "WHATS" = some (.ref TW)) (g_WORDS : mg "WORDS" = some (.ref dW)) : FnOk P w K mg base CX0 (k + 1) f fd ["kind", "part"] (spFt K) := by
  refine F.ok scFt (fun vs H Q E h => ?_) (fun cdv A outer s H vs Q E hr h => ?_)
  · obtain ⟨v, p, n, rfl, _⟩ := h
    rfl
  · obtain ⟨v, p, n, rfl, g, dv, q⟩ := h
    refine ⟨_, pss_cons (ps_if (pt_cmpR op_eq (pv 0) pe_str (nomark _))
        (pss_one (ps_ret (pe_cmpR op_in_seq (pv 1) (pe_glob (v := .ref TW) rfl g_WHATS rfl) (by with_unfolding_all rfl))))
        pss_nil)
      (pss_cons (ps_if (pt_cmpR (op_in_kd WT.kd) (pv 0) (pe_glob (v := .ref dW) rfl g_WORDS rfl) (by with_unfolding_all rfl))
        (pss_one (ps_ret (pe_cmpR op_in_seq (pv 1) (pe_ix ix_kdict (pe_glob (v := .ref dW) rfl g_WORDS rfl) (pv 0) (fun _ _ => rfl)) (by with_unfolding_all rfl))))
        pss_nil)
      (pss_cons (ps_if (pt_cmpR op_eq (pv 0) pe_str (nomark _))
        (pss_one (ps_ret (pe_cal C_is_ratio (hr.mono (by omega)) (by rfl) (pa_cons (pv 1) pa_nil))))
        pss_nil)
      (pss_cons (ps_if (pt_cmpR op_eq (pv 0) pe_str (nomark _))
        (pss_one (ps_ret (pe_cal C_are_keys (hr.mono (by omega)) (by rfl) (pa_cons (pv 1) pa_nil))))
        pss_nil)
      (pss_cons (ps_if (pt_cmpR op_eq (pv 0) pe_str (nomark _))
        (pss_one (ps_ret (pe_and (pe_cal C_is_whole (hr.mono (by omega)) (by rfl) (pa_cons (pv 1) pa_nil)) (pe_one (pe_cmpR op_ge (pv 1) pe_int (nomark _))))))
        pss_nil)
      (pss_one (ps_ret (pe_or (pe_cmpR op_ne (pv 0) pe_str (nomark _)) (pe_one (pe_cal C_is_whole (hr.mono (by omega)) (by rfl) (pa_cons (pv 1) pa_nil)))))))))), ?_⟩
    refine ⟨_, rfl, rfl, _, rfl, ?_⟩
    cases p with
    | what x =>
      cases dv
      refine if_y rfl ⟨_, rfl, TW, _, rfl, .inr (tw H), rfl, rfl, ?_⟩
      have e : inV (.str x) (whatsL.map V.str) = true := inV_mem g
      show Q (.bl (inV (.str x) (whatsL.map V.str))) H
      rw [e]
      exact q H (Same.refl _)
    | word kk x =>
      cases dv
      obtain ⟨n1, n2, n3, n4, n5, n6, n7⟩ := kinds_ne kk (kind_in g)
      obtain ⟨twk, at1, ht⟩ := WT.at_ kk (kind_in g)
      refine if_n (no_str n5) ⟨_, rfl, kk, _, rfl, rfl, at1, _, rfl, if_y rfl ?_⟩
      refine ⟨_, rfl, _, rfl, dW, kk, .ref twk, rfl, rfl, ⟨esW, nW, _, WT.kd.at_, WT.kd.lit, at1, rfl⟩, twk, _, rfl, .inr (ht H), rfl, flat_strs _, ?_⟩
      have e : inV (.str x) ((wordsK kk).map V.str) = true := inV_mem g
      show Q (.bl (inV (.str x) ((wordsK kk).map V.str))) H
      rw [e]
      exact q H (Same.refl _)
    | num n m =>
      refine if_n (no_str (a := "number") (b := "what") (by decide +kernel)) ⟨_, rfl, "number", none, rfl, rfl, WT.no _ (.head _), _, rfl, if_n rfl ⟨_, rfl, rfl, _, rfl, if_y rfl ?_⟩⟩
      cases dv with
      | tup ht da =>
        cases da with
        | cons d0 r0 =>
          cases r0 with
          | cons d1 r1 =>
            cases r1
            cases d0
            cases d1
            exact ⟨_, rfl, _, n, m, rfl, ht, g, fun H' s' => q H' s'⟩
    | keys ks =>
      refine if_n (no_str (a := "keys") (b := "what") (by decide +kernel)) ⟨_, rfl, "keys", none, rfl, rfl, WT.no _ (.tail _ (.head _)), _, rfl, if_n rfl ⟨_, rfl, rfl, _, rfl, if_n (no_str (a := "keys") (b := "number") (by decide +kernel)) ⟨_, rfl, rfl, _, rfl, if_y rfl ?_⟩⟩⟩
      cases dv with
      | tup ht da =>
        have e := dp_strs da
        subst e
        exact ⟨_, rfl, _, ks, rfl, ht, g, fun H' s' => q H' s'⟩
    | many n =>
      cases dv
      refine if_n (no_str (a := "many") (b := "what") (by decide +kernel)) ⟨_, rfl, "many", none, rfl, rfl, WT.no _ (.tail _ (.tail _ (.head _))), _, rfl, if_n rfl ⟨_, rfl, rfl, _, rfl, if_n (no_str (a := "many") (b := "number") (by decide +kernel)) ⟨_, rfl, rfl, _, rfl, if_n (no_str (a := "many") (b := "keys") (by decide +kernel)) ⟨_, rfl, rfl, _, rfl, if_y rfl ?_⟩⟩⟩⟩
      refine ⟨_, rfl, n, rfl, fun H2 s2 => ⟨true, rfl, if_y rfl ⟨_, rfl, n, 1, rfl, rfl, ?_⟩⟩⟩
      have e : decide (n ≥ 1) = true := decide_eq_true g.1
      show Q (.bl (decide (n ≥ 1))) H2
      rw [e]
      exact q H2 s2
    | by_ n =>
      cases dv
      refine if_n (no_str (a := "by") (b := "what") (by decide +kernel)) ⟨_, rfl, "by", none, rfl, rfl, WT.no _ (.tail _ (.tail _ (.tail _ (.head _)))), _, rfl, if_n rfl ⟨_, rfl, rfl, _, rfl, if_n (no_str (a := "by") (b := "number") (by decide +kernel)) ⟨_, rfl, rfl, _, rfl, if_n (no_str (a := "by") (b := "keys") (by decide +kernel)) ⟨_, rfl, rfl, _, rfl, if_n (no_str (a := "by") (b := "many") (by decide +kernel)) ?_⟩⟩⟩⟩
      exact ⟨_, rfl, rfl, false, rfl, if_n rfl ⟨_, rfl, n, rfl, fun H2 s2 => q H2 s2⟩⟩
    | wishes ws =>
      refine if_n (no_str (a := "wishes") (b := "what") (by decide +kernel)) ⟨_, rfl, "wishes", none, rfl, rfl, WT.no _ (.tail _ (.tail _ (.tail _ (.tail _ (.head _))))), _, rfl, if_n rfl ⟨_, rfl, rfl, _, rfl, if_n (no_str (a := "wishes") (b := "number") (by decide +kernel)) ⟨_, rfl, rfl, _, rfl, if_n (no_str (a := "wishes") (b := "keys") (by decide +kernel)) ⟨_, rfl, rfl, _, rfl, if_n (no_str (a := "wishes") (b := "many") (by decide +kernel)) ?_⟩⟩⟩⟩
      exact ⟨_, rfl, rfl, true, rfl, if_y rfl (q H (Same.refl _))⟩
    | ask b =>
      refine if_n (no_str (a := "ask") (b := "what") (by decide +kernel)) ⟨_, rfl, "ask", none, rfl, rfl, WT.no _ (.tail _ (.tail _ (.tail _ (.tail _ (.tail _ (.head _)))))), _, rfl, if_n rfl ⟨_, rfl, rfl, _, rfl, if_n (no_str (a := "ask") (b := "number") (by decide +kernel)) ⟨_, rfl, rfl, _, rfl, if_n (no_str (a := "ask") (b := "keys") (by decide +kernel)) ⟨_, rfl, rfl, _, rfl, if_n (no_str (a := "ask") (b := "many") (by decide +kernel)) ?_⟩⟩⟩⟩
      exact ⟨_, rfl, rfl, true, rfl, if_y rfl (q H (Same.refl _))⟩
theorem ok_hf {f : Addr} {fd : FuncData} {k : Nat} (F : Fun K "has_form" "has_form" sHF f fd) (FT : FormsT K w dF esF nF) (C_fits : Cal P w K mg base k "fits" ["kind", "part"] (spFt K)) (m_isinstance : mg "isinstance" = none) (m_tuple : mg "tuple" = none) (m_len : mg "len" = none) (m_str : mg "str" = none) (m_all : mg "all" = none) (m_zip : mg "zip" = none) (g_FORMS : mg "FORMS" = some (.ref dF)) : FnOk P w K mg base CX0 (k + 1) f fd ["thing"] (spHF K) := by
  refine F.ok scHF (fun vs H Q E h => ?_) (fun cdv A outer s H vs Q E hr h => ?_)
  · obtain ⟨v, a, rfl, _⟩ := h
    rfl
  · obtain ⟨v, a, rfl, g, dv, q⟩ := h
    obtain ⟨t, vs, rfl, ht, da⟩ := dp_node dv
    obtain ⟨tf, at1, hf⟩ := FT.at_ a
    have lv : vs.length = a.parts.length := by rw [dpAll_len da, List.length_map]
    have p3 := parts_few a
    refine ⟨_, pss_cons (ps_if (PW.pt (pw_or (pt_not (pt_val (pe_callB call_isi (by rfl) m_isinstance (by decide +kernel) (pa_cons (pv 0) (pa_cons (pe_bltn (v := .ty "tuple") (by rfl) m_tuple (by decide +kernel) rfl) pa_nil))))) (pw_or (pt_cmpR op_eq (pe_callB call_len_seq (by rfl) m_len (by decide +kernel) (pa_cons (pv 0) pa_nil)) pe_int (nomark _)) (pw_or1 (pt_not (pt_val (pe_callB call_isi (by rfl) m_isinstance (by decide +kernel) (pa_cons (pe_ix ix_tup (pv 0) pe_int (fun _ _ => rfl)) (pa_cons (pe_bltn (v := .ty "str") (by rfl) m_str (by decide +kernel) rfl) pa_nil)))))))))
        (pss_one (ps_ret pe_bl))
        pss_nil)
      (pss_cons (ps_set (i := 1) scHF.nd rfl (.inl rfl) (pe_kget1 FT.kd (pe_glob (v := .ref dF) rfl g_FORMS rfl) (pe_ix ix_tup (pv 0) pe_int (fun _ _ => rfl)) ⟨rfl, rfl, rfl, rfl⟩))
      (pss_cons (ps_if (PW.pt (pw_or (pt_cmpR op_isN (pv 1) pe_non (nomark _)) (pw_or1 (pt_cmpR op_ne (pe_callB call_len_seq (by rfl) m_len (by decide +kernel) (pa_cons (pv 0) pa_nil)) (pe_op op_add pe_int (pe_callB call_len_seq (by rfl) m_len (by decide +kernel) (pa_cons (pv 1) pa_nil))) (nomark _)))))
        (pss_one (ps_ret pe_bl))
        pss_nil)
      (pss_one (ps_ret (pe_callB (cr_all rfl) (by rfl) m_all (by decide +kernel) (pa_cons (pe_lc (own := [("kind", 2), ("part", 3)]) (g := (gTup K 2 (gCons (gName 2) (gCons (gName 3) gNil)))) (tt := tYes) rfl scHF.nd (RZ.pi_zipA (by rfl) m_zip (pa_cons (pv 1) (pa_cons (pe_slice sl_tup (pv 0) (po_some pe_int) po_none) pa_nil))) (blkOk_by (own := [("kind", 2), ("part", 3)]) (N := NHF) (sc := defScope sHF) (by decide +kernel)) (fun _ _ _ _ _ => (pg_tup rfl (pgs_cons (pg_name (i := 2) scHF.nd rfl (.inl rfl)) (pgs_cons (pg_name (i := 3) scHF.nd rfl (.inl rfl)) pgs_nil)))) (fun _ _ _ _ _ => pts_nil) (fun _ _ _ _ _ => (pe_cal C_fits (hr.mono (by omega)) (by rfl) (pa_cons (pv 2) (pa_cons (pv 3) pa_nil))))) pa_nil)))))), ?_⟩
    refine ⟨_, rfl, .ref t, .ty "tuple", .type "tuple", .type "tuple", true, rfl, .ty _, tyT ht, kit_ty (by decide +kernel), true, rfl, if_n rfl ?_⟩
    refine ⟨_, rfl, t, _, rfl, .inr ht, rfl, _, rfl, if_n (decide_eq_false fun z => ?_) ?_⟩
    · have z := V.int.inj z
      rw [List.length_cons] at z
      omega
    refine ⟨_, rfl, t, _, _, _, rfl, rfl, ht, at_0, .str a.word, .ty "str", .type "str", .type "str", true, rfl, .ty _, .base (.str _), kit_ty (by decide +kernel), true, rfl, if_n rfl ?_⟩
    refine ⟨rfl, _, rfl, t, _, _, _, rfl, rfl, ht, at_0, a.word, _, rfl, at1, .inl ⟨_, .ref tf, rfl, rfl, ?_⟩⟩
    refine ⟨_, rfl, rfl, _, rfl, if_n (decide_eq_false (fun z => nomatch z)) ⟨_, rfl, t, _, rfl, .inr ht, _, rfl, tf, _, rfl, .inr (hf H), _, _, rfl, rfl, rfl, _, rfl, if_n ?_ ?_⟩⟩
    · rw [List.length_cons, List.length_map, lv]
      have e : V.int ((a.parts.length + 1 : Nat) : Int) = V.int (1 + (a.parts.length : Int)) := by congr 1; omega
      rw [e, decide_eq_true rfl]
      rfl
    refine ⟨_, rfl, _, rfl, _, rfl, t, _, rfl, ht, no_cut0, fun p np => ?_⟩
    rw [cut_tail]
    have s1 := same_new (o := .tup vs) np
    refine ⟨tf, p, _, _, rfl, .inr ⟨hf _, SqT.of upd_same, fun D nD => lc_mapZT (xs := a.parts.map fun p : Part => V.str p.kind) (zs := vs) ((a.parts.map fun _ => true).map V.bl) (by rw [lv, List.length_map]) (by rw [List.length_map, List.length_map, List.length_map]) nD (hf _) (SqT.of upd_same) (by rw [List.length_map]; exact small1000 (by omega)) (fun i x z y T Hc Q' hx hz hy sm hT q' => ?_) fun H1 s2 hD => ?_⟩⟩
    · rw [List.getElem?_map] at hx
      obtain ⟨pt, hp, rfl⟩ := Option.map_eq_some_iff.mp hx
      rw [List.getElem?_map, List.getElem?_map, hp] at hy
      cases hy
      obtain ⟨d, hd, dz⟩ := dpAll_at da i z hz
      rw [List.getElem?_map, hp] at hd
      cases hd
      have ok := parts_ok g (Nat.le_refl _) pt (List.mem_of_getElem? hp)
      refine ⟨T, _, rfl, SqT.of hT, rfl, ?_⟩
      exact ⟨_, _, rfl, _, _, rfl, rfl, rfl, _, rfl, _, rfl, z, pt, a.deep, rfl, ok, dp_same (s1.trans sm) dz, fun H4 s4 => q' H4 s4⟩
    · refine ⟨D, a.parts.map fun _ => true, rfl, SqL.of hD, ?_⟩
      have e : (a.parts.map fun _ => true).all id = true := by
        rw [List.all_map]
        exact List.all_eq_true.mpr fun b hb => rfl
      rw [e]
      exact q H1 (s1.trans s2)
theorem ok_aw {f : Addr} {fd : FuncData} {k : Nat} (F : Fun K "asks_within" "asks_within" sAW f fd) (FT : FormsT K w dF esF nF) (m_zip : mg "zip" = none) (g_FORMS : mg "FORMS" = some (.ref dF)) : FnOk P w K mg base CX0 (k + 1) f fd ["ask"] (spAW K) := by
  refine F.ok scAW (fun vs H Q E h => ?_) (fun cdv A outer s H vs Q E hr h => ?_)
  · obtain ⟨v, a, rfl, _⟩ := h
    rfl
  · obtain ⟨v, a, rfl, g, dv, q⟩ := h
    obtain ⟨t, vs, rfl, ht, da⟩ := dp_node dv
    obtain ⟨tf, at1, hf⟩ := FT.at_ a
    have lv : vs.length = a.parts.length := by rw [dpAll_len da, List.length_map]
    have p3 := parts_few a
    refine ⟨_, pss_one (ps_ret (pe_lc (own := [("kind", 1), ("part", 2)]) (g := (gTup K 2 (gCons (gName 1) (gCons (gName 2) gNil)))) rfl scAW.nd (RZ.pi_zipA (by rfl) m_zip (pa_cons (pe_ix ix_kdict (pe_glob (v := .ref dF) rfl g_FORMS rfl) (pe_ix ix_tup (pv 0) pe_int (fun _ _ => rfl)) (fun _ _ => rfl)) (pa_cons (pe_slice sl_tup (pv 0) (po_some pe_int) po_none) pa_nil))) (blkOk_by (own := [("kind", 1), ("part", 2)]) (N := NAW) (sc := defScope sAW) (by decide +kernel)) (fun _ _ _ _ _ => (pg_tup rfl (pgs_cons (pg_name (i := 1) scAW.nd rfl (.inl rfl)) (pgs_cons (pg_name (i := 2) scAW.nd rfl (.inl rfl)) pgs_nil)))) (fun _ _ _ _ _ => pts_one (pt_cmpR op_eq (pv 1) pe_str (nomark _))) (fun _ _ _ _ _ => (pv 2)))), ?_⟩
    refine ⟨_, rfl, t, _, _, _, rfl, rfl, ht, at_0, dF, a.word, .ref tf, rfl, rfl, ⟨esF, nF, _, FT.kd.at_, FT.kd.lit, at1, rfl⟩, ?_⟩
    refine ⟨_, rfl, _, rfl, t, _, rfl, ht, no_cut0, fun p np => ?_⟩
    rw [cut_tail]
    have s1 := same_new (o := .tup vs) np
    refine ⟨tf, p, _, _, rfl, .inr ⟨hf _, SqT.of upd_same, fun D nD => ?_⟩⟩
    refine lc_it (walk_zipTT (K := K) (a := tf) (b := p) (xs := a.parts.map fun p : Part => V.str p.kind) (ys := vs) (by rw [List.length_map, lv])) (fun i Hc => Same (upd H p (.tup vs)) Hc ∧ ∃ xs, Hc D = some (.lst xs) ∧ xs.length ≤ i ∧ ∀ x, x ∈ xs → ∃ b, GoodA b ∧ b.deep < a.deep ∧ Dp K H x b.d) ?_ (fun i Hc _ z => ⟨hf _, sqT_same z.1 (SqT.of upd_same)⟩) ?_ ?_
    · exact ⟨same_new nD, [], upd_same, Nat.le_refl _, fun x hx => nomatch hx⟩
    · rintro i x Hc Hc' hi ⟨sm, xs, hD, lx, each⟩ ⟨T, u, z, rfl, nT, rfl, hu, hz⟩
      rw [List.length_map] at hi
      have hu : (a.parts.map fun p : Part => V.str p.kind)[i]? = some u := hu
      rw [List.getElem?_map] at hu
      obtain ⟨pt, hp, rfl⟩ := Option.map_eq_some_iff.mp hu
      obtain ⟨d, hd, dz⟩ := dpAll_at da i z hz
      rw [List.getElem?_map, hp] at hd
      cases hd
      have ok := parts_ok g (Nat.le_refl _) pt (List.mem_of_getElem? hp)
      have sT := same_new (o := .tup [V.str pt.kind, z]) nT
      refine ⟨T, _, rfl, SqT.of upd_same, rfl, _, _, rfl, _, _, rfl, rfl, rfl, _, rfl, rfl, _, rfl, ?_⟩
      have DT : D ≠ T := fun e => by
        rw [e, nT] at hD
        cases hD
      have hD2 := sT _ _ hD
      cases pt with
      | ask b =>
        refine if_y rfl ⟨_, rfl, xs, hD2, small1000 (by omega), same_put nD (sm.trans sT), xs ++ [z], upd_same, by rw [List.length_append]; exact Nat.succ_le_succ lx, fun y hy => ?_⟩
        rcases List.mem_append.mp hy with m | m
        · exact each y m
        · rw [List.mem_singleton.mp m]
          exact ⟨b, ok.1, ok.2, dz⟩
      | what _ => exact if_n rfl ⟨sm.trans sT, xs, hD2, Nat.le_succ_of_le lx, each⟩
      | wishes _ => exact if_n rfl ⟨sm.trans sT, xs, hD2, Nat.le_succ_of_le lx, each⟩
      | word kk x => exact if_n (no_str (kinds_ne kk (kind_in ok)).2.2.2.1) ⟨sm.trans sT, xs, hD2, Nat.le_succ_of_le lx, each⟩
      | keys _ => exact if_n rfl ⟨sm.trans sT, xs, hD2, Nat.le_succ_of_le lx, each⟩
      | num _ _ => exact if_n rfl ⟨sm.trans sT, xs, hD2, Nat.le_succ_of_le lx, each⟩
      | many _ => exact if_n rfl ⟨sm.trans sT, xs, hD2, Nat.le_succ_of_le lx, each⟩
      | by_ _ => exact if_n rfl ⟨sm.trans sT, xs, hD2, Nat.le_succ_of_le lx, each⟩
    · rintro Hc ⟨sm, xs, hD, lx, each⟩
      exact q D xs Hc (s1.trans sm) hD each
theorem ok_ca {f : Addr} {fd : FuncData} {k : Nat} (F : Fun K "check_ask" "check_ask" sCA f fd) (C_has_form : Cal P w K mg base k "has_form" ["thing"] (spHF K)) (C_asks_within : Cal P w K mg base k "asks_within" ["ask"] (spAW K)) (g_check_ask : mg "check_ask" = some (.ref f)) (kp : PySem.W.keepIn K (.ref f) = true) (bd : Binds K fd ["thing"] []) : ∀ n, FnOk P w K mg base CX0 (k + 1 + n) f fd ["thing"] (spCA K n)
  | 0 => by
    refine F.ok scCA (fun vs H Q E h => ?_) (fun cdv A outer s H vs Q E hr h => ?_)
    · obtain ⟨v, a, rfl, _⟩ := h
      rfl
    · obtain ⟨v, a, rfl, g, lt, _⟩ := h
      exact absurd lt (Nat.not_lt_zero _)
  | n + 1 => by
    have C_check_ask : Cal P w K mg base (k + 1 + n) "check_ask" ["thing"] (spCA K n) := ⟨f, fd, ok_ca F C_has_form C_asks_within g_check_ask kp bd n, g_check_ask, kp, bd⟩
    refine F.ok scCA (fun vs H Q E h => ?_) (fun cdv A outer s H vs Q E hr h => ?_)
    · obtain ⟨v, a, rfl, _⟩ := h
      rfl
    · obtain ⟨v, a, rfl, g, lt, dv, q⟩ := h
      have hr : Room (k + 1 + n) _ := hr
      refine ⟨_, pss_cons (ps_if (pt_not (pt_val (pe_cal C_has_form (hr.mono (by omega)) (by rfl) (pa_cons (pv 0) pa_nil))))
        (pss_one ps_dead)
        pss_nil)
      (pss_one (ps_for PassesOwn.never rfl (pi_list (pe_cal C_asks_within (hr.mono (by omega)) (by rfl) (pa_cons (pv 0) pa_nil))) (pg_name (i := 1) scCA.nd rfl (.inl rfl))
        (pss_one (ps_expr (pe_cal C_check_ask (hr.mono (by omega)) (by rfl) (pa_cons (pv 1) pa_nil)))))), ?_⟩
      refine ⟨_, rfl, v, a, rfl, g, dv, fun H1 s1 => ⟨true, rfl, if_n rfl ?_⟩⟩
      refine ⟨_, rfl, v, a, rfl, g, dp_same s1 dv, fun l xs H2 s2 hl each => ?_⟩
      refine ⟨l, rfl, ⟨_, SqL.of hl⟩, for_list (xs := xs) (fun i σ Hc => ∃ z1, σ = [some v, z1] ∧ Same H2 Hc) ?_ ?_ ?_ ?_⟩
      · exact ⟨none, rfl, Same.refl _⟩
      · rintro i σ Hc _ ⟨z1, rfl, sm⟩
        exact SqL.of (sm _ _ hl)
      · rintro i x σ Hc hx ⟨z1, rfl, sm⟩
        obtain ⟨b, h1, h2, h3⟩ := each x (List.mem_of_getElem? hx)
        exact ⟨_, rfl, x, b, rfl, h1, by omega, dp_same (s2.trans sm) h3, fun H4 s4 => ⟨_, rfl, sm.trans s4⟩⟩
      · rintro σ Hc ⟨z1, rfl, sm⟩
        exact q Hc (s1.trans (s2.trans sm))
end
end Tg

/-! for c in a text -/
namespace Tg
open PySem PySem.Spec PyProof.Rows L2
theorem for_str {x : Str} {g : TG} {tb : TS} {D : Ends} {σ : L2.St} {H : Hp} (Pv : Nat → L2.St → Hp → Prop) (h0 : Pv 0 σ H)
    (hs : ∀ (i c : Nat) σ H, x.cps[i]? = some c → Pv i σ H → g (.str ⟨#[c]⟩) σ H fun σ2 H2 => tb { D with nx := Pv (i + 1), ct := Pv (i + 1), bk := D.nx } σ2 H2) (hd : ∀ σ H, Pv x.cps.size σ H → D.nx σ H) :
    ∃ Wk : Nat → Nat → L2.St → Hp → Prop, (∃ m, Wk 0 m σ H) ∧ ∀ i m σ H, Wk i m σ H →
      ((Its x).stop i H ∧ D.nx σ H) ∨ ((Its x).go i H ∧ ∃ N : L2.St → Hp → Prop, (∀ σ' H', N σ' H' → ∃ m', m' < m ∧ Wk (i + 1) m' σ' H') ∧ ∀ y H', (Its x).yld i H y H' → g y σ H' fun σ2 H2 => tb { D with nx := N, ct := N, bk := D.nx } σ2 H2) := by
  refine ⟨fun i m σ H => m = x.cps.size - i ∧ i ≤ x.cps.size ∧ Pv i σ H, ⟨_, rfl, Nat.zero_le _, h0⟩, ?_⟩
  rintro i m σ H ⟨rfl, hi, p⟩
  by_cases lt : i < x.cps.size
  · refine .inr ⟨lt, Pv (i + 1), fun σ' H' p' => ⟨x.cps.size - (i + 1), by omega, rfl, lt, p'⟩, fun y H' told => ?_⟩
    obtain ⟨rfl, c, ec, rfl⟩ := told
    exact hs i c σ H' ec p
  · obtain rfl : i = x.cps.size := by omega
    exact Or.inl ⟨Nat.le_refl _, hd σ H p⟩
end Tg

set_option maxHeartbeats 1000000
namespace Tg
open PySem PySem.Spec PyProof.Rows L2 LamX
open TL (tl)
/-! ### what the texts of asks come to -/
theorem cut_off (x y : Str) (h : y.length = 1) : cutS (x ++ y) none (some (-1)) = x := by
  refine TL.ext_tl ?_
  have e0 : HT.sIx (x ++ y).length 0 none = 0 := rfl
  have e1 : HT.sIx (x ++ y).length (x ++ y).length (some (-1)) = x.length := by
    show (if (-1 : Int) < 0 then ((-1 : Int) + ((x ++ y).length : Int)).toNat else min (-1 : Int).toNat (x ++ y).length) = _
    rw [if_pos (by decide), Str.length_append, h]
    omega
  unfold cutS
  rw [e0, e1]
  show ((tl (x ++ y)).drop 0).take (x.length - 0) = tl x
  rw [List.drop_zero, Nat.sub_zero, TL.tl_append, TL.len_tl x, List.take_left]
theorem ends_app (x y : Str) : Txt.endswith (x ++ y) y = true := by
  unfold Txt.endswith
  rw [StrLaws.subAt_eq, Str.length_append]
  have e : x.length + y.length - y.length = (tl x).length := by rw [← TL.len_tl]; omega
  rw [e]
  have e2 : (x ++ y).cps.toList = tl x ++ tl y := TL.tl_append x y
  rw [e2, List.drop_left]
  have e3 : (tl y).take y.length = tl y := by rw [TL.len_tl, List.take_length]
  rw [e3, Bool.and_eq_true]
  refine ⟨decide_eq_true (by omega), beq_self_eq_true _⟩
theorem J2_full : ∀ {xs : List Str}, xs ≠ [] → (J2 xs).length + 2 = (xs.map fun x => x.length + 2).sum
  | [], h => absurd rfl h
  | [x], _ => by
    show x.length + 2 = _
    simp only [List.sum_cons, List.sum_nil, List.map_cons, List.map_nil]
    omega
  | x :: y :: r, _ => by
    have z := J2_full (xs := y :: r) (fun u => nomatch u)
    have e : cb.length = 2 := rfl
    rw [J2_cons, Str.length_append, Str.length_append, e, List.map_cons, List.sum_cons, ← z]
    omega
theorem J2_sum {xs : List Str} (h : xs ≠ []) : (xs.map (·.length)).sum + xs.length * cb.length ≤ (J2 xs).length + 2 := by
  rw [J2_full h]
  have e : cb.length = 2 := rfl
  rw [e]
  clear h
  induction xs with
  | nil => exact Nat.le_refl _
  | cons x r ih =>
    simp only [List.map_cons, List.length_cons, List.sum_cons]
    omega
/-- the part that is gathered is no longer than what was passed -/
theorem step_len : ∀ (xs : List Str) (acc : List Str) (c : Str) (d : Int), (xs.foldl stepS (acc, c, d)).2.1.length ≤ c.length + (xs.map fun x => x.length + 2).sum
  | [], acc, c, d => by
    show c.length ≤ _
    omega
  | x :: r, acc, c, d => by
    have z := step_len r (stepS (acc, c, d) x).1 (stepS (acc, c, d) x).2.1 (stepS (acc, c, d) x).2.2
    have e : (stepS (acc, c, d) x).2.1.length ≤ c.length + (x.length + 2) := by
      show (if d = 0 then x else c ++ cb ++ x).length ≤ _
      have e2 : cb.length = 2 := rfl
      split
      · omega
      · rw [Str.length_append, Str.length_append, e2]
        omega
    show (r.foldl stepS (stepS (acc, c, d) x)).2.1.length ≤ _
    simp only [List.map_cons, List.sum_cons]
    refine Nat.le_trans z ?_
    omega
theorem step_acc : ∀ (xs : List Str) (acc : List Str) (c : Str) (d : Int), (xs.foldl stepS (acc, c, d)).1.length ≤ acc.length + xs.length
  | [], acc, c, d => Nat.le_refl _
  | x :: r, acc, c, d => by
    have z := step_acc r (stepS (acc, c, d) x).1 (stepS (acc, c, d) x).2.1 (stepS (acc, c, d) x).2.2
    have e : (stepS (acc, c, d) x).1.length ≤ acc.length + 1 := by
      show (if d + dep x = 0 then acc ++ [if d = 0 then x else c ++ cb ++ x] else acc).length ≤ _
      split
      · rw [List.length_append]
        exact Nat.le_refl _
      · omega
    rw [List.length_cons]
    refine Nat.le_trans z ?_
    omega
theorem take_sum (zs : List Str) (n : Nat) : ((zs.take n).map fun x => x.length + 2).sum ≤ (zs.map fun x => x.length + 2).sum := by
  induction zs generalizing n with
  | nil => simp
  | cons x r ih =>
    cases n with
    | zero => simp
    | succ n =>
      have := ih n
      simp only [List.map_cons, List.take_succ_cons, List.sum_cons]
      omega
theorem few_sum (xs : List Str) : 2 * xs.length ≤ (xs.map fun x => x.length + 2).sum := by
  induction xs with
  | nil => exact Nat.le_refl _
  | cons x r ih =>
    simp only [List.map_cons, List.length_cons, List.sum_cons]
    omega
theorem fold_next {xs : List Str} {i : Nat} {x : Str} (h : xs[i]? = some x) (st : SpS) : (xs.take (i + 1)).foldl stepS st = stepS ((xs.take i).foldl stepS st) x := by
  rw [List.take_add_one, h, Option.toList, List.foldl_append]
  rfl
theorem dep_count (z : Str) : dep z = Txt.count z (Str.ofString "(") - Txt.count z (Str.ofString ")") := by
  have e1 : Str.ofString "(" = ⟨#[40]⟩ := by decide +kernel
  have e2 : Str.ofString ")" = ⟨#[41]⟩ := by decide +kernel
  rw [e1, e2, count_cnt, count_cnt]
  rfl
theorem sign_of {c n : Nat} {s : String} (h : V.str ⟨#[c]⟩ = V.str (Str.ofString s)) (e : Str.ofString s = ⟨#[n]⟩) : c = n := by
  have z : (⟨#[c]⟩ : Str) = ⟨#[n]⟩ := (V.str.inj h).trans e
  have y : [c] = [n] := congrArg (fun u : Str => u.cps.toList) z
  exact (List.cons.inj y).1
/-- the brackets that open among the first signs -/
def opn (z : Str) (i : Nat) : Int := cnt 40 (z.cps.toList.take i)
theorem opn_next {z : Str} {i c : Nat} (h : z.cps[i]? = some c) : opn z (i + 1) = opn z i + (if c = 40 then 1 else 0) := by
  have e : z.cps.toList[i]? = some c := by rw [Array.getElem?_toList]; exact h
  unfold opn
  rw [List.take_add_one, e, Option.toList, cnt_append, cnt_cons, cnt_nil]
  omega
theorem opn_all (z : Str) : opn z z.cps.size = cnt' 40 z := by
  unfold opn
  rw [List.take_of_length_le (by rw [Array.length_toList]; exact Nat.le_refl _)]
  rfl
end Tg

set_option maxHeartbeats 1000000
namespace Tg
open PySem PySem.Spec PyProof.Rows L2 LamX
/-! ### ask_text, split_parts, most_brackets -/
abbrev sAT : Stmt := topS 43
abbrev sSP : Stmt := topS 44
abbrev sMB : Stmt := topS 46
abbrev NAT : List Str := ["ask", "texts", "kind", "part", "inner"]
abbrev NSP : List Str := ["text", "parts", "part", "depth", "piece"]
theorem scAT : FnScope NAT ["ask"] (defScope sAT) := ⟨rfl, rfl, rfl, by decide +kernel, rfl, by decide +kernel, by decide +kernel⟩
theorem scSP : FnScope NSP ["text"] (defScope sSP) := ⟨rfl, rfl, rfl, by decide +kernel, rfl, by decide +kernel, by decide +kernel⟩
theorem scMB : FnScope ["text", "depth", "most", "sign"] ["text"] (defScope sMB) := ⟨rfl, rfl, rfl, by decide +kernel, rfl, by decide +kernel, by decide +kernel⟩
def spAT (K : PySem.W.Frag) (n : Nat) : Sp := fun vs H Q _ => ∃ (v : V) (a : Ask), vs = [v] ∧ GoodA a ∧ a.deep < n ∧ a.deep ≤ 5 ∧ Dp K H v a.d ∧ ∀ H', Same H H' → Q (.str a.t) H'
def spSP : Sp := fun vs H Q _ => ∃ Ps : List (List Str), vs = [.str (J2 Ps.flatten)] ∧ Ps ≠ [] ∧ (∀ P, P ∈ Ps → Cl 0 P) ∧ (∀ z, z ∈ Ps.flatten → 44 ∉ z.cps.toList) ∧ (J2 Ps.flatten).length ≤ 20000 ∧ ∀ l H', Same H H' → H l = none → H' l = some (.lst ((Ps.map J2).map V.str)) → Q (.ref l) H'
def spMB : Sp := fun vs H Q _ => ∃ z : Str, vs = [.str z] ∧ z.length ≤ 20000 ∧ ∀ m : Int, m ≤ cnt' 40 z → Q (.int m) H
theorem low_or (p : Part) : (∃ b, p = .ask b) ∨ p.low = true := by
  cases p with
  | ask b => exact .inl ⟨b, rfl⟩
  | _ => exact .inr rfl
theorem low_good {n : Nat} {p : Part} (h : PartOk n p) (l : p.low = true) : GoodP p := by
  cases p with
  | ask b => cases l
  | _ => exact h
theorem low_ask {p : Part} (g : GoodP p) (l : p.low = true) : decide (V.str p.kind = V.str (Str.ofString "ask")) = false := by
  cases p with
  | ask b => cases l
  | word kk x => exact no_str (kinds_ne kk (kind_in g)).2.2.2.1
  | _ => rfl
theorem few_of_mem {x : Str} : ∀ {xs : List Str}, x ∈ xs → x.length + 2 ≤ (xs.map fun x => x.length + 2).sum
  | [], h => nomatch h
  | y :: r, h => by
    simp only [List.map_cons, List.sum_cons]
    obtain rfl | h := List.mem_cons.mp h
    · omega
    · have := few_of_mem h
      omega
theorem n20k {n : Nat} (h : n ≤ 20010) : n ≤ sizeLine := Nat.le_trans h (by decide)
theorem ask_small {a : Ask} (g : GoodA a) (d : a.deep ≤ 5) : a.t.length ≤ 15900 ∧ cnt' 40 a.t ≤ 127 := by
  have z := txA (Nat.le_refl _) g
  have u := pow_up d
  have u' := pow_up' d
  have e1 := z.len
  have e2 := z.op
  have e3 : 2 ^ 5 = 32 := rfl
  have e4 : (2 : Int) ^ 5 = 32 := rfl
  exact ⟨by omega, by omega⟩
theorem part_small {a : Ask} {p : Part} (g : GoodA a) (d : a.deep ≤ 5) (h : p ∈ a.parts) : p.t.length ≤ 15900 := by
  have ok := parts_ok g (Nat.le_refl _) p h
  rcases low_or p with ⟨b, rfl⟩ | l
  · exact (ask_small ok.1 (by have := ok.2; omega)).1
  · rw [low_t l]
    have := (atom_of (low_good ok l) l).few
    omega
theorem ask_txt {a : Ask} (g : GoodA a) : a.t = (a.word ++ Str.ofString "(") ++ (J2 (a.parts.map Part.t) ++ Str.ofString ")") := ask_t (ps_cl g fun p hp b e => by
  subst e
  exact txA (Nat.le_refl _) (parts_ok g (Nat.le_refl _) _ hp).1)
section
variable {P : Program} {w : World} {K : PySem.W.Frag} {mg : Str → Option Value} {base : Heap} {dF : Addr} {esF : Array DictEntry} {nF : Nat}
theorem ok_at {f : Addr} {fd : FuncData} {k : Nat} (F : Fun K "ask_text" "ask_text" sAT f fd) (FT : FormsT K w dF esF nF) (C_part_text : Cal P w K mg base k "part_text" ["kind", "part"] (spPT K)) (m_zip : mg "zip" = none) (g_FORMS : mg "FORMS" = some (.ref dF)) (g_ask_text : mg "ask_text" = some (.ref f)) (kp : PySem.W.keepIn K (.ref f) = true) (bd : Binds K fd ["ask"] []) : ∀ n, FnOk P w K mg base CX0 (k + 1 + n) f fd ["ask"] (spAT K n)
  | 0 => by
    refine F.ok scAT (fun vs H Q E h => ?_) (fun cdv A outer s H vs Q E hr h => ?_)
    · obtain ⟨v, a, rfl, _⟩ := h
      rfl
    · obtain ⟨v, a, rfl, g, lt, _⟩ := h
      exact absurd lt (Nat.not_lt_zero _)
  | n + 1 => by
    have C_ask_text : Cal P w K mg base (k + 1 + n) "ask_text" ["ask"] (spAT K n) := ⟨f, fd, ok_at F FT C_part_text m_zip g_FORMS g_ask_text kp bd n, g_ask_text, kp, bd⟩
    refine F.ok scAT (fun vs H Q E h => ?_) (fun cdv A outer s H vs Q E hr h => ?_)
    · obtain ⟨v, a, rfl, _⟩ := h
      rfl
    · obtain ⟨v, a, rfl, g, lt, d5, dv, q⟩ := h
      obtain ⟨t, vs, rfl, ht, da⟩ := dp_node dv
      obtain ⟨tf, at1, hf⟩ := FT.at_ a
      have lv : vs.length = a.parts.length := by rw [dpAll_len da, List.length_map]
      have p3 := parts_few a
      have hr : Room (k + 1 + n) _ := hr
      refine ⟨_, pss_cons (ps_set (i := 1) scAT.nd rfl (.inl rfl) (pe_lst pa_nil))
      (pss_cons (ps_for PassesOwn.never rfl (RZ.pi_zipA (by rfl) m_zip (pa_cons (pe_ix ix_kdict (pe_glob (v := .ref dF) rfl g_FORMS rfl) (pe_ix ix_tup (pv 0) pe_int (fun _ _ => rfl)) (fun _ _ => rfl)) (pa_cons (pe_slice sl_tup (pv 0) (po_some pe_int) po_none) pa_nil))) (pg_tup rfl (pgs_cons (pg_name (i := 2) scAT.nd rfl (.inl rfl)) (pgs_cons (pg_name (i := 3) scAT.nd rfl (.inl rfl)) pgs_nil)))
        (pss_one (ps_expr (pe_bm PySem.F.plainAttrs_list PySem.F.slot_list_append PySem.F.type_list_append mt_append (pv 1) (pa_cons (pe_ifExp (pt_cmpR op_eq (pv 2) pe_str (nomark _)) (pe_cal C_ask_text (hr.mono (by omega)) (by rfl) (pa_cons (pv 3) pa_nil)) (pe_cal C_part_text (hr.mono (by omega)) (by rfl) (pa_cons (pv 2) (pa_cons (pv 3) pa_nil)))) pa_nil)))))
      (pss_cons (ps_set (i := 4) scAT.nd rfl (.inl rfl) (pe_bm PySem.F.plainAttrs_str PySem.F.slot_str_join PySem.F.type_str_join mt_join pe_str (pa_cons (pv 1) pa_nil)))
      (pss_one (ps_ret (pe_jn (.cons (pe_fmt (pe_ix ix_tup (pv 0) pe_int (fun _ _ => rfl))) (.cons pe_str (.cons (pe_fmt (pv 4)) (.cons pe_str .nil))))))))), ?_⟩
      refine ⟨by decide, fun D nD => ?_⟩
      have s0 := same_new (o := .lst []) nD
      refine ⟨_, rfl, t, _, _, _, rfl, rfl, sqT_same s0 ht, at_0, dF, a.word, .ref tf, rfl, rfl, ⟨esF, nF, _, FT.kd.at_, FT.kd.lit, at1, rfl⟩, ?_⟩
      refine ⟨_, rfl, _, rfl, t, _, rfl, sqT_same s0 ht, no_cut0, fun p np => ?_⟩
      rw [cut_tail]
      have s1 := same_new (o := .tup vs) np
      refine ⟨tf, p, _, _, rfl, .inr ⟨hf _, SqT.of upd_same, ?_⟩⟩
      refine for_it (walk_zipTT (K := K) (a := tf) (b := p) (xs := a.parts.map fun p : Part => V.str p.kind) (ys := vs) (by rw [List.length_map, lv])) (fun i σ Hc => ∃ z2 z3, σ = [some (.ref t), some (.ref D), z2, z3, none] ∧ Same H Hc ∧ SqT K Hc p vs ∧ Hc D = some (.lst (((a.parts.take i).map Part.t).map V.str))) ?_ (fun i σ Hc _ z => by obtain ⟨_, _, _, _, z, _⟩ := z; exact ⟨hf _, z⟩) ?_ ?_
      · exact ⟨none, none, rfl, s0.trans s1, SqT.of upd_same, s1 _ _ upd_same⟩
      · rintro i x σ Hc Hc' hi ⟨z2, z3, rfl, sm, hp, hD⟩ ⟨T, u, z, rfl, nT, rfl, hu, hz⟩
        have hu : (a.parts.map fun p : Part => V.str p.kind)[i]? = some u := hu
        rw [List.getElem?_map] at hu
        obtain ⟨pt, hpt, rfl⟩ := Option.map_eq_some_iff.mp hu
        obtain ⟨d, hd, dz⟩ := dpAll_at da i z hz
        rw [List.getElem?_map, hpt] at hd
        cases hd
        have mp := List.mem_of_getElem? hpt
        have ok := parts_ok g (Nat.le_refl _) pt mp
        have sT := same_new (o := .tup [V.str pt.kind, z]) nT
        have hD2 := sT _ _ hD
        have few : ((((a.parts.take i).map Part.t).map V.str)).length ≤ 3 := by
          rw [List.length_map, List.length_map, List.length_take]
          omega
        have nx : ∀ H4, Same (upd Hc T (.tup [V.str pt.kind, z])) H4 → Same H (upd H4 D (.lst ((((a.parts.take i).map Part.t).map V.str) ++ [.str pt.t]))) ∧ SqT K (upd H4 D (.lst ((((a.parts.take i).map Part.t).map V.str) ++ [.str pt.t]))) p vs ∧ (upd H4 D (.lst ((((a.parts.take i).map Part.t).map V.str) ++ [.str pt.t]))) D = some (.lst (((a.parts.take (i + 1)).map Part.t).map V.str)) := fun H4 s4 => by
          refine ⟨same_put nD (sm.trans (sT.trans s4)), sqT_kt (KT.put (s4 _ _ hD2) (fun z => z)) (sqT_same (sT.trans s4) hp), ?_⟩
          rw [upd_same, List.take_add_one, hpt]
          simp only [Option.toList, List.map_append, List.map_cons, List.map_nil]
        refine ⟨T, _, rfl, SqT.of upd_same, rfl, _, _, rfl, _, _, rfl, rfl, ?_⟩
        refine ⟨_, rfl, .inl ⟨rfl, _, SqL.of hD2⟩, _, rfl, rfl, _, rfl, ?_⟩
        rcases low_or pt with ⟨b, rfl⟩ | l
        · refine if_y rfl ⟨_, rfl, z, b, rfl, ok.1, by have := ok.2; omega, by have := ok.2; omega, dp_same (sm.trans sT) dz, fun H4 s4 => ?_⟩
          exact ⟨D, _, .str b.t, rfl, rfl, s4 _ _ hD2, small1000 (by omega), _, _, rfl, nx H4 s4⟩
        · have gp := low_good ok l
          refine if_n (low_ask gp l) ⟨_, rfl, _, rfl, z, pt, rfl, l, gp, dp_same (sm.trans sT) dz, fun H4 s4 => ?_⟩
          have z5 := nx H4 s4
          rw [low_t l] at z5
          exact ⟨D, _, .str pt.t0, rfl, rfl, s4 _ _ hD2, small1000 (by omega), _, _, rfl, z5⟩
      · rintro σ Hc ⟨z2, z3, rfl, sm, hp, hD⟩
        rw [List.length_map, List.take_length] at hD
        obtain ⟨al, _⟩ := ask_small g d5
        have et := ask_txt g
        have l1 : (Str.ofString "(").length = 1 := rfl
        have l2 : (Str.ofString ")").length = 1 := rfl
        have eL : a.t.length = a.word.length + 1 + ((J2 (a.parts.map Part.t)).length + 1) := by
          rw [et, Str.length_append, Str.length_append, Str.length_append, l1, l2]
        have ne : a.parts.map Part.t ≠ [] := fun z => parts_ne a (List.map_eq_nil_iff.mp z)
        have js := J2_sum ne
        have ej : Txt.join cb (a.parts.map Part.t) = J2 (a.parts.map Part.t) := TL.join_eq _ _
        refine ⟨rfl, _, rfl, _, D, a.parts.map Part.t, rfl, rfl, .inl (SqL.of hD), Nat.le_trans js (by omega), ?_⟩
        rw [ej]
        refine ⟨_, rfl, t, _, _, _, rfl, rfl, sqT_same sm ht, at_0, .inl ⟨a.word, rfl, n20k (by omega), _, rfl, ?_, ?_⟩⟩
        · rw [Str.empty_append]
          exact n20k (by omega)
        rw [Str.empty_append]
        refine ⟨_, rfl, by rw [Str.length_append, l1]; exact n20k (by omega), _, rfl, .inl ⟨_, rfl, n20k (by omega), _, rfl, by rw [Str.length_append, Str.length_append, l1]; exact n20k (by omega), _, rfl, by rw [Str.length_append, Str.length_append, Str.length_append, l1, l2]; exact n20k (by omega), ?_⟩⟩
        have z := q Hc sm
        rw [et, ← Str.append_assoc] at z
        exact z
theorem ok_sp {f : Addr} {fd : FuncData} {k : Nat} (F : Fun K "split_parts" "split_parts" sSP f fd) : FnOk P w K mg base CX0 (k + 1) f fd ["text"] spSP := by
  refine F.ok scSP (fun vs H Q E h => ?_) (fun cdv A outer s H vs Q E hr h => ?_)
  · obtain ⟨Ps, rfl, _⟩ := h
    rfl
  · obtain ⟨Ps, rfl, ne, cl, free, small, q⟩ := h
    refine ⟨_, pss_cons (ps_set (i := 1) scSP.nd rfl (.inl rfl) (pe_lst pa_nil))
      (pss_cons (ps_set (i := 2) scSP.nd rfl (.inl rfl) pe_str)
      (pss_cons (ps_set (i := 3) scSP.nd rfl (.inl rfl) pe_int)
      (pss_cons (ps_for PassesOwn.never rfl (pi_list (pe_split (pv 0) pe_str)) (pg_name (i := 4) scSP.nd rfl (.inl rfl))
        (pss_cons (ps_set (i := 2) scSP.nd rfl (.inl rfl) (pe_ifExp (pt_cmpR op_eq (pv 3) pe_int (nomark _)) (pv 4) (pe_jn (.cons (pe_fmt (pv 2)) (.cons pe_str (.cons (pe_fmt (pv 4)) .nil))))))
        (pss_cons (ps_aug (i := 3) scSP.nd rfl (.inl rfl) (pe_op op_sub (pe_bm PySem.F.plainAttrs_str PySem.F.slot_str_count PySem.F.type_str_count mt_count (pv 4) (pa_cons pe_str pa_nil)) (pe_bm PySem.F.plainAttrs_str PySem.F.slot_str_count PySem.F.type_str_count mt_count (pv 4) (pa_cons pe_str pa_nil))) ip_add)
        (pss_one (ps_if (pt_cmpR op_eq (pv 3) pe_int (nomark _))
          (pss_one (ps_expr (pe_bm PySem.F.plainAttrs_list PySem.F.slot_list_append PySem.F.type_list_append mt_append (pv 1) (pa_cons (pv 2) pa_nil))))
          pss_nil)))))
      (pss_one (ps_ret (pe_ifExp (pt_cmpR op_eq (pv 3) pe_int (nomark _)) (pv 1) (pe_lst (StX.pa_star (pv 1) (pa_cons (pv 2) pa_nil))))))))), ?_⟩
    have nf : Ps.flatten ≠ [] := fun z => by
      obtain ⟨P0, r, rfl⟩ := List.exists_cons_of_ne_nil ne
      rw [List.flatten_cons, List.append_eq_nil_iff] at z
      exact (cl P0 List.mem_cons_self).ne z.1
    have full := J2_full nf
    have sp : Txt.split (J2 Ps.flatten) cb = Ps.flatten := by
      have e : J2 Ps.flatten = Txt.join cb Ps.flatten := (TL.join_eq _ _).symm
      rw [e]
      exact TL.split_join (s := 44) (S := [32]) (by decide +kernel) (by decide +kernel) nf free
    have fewP := few_sum Ps.flatten
    refine ⟨by decide, fun D nD => ?_⟩
    have s0 := same_new (o := .lst []) nD
    refine ⟨_, rfl, ⟨_, rfl⟩, _, _, rfl, rfl, rfl, n20k (by omega), fun L nL => ?_⟩
    rw [sp]
    have s1 := same_new (o := .lst (Ps.flatten.map V.str)) nL
    have DL : L ≠ D := fun y => by
      rw [y, upd_same] at nL
      cases nL
    refine ⟨L, rfl, ⟨_, SqL.of upd_same⟩, for_list (xs := Ps.flatten.map V.str) (fun i σ Hc => ∃ (acc : List Str) (c : Str) (d : Int) (z4 : Option V), σ = [some (.str (J2 Ps.flatten)), some (.ref D), some (.str c), some (.int d), z4] ∧ (Ps.flatten.take i).foldl stepS ([], Str.empty, 0) = (acc, c, d) ∧ Same H Hc ∧ Hc L = some (.lst (Ps.flatten.map V.str)) ∧ Hc D = some (.lst (acc.map V.str))) ?_ ?_ ?_ ?_⟩
    · exact ⟨[], Str.empty, 0, none, rfl, rfl, s0.trans s1, upd_same, s1 _ _ upd_same⟩
    · rintro i σ Hc _ ⟨acc, c, d, z4, rfl, ef, sm, hL, hD⟩
      exact SqL.of hL
    · rintro i x σ Hc hx ⟨acc, c, d, z4, rfl, ef, sm, hL, hD⟩
      rw [List.getElem?_map] at hx
      obtain ⟨z, hz, rfl⟩ := Option.map_eq_some_iff.mp hx
      have en := fold_next hz ([], Str.empty, 0)
      rw [ef] at en
      have cl1 : c.length ≤ 20002 := by
        have u := step_len (Ps.flatten.take i) [] Str.empty 0
        rw [ef] at u
        have u2 := take_sum Ps.flatten i
        have u3 : Str.empty.length = 0 := rfl
        have u4 : c.length ≤ Str.empty.length + _ := u
        omega
      have al : acc.length ≤ 20002 := by
        have u := step_acc (Ps.flatten.take i) [] Str.empty 0
        rw [ef] at u
        have u2 : acc.length ≤ 0 + (Ps.flatten.take i).length := u
        rw [List.length_take] at u2
        omega
      have zl : z.length + 2 ≤ 20002 := by
        have u := List.mem_of_getElem? hz
        have u2 := few_of_mem u
        omega
      have dc := dep_count z
      obtain ⟨pt, ept⟩ : ∃ pt : Str, (if d = 0 then z else c ++ cb ++ z) = pt := ⟨_, rfl⟩
      have est : stepS (acc, c, d) z = (if d + dep z = 0 then acc ++ [pt] else acc, pt, d + dep z) := by
        rw [← ept]
        rfl
      rw [est] at en
      have pl : pt.length ≤ 20008 := by
        rw [← ept]
        have e2 : cb.length = 2 := rfl
        split
        · omega
        · have u := step_len (Ps.flatten.take (i + 1)) [] Str.empty 0
          rw [en] at u
          have u2 := take_sum Ps.flatten (i + 1)
          have u3 : Str.empty.length = 0 := rfl
          have u4 : pt.length ≤ Str.empty.length + _ := u
          rw [← ept, if_neg (by assumption)] at u4
          omega
      refine ⟨_, rfl, rfl, _, rfl, ?_⟩
      by_cases d0 : d = 0
      case' pos =>
        have e : z = pt := by rw [← ept, if_pos d0]
        subst e
        refine if_y (decide_eq_true (by rw [d0])) ⟨_, rfl, ?_⟩
      case' neg =>
        have e : pt = c ++ cb ++ z := by rw [← ept, if_neg d0]
        subst e
        have l2 : cb.length = 2 := rfl
        have l3 : (c ++ cb ++ z).length = c.length + 2 + z.length := by rw [Str.length_append, Str.length_append, l2]
        refine if_n (decide_eq_false fun y => d0 (V.int.inj y)) ⟨_, rfl, .inl ⟨c, rfl, n20k (by omega), _, rfl, by rw [Str.empty_append]; exact n20k (by omega), ?_⟩⟩
        rw [Str.empty_append]
        refine ⟨_, rfl, by rw [Str.length_append, l2]; exact n20k (by omega), _, rfl, .inl ⟨z, rfl, n20k (by omega), _, rfl, by rw [l3]; exact n20k (by omega), ?_⟩⟩
      all_goals
        refine ⟨.int d, rfl, _, rfl, rfl, _, _, rfl, rfl, _, rfl, rfl, _, _, rfl, rfl, _, _, rfl, rfl, _, _, rfl, rfl, ?_⟩
        rw [← dc]
        refine ⟨_, rfl, rfl, _, rfl, ?_⟩
        by_cases d1 : d + dep z = 0
        · refine if_y (decide_eq_true (congrArg V.int d1)) ?_
          rw [if_pos d1] at en
          refine ⟨_, rfl, .inl ⟨rfl, _, SqL.of hD⟩, _, rfl, D, _, _, rfl, rfl, hD, by rw [List.length_map]; exact Nat.lt_of_le_of_lt al (by decide), ?_⟩
          refine ⟨_, _, _, _, rfl, en, same_put nD sm, by rw [upd_ne DL]; exact hL, by rw [upd_same, List.map_append]; rfl⟩
        · refine if_n (decide_eq_false fun y => d1 (V.int.inj y)) ?_
          rw [if_neg d1] at en
          exact ⟨_, _, _, _, rfl, en, sm, hL, hD⟩
    · rintro σ Hc ⟨acc, c, d, z4, rfl, ef, sm, hL, hD⟩
      obtain ⟨c', e'⟩ := step_all (Ps := Ps) (acc := []) (c := Str.empty) cl
      rw [List.length_map, List.take_length, e'] at ef
      cases ef
      refine ⟨_, rfl, rfl, _, rfl, if_y rfl ⟨_, rfl, ?_⟩⟩
      exact q D Hc sm nD hD
theorem ok_mb {f : Addr} {fd : FuncData} {k : Nat} (F : Fun K "most_brackets" "most_brackets" sMB f fd) (m_max : mg "max" = none) : FnOk P w K mg base CX0 (k + 1) f fd ["text"] spMB := by
  refine F.ok scMB (fun vs H Q E h => ?_) (fun cdv A outer s H vs Q E hr h => ?_)
  · obtain ⟨z, rfl, _⟩ := h
    rfl
  · obtain ⟨z, rfl, small, q⟩ := h
    refine ⟨_, pss_cons (ps_set (i := 1) scMB.nd rfl (.inl rfl) pe_int)
      (pss_cons (ps_set (i := 2) scMB.nd rfl (.inl rfl) pe_int)
      (pss_cons (ps_for PassesOwn.never rfl (pi_str (pv 0)) (pg_name (i := 3) scMB.nd rfl (.inl rfl))
        (pss_one (ps_if (pt_cmpR op_eq (pv 3) pe_str (nomark _))
          (pss_cons (ps_aug (i := 1) scMB.nd rfl (.inl rfl) pe_int ip_add)
          (pss_one (ps_set (i := 2) scMB.nd rfl (.inl rfl) (pe_callB (call_max2 rfl) (by rfl) m_max (by decide +kernel) (pa_cons (pv 2) (pa_cons (pv 1) pa_nil))))))
          (pss_one (ps_if (pt_cmpR op_eq (pv 3) pe_str (nomark _))
            (pss_one (ps_aug (i := 1) scMB.nd rfl (.inl rfl) pe_int ip_sub))
            pss_nil)))))
      (pss_one (ps_ret (pv 2))))), ?_⟩
    refine ⟨_, rfl, z, rfl, for_str (x := z) (fun i σ Hc => ∃ (d m : Int) (z3 : Option V), σ = [some (.str z), some (.int d), some (.int m), z3] ∧ d ≤ opn z i ∧ m ≤ opn z i ∧ Hc = H) ?_ ?_ ?_⟩
    · exact ⟨0, 0, none, rfl, Int.le_refl _, Int.le_refl _, rfl⟩
    · rintro i c σ Hc hc ⟨d, m, z3, rfl, hd, hm, rfl⟩
      have on := opn_next hc
      refine ⟨_, rfl, rfl, _, rfl, ite2 (fun g => ?_) (fun g => ?_)⟩
      · have e := sign_of (of_decide_eq_true g) (n := 40) (by decide +kernel)
        rw [if_pos e] at on
        refine ⟨_, rfl, _, _, rfl, rfl, _, rfl, _, rfl, _, _, rfl, _, _, _, rfl, by show d + 1 ≤ _; omega, ?_, rfl⟩
        show (if d + 1 > m then d + 1 else m) ≤ _
        split <;> omega
      · have on2 : opn z i ≤ opn z (i + 1) := by
          rw [on]
          split <;> omega
        refine ⟨_, rfl, rfl, _, rfl, ite2 (fun g => ?_) (fun g => ?_)⟩
        · exact ⟨_, rfl, d, 1, rfl, rfl, d - 1, m, _, rfl, by omega, by omega, rfl⟩
        · exact ⟨d, m, _, rfl, by omega, by omega, rfl⟩
    · rintro σ Hc ⟨d, m, z3, rfl, hd, hm, rfl⟩
      rw [opn_all] at hm
      exact ⟨_, rfl, q m hm⟩
end
end Tg

set_option maxHeartbeats 1000000
namespace Tg
open PySem PySem.Spec PyProof.Rows L2 LamX
/-! ### loose_ask, ask_of, read_ask -/
abbrev sLA : Stmt := topS 45
abbrev sAO : Stmt := topS 47
abbrev sRA : Stmt := topS 48
abbrev NLA : List Str := ["text", "word", "bracket", "behind", "parts", "told", "kind", "part", "thing"]
theorem scLA : FnScope NLA ["text"] (defScope sLA) := ⟨rfl, rfl, rfl, by decide +kernel, rfl, by decide +kernel, by decide +kernel⟩
theorem scAO : FnScope ["text", "ask"] ["text"] (defScope sAO) := ⟨rfl, rfl, rfl, by decide +kernel, rfl, by decide +kernel, by decide +kernel⟩
theorem scRA : FnScope ["text", "ask"] ["text"] (defScope sRA) := ⟨rfl, rfl, rfl, by decide +kernel, rfl, by decide +kernel, by decide +kernel⟩
def spLA (K : PySem.W.Frag) (n : Nat) : Sp := fun vs H Q _ => ∃ (a : Ask) (S : List Addr), vs = [.str a.t] ∧ GoodA a ∧ a.deep < n ∧ a.deep ≤ 5 ∧ Up H S ∧ ∀ v H', Same H H' → v ≠ .non → Dp K (hid H' S) v a.d → (∃ L, H L = none ∧ FP K a (hid H' S) v L) → Q v H'
/-- the ask that a text writes, in parts of its own -/
def spRA (K : PySem.W.Frag) : Sp := fun vs H Q _ => ∃ a : Ask, vs = [.str a.t] ∧ GoodA a ∧ a.deep ≤ 5 ∧ ∀ v H', Same H H' → v ≠ .non → Dp K H' v a.d → (∃ L, H L = none ∧ FP K a H' v L) → Q v H'
theorem first_ask (a : Ask) : (∃ x ws, a = .fold x ws) ∨ (a.word ≠ "fold" ∧ ∃ j b, a.parts[j]? = some (Part.ask b) ∧ ∀ (i : Nat) (c : Ask), i < j → a.parts[i]? ≠ some (Part.ask c)) := by
  cases a with
  | fold x ws => exact .inl ⟨x, ws, rfl⟩
  | by_ x ks a => exact .inr ⟨(show (Str.ofString "by") ≠ (Str.ofString "fold") from by decide +kernel), 2, a, rfl, fun i c h => by match i, h with | 0, _ => exact fun z => nomatch z | 1, _ => exact fun z => nomatch z⟩
  | each x a n m => exact .inr ⟨(show (Str.ofString "each") ≠ (Str.ofString "fold") from by decide +kernel), 1, a, rfl, fun i c h => by match i, h with | 0, _ => exact fun z => nomatch z⟩
  | both x a b => exact .inr ⟨(show (Str.ofString "both") ≠ (Str.ofString "fold") from by decide +kernel), 1, a, rfl, fun i c h => by match i, h with | 0, _ => exact fun z => nomatch z⟩
  | fill x a => exact .inr ⟨(show (Str.ofString "fill") ≠ (Str.ofString "fold") from by decide +kernel), 1, a, rfl, fun i c h => by match i, h with | 0, _ => exact fun z => nomatch z⟩
  | above a n m => exact .inr ⟨(show (Str.ofString "above") ≠ (Str.ofString "fold") from by decide +kernel), 0, a, rfl, fun i c h => nomatch h⟩
  | top n a => exact .inr ⟨(show (Str.ofString "top") ≠ (Str.ofString "fold") from by decide +kernel), 1, a, rfl, fun i c h => by match i, h with | 0, _ => exact fun z => nomatch z⟩
  | shift n a => exact .inr ⟨(show (Str.ofString "shift") ≠ (Str.ofString "fold") from by decide +kernel), 1, a, rfl, fun i c h => by match i, h with | 0, _ => exact fun z => nomatch z⟩
/-- the path from a tuple of parts that were read -/
theorem fp_of {K : PySem.W.Frag} {H Hh : Hp} {a : Ask} {t : Addr} {vs : List V} (lv : vs.length = a.parts.length) (ht : SqT K Hh t (.str a.word :: vs)) (each : ∀ (j : Nat) (v : V) (p : Part), vs[j]? = some v → a.parts[j]? = some p → Dp K Hh v p.d ∧ NewP K H Hh v p) : ∃ L, H L = none ∧ FP K a Hh (.ref t) L := by
  rcases first_ask a with ⟨x, ws, rfl⟩ | ⟨nf, j, b, hj, first⟩
  · match vs, lv, ht, each with
    | [v0, v1], _, ht, each =>
      obtain ⟨d0, _⟩ := each 0 v0 (.what x) rfl rfl
      obtain ⟨_, L, xs, rfl, h1, h2, h3⟩ := each 1 v1 (.wishes ws) rfl rfl
      cases d0
      exact ⟨L, h1, .fold ht h2 h3⟩
  · have lt : j < vs.length := by
      rw [lv]
      exact (List.getElem?_eq_some_iff.mp hj).1
    obtain ⟨_, L, h1, h2⟩ := each j vs[j] (.ask b) (List.getElem?_eq_getElem lt) hj
    exact ⟨L, h1, .step nf hj first ht (List.getElem?_eq_getElem lt) h2⟩
section
variable {P : Program} {w : World} {K : PySem.W.Frag} {mg : Str → Option Value} {base : Heap} {dF : Addr} {esF : Array DictEntry} {nF : Nat} {t1 : Tok}
theorem ok_la {f : Addr} {fd : FuncData} {k : Nat} (F : Fun K "loose_ask" "loose_ask" sLA f fd) (FT : FormsT K w dF esF nF) (C_split_parts : Cal P w K mg base k "split_parts" ["text"] spSP) (C_part_of : Cal P w K mg base k "part_of" ["kind", "text"] (spPO K)) (m_zip : mg "zip" = none) (m_len : mg "len" = none) (m_tuple : mg "tuple" = none) (g_FORMS : mg "FORMS" = some (.ref dF)) (g_loose_ask : mg "loose_ask" = some (.ref f)) (kp : PySem.W.keepIn K (.ref f) = true) (bd : Binds K fd ["text"] []) : ∀ n, FnOk P w K mg base CX0 (k + 1 + n) f fd ["text"] (spLA K n)
  | 0 => by
    refine F.ok scLA (fun vs H Q E h => ?_) (fun cdv A outer s H vs Q E hr h => ?_)
    · obtain ⟨a, S, rfl, _⟩ := h
      rfl
    · obtain ⟨a, S, rfl, g, lt, _⟩ := h
      exact absurd lt (Nat.not_lt_zero _)
  | n + 1 => by
    have C_loose_ask : Cal P w K mg base (k + 1 + n) "loose_ask" ["text"] (spLA K n) := ⟨f, fd, ok_la F FT C_split_parts C_part_of m_zip m_len m_tuple g_FORMS g_loose_ask kp bd n, g_loose_ask, kp, bd⟩
    refine F.ok scLA (fun vs H Q E h => ?_) (fun cdv A outer s H vs Q E hr h => ?_)
    · obtain ⟨a, S, rfl, _⟩ := h
      rfl
    · obtain ⟨a, S, rfl, g, lt, d5, up, q⟩ := h
      obtain ⟨tf, at1, hf⟩ := FT.at_ a
      have p3 := parts_few a
      have hr : Room (k + 1 + n) _ := hr
      obtain ⟨al, _⟩ := ask_small g d5
      have hpA : ∀ p, p ∈ a.parts → ∀ b, p = .ask b → TxA b := fun p hp b e => by
        subst e
        exact txA (Nat.le_refl _) (parts_ok g (Nat.le_refl _) _ hp).1
      have cl := ps_cl g hpA
      have free := free_ps g hpA
      have ne : a.parts.map Part.ps ≠ [] := fun z => parts_ne a (List.map_eq_nil_iff.mp z)
      have ej : J2 (a.parts.map Part.ps).flatten = J2 (a.parts.map Part.t) := by
        rw [J2_flat ne (fun P hP => (cl P hP).ne), List.map_map]
        rfl
      have emp : (a.parts.map Part.ps).map J2 = a.parts.map Part.t := by
        rw [List.map_map]
        rfl
      have et := ask_txt g
      have l1 : (Str.ofString "(").length = 1 := rfl
      have l2 : (Str.ofString ")").length = 1 := rfl
      have eL : a.t.length = a.word.length + 1 + ((J2 (a.parts.map Part.t)).length + 1) := by
        rw [et, Str.length_append, Str.length_append, Str.length_append, l1, l2]
      obtain ⟨_, _, w40, w5⟩ := word_ok a
      have ep : Txt.partition a.t (Str.ofString "(") = (a.word, Str.ofString "(", J2 (a.parts.map Part.t) ++ Str.ofString ")") := by
        rw [et]
        exact TL.partition_app (s := 40) (S := []) (by decide +kernel) w40
      refine ⟨_, pss_cons (ps_asg (pe_partition (pv 0) pe_str) (pg_tup rfl (pgs_cons (pg_name (i := 1) scLA.nd rfl (.inl rfl)) (pgs_cons (pg_name (i := 2) scLA.nd rfl (.inl rfl)) (pgs_cons (pg_name (i := 3) scLA.nd rfl (.inl rfl)) pgs_nil)))))
      (pss_cons (ps_set (i := 4) scLA.nd rfl (.inl rfl) (pe_cal C_split_parts (hr.mono (by omega)) (by rfl) (pa_cons (pe_slice sl_str (pv 3) po_none (po_some (pe_un un_neg pe_int))) pa_nil)))
      (pss_cons (ps_if (PW.pt (pw_or (pt_cmpR (op_notIn_kd FT.kd) (pv 1) (pe_glob (v := .ref dF) rfl g_FORMS rfl) (by with_unfolding_all rfl)) (pw_or (pt_not (pt_val (pe_bm PySem.F.plainAttrs_str PySem.F.slot_str_endswith PySem.F.type_str_endswith mt_endswith (pv 3) (pa_cons pe_str pa_nil)))) (pw_or1 (pt_cmpR op_ne (pe_callB call_len_seq (by rfl) m_len (by decide +kernel) (pa_cons (pv 4) pa_nil)) (pe_callB call_len_seq (by rfl) m_len (by decide +kernel) (pa_cons (pe_ix ix_kdict (pe_glob (v := .ref dF) rfl g_FORMS rfl) (pv 1) (fun _ _ => rfl)) pa_nil)) (nomark _))))))
        (pss_one (ps_ret pe_non))
        pss_nil)
      (pss_cons (ps_set (i := 5) scLA.nd rfl (.inl rfl) (pe_lst (pa_cons (pv 1) pa_nil)))
      (pss_cons (ps_for PassesOwn.never rfl (pi_zipTL (by rfl) m_zip (pa_cons (pe_ix ix_kdict (pe_glob (v := .ref dF) rfl g_FORMS rfl) (pv 1) (fun _ _ => rfl)) (pa_cons (pv 4) pa_nil))) (pg_tup rfl (pgs_cons (pg_name (i := 6) scLA.nd rfl (.inl rfl)) (pgs_cons (pg_name (i := 7) scLA.nd rfl (.inl rfl)) pgs_nil)))
        (pss_cons (ps_set (i := 8) scLA.nd rfl (.inl rfl) (pe_ifExp (pt_cmpR op_eq (pv 6) pe_str (nomark _)) (pe_cal C_loose_ask (hr.mono (by omega)) (by rfl) (pa_cons (pv 7) pa_nil)) (pe_cal C_part_of (hr.mono (by omega)) (by rfl) (pa_cons (pv 6) (pa_cons (pv 7) pa_nil)))))
        (pss_cons (ps_if (pt_cmpR op_isN (pv 8) pe_non (nomark _))
          (pss_one (ps_ret pe_non))
          pss_nil)
        (pss_one (ps_expr (pe_bm PySem.F.plainAttrs_list PySem.F.slot_list_append PySem.F.type_list_append mt_append (pv 5) (pa_cons (pv 8) pa_nil)))))))
      (pss_one (ps_ret (pe_callTy call_tuple_of (by rfl) m_tuple (by decide +kernel) (pa_cons (pv 5) pa_nil)))))))), ?_⟩
      refine ⟨_, rfl, ⟨_, rfl⟩, _, _, rfl, rfl, rfl, n20k (by omega), fun r nr => ?_⟩
      rw [ep]
      have s1 := same_new (o := .tup [.str a.word, .str (Str.ofString "("), .str (J2 (a.parts.map Part.t) ++ Str.ofString ")")]) nr
      refine ⟨r, _, rfl, SqT.of upd_same, rfl, _, _, rfl, _, _, rfl, _, _, rfl, rfl, ?_⟩
      refine ⟨_, rfl, _, rfl, _, rfl, _, rfl, n20k (by rw [Str.length_append, l2]; omega), a.parts.map Part.ps, ?_, ne, cl, free, by rw [ej]; omega, fun l H2 s2 nl hl => ?_⟩
      · show [V.str (cutS (J2 (a.parts.map Part.t) ++ Str.ofString ")") none (some (-1)))] = _
        rw [cut_off _ _ l2, ej]
      rw [emp] at hl
      refine ⟨_, rfl, a.word, _, rfl, rfl, at1, _, rfl, if_n rfl ?_⟩
      have lp : ((a.parts.map Part.t).map V.str).length = a.parts.length := by rw [List.length_map, List.length_map]
      have KD : KDct K w dF a.word (.ref tf) := ⟨esF, nF, _, FT.kd.at_, FT.kd.lit, at1, rfl⟩
      refine ⟨_, rfl, rfl, _, _, rfl, rfl, _, rfl, if_n (by rw [ends_app]; rfl) ?_⟩
      refine ⟨_, rfl, l, _, rfl, .inl (SqL.of hl), _, rfl, dF, a.word, .ref tf, rfl, rfl, KD, tf, _, rfl, .inr (hf _), rfl, _, rfl, if_n ?_ ?_⟩
      · rw [lp, List.length_map, decide_eq_true rfl]
        rfl
      refine ⟨_, rfl, by show 1 ≤ sizeLine; decide, fun D nD => ?_⟩
      have s3 := same_new (o := .lst [.str a.word]) nD
      refine ⟨_, rfl, dF, a.word, .ref tf, rfl, rfl, KD, _, rfl, tf, l, _, _, rfl, hf _, SqL.of (s3 _ _ hl), ?_⟩
      have Dl : l ≠ D := fun e => by
        rw [e, nD] at hl
        cases hl
      have nDH : H D = none := (s1.trans s2).free nD
      refine for_it (walk_zipTL (K := K) (a := tf) (b := l) (xs := a.parts.map fun p : Part => V.str p.kind) (ys := (a.parts.map Part.t).map V.str) (by rw [List.length_map, lp])) (fun i σ Hc => ∃ (z6 z7 z8 : Option V) (vs : List V), σ = [some (.str a.t), some (.str a.word), some (.str (Str.ofString "(")), some (.str (J2 (a.parts.map Part.t) ++ Str.ofString ")")), some (.ref l), some (.ref D), z6, z7, z8] ∧ Same H Hc ∧ Hc l = some (.lst ((a.parts.map Part.t).map V.str)) ∧ Hc D = some (.lst (.str a.word :: vs)) ∧ vs.length = i ∧ ∀ (j : Nat) (v : V) (p : Part), vs[j]? = some v → a.parts[j]? = some p → Dp K (hid Hc (D :: S)) v p.d ∧ NewP K H (hid Hc (D :: S)) v p) ?_ (fun i σ Hc _ z => by obtain ⟨_, _, _, _, _, _, z, _⟩ := z; exact ⟨hf _, SqL.of z⟩) ?_ ?_
      · exact ⟨none, none, none, [], rfl, (s1.trans s2).trans s3, s3 _ _ hl, upd_same, rfl, fun j v p e => by simp at e⟩
      · rintro i x σ Hc Hc' hi ⟨z6, z7, z8, vs, rfl, sm, hlc, hD, lv, each⟩ ⟨T, u, z, rfl, nT, rfl, hu, hz⟩
        have hu : (a.parts.map fun p : Part => V.str p.kind)[i]? = some u := hu
        have hz : ((a.parts.map Part.t).map V.str)[i]? = some z := hz
        rw [List.getElem?_map] at hu
        obtain ⟨pt, hpt, rfl⟩ := Option.map_eq_some_iff.mp hu
        rw [List.getElem?_map, List.getElem?_map, hpt] at hz
        cases hz
        have il : i < a.parts.length := (List.getElem?_eq_some_iff.mp hpt).1
        have mp := List.mem_of_getElem? hpt
        have ok := parts_ok g (Nat.le_refl _) pt mp
        have sT := same_new (o := .tup [V.str pt.kind, V.str pt.t]) nT
        have hD2 := sT _ _ hD
        have upT : Up (upd Hc T (.tup [V.str pt.kind, V.str pt.t])) (D :: S) := up_cons hD2 (up.same (sm.trans sT))
        have nx : ∀ v H4, Same (upd Hc T (.tup [V.str pt.kind, V.str pt.t])) H4 → Dp K (hid H4 (D :: S)) v pt.d → NewP K H (hid H4 (D :: S)) v pt → ∃ vs', Same H (upd H4 D (.lst (.str a.word :: vs ++ [v]))) ∧ (upd H4 D (.lst (.str a.word :: vs ++ [v]))) l = some (.lst ((a.parts.map Part.t).map V.str)) ∧ (upd H4 D (.lst (.str a.word :: vs ++ [v]))) D = some (.lst (.str a.word :: vs')) ∧ vs'.length = i + 1 ∧ ∀ (j : Nat) (u : V) (p : Part), vs'[j]? = some u → a.parts[j]? = some p → Dp K (hid (upd H4 D (.lst (.str a.word :: vs ++ [v]))) (D :: S)) u p.d ∧ NewP K H (hid (upd H4 D (.lst (.str a.word :: vs ++ [v]))) (D :: S)) u p := by
          intro v H4 s4 dv np
          refine ⟨vs ++ [v], same_put nDH (sm.trans (sT.trans s4)), ?_, upd_same, ?_, ?_⟩
          · rw [upd_ne Dl]
            exact s4 _ _ (sT _ _ hlc)
          · rw [List.length_append, lv]
            rfl
          · have sh : Same (hid Hc (D :: S)) (hid (upd H4 D (.lst (.str a.word :: vs ++ [v]))) (D :: S)) := by
              rw [hid_putS]
              exact hid_same (sT.trans s4)
            intro j v' p e1 e2
            rcases Nat.lt_or_ge j vs.length with cj | cj
            · rw [List.getElem?_append_left cj] at e1
              obtain ⟨u1, u2⟩ := each j v' p e1 e2
              exact ⟨dp_same sh u1, u2.same sh fun _ z => z⟩
            · have ejv : j = vs.length := by
                have := (List.getElem?_eq_some_iff.mp e1).1
                rw [List.length_append] at this
                have z1 : [v].length = 1 := rfl
                omega
              subst ejv
              rw [List.getElem?_append_right (Nat.le_refl _), Nat.sub_self] at e1
              cases e1
              rw [lv, hpt] at e2
              cases e2
              rw [hid_putS]
              exact ⟨dv, np⟩
        refine ⟨T, _, rfl, SqT.of upd_same, rfl, _, _, rfl, _, _, rfl, rfl, ?_⟩
        refine ⟨_, rfl, rfl, _, rfl, ?_⟩
        rcases low_or pt with ⟨b, rfl⟩ | lo
        · refine if_y rfl ⟨_, rfl, b, D :: S, rfl, ok.1, by have := ok.2; omega, by have := ok.2; omega, upT, fun v H4 s4 nv dv fp => ?_⟩
          have hD4 := s4 _ _ hD2
          obtain ⟨vs', n1, n2, n3, n4, n5⟩ := nx v H4 s4 dv (by obtain ⟨L, h1, h2⟩ := fp; exact ⟨L, (sm.trans sT).free h1, h2⟩)
          refine ⟨_, rfl, rfl, _, rfl, if_n (decide_eq_false nv) ?_⟩
          exact ⟨_, rfl, .inl ⟨rfl, _, SqL.of hD4⟩, _, rfl, D, _, v, rfl, rfl, hD4, small1000 (by rw [List.length_cons]; omega), _, _, _, vs', rfl, n1, n2, n3, n4, n5⟩
        · have gp := low_good ok lo
          refine if_n (low_ask gp lo) ⟨_, rfl, _, rfl, pt, D :: S, by rw [low_t lo]; rfl, lo, gp, upT, fun v H4 s4 nv dv np => ?_⟩
          have hD4 := s4 _ _ hD2
          obtain ⟨vs', n1, n2, n3, n4, n5⟩ := nx v H4 s4 dv (np.same (Same.refl _) fun b hb => (sm.trans sT).free hb)
          refine ⟨_, rfl, rfl, _, rfl, if_n (decide_eq_false nv) ?_⟩
          exact ⟨_, rfl, .inl ⟨rfl, _, SqL.of hD4⟩, _, rfl, D, _, v, rfl, rfl, hD4, small1000 (by rw [List.length_cons]; omega), _, _, _, vs', rfl, n1, n2, n3, n4, n5⟩
      · rintro σ Hc ⟨z6, z7, z8, vs, rfl, sm, hlc, hD, lv, each⟩
        rw [List.length_map] at lv
        refine ⟨_, rfl, D, _, rfl, .inl ⟨SqL.of hD, fun t nt => ?_⟩⟩
        have s5 := same_new (o := .tup (.str a.word :: vs)) nt
        have sh : Same (hid Hc (D :: S)) (hid (upd Hc t (.tup (.str a.word :: vs))) S) := (hid_less fun b hb => .tail _ hb).trans (hid_same s5)
        have ht : SqT K (hid (upd Hc t (.tup (.str a.word :: vs))) S) t (.str a.word :: vs) := SqT.of (hid_of upd_same ((up.same sm).new nt))
        have each' : ∀ (j : Nat) (v : V) (p : Part), vs[j]? = some v → a.parts[j]? = some p → Dp K (hid (upd Hc t (.tup (.str a.word :: vs))) S) v p.d ∧ NewP K H (hid (upd Hc t (.tup (.str a.word :: vs))) S) v p := fun j v p e1 e2 => by
          obtain ⟨u1, u2⟩ := each j v p e1 e2
          exact ⟨dp_same sh u1, u2.same sh fun _ z => z⟩
        refine q (.ref t) _ (sm.trans s5) (fun z => nomatch z) ?_ (fp_of lv ht each')
        rw [ask_d]
        exact .tup ht (.cons (.str _) (dpAll_pt (by rw [lv, List.length_map]) fun i x d e1 e2 => by
          rw [List.getElem?_map] at e2
          obtain ⟨p, hp, rfl⟩ := Option.map_eq_some_iff.mp e2
          exact (each' i x p e1 hp).1))
theorem ok_ao {f : Addr} {fd : FuncData} {k : Nat} (F : Fun K "ask_of" "ask_of" sAO f fd) (C_most_brackets : Cal P w K mg base k "most_brackets" ["text"] spMB) (C_loose_ask : Cal P w K mg base k "loose_ask" ["text"] (spLA K 6)) (C_check_ask : Cal P w K mg base k "check_ask" ["thing"] (spCA K 6)) (g_MOST_BRACKETS : mg "MOST_BRACKETS" = some (.int 200 t1)) : FnOk P w K mg base CX0 (k + 1) f fd ["text"] (spRA K) := by
  refine F.ok scAO (fun vs H Q E h => ?_) (fun cdv A outer s H vs Q E hr h => ?_)
  · obtain ⟨a, rfl, _⟩ := h
    rfl
  · obtain ⟨a, rfl, g, d5, q⟩ := h
    obtain ⟨al, ac⟩ := ask_small g d5
    refine ⟨_, pss_cons (ps_set (i := 1) scAO.nd rfl (.inl rfl) (pe_ifExp (pt_cmpR op_le (pe_cal C_most_brackets (hr.mono (by omega)) (by rfl) (pa_cons (pv 0) pa_nil)) (pe_glob (v := .int 200) rfl g_MOST_BRACKETS ⟨_, rfl⟩) (nomark _)) (pe_cal C_loose_ask (hr.mono (by omega)) (by rfl) (pa_cons (pv 0) pa_nil)) pe_non))
      (pss_cons (ps_try_thru0 (pss_one (ps_expr (pe_cal C_check_ask (hr.mono (by omega)) (by rfl) (pa_cons (pv 1) pa_nil)))))
      (pss_one (ps_ret (pv 1)))), ?_⟩
    refine ⟨_, rfl, a.t, rfl, by omega, fun m hm => ⟨_, _, rfl, rfl, _, rfl, if_y (decide_eq_true (by omega)) ?_⟩⟩
    refine ⟨_, rfl, a, [], rfl, g, by omega, d5, (fun b hb => nomatch hb), fun v H1 s1 nv dv fp => ?_⟩
    have dv1 := dp_same (hid_sub _ _) dv
    refine ⟨_, rfl, v, a, rfl, g, by omega, dv1, fun H2 s2 => ?_⟩
    obtain ⟨L, h1, h2⟩ := fp
    exact ⟨_, rfl, q v H2 (s1.trans s2) nv (dp_same s2 dv1) ⟨L, h1, h2.same ((hid_sub _ _).trans s2)⟩⟩
theorem ok_ra {f : Addr} {fd : FuncData} {k : Nat} (F : Fun K "read_ask" "read_ask" sRA f fd) (C_ask_of : Cal P w K mg base k "ask_of" ["text"] (spRA K)) : FnOk P w K mg base CX0 (k + 1) f fd ["text"] (spRA K) := by
  refine F.ok scRA (fun vs H Q E h => ?_) (fun cdv A outer s H vs Q E hr h => ?_)
  · obtain ⟨a, rfl, _⟩ := h
    rfl
  · obtain ⟨a, rfl, g, d5, q⟩ := h
    refine ⟨_, pss_cons (ps_set (i := 1) scRA.nd rfl (.inl rfl) (pe_cal C_ask_of (hr.mono (by omega)) (by rfl) (pa_cons (pv 0) pa_nil)))
      (pss_cons (ps_if (pt_cmpR op_isN (pv 1) pe_non (nomark _))
        (pss_one ps_dead)
        pss_nil)
      (pss_one (ps_ret (pv 1)))), ?_⟩
    refine ⟨_, rfl, a, rfl, g, d5, fun v H1 s1 nv dv fp => ?_⟩
    exact ⟨_, rfl, rfl, _, rfl, if_n (decide_eq_false nv) ⟨_, rfl, q v H1 s1 nv dv fp⟩⟩
end
end Tg

set_option maxHeartbeats 1000000
namespace Tg
open PySem PySem.Spec PyProof.Rows L2 LamX
/-! ### the law's numbers, wishes, asks -/
abbrev sLN : Stmt := topS 54
abbrev sLWs : Stmt := topS 55
abbrev sLAk : Stmt := topS 56
abbrev NLWs : List Str := ["_law_draws_here", "_law_k"]
abbrev NLAk : List Str := ["_law_draws_here", "_law_deep", "_law_pick", "_law_word", "_law_whats", "_law_inner", "_law_keys", "_law_other"]
theorem scLN : FnScope ["_law_draws_here", "_law_pick", "_law_top"] ["_law_draws_here"] (defScope sLN) := ⟨rfl, rfl, rfl, by decide +kernel, rfl, by decide +kernel, by decide +kernel⟩
theorem scLWs : FnScope NLWs ["_law_draws_here"] (defScope sLWs) := ⟨rfl, rfl, rfl, by decide +kernel, rfl, by decide +kernel, by decide +kernel⟩
theorem scLAk : FnScope NLAk ["_law_draws_here", "_law_deep"] (defScope sLAk) := ⟨rfl, rfl, rfl, by decide +kernel, rfl, by decide +kernel, by decide +kernel⟩
theorem Dr.more {H : Hp} {p : Addr} {n m : Nat} (h : Dr H p n) (le : n ≤ m) : Dr H p m := by
  obtain ⟨a, b, c, e1, e2, e3⟩ := h
  exact ⟨a, b, c, e1, e2, by omega⟩
theorem Dr.some {H : Hp} {p : Addr} {n : Nat} (h : Dr H p n) : H p ≠ none := fun z => by
  obtain ⟨_, _, _, y, _⟩ := h
  rw [y] at z
  cases z
theorem kp_free {H H' : Hp} {p t : Addr} (k : Kp p H H') (hp : H' p ≠ none) (n : H' t = none) : H t = none := by
  cases e : H t with
  | none => rfl
  | some o =>
    by_cases et : t = p
    · exact absurd (by rw [← et]; exact n) hp
    · rw [k _ _ et e] at n
      cases n
theorem low_good_n {t b : Int} (hb : 0 < b) (b6 : b.natAbs < 10 ^ 17) (ht : t.natAbs < 10 ^ 17) : GoodN (lw t b).1 (lw t b).2 := by
  obtain ⟨x, hx⟩ : ∃ x : Nat, Nat.gcd t.natAbs b.natAbs = x := ⟨_, rfl⟩
  have x0 : 0 < x := by
    rw [← hx]
    exact Nat.gcd_pos_of_pos_right _ (by omega)
  have g0 : gc t b = (x : Int) := by
    unfold gc
    rw [hx]
  have d1 : (x : Int) ∣ t := Int.ofNat_dvd_left.mpr (by rw [← hx]; exact Nat.gcd_dvd_left _ _)
  have d2 : (x : Int) ∣ b := Int.ofNat_dvd_left.mpr (by rw [← hx]; exact Nat.gcd_dvd_right _ _)
  obtain ⟨t', et⟩ := d1
  obtain ⟨b', eb⟩ := d2
  have e1 : (lw t b).1 = t' := by
    show t / gc t b = t'
    rw [g0, et]
    exact Int.mul_ediv_cancel_left _ (by omega)
  have e2 : (lw t b).2 = b' := by
    show b / gc t b = b'
    rw [g0, eb]
    exact Int.mul_ediv_cancel_left _ (by omega)
  have nt : t.natAbs = x * t'.natAbs := by rw [et, Int.natAbs_mul]; rfl
  have nb : b.natAbs = x * b'.natAbs := by rw [eb, Int.natAbs_mul]; rfl
  have gcd1 : Nat.gcd t'.natAbs b'.natAbs = 1 := by
    rw [nt, nb, Nat.gcd_mul_left] at hx
    exact Nat.eq_of_mul_eq_mul_left x0 (by rw [hx, Nat.mul_one])
  have bp : 0 < b' := by
    rw [eb] at hb
    exact Int.pos_of_mul_pos_right hb (by omega)
  rw [e1, e2]
  refine ⟨bp, by unfold gc; rw [gcd1]; rfl, Nat.lt_of_le_of_lt ?_ ht, Nat.lt_of_le_of_lt ?_ b6⟩
  · rw [nt]
    exact Nat.le_mul_of_pos_left _ x0
  · rw [nb]
    exact Nat.le_mul_of_pos_left _ x0
def spLN : Sp := fun vs H Q _ => ∃ (p : Addr) (n : Nat), vs = [.ref p] ∧ Dr H p n ∧ n < 900000 ∧ ∀ (t : Addr) (a b : Int) (H' : Hp), Kp p H H' → Dr H' p (n + 2) → H t = none → H' t = some (.tup [.int a, .int b]) → GoodN a b → Q (.ref t) H'
def spLWs (K : PySem.W.Frag) : Sp := fun vs H Q _ => ∃ (p : Addr) (n : Nat) (S : List Addr), vs = [.ref p] ∧ Dr H p n ∧ n < 890000 ∧ Up H S ∧ p ∈ S ∧ ∀ (l : Addr) (xs : List V) (ws : List Wx) (H' : Hp), Kp p H H' → Dr H' p (n + 3) → H l = none → H' l = some (.lst xs) → DpAll K (hid H' (l :: S)) xs (ws.map Wx.d) → GoodWs ws → Q (.ref l) H'
section
variable {P : Program} {w : World} {K : PySem.W.Frag} {mg : Str → Option Value} {base : Heap}
theorem ok_ln {f : Addr} {fd : FuncData} {k : Nat} (F : Fun K "_law_number" "_law_number" sLN f fd) (L_next : Cal P w K mg base k "_law_next" ["_law_draws_here"] spNext) (L_low : Cal P w K mg base k "_law_low" ["_law_top", "_law_bottom"] (spLo K)) : FnOk P w K mg base CX0 (k + 1) f fd ["_law_draws_here"] spLN := by
  refine F.ok scLN (fun vs H Q E h => ?_) (fun cdv A outer s H vs Q E hr h => ?_)
  · obtain ⟨p, n, rfl, _⟩ := h
    rfl
  · obtain ⟨p, n, rfl, dr, n9, q⟩ := h
    refine ⟨_, pss_cons (ps_set (i := 1) scLN.nd rfl (.inl rfl) (pe_cal L_next (hr.mono (by omega)) (by rfl) (pa_cons (pv 0) pa_nil)))
      (pss_cons (ps_set (i := 2) scLN.nd rfl (.inl rfl) (pe_ix ix_list (pe_lst (pa_cons (pe_op op_sub (pe_op op_mod (pe_op op_fdiv (pv 1) pe_int) pe_int) pe_int) (pa_cons (pe_op op_mod (pe_op op_fdiv (pv 1) pe_int) pe_int) (pa_cons pe_int (pa_cons (pe_op op_sub (pe_op op_mod (pe_op op_fdiv (pv 1) pe_int) (pe_op op_pow pe_int pe_int)) pe_int) pa_nil))))) (pe_op op_mod (pv 1) pe_int) (fun _ _ => rfl)))
      (pss_one (ps_ret (pe_cal L_low (hr.mono (by omega)) (by rfl) (pa_cons (pv 2) (pa_cons (pe_ix ix_list (pe_lst (pa_cons pe_int (pa_cons (pe_op op_add pe_int (pe_op op_mod (pe_cal L_next (hr.mono (by omega)) (by rfl) (pa_cons (pv 0) pa_nil)) pe_int)) pa_nil))) (pe_op op_mod (pe_op op_fdiv (pv 1) pe_int) pe_int) (fun _ _ => rfl)) pa_nil)))))), ?_⟩
    refine ⟨_, rfl, p, n, rfl, dr, by omega, fun v H1 k1 d1 v0 v1 => ?_⟩
    have e17 : (10 : Nat) ^ 17 = 100000000000000000 := by decide
    obtain ⟨x, ex, xs⟩ := at4 (P := fun x : Int => x.natAbs < 10 ^ 17) (v := v % 4) (a := v / 4 % 7 - 3) (b := v / 4 % 60) (c := 0) (d := v / 4 % 1000000 - 1000) (by omega) (by omega) (by omega) (by omega) (by omega) (by omega)
    refine ⟨_, rfl, v, 4, rfl, rfl, ⟨by decide, by decide⟩, v / 4, 7, rfl, rfl, (by show (0 : Int) < 7; decide), _, _, rfl, rfl, _, rfl, v, 4, rfl, rfl, ⟨by decide, by decide⟩, v / 4, 60, rfl, rfl, (by show (0 : Int) < 60; decide), ?_⟩
    refine ⟨_, rfl, v, 4, rfl, rfl, ⟨by decide, by decide⟩, 10, 6, rfl, rfl, ⟨by decide, by decide, by decide⟩, v / 4, 1000000, rfl, rfl, (by show (0 : Int) < 1000000; decide), _, _, rfl, rfl, by show 4 ≤ sizeLine; decide, fun l nl => ?_⟩
    refine ⟨_, rfl, v, 4, rfl, rfl, (by show (0 : Int) < 4; decide), l, _, _, .int x, rfl, rfl, SqL.of upd_same, ex, ?_⟩
    have s2 := same_new (o := .lst [.int (v / 4 % 7 - 3), .int (v / 4 % 60), .int 0, .int (v / 4 % 1000000 - 1000)]) nl
    refine ⟨_, rfl, _, rfl, p, _, rfl, d1.same s2, by omega, fun u H3 k3 d3 u0 u1 => ⟨u, 6, rfl, rfl, (by show (0 : Int) < 6; decide), _, _, rfl, rfl, by show 2 ≤ sizeLine; decide, fun l2 n2 => ?_⟩⟩
    have s4 := same_new (o := .lst [.int 1, .int (1 + u % 6)]) n2
    obtain ⟨b, eb, b0, b6⟩ : ∃ b, atI [V.int 1, V.int (1 + u % 6)] (v / 400 % 2) = some (.int b) ∧ 0 < b ∧ b.natAbs ≤ 6 := by
      obtain ⟨m, em⟩ := Int.eq_ofNat_of_zero_le (show 0 ≤ v / 400 % 2 by omega)
      rw [em]
      match m, (show m < 2 by omega) with
      | 0, _ => exact ⟨1, rfl, by decide, by decide⟩
      | 1, _ => exact ⟨1 + u % 6, rfl, by omega, by omega⟩
      | m + 2, h => exact absurd h (by omega)
    refine ⟨_, rfl, v, 400, rfl, rfl, ⟨by decide, by decide⟩, v / 400, 2, rfl, rfl, (by show (0 : Int) < 2; decide), l2, _, _, .int b, rfl, rfl, SqL.of upd_same, eb, ?_⟩
    refine ⟨x, b, rfl, b0, Nat.lt_of_le_of_lt b6 (by decide +kernel), fun t H5 s5 nt ht => ?_⟩
    have kA := ((k1.trans (.of s2)).trans k3).trans (.of (s4.trans s5))
    have dA := d3.same (s4.trans s5)
    exact q t _ _ H5 kA (dA.more (by omega)) (kp_free ((k1.trans (.of s2)).trans k3) d3.some ((s4).free nt)) ht (low_good_n b0 (by omega) xs)
theorem ok_lws {f : Addr} {fd : FuncData} {k : Nat} (F : Fun K "_law_wishes" "_law_wishes" sLWs f fd) (L_next : Cal P w K mg base k "_law_next" ["_law_draws_here"] spNext) (L_wish : Cal P w K mg base k "_law_wish" ["_law_draws_here"] (spLW K)) (m_range : mg "range" = none) : FnOk P w K mg base CX0 (k + 1) f fd ["_law_draws_here"] (spLWs K) := by
  refine F.ok scLWs (fun vs H Q E h => ?_) (fun cdv A outer s H vs Q E hr h => ?_)
  · obtain ⟨p, n, S, rfl, _⟩ := h
    rfl
  · obtain ⟨p, n, S, rfl, dr, n9, up, pS, q⟩ := h
    refine ⟨_, pss_one (ps_ret (pe_lc (own := [("_law_k", 1)]) (g := (gName 1)) (tt := tYes) rfl scLWs.nd (pi_range1 (by rfl) m_range (pa_cons (pe_ix ix_list (pe_lst (pa_cons pe_int (pa_cons pe_int (pa_cons pe_int (pa_cons pe_int (pa_cons pe_int (pa_cons pe_int pa_nil))))))) (pe_op op_mod (pe_cal L_next (hr.mono (by omega)) (by rfl) (pa_cons (pv 0) pa_nil)) pe_int) (fun _ _ => rfl)) pa_nil)) (blkOk_by (own := [("_law_k", 1)]) (N := NLWs) (sc := defScope sLWs) (by decide +kernel)) (fun _ _ _ _ _ => (pg_name (i := 1) scLWs.nd rfl (.inl rfl))) (fun _ _ _ _ _ => pts_nil) (fun _ _ _ _ _ => (pe_cal L_wish (hr.mono (by omega)) (by rfl) (pa_cons (pv 0) pa_nil))))), ?_⟩
    refine ⟨by show 6 ≤ sizeLine; decide, fun l0 n0 => ?_⟩
    have s0 := same_new (o := .lst [.int 0, .int 0, .int 0, .int 1, .int 1, .int 2]) n0
    have l0p : l0 ≠ p := dr.ne n0
    refine ⟨_, rfl, p, n, rfl, dr.same s0, by omega, fun v H1 k1 d1 v0 v1 => ?_⟩
    obtain ⟨c, ec, c2⟩ : ∃ c : Nat, atI [V.int 0, V.int 0, V.int 0, V.int 1, V.int 1, V.int 2] (v % 6) = some (.int (c : Int)) ∧ c ≤ 2 := by
      obtain ⟨m, em⟩ := Int.eq_ofNat_of_zero_le (show 0 ≤ v % 6 by omega)
      rw [em]
      match m, (show m < 6 by omega) with
      | 0, _ => exact ⟨0, rfl, by decide⟩
      | 1, _ => exact ⟨0, rfl, by decide⟩
      | 2, _ => exact ⟨0, rfl, by decide⟩
      | 3, _ => exact ⟨1, rfl, by decide⟩
      | 4, _ => exact ⟨1, rfl, by decide⟩
      | 5, _ => exact ⟨2, rfl, by decide⟩
      | m + 6, h => exact absurd h (by omega)
    refine ⟨v, 6, rfl, rfl, (by show (0 : Int) < 6; decide), l0, _, _, .int (c : Int), rfl, rfl, SqL.of (k1 _ _ l0p upd_same), ec, (c : Int), rfl, by omega, by omega, fun D nD => ?_⟩
    rw [Int.toNat_natCast]
    have Dp0 : D ≠ p := d1.ne nD
    have up1 : Up H1 S := (up.same s0).kp k1 d1.some
    refine lc_range (n := c) (fun i Hc => (∀ b o, b ≠ p → b ≠ D → H1 b = some o → Hc b = some o) ∧ Dr Hc p (n + 1 + i) ∧ Up Hc S ∧ ∃ (xs : List V) (ws : List Wx), ws.length = i ∧ Hc D = some (.lst xs) ∧ DpAll K (hid Hc (D :: S)) xs (ws.map Wx.d) ∧ ∀ y, y ∈ ws → y ∈ allW) ?_ ?_ ?_
    · exact ⟨fun b o nb nbD hb => same_new nD _ _ hb, d1.same (same_new nD), up1.same (same_new nD), [], [], rfl, upd_same, .nil, fun z hz => nomatch hz⟩
    · rintro i Hc hi ⟨sc, pc, uc, xs', wl, lw, hD, hd', each⟩
      refine ⟨rfl, ?_⟩
      unfold tYes
      dsimp only
      rw [if_pos rfl]
      refine ⟨_, rfl, p, _, D :: S, rfl, pc, by omega, up_cons hD uc, .tail _ pS, fun x' y H5 k5 p5 dy gy => ?_⟩
      have lx : xs'.length = wl.length := by rw [dpAll_len hd', List.length_map]
      have hD5 := k5 _ _ Dp0 hD
      have sh : Same (hid H5 (D :: S)) (hid (upd H5 D (.lst (xs' ++ [x']))) (D :: S)) := by
        rw [hid_putS]
        exact Same.refl _
      refine ⟨xs', hD5, small1000 (by omega), fun b o nb nbD hb => ?_, ?_, ?_, xs' ++ [x'], wl ++ [y], by rw [List.length_append, lw]; rfl, upd_same, ?_, fun z hz => ?_⟩
      · rw [upd_ne nbD]
        exact k5 _ _ nb (sc _ _ nb nbD hb)
      · obtain ⟨a0, b0, c0, e1, e2, e3⟩ := p5
        exact ⟨a0, b0, c0, by rw [upd_ne Dp0.symm]; exact e1, e2, by omega⟩
      · intro b hb z
        by_cases e : b = D
        · rw [e, upd_same] at z
          cases z
        · rw [upd_ne e] at z
          exact uc.kp k5 p5.some b hb z
      · rw [List.map_append]
        exact dpAll_app (dpAll_same sh (dpAll_same (hid_kp k5 (.tail _ pS)) hd')) (.cons (dp_same sh dy) .nil)
      · rcases List.mem_append.mp hz with h | h
        · exact each z h
        · rw [List.mem_singleton.mp h]
          exact gy
    · rintro Hc ⟨sc, pc, uc, xs', wl, lw, hD, hd', each⟩
      refine q D xs' wl Hc (fun b o nb hb => ?_) (pc.more (by omega)) (s0.free (kp_free k1 d1.some nD)) hD hd' ⟨⟨each, by omega⟩, by omega⟩
      have h1 := k1 _ _ nb (s0 _ _ hb)
      exact sc b o nb (ne_of_none h1 nD) h1
end
end Tg

set_option maxHeartbeats 2000000
namespace Tg
open PySem PySem.Spec PyProof.Rows L2 LamX
/-! ### _law_ask -/
theorem Cal.up {P : Program} {w : World} {K : PySem.W.Frag} {mg : Str → Option Value} {base : Heap} {j k : Nat} {x : Str} {ps : List Str} {sp : Sp} (c : Cal P w K mg base j x ps sp) (h : j ≤ k) : Cal P w K mg base k x ps sp := by
  obtain ⟨f, fd, F, r⟩ := c
  exact ⟨f, fd, F.mono h, r⟩
def spAk (K : PySem.W.Frag) (N : Nat) : Sp := fun vs H Q _ => ∃ (p : Addr) (n d : Nat) (S : List Addr), vs = [.ref p, .int (d : Int)] ∧ d < N ∧ d ≤ 5 ∧ Dr H p n ∧ n + 10 * 2 ^ d ≤ 880000 ∧ Up H S ∧ p ∈ S ∧ ∀ (v : V) (a : Ask) (H' : Hp), Kp p H H' → Dr H' p (n + 10 * 2 ^ d - 5) → Dp K (hid H' S) v a.d → GoodA a → a.deep ≤ d → Q v H'
theorem mk_node {K : PySem.W.Frag} {H : Hp} {S : List Addr} {t : Addr} {vs : List V} (a : Ask) (up : Up H S) (nt : H t = none) (da : DpAll K (hid H S) vs (a.parts.map Part.d)) : Dp K (hid (upd H t (.tup (.str a.word :: vs))) S) (.ref t) a.d := by
  rw [ask_d]
  exact .tup (SqT.of (hid_of upd_same (up.new nt))) (.cons (.str _) (dpAll_same (hid_same (same_new nt)) da))
section
variable {P : Program} {w : World} {K : PySem.W.Frag} {mg : Str → Option Value} {base : Heap} {f : Addr} {fd : FuncData} {k N : Nat} {cdv : Value} {A : Around} {outer : List Env} {s : Shared} {Hs : Hp} {E : XK}
/-- what is known ahead of the rows that make an ask of an inner one -/
def RA (K : PySem.W.Frag) (N : Nat) : TS := fun D σ H => ∃ (p : Addr) (m d : Nat) (S : List Addr) (v : Int) (wd : Str) (v1 : V) (a1 : Ask), σ = [some (.ref p), some (.int ((d + 1 : Nat) : Int)), some (.int v), some (.str wd), none, some v1, none, none] ∧ 0 ≤ v ∧ v < 1000000000 ∧ d ≤ 4 ∧ Dr H p m ∧ m + 10 * 2 ^ d ≤ 880000 ∧ Up H S ∧ p ∈ S ∧ Dp K (hid H S) v1 a1.d ∧ GoodA a1 ∧ a1.deep ≤ d ∧ d < N ∧
  ∀ (a : Ask) (vs : List V) (t : Addr) (Hx : Hp) (m' : Nat), Kp p H Hx → Dr Hx p m' → m' ≤ m + 10 * 2 ^ d - 5 → Up Hx S → Hx t = none → DpAll K (hid Hx S) vs (a.parts.map Part.d) → GoodA a → a.deep ≤ d + 1 → D.rt (.ref t) (upd Hx t (.tup (.str a.word :: vs)))
theorem pow1 (d : Nat) : 1 ≤ 2 ^ d := Nat.pow_pos (by decide)
theorem ra_9 (hr : Room k (A.deeper (envOfC "_law_ask" (defScope sLAk) s.heap.objs.size f cdv)))  : PSs (cxOf CX0 P w K mg base NLAk "_law_ask" (defScope sLAk) f cdv A outer s Hs E).nox ((defBody sLAk).drop 9) (RA K N) := by
  refine pss_by (pss_cons (ps_if (pt_cmpR op_eq (pv 3) pe_str (nomark _))
        (pss_one (ps_ret (pe_tup (pa_cons pe_str (pa_cons (pe_op op_add pe_int (pe_op op_mod (pe_op op_fdiv (pv 2) pe_int) pe_int)) (pa_cons (pv 5) pa_nil))))))
        pss_nil)
      (pss_one (ps_ret (pe_tup (pa_cons pe_str (pa_cons (pe_ix ix_list (pe_lst (pa_cons pe_int (pa_cons pe_int (pa_cons (pe_un un_neg pe_int) (pa_cons pe_int (pa_cons (pe_un un_neg pe_int) (pa_cons pe_int pa_nil))))))) (pe_op op_mod (pe_op op_fdiv (pv 2) pe_int) pe_int) (fun _ _ => rfl)) (pa_cons (pv 5) pa_nil))))))) ?_
  rintro D σ H ⟨p, m, d, S, v, wd, v1, a1, rfl, v0, v1', d4, d3, m8, up3, pS, dv1, g1, dp1, dN, fin⟩
  have e1 := pow1 d
  refine ⟨_, rfl, rfl, _, rfl, ite2 (fun h6 => ?_) (fun h6 => ?_)⟩
  · refine ⟨_, rfl, v, 8, rfl, rfl, ⟨by decide, by decide⟩, v / 8, 4, rfl, rfl, (by show (0 : Int) < 4; decide), _, _, rfl, rfl, _, rfl, by show 3 ≤ sizeLine; decide, fun t nt => ?_⟩
    exact fin (.top (1 + v / 8 % 4) a1) [.int (1 + v / 8 % 4), v1] t _ _ (Kp.of (Same.refl _)) d3 (by omega) up3 nt (.cons (.int _) (.cons dv1 .nil)) ⟨⟨by omega, by
      have e : (10 : Nat) ^ 17 = 100000000000000000 := by decide
      omega⟩, g1⟩ (Nat.succ_le_succ dp1)
  · refine ⟨_, rfl, _, rfl, by show 6 ≤ sizeLine; decide, fun l5 n5 => ?_⟩
    have s5 := same_new (o := .lst [.int 0, .int 1, .int (-1), .int 2, .int (-3), .int 5]) n5
    obtain ⟨b, eb, sb⟩ : ∃ b : Int, atI [V.int 0, V.int 1, V.int (-1), V.int 2, V.int (-3), V.int 5] (v / 8 % 6) = some (.int b) ∧ b.natAbs < 10 ^ 17 := by
      obtain ⟨m, em⟩ := Int.eq_ofNat_of_zero_le (show 0 ≤ v / 8 % 6 by omega)
      rw [em]
      match m, (show m < 6 by omega) with
      | 0, _ => exact ⟨0, rfl, by decide⟩
      | 1, _ => exact ⟨1, rfl, by decide⟩
      | 2, _ => exact ⟨-1, rfl, by decide⟩
      | 3, _ => exact ⟨2, rfl, by decide⟩
      | 4, _ => exact ⟨-3, rfl, by decide⟩
      | 5, _ => exact ⟨5, rfl, by decide⟩
      | m + 6, h => exact absurd h (by omega)
    refine ⟨_, rfl, v, 8, rfl, rfl, ⟨by decide, by decide⟩, v / 8, 6, rfl, rfl, (by show (0 : Int) < 6; decide), l5, _, _, .int b, rfl, rfl, SqL.of upd_same, eb, _, rfl, by show 3 ≤ sizeLine; decide, fun t nt => ?_⟩
    exact fin (.shift b a1) [.int b, v1] t _ _ (Kp.of s5) (d3.same s5) (by omega) (up3.same s5) nt (.cons (.int _) (.cons (dp_same (hid_same s5) dv1) .nil)) ⟨sb, g1⟩ (Nat.succ_le_succ dp1)
theorem ra_8 (hr : Room k (A.deeper (envOfC "_law_ask" (defScope sLAk) s.heap.objs.size f cdv))) (L_number : Cal P w K mg base k "_law_number" ["_law_draws_here"] spLN) : PSs (cxOf CX0 P w K mg base NLAk "_law_ask" (defScope sLAk) f cdv A outer s Hs E).nox ((defBody sLAk).drop 8) (RA K N) := by
  refine pss_by (pss_cons (ps_if (pt_cmpR op_eq (pv 3) pe_str (nomark _))
        (pss_one (ps_ret (pe_tup (pa_cons pe_str (pa_cons (pv 5) (pa_cons (pe_cal L_number (hr.mono (by omega)) (by rfl) (pa_cons (pv 0) pa_nil)) pa_nil))))))
        pss_nil)
      (ra_9 (N := N) hr)) ?_
  rintro D σ H ⟨p, m, d, S, v, wd, v1, a1, rfl, v0, v1', d4, d3, m8, up3, pS, dv1, g1, dp1, dN, fin⟩
  have e1 := pow1 d
  refine ⟨_, rfl, rfl, _, rfl, ite2 (fun h5 => ?_) (fun h5 => ⟨p, m, d, S, v, wd, v1, a1, rfl, v0, v1', d4, d3, m8, up3, pS, dv1, g1, dp1, dN, fin⟩)⟩
  refine ⟨_, rfl, _, rfl, p, _, rfl, d3, by omega, fun t2 a b H5 k5 d5 nt2 ht2 gn => ⟨by show 3 ≤ sizeLine; decide, fun t nt => ?_⟩⟩
  exact fin (.above a1 a b) [v1, .ref t2] t _ _ k5 d5 (by omega) (up3.kp k5 d5.some) nt (.cons (dp_same (hid_kp k5 pS) dv1) (.cons (.tup (SqT.of (hid_of ht2 (up3.new nt2))) (.cons (.int _) (.cons (.int _) .nil))) .nil)) ⟨g1, gn⟩ (Nat.succ_le_succ dp1)
theorem ra_7 (hr : Room k (A.deeper (envOfC "_law_ask" (defScope sLAk) s.heap.objs.size f cdv))) (L_number : Cal P w K mg base k "_law_number" ["_law_draws_here"] spLN) : PSs (cxOf CX0 P w K mg base NLAk "_law_ask" (defScope sLAk) f cdv A outer s Hs E).nox ((defBody sLAk).drop 7) (RA K N) := by
  refine pss_by (pss_cons (ps_if (pt_cmpR op_eq (pv 3) pe_str (nomark _))
        (pss_one (ps_ret (pe_tup (pa_cons pe_str (pa_cons (pe_ix ix_list (pe_lst (pa_cons pe_str (pa_cons pe_str pa_nil))) (pe_op op_mod (pe_op op_fdiv (pv 2) pe_int) pe_int) (fun _ _ => rfl)) (pa_cons (pv 5) pa_nil))))))
        pss_nil)
      (ra_8 (N := N) hr L_number)) ?_
  rintro D σ H ⟨p, m, d, S, v, wd, v1, a1, rfl, v0, v1', d4, d3, m8, up3, pS, dv1, g1, dp1, dN, fin⟩
  have e1 := pow1 d
  refine ⟨_, rfl, rfl, _, rfl, ite2 (fun h4 => ?_) (fun h4 => ⟨p, m, d, S, v, wd, v1, a1, rfl, v0, v1', d4, d3, m8, up3, pS, dv1, g1, dp1, dN, fin⟩)⟩
  refine ⟨by show 2 ≤ sizeLine; decide, fun l5 n5 => ?_⟩
  have s5 := same_new (o := .lst (fillL.map V.str)) n5
  obtain ⟨wx, hwx, ewx⟩ := atI_str (xs := fillL) (i := v / 8 % 2) (by omega) (by show v / 8 % 2 < 2; omega)
  refine ⟨_, rfl, v, 8, rfl, rfl, ⟨by decide, by decide⟩, v / 8, 2, rfl, rfl, (by show (0 : Int) < 2; decide), l5, _, _, .str wx, rfl, rfl, SqL.of upd_same, ewx, _, rfl, by show 3 ≤ sizeLine; decide, fun t nt => ?_⟩
  exact fin (.fill wx a1) [.str wx, v1] t _ _ (Kp.of s5) (d3.same s5) (by omega) (up3.same s5) nt (.cons (.str _) (.cons (dp_same (hid_same s5) dv1) .nil)) ⟨hwx, g1⟩ (Nat.succ_le_succ dp1)
theorem ra_6 (hr : Room k (A.deeper (envOfC "_law_ask" (defScope sLAk) s.heap.objs.size f cdv))) (L_number : Cal P w K mg base k "_law_number" ["_law_draws_here"] spLN) (L_ask : Cal P w K mg base k "_law_ask" ["_law_draws_here", "_law_deep"] (spAk K N)) : PSs (cxOf CX0 P w K mg base NLAk "_law_ask" (defScope sLAk) f cdv A outer s Hs E).nox ((defBody sLAk).drop 6) (RA K N) := by
  refine pss_by (pss_cons (ps_if (pt_cmpR op_eq (pv 3) pe_str (nomark _))
        (pss_cons (ps_set (i := 7) scLAk.nd rfl (.inl rfl) (pe_ix ix_list (pe_lst (pa_cons (pv 5) (pa_cons (pe_cal L_ask (hr.mono (by omega)) (by rfl) (pa_cons (pv 0) (pa_cons (pe_op op_sub (pv 1) pe_int) pa_nil))) pa_nil))) (pe_op op_mod (pe_op op_fdiv (pv 2) pe_int) pe_int) (fun _ _ => rfl)))
        (pss_one (ps_ret (pe_tup (pa_cons pe_str (pa_cons (pe_ix ix_list (pe_lst (pa_cons pe_str (pa_cons pe_str (pa_cons pe_str (pa_cons pe_str pa_nil))))) (pe_op op_mod (pe_op op_fdiv (pv 2) pe_int) pe_int) (fun _ _ => rfl)) (pa_cons (pv 5) (pa_cons (pv 7) pa_nil))))))))
        pss_nil)
      (ra_7 (N := N) hr L_number)) ?_
  rintro D σ H ⟨p, m, d, S, v, wd, v1, a1, rfl, v0, v1', d4, d3, m8, up3, pS, dv1, g1, dp1, dN, fin⟩
  have e1 := pow1 d
  have eqd : (((d + 1 : Nat) : Int) - 1) = (d : Int) := by omega
  refine ⟨_, rfl, rfl, _, rfl, ite2 (fun h3 => ?_) (fun h3 => ⟨p, m, d, S, v, wd, v1, a1, rfl, v0, v1', d4, d3, m8, up3, pS, dv1, g1, dp1, dN, fin⟩)⟩
  refine ⟨_, rfl, _, rfl, _, rfl, _, _, rfl, rfl, p, _, d, S, ?_, by omega, by omega, d3, by omega, up3, pS, fun v2 a2 H4 k4 d4 dv2 g2' dp2 => ?_⟩
  · show [V.ref p, V.int (((d + 1 : Nat) : Int) - 1)] = _
    rw [eqd]
  have up4 := up3.kp k4 d4.some
  refine ⟨by show 2 ≤ sizeLine; decide, fun l5 n5 => ?_⟩
  have s5 := same_new (o := .lst [v1, v2]) n5
  obtain ⟨vo, ao, evo, dvo, gao, dpo⟩ : ∃ vo ao, atI [v1, v2] (v / 32 % 2) = some vo ∧ Dp K (hid H4 S) vo ao.d ∧ GoodA ao ∧ ao.deep ≤ d := by
    obtain ⟨m, em⟩ := Int.eq_ofNat_of_zero_le (show 0 ≤ v / 32 % 2 by omega)
    rw [em]
    match m, (show m < 2 by omega) with
    | 0, _ => exact ⟨v1, a1, rfl, dp_same (hid_kp k4 pS) dv1, g1, dp1⟩
    | 1, _ => exact ⟨v2, a2, rfl, dv2, g2', dp2⟩
    | m + 2, h => exact absurd h (by omega)
  refine ⟨_, rfl, v, 32, rfl, rfl, ⟨by decide, by decide⟩, v / 32, 2, rfl, rfl, (by show (0 : Int) < 2; decide), l5, _, _, vo, rfl, rfl, SqL.of upd_same, evo, ?_⟩
  refine ⟨by show 4 ≤ sizeLine; decide, fun l6 n6 => ?_⟩
  have s6 := same_new (o := .lst (bothL.map V.str)) n6
  obtain ⟨wx, hwx, ewx⟩ := atI_str (xs := bothL) (i := v / 8 % 4) (by omega) (by show v / 8 % 4 < 4; omega)
  refine ⟨_, rfl, v, 8, rfl, rfl, ⟨by decide, by decide⟩, v / 8, 4, rfl, rfl, (by show (0 : Int) < 4; decide), l6, _, _, .str wx, rfl, rfl, SqL.of upd_same, ewx, _, rfl, _, rfl, by show 4 ≤ sizeLine; decide, fun t nt => ?_⟩
  have sA := s5.trans s6
  exact fin (.both wx a1 ao) [.str wx, v1, vo] t _ _ (k4.trans (.of sA)) (d4.same sA) (by omega) (up4.same sA) nt (.cons (.str _) (.cons (dp_same ((hid_kp k4 pS).trans (hid_same sA)) dv1) (.cons (dp_same (hid_same sA) dvo) .nil))) ⟨hwx, g1, gao⟩ (Nat.succ_le_succ (Nat.max_le.mpr ⟨dp1, dpo⟩))
theorem ra_5 (hr : Room k (A.deeper (envOfC "_law_ask" (defScope sLAk) s.heap.objs.size f cdv))) (L_number : Cal P w K mg base k "_law_number" ["_law_draws_here"] spLN) (L_ask : Cal P w K mg base k "_law_ask" ["_law_draws_here", "_law_deep"] (spAk K N)) : PSs (cxOf CX0 P w K mg base NLAk "_law_ask" (defScope sLAk) f cdv A outer s Hs E).nox ((defBody sLAk).drop 5) (RA K N) := by
  refine pss_by (pss_cons (ps_if (pt_cmpR op_eq (pv 3) pe_str (nomark _))
        (pss_one (ps_ret (pe_tup (pa_cons pe_str (pa_cons (pe_ix ix_list (pe_lst (pa_cons pe_str (pa_cons pe_str (pa_cons pe_str pa_nil)))) (pe_op op_mod (pe_op op_fdiv (pv 2) pe_int) pe_int) (fun _ _ => rfl)) (pa_cons (pv 5) (pa_cons (pe_cal L_number (hr.mono (by omega)) (by rfl) (pa_cons (pv 0) pa_nil)) pa_nil)))))))
        pss_nil)
      (ra_6 (N := N) hr L_number L_ask)) ?_
  rintro D σ H ⟨p, m, d, S, v, wd, v1, a1, rfl, v0, v1', d4, d3, m8, up3, pS, dv1, g1, dp1, dN, fin⟩
  have e1 := pow1 d
  refine ⟨_, rfl, rfl, _, rfl, ite2 (fun h2 => ?_) (fun h2 => ⟨p, m, d, S, v, wd, v1, a1, rfl, v0, v1', d4, d3, m8, up3, pS, dv1, g1, dp1, dN, fin⟩)⟩
  refine ⟨by show 3 ≤ sizeLine; decide, fun l5 n5 => ?_⟩
  have s5 := same_new (o := .lst (eachL.map V.str)) n5
  obtain ⟨wx, hwx, ewx⟩ := atI_str (xs := eachL) (i := v / 8 % 3) (by omega) (by show v / 8 % 3 < 3; omega)
  refine ⟨_, rfl, v, 8, rfl, rfl, ⟨by decide, by decide⟩, v / 8, 3, rfl, rfl, (by show (0 : Int) < 3; decide), l5, _, _, .str wx, rfl, rfl, SqL.of upd_same, ewx, _, rfl, _, rfl, p, _, rfl, d3.same s5, by omega, fun t2 a b H5 k5 d5 nt2 ht2 gn => ⟨by show 4 ≤ sizeLine; decide, fun t nt => ?_⟩⟩
  have up5 := (up3.same s5).kp k5 d5.some
  exact fin (.each wx a1 a b) [.str wx, v1, .ref t2] t _ _ ((Kp.of s5).trans k5) d5 (by omega) up5 nt (.cons (.str _) (.cons (dp_same ((hid_same s5).trans (hid_kp k5 pS)) dv1) (.cons (.tup (SqT.of (hid_of ht2 ((up3.same s5).new nt2))) (.cons (.int _) (.cons (.int _) .nil))) .nil))) ⟨hwx, g1, gn⟩ (Nat.succ_le_succ dp1)
theorem ra_4 (hr : Room k (A.deeper (envOfC "_law_ask" (defScope sLAk) s.heap.objs.size f cdv))) (L_number : Cal P w K mg base k "_law_number" ["_law_draws_here"] spLN) (L_ask : Cal P w K mg base k "_law_ask" ["_law_draws_here", "_law_deep"] (spAk K N)) : PSs (cxOf CX0 P w K mg base NLAk "_law_ask" (defScope sLAk) f cdv A outer s Hs E).nox ((defBody sLAk).drop 4) (RA K N) := by
  have st : StG (fun _ _ => True) := fun σ H H' _ h => h
  refine pss_by (pss_ex fun S : List Addr =>pss_cons (ps_if (pt_cmpR op_eq (pv 3) pe_str (nomark _))
        (pss_cons (ps_set (i := 6) scLAk.nd rfl (.inl rfl) (pe_ix ix_list (pd_lstN (S := S) (G := fun _ _ => True) (pds_cons st (pd_tup pds_nil) (pds_cons st (pd_tup (pds_cons st pd_str pds_nil)) (pds_cons st (pd_tup (pds_cons st pd_str pds_nil)) (pds_cons st (pd_tup (pds_cons st pd_str (pds_cons st pd_str pds_nil))) (pds_cons st (pd_tup (pds_cons st pd_str (pds_cons st pd_str pds_nil))) (pds_cons st (pd_tup (pds_cons st pd_str (pds_cons st pd_str (pds_cons st pd_str pds_nil)))) pds_nil))))))) (pe_op op_mod (pe_op op_fdiv (pv 2) pe_int) pe_int) (fun _ _ => rfl)))
        (pss_one (ps_ret (pe_tup (pa_cons pe_str (pa_cons (pe_ix ix_list (pe_lst (pa_cons pe_str (pa_cons pe_str (pa_cons pe_str (pa_cons pe_str (pa_cons pe_str pa_nil)))))) (pe_op op_mod (pe_op op_fdiv (pv 2) pe_int) pe_int) (fun _ _ => rfl)) (pa_cons (pv 6) (pa_cons (pv 5) pa_nil))))))))
        pss_nil)
      (ra_5 (N := N) hr L_number L_ask)) ?_
  rintro D σ H ⟨p, m, d, S, v, wd, v1, a1, rfl, v0, v1', d4, d3, m8, up3, pS, dv1, g1, dp1, dN, fin⟩
  have e1 := pow1 d
  refine ⟨S, ?_⟩
  refine ⟨_, rfl, rfl, _, rfl, ite2 (fun h1 => ?_) (fun h1 => ⟨p, m, d, S, v, wd, v1, a1, rfl, v0, v1', d4, d3, m8, up3, pS, dv1, g1, dp1, dN, fin⟩)⟩
  refine ⟨⟨trivial, up3⟩, fun l4 H4 xs4 s4 n4 h4 d4' => ?_⟩
  obtain ⟨x, dd, ex, dx, ed⟩ := dpAll_is d4' (i := v / 8 % 6) (by omega) (by show v / 8 % 6 < 6; omega)
  obtain ⟨ks, hks, eks⟩ : ∃ ks, ks ∈ keysL ∧ dd = .tuple (ks.map .str) := by
    obtain ⟨j, ej⟩ : ∃ j : Nat, (v / 8 % 6).toNat = j := ⟨_, rfl⟩
    rw [ej] at ed
    match j, (show j < 6 by omega), ed with
    | 0, _, ed => cases ed; exact ⟨_, .head _, rfl⟩
    | 1, _, ed => cases ed; exact ⟨_, .tail _ (.head _), rfl⟩
    | 2, _, ed => cases ed; exact ⟨_, .tail _ (.tail _ (.head _)), rfl⟩
    | 3, _, ed => cases ed; exact ⟨_, .tail _ (.tail _ (.tail _ (.head _))), rfl⟩
    | 4, _, ed => cases ed; exact ⟨_, .tail _ (.tail _ (.tail _ (.tail _ (.head _)))), rfl⟩
    | 5, _, ed => cases ed; exact ⟨_, .tail _ (.tail _ (.tail _ (.tail _ (.tail _ (.head _))))), rfl⟩
    | j + 6, h, _ => exact absurd h (by omega)
  subst eks
  refine ⟨_, rfl, v, 8, rfl, rfl, ⟨by decide, by decide⟩, v / 8, 6, rfl, rfl, (by show (0 : Int) < 6; decide), l4, xs4, _, x, rfl, rfl, SqL.of h4, ex, ?_⟩
  refine ⟨by show 5 ≤ sizeLine; decide, fun l5 n5 => ?_⟩
  have s5 := same_new (o := .lst (tracksL.map V.str)) n5
  obtain ⟨wx, hwx, ewx⟩ := atI_str (xs := tracksL) (i := v / 48 % 5) (by omega) (by show v / 48 % 5 < 5; omega)
  refine ⟨_, rfl, v, 48, rfl, rfl, ⟨by decide, by decide⟩, v / 48, 5, rfl, rfl, (by show (0 : Int) < 5; decide), l5, _, _, .str wx, rfl, rfl, SqL.of upd_same, ewx, _, rfl, _, rfl, by show 4 ≤ sizeLine; decide, fun t nt => ?_⟩
  have sA := s4.trans s5
  exact fin (.by_ wx ks a1) [.str wx, x, v1] t _ _ (Kp.of sA) (d3.same sA) (by omega) (up3.same sA) nt (.cons (.str _) (.cons (dp_same (hid_same s5) dx) (.cons (dp_same (hid_same sA) dv1) .nil))) ⟨hwx, hks, g1⟩ (Nat.succ_le_succ dp1)
theorem ok_akS {f : Addr} {fd : FuncData} {k N : Nat} (F : Fun K "_law_ask" "_law_ask" sLAk f fd) (L_next : Cal P w K mg base k "_law_next" ["_law_draws_here"] spNext) (L_wishes : Cal P w K mg base k "_law_wishes" ["_law_draws_here"] (spLWs K)) (L_number : Cal P w K mg base k "_law_number" ["_law_draws_here"] spLN) (L_ask : Cal P w K mg base k "_law_ask" ["_law_draws_here", "_law_deep"] (spAk K N)) : FnOk P w K mg base CX0 (k + 1) f fd ["_law_draws_here", "_law_deep"] (spAk K (N + 1)) := by
  refine F.ok scLAk (fun vs H Q E h => ?_) (fun cdv A outer s H vs Q E hr h => ?_)
  · obtain ⟨p, n, d, S, rfl, _⟩ := h
    rfl
  · obtain ⟨p, n, d, S, rfl, lt, d5, dr, n8, up, pS, q⟩ := h
    have e5 : 2 ^ d ≤ 2 ^ 5 := Nat.pow_le_pow_right (by decide) d5
    have e0 := pow1 d
    refine ⟨_, pss_cons (ps_set (i := 2) scLAk.nd rfl (.inl rfl) (pe_cal L_next (hr.mono (by omega)) (by rfl) (pa_cons (pv 0) pa_nil)))
      (pss_cons (ps_set (i := 3) scLAk.nd rfl (.inl rfl) (pe_ix ix_list (pe_lst (pa_cons pe_str (pa_cons pe_str (pa_cons pe_str (pa_cons pe_str (pa_cons pe_str (pa_cons pe_str (pa_cons pe_str (pa_cons pe_str pa_nil))))))))) (pe_op op_mod (pv 2) pe_int) (fun _ _ => rfl)))
      (pss_cons (ps_if (PW.pt (pw_or (pt_cmpR op_eq (pv 1) pe_int (nomark _)) (pw_or1 (pt_cmpR op_eq (pv 3) pe_str (nomark _)))))
        (pss_cons (ps_set (i := 4) scLAk.nd rfl (.inl rfl) (pe_lst (pa_cons pe_str (pa_cons pe_str (pa_cons pe_str (pa_cons pe_str (pa_cons pe_str (pa_cons pe_str (pa_cons pe_str (pa_cons pe_str (pa_cons pe_str (pa_cons pe_str pa_nil))))))))))))
        (pss_one (ps_ret (pe_tup (pa_cons pe_str (pa_cons (pe_ix ix_list (pv 4) (pe_op op_mod (pe_op op_fdiv (pv 2) pe_int) pe_int) (fun _ _ => rfl)) (pa_cons (pe_cal L_wishes (hr.mono (by omega)) (by rfl) (pa_cons (pv 0) pa_nil)) pa_nil)))))))
        pss_nil)
      (pss_cons (ps_set (i := 5) scLAk.nd rfl (.inl rfl) (pe_cal L_ask (hr.mono (by omega)) (by rfl) (pa_cons (pv 0) (pa_cons (pe_op op_sub (pv 1) pe_int) pa_nil))))
      (ra_4 (N := N) hr L_number L_ask)))), ?_⟩
    refine ⟨_, rfl, p, n, rfl, dr, by omega, fun v H1 k1 d1 v0 v1 => ?_⟩
    have up1 := up.kp k1 d1.some
    refine ⟨by show 8 ≤ sizeLine; decide, fun l1 n1 => ?_⟩
    have s1 := same_new (o := .lst (asksW.map V.str)) n1
    obtain ⟨wd, hwd, ewd⟩ := atI_str (xs := asksW) (i := v % 8) (by omega) (by show v % 8 < 8; omega)
    refine ⟨_, rfl, v, 8, rfl, rfl, (by show (0 : Int) < 8; decide), l1, _, _, .str wd, rfl, rfl, SqL.of upd_same, ewd, ?_⟩
    obtain ⟨H2, e2⟩ : ∃ H2, upd H1 l1 (.lst (asksW.map V.str)) = H2 := ⟨_, rfl⟩
    have s12 : Same H1 H2 := by rw [← e2]; exact s1
    show tSeq _ _ _ _ (upd H1 l1 (.lst (asksW.map V.str)))
    rw [e2]
    have d2 := d1.same s12
    have up2 := up1.same s12
    have k2 : Kp p H H2 := k1.trans (.of s12)
    have fin : ∀ (a : Ask) (vs : List V) (t : Addr) (Hx : Hp) (m : Nat), Kp p H Hx → Dr Hx p m → m ≤ n + 10 * 2 ^ d - 5 → Up Hx S → Hx t = none → DpAll K (hid Hx S) vs (a.parts.map Part.d) → GoodA a → a.deep ≤ d → Q (.ref t) (upd Hx t (.tup (.str a.word :: vs))) := fun a vs t Hx m kx dx le ux nt da ga dp =>
      q (.ref t) a _ (kx.trans (.of (same_new nt))) ((dx.same (same_new nt)).more le) (mk_node a ux nt da) ga dp
    refine ⟨_, rfl, rfl, _, rfl, ite2 (fun g => if_t ?f1) (fun g => ⟨_, rfl, rfl, _, rfl, ite2 (fun g2 => ?f2) (fun g2 => ?r)⟩)⟩
    case r =>
      obtain ⟨d', rfl⟩ : ∃ d', d = d' + 1 := ⟨d - 1, by
        have : ¬ d = 0 := fun z => g (decide_eq_true (by rw [z]; rfl))
        omega⟩
      have ep : 2 ^ (d' + 1) = 2 * 2 ^ d' := by rw [Nat.pow_succ]; omega
      have e1 := pow1 d'
      have eqd : (((d' + 1 : Nat) : Int) - 1) = (d' : Int) := by omega
      refine ⟨_, rfl, _, rfl, _, _, rfl, rfl, p, n + 1, d', S, ?_, by omega, by omega, d2, by omega, up2, pS, fun v1 a1 H3 k3 d3 dv1 g1 dp1 => ?_⟩
      · show [V.ref p, V.int (((d' + 1 : Nat) : Int) - 1)] = _
        rw [eqd]
      exact ⟨p, _, d', S, v, wd, v1, a1, rfl, v0, by omega, by omega, d3, by omega, up2.kp k3 d3.some, pS, dv1, g1, dp1, by omega, fun a vs t Hx m' kx dx le ux nt da ga dp => fin a vs t Hx m' ((k2.trans k3).trans kx) dx (by omega) ux nt da ga dp⟩
    all_goals
      refine ⟨by show 10 ≤ sizeLine; decide, fun l3 n3 => ?_⟩
      have s3 := same_new (o := .lst (whatsL.map V.str)) n3
      obtain ⟨wx, hwx, ewx⟩ := atI_str (xs := whatsL) (i := v / 8 % 10) (by omega) (by show v / 8 % 10 < 10; omega)
      refine ⟨_, rfl, _, rfl, v, 8, rfl, rfl, ⟨by decide, by decide⟩, v / 8, 10, rfl, rfl, (by show (0 : Int) < 10; decide), l3, _, _, .str wx, rfl, rfl, SqL.of upd_same, ewx, _, rfl, p, _, S, rfl, d2.same s3, by omega, up2.same s3, pS, fun L xs ws H4 k4 d4 nL hL da gw => ⟨by show 3 ≤ sizeLine; decide, fun t nt => ?_⟩⟩
      have up4 := (up2.same s3).kp k4 d4.some
      exact fin (.fold wx ws) [.str wx, .ref L] t _ _ ((k2.trans (.of s3)).trans k4) d4 (by omega) up4 nt (.cons (.str _) (.cons (.lst (SqL.of (hid_of hL ((up2.same s3).new nL))) (dpAll_same (hid_less fun b hb => .tail _ hb) da)) .nil)) ⟨hwx, gw⟩ (Nat.zero_le _)
theorem ok_akL {f : Addr} {fd : FuncData} {k : Nat} (F : Fun K "_law_ask" "_law_ask" sLAk f fd) (L_next : Cal P w K mg base k "_law_next" ["_law_draws_here"] spNext) (L_wishes : Cal P w K mg base k "_law_wishes" ["_law_draws_here"] (spLWs K)) (L_number : Cal P w K mg base k "_law_number" ["_law_draws_here"] spLN) (g__law_ask : mg "_law_ask" = some (.ref f)) (kp : PySem.W.keepIn K (.ref f) = true) (bd : Binds K fd ["_law_draws_here", "_law_deep"] []) : ∀ N, FnOk P w K mg base CX0 (k + 1 + N) f fd ["_law_draws_here", "_law_deep"] (spAk K N)
  | 0 => by
    refine F.ok scLAk (fun vs H Q E h => ?_) (fun cdv A outer s H vs Q E hr h => ?_)
    · obtain ⟨p, n, d, S, rfl, _⟩ := h
      rfl
    · obtain ⟨p, n, d, S, rfl, lt, _⟩ := h
      exact absurd lt (Nat.not_lt_zero _)
  | N + 1 => ok_akS (k := k + 1 + N) F (L_next.up (by omega)) (L_wishes.up (by omega)) (L_number.up (by omega)) ⟨f, fd, ok_akL F L_next L_wishes L_number g__law_ask kp bd N, g__law_ask, kp, bd⟩
end
end Tg

namespace Tg
open PySem PySem.Spec PyProof.Rows L2
/-! ### a text once or not at all -/
def rOnce : R2 := fun x y H Q => ∃ (z : Str) (b : Bool), x = .str z ∧ y = .int (if b = true then 1 else 0) ∧ z.length ≤ 1000 ∧ Q (.str (if b = true then z else Str.empty)) H
theorem op_once {X : Cx} : OpR X (binaryOp .Mult) rOnce := by
  rintro pins s σ H _ _ v u Q I rx ry ⟨z, b, rfl, rfl, few, q⟩
  obtain ⟨t, rfl⟩ := rx
  obtain ⟨t2, rfl⟩ := ry
  cases b with
  | true =>
    refine PySem.P.mul_str (n := 1) rfl (fun _ _ => ?_) (fun _ _ => ?_) ?_
    · intro y
      have : (1 : Int) ≤ 2 ^ 63 - 1 := by decide
      omega
    · unfold Builtin.Str.tooLong
      exact decide_eq_false (by rw [sizeLine_eq]; show ¬ _ < z.length * 1; omega)
    · rw [if_neg (by decide), if_pos (by first | rfl | decide)]
      exact ⟨V.str z, H, I, ⟨t, rfl⟩, q⟩
  | false =>
    refine PySem.P.mul_str (n := 0) rfl (fun h _ => absurd (show (0 : Int) < 1 by decide) h) (fun h _ => absurd (show (0 : Int) < 1 by decide) h) ?_
    rw [if_pos (by decide)]
    exact ⟨by decide, .str Str.empty, H, I.tok _, ⟨_, rfl⟩, q⟩
end Tg

set_option maxHeartbeats 2000000
namespace Tg
open PySem PySem.Spec PyProof.Rows L2 LamX
/-! ### the law's texts of asks; the first fold -/
abbrev sNT : Stmt := topS 59
abbrev sTx : Stmt := topS 60
abbrev sFF : Stmt := topS 61
abbrev NTx : List Str := ["_law_a_ask", "_law_parts"]
theorem scNT : FnScope ["_law_number_here"] ["_law_number_here"] (defScope sNT) := ⟨rfl, rfl, rfl, by decide +kernel, rfl, by decide +kernel, by decide +kernel⟩
theorem scTx : FnScope NTx ["_law_a_ask"] (defScope sTx) := ⟨rfl, rfl, rfl, by decide +kernel, rfl, by decide +kernel, by decide +kernel⟩
theorem scFF : FnScope ["_law_a_ask"] ["_law_a_ask"] (defScope sFF) := ⟨rfl, rfl, rfl, by decide +kernel, rfl, by decide +kernel, by decide +kernel⟩
section
variable {P : Program} {w : World} {K : PySem.W.Frag} {mg : Str → Option Value} {base : Heap} {f : Addr} {fd : FuncData} {k N : Nat} {cdv : Value} {A : Around} {outer : List Env} {s : Shared} {Hs : Hp} {E : XK}
theorem ok_nt {f : Addr} {fd : FuncData} {k : Nat} (F : Fun K "_law_number_text" "_law_number_text" sNT f fd) (m_str : mg "str" = none) (m_int : mg "int" = none) : FnOk P w K mg base CX0 (k + 1) f fd ["_law_number_here"] (spRT_ K) := by
  refine F.ok scNT (fun vs H Q E h => ?_) (fun cdv A outer s H vs Q E hr h => ?_)
  · obtain ⟨a, n, m, rfl, _⟩ := h
    rfl
  · obtain ⟨a, n, m, rfl, ha, g, q⟩ := h
    refine ⟨_, pss_one (ps_ret (pe_op op_add_str (pe_callTy call_str_int (by rfl) m_str (by decide +kernel) (pa_cons (pe_ix ix_tup (pv 0) pe_int (fun _ _ => rfl)) pa_nil)) (pe_op op_once (pe_op op_add_str pe_str (pe_callTy call_str_int (by rfl) m_str (by decide +kernel) (pa_cons (pe_ix ix_tup (pv 0) pe_int (fun _ _ => rfl)) pa_nil))) (pe_callTy call_int1 (by rfl) m_int (by decide +kernel) (pa_cons (pe_cmpR op_ne (pe_ix ix_tup (pv 0) pe_int (fun _ _ => rfl)) pe_int (nomark _)) pa_nil))))), ?_⟩
    have l1 := nT_le g.n17
    have l2 := nT_le g.m17
    have e1 : (Str.ofString "/").length = 1 := rfl
    refine ⟨_, rfl, a, _, _, _, rfl, rfl, ha, rfl, n, rfl, log17 g.n17, ?_⟩
    refine ⟨_, rfl, a, _, _, _, rfl, rfl, ha, rfl, m, rfl, log17 g.m17, _, _, rfl, rfl, n100 (by show 1 + (nT m).length ≤ 100; omega), ?_⟩
    refine ⟨_, rfl, a, _, _, _, rfl, rfl, ha, rfl, rfl, .inr ⟨_, rfl, ?_⟩⟩
    have z := q H (Same.refl _)
    unfold rT at z
    have l3 : (Str.ofString "/" ++ nT m).length = 1 + (nT m).length := by rw [Str.length_append, e1]
    by_cases em : m = 1
    · rw [if_pos em] at z
      have eb : (!decide (V.int m = V.int 1)) = false := by rw [decide_eq_true (congrArg V.int em)]; rfl
      refine ⟨Str.ofString "/" ++ nT m, false, rfl, by rw [eb], Nat.le_trans (by omega : (Str.ofString "/" ++ nT m).length ≤ 100) (by decide), nT n, Str.empty, rfl, rfl, n100 (by show (nT n).length + 0 ≤ 100; omega), ?_⟩
      rw [Str.append_empty]
      exact z
    · rw [if_neg em] at z
      have eb : (!decide (V.int m = V.int 1)) = true := by rw [decide_eq_false fun y => em (V.int.inj y)]; rfl
      refine ⟨Str.ofString "/" ++ nT m, true, rfl, by rw [eb], Nat.le_trans (by omega : (Str.ofString "/" ++ nT m).length ≤ 100) (by decide), nT n, Str.ofString "/" ++ nT m, rfl, rfl, n100 (by omega), ?_⟩
      rw [← Str.append_assoc]
      exact z
def RT (K : PySem.W.Frag) : TS := fun D σ H => ∃ (t l : Addr) (a : Ask) (vs : List V), σ = [some (.ref t), some (.ref l)] ∧ SqT K H t (.str a.word :: vs) ∧ H l = some (.lst ((a.parts.map Part.t).map V.str)) ∧ GoodA a ∧ a.deep ≤ 5 ∧ D.rt (.str a.t) H
theorem rt_1 (hr : Room k (A.deeper (envOfC "_law_ask_text" (defScope sTx) s.heap.objs.size f cdv))) : PSs (cxOf CX0 P w K mg base NTx "_law_ask_text" (defScope sTx) f cdv A outer s Hs E).nox ((defBody sTx).drop 1) (RT K) := by
  refine pss_by (pss_one (ps_ret (pe_op op_add_str (pe_op op_add_str (pe_op op_add_str (pe_ix ix_tup (pv 0) pe_int (fun _ _ => rfl)) pe_str) (pe_bm PySem.F.plainAttrs_str PySem.F.slot_str_join PySem.F.type_str_join mt_join pe_str (pa_cons (pv 1) pa_nil))) pe_str))) ?_
  rintro D σ H ⟨t, l, a, vs, rfl, ht, hl, g, d5, q⟩
  obtain ⟨al, _⟩ := ask_small g d5
  have et := ask_txt g
  have l1 : (Str.ofString "(").length = 1 := rfl
  have l2 : (Str.ofString ")").length = 1 := rfl
  have eL : a.t.length = a.word.length + 1 + ((J2 (a.parts.map Part.t)).length + 1) := by
    rw [et, Str.length_append, Str.length_append, Str.length_append, l1, l2]
  have ne : a.parts.map Part.t ≠ [] := fun z => parts_ne a (List.map_eq_nil_iff.mp z)
  have js := J2_sum ne
  have ej : Txt.join cb (a.parts.map Part.t) = J2 (a.parts.map Part.t) := TL.join_eq _ _
  refine ⟨_, rfl, t, _, _, _, rfl, rfl, ht, at_0, _, _, rfl, rfl, n20k (by rw [l1]; omega), rfl, _, rfl, _, l, a.parts.map Part.t, rfl, rfl, .inl (SqL.of hl), Nat.le_trans js (by omega), ?_⟩
  rw [ej]
  refine ⟨_, _, rfl, rfl, n20k (by rw [Str.length_append, l1]; omega), _, _, rfl, rfl, n20k (by rw [Str.length_append, Str.length_append, l1, l2]; omega), ?_⟩
  rw [et, ← Str.append_assoc] at q
  exact q
theorem da2 {K : PySem.W.Frag} {H : Hp} {vs : List V} {a b : PyData} (h : DpAll K H vs [a, b]) : ∃ x y, vs = [x, y] ∧ Dp K H x a ∧ Dp K H y b := by
  cases h with
  | cons d0 r => cases r with
    | cons d1 r => cases r; exact ⟨_, _, rfl, d0, d1⟩
theorem da3 {K : PySem.W.Frag} {H : Hp} {vs : List V} {a b c : PyData} (h : DpAll K H vs [a, b, c]) : ∃ x y z, vs = [x, y, z] ∧ Dp K H x a ∧ Dp K H y b ∧ Dp K H z c := by
  cases h with
  | cons d0 r => cases r with
    | cons d1 r => cases r with
      | cons d2 r => cases r; exact ⟨_, _, _, rfl, d0, d1, d2⟩
theorem dp_list {K : PySem.W.Frag} {H : Hp} {x : V} {ds : List PyData} (h : Dp K H x (.list ds)) : ∃ l xs, x = .ref l ∧ SqL K H l xs ∧ DpAll K H xs ds := by
  cases h with
  | lst a b => exact ⟨_, _, rfl, a, b⟩
theorem dp_tupl {K : PySem.W.Frag} {H : Hp} {x : V} {ds : List PyData} (h : Dp K H x (.tuple ds)) : ∃ l xs, x = .ref l ∧ SqT K H l xs ∧ DpAll K H xs ds := by
  cases h with
  | tup a b => exact ⟨_, _, rfl, a, b⟩
theorem keys_sh : ∀ ks, ks ∈ keysL → SeqAt.shaped (.tuple (ks.map .str)) = true := by decide +kernel
theorem keys_join : ∀ ks, ks ∈ keysL → (Txt.join (Str.ofString "+") ks).length ≤ 50 ∧ (Txt.join (Str.ofString "+") ks ++ SX.S (List.replicate (if ks.isEmpty = true then 1 else 0) 45)) = ksT ks := by decide +kernel
theorem eq_knil (ks : List Str) : PyData.eqv (.tuple (ks.map .str)) (.tuple []) = ks.isEmpty := by
  cases ks <;> rfl
theorem dp_s {K : PySem.W.Frag} {H : Hp} {x : V} {z : Str} (h : Dp K H x (.str z)) : x = .str z := by cases h; rfl
theorem dp_i {K : PySem.W.Frag} {H : Hp} {x : V} {z : Int} (h : Dp K H x (.int z)) : x = .int z := by cases h; rfl
theorem tx_fold {H : Hp} {Q : VK} {n : Nat} {t : Addr} {vs : List V} {x : Str} {ws : List Wx} (hr : Room k (A.deeper (envOfC "_law_ask_text" (defScope sTx) s.heap.objs.size f cdv))) (L_wishes_text : Cal P w K mg base k "_law_wishes_text" ["_law_wishes_here"] (spWsT K)) (L_number_text : Cal P w K mg base k "_law_number_text" ["_law_number_here"] (spRT_ K)) (L_ask_text : Cal P w K mg base k "_law_ask_text" ["_law_a_ask"] (spAT K n)) (m_str : mg "str" = none) (m_int : mg "int" = none)
    (g : GoodA (.fold x ws)) (lt : ((.fold x ws) : Ask).deep < n + 1) (d5 : ((.fold x ws) : Ask).deep ≤ 5) (ht : SqT K H t (.str ((.fold x ws) : Ask).word :: vs)) (da : DpAll K H vs (((.fold x ws) : Ask).parts.map Part.d)) (q : ∀ H', Same H H' → Q (.str ((.fold x ws) : Ask).t) H') :
    ∃ tr, PSs (cxOf CX0 P w K mg base NTx "_law_ask_text" (defScope sTx) f cdv A outer s H E).nox (defBody sTx) tr ∧ tr { nx := fun _ H' => Q .non H', rt := Q } (start NTx [.ref t]) H := by
  have hu := hr.units
  refine ⟨_, pss_cons (ps_if (pt_cmpR op_eq (pe_ix ix_tup (pv 0) pe_int (fun _ _ => rfl)) pe_str (nomark _))
        (pss_one (ps_set (i := 1) scTx.nd rfl (.inl rfl) (pe_lst (pa_cons (pe_ix ix_tup (pv 0) pe_int (fun _ _ => rfl)) (pa_cons (pe_cal L_wishes_text (hr.mono (by omega)) (by rfl) (pa_cons (pe_ix ix_tup (pv 0) pe_int (fun _ _ => rfl)) pa_nil)) pa_nil)))))
        (pss_one (ps_if (pt_cmpR op_eq (pe_ix ix_tup (pv 0) pe_int (fun _ _ => rfl)) pe_str (nomark _))
          (pss_one (ps_set (i := 1) scTx.nd rfl (.inl rfl) (pe_lst (pa_cons (pe_ix ix_tup (pv 0) pe_int (fun _ _ => rfl)) (pa_cons (pe_op op_add_str (pe_bm PySem.F.plainAttrs_str PySem.F.slot_str_join PySem.F.type_str_join mt_join pe_str (pa_cons (pe_ix ix_tup (pv 0) pe_int (fun _ _ => rfl)) pa_nil)) (pe_op (op_times (c := 45)) pe_str (pe_callTy call_int1 (by rfl) m_int (by decide +kernel) (pa_cons (pe_cmpR (op_eqD hu) (pe_ix ix_tup (pv 0) pe_int (fun _ _ => rfl)) (pe_tup pa_nil) (nomark _)) pa_nil)))) (pa_cons (pe_cal L_ask_text (hr.mono (by omega)) (by rfl) (pa_cons (pe_ix ix_tup (pv 0) pe_int (fun _ _ => rfl)) pa_nil)) pa_nil))))))
          (pss_one (ps_if (pt_cmpR op_eq (pe_ix ix_tup (pv 0) pe_int (fun _ _ => rfl)) pe_str (nomark _))
            (pss_one (ps_set (i := 1) scTx.nd rfl (.inl rfl) (pe_lst (pa_cons (pe_ix ix_tup (pv 0) pe_int (fun _ _ => rfl)) (pa_cons (pe_cal L_ask_text (hr.mono (by omega)) (by rfl) (pa_cons (pe_ix ix_tup (pv 0) pe_int (fun _ _ => rfl)) pa_nil)) (pa_cons (pe_cal L_number_text (hr.mono (by omega)) (by rfl) (pa_cons (pe_ix ix_tup (pv 0) pe_int (fun _ _ => rfl)) pa_nil)) pa_nil))))))
            (pss_one (ps_if (pt_cmpR op_eq (pe_ix ix_tup (pv 0) pe_int (fun _ _ => rfl)) pe_str (nomark _))
              (pss_one (ps_set (i := 1) scTx.nd rfl (.inl rfl) (pe_lst (pa_cons (pe_ix ix_tup (pv 0) pe_int (fun _ _ => rfl)) (pa_cons (pe_cal L_ask_text (hr.mono (by omega)) (by rfl) (pa_cons (pe_ix ix_tup (pv 0) pe_int (fun _ _ => rfl)) pa_nil)) (pa_cons (pe_cal L_ask_text (hr.mono (by omega)) (by rfl) (pa_cons (pe_ix ix_tup (pv 0) pe_int (fun _ _ => rfl)) pa_nil)) pa_nil))))))
              (pss_one (ps_if (pt_cmpR op_eq (pe_ix ix_tup (pv 0) pe_int (fun _ _ => rfl)) pe_str (nomark _))
                (pss_one (ps_set (i := 1) scTx.nd rfl (.inl rfl) (pe_lst (pa_cons (pe_cal L_ask_text (hr.mono (by omega)) (by rfl) (pa_cons (pe_ix ix_tup (pv 0) pe_int (fun _ _ => rfl)) pa_nil)) (pa_cons (pe_cal L_number_text (hr.mono (by omega)) (by rfl) (pa_cons (pe_ix ix_tup (pv 0) pe_int (fun _ _ => rfl)) pa_nil)) pa_nil)))))
                (pss_one (ps_set (i := 1) scTx.nd rfl (.inl rfl) (pe_lst (pa_cons (pe_callTy (SkE.call_str_str.or call_str_int) (by rfl) m_str (by decide +kernel) (pa_cons (pe_ix ix_tup (pv 0) pe_int (fun _ _ => rfl)) pa_nil)) (pa_cons (pe_cal L_ask_text (hr.mono (by omega)) (by rfl) (pa_cons (pe_ix ix_tup (pv 0) pe_int (fun _ _ => rfl)) pa_nil)) pa_nil))))))))))))))
      (rt_1 hr), ?_⟩
  obtain ⟨_, _, rfl, d0, d1⟩ := da2 da
  obtain rfl := dp_s d0
  obtain ⟨l, xs, rfl, hl, dw⟩ := dp_list d1
  refine ⟨_, rfl, t, _, _, _, rfl, rfl, ht, rfl, rfl, _, rfl, if_y rfl ?_⟩
  refine ⟨_, rfl, t, _, _, _, rfl, rfl, ht, rfl, _, rfl, t, _, _, _, rfl, rfl, ht, rfl, l, xs, ws, rfl, hl, dw, g.2.g, fun H2 s2 => ⟨by show 2 ≤ sizeLine; decide, fun D nD => ?_⟩⟩
  exact ⟨t, D, .fold x ws, _, rfl, sqT_same (s2.trans (same_new nD)) ht, upd_same, g, d5, q _ (s2.trans (same_new nD))⟩
theorem tx_by {H : Hp} {Q : VK} {n : Nat} {t : Addr} {vs : List V} {x : Str} {ks : List Str} {a : Ask} (hr : Room k (A.deeper (envOfC "_law_ask_text" (defScope sTx) s.heap.objs.size f cdv))) (L_wishes_text : Cal P w K mg base k "_law_wishes_text" ["_law_wishes_here"] (spWsT K)) (L_number_text : Cal P w K mg base k "_law_number_text" ["_law_number_here"] (spRT_ K)) (L_ask_text : Cal P w K mg base k "_law_ask_text" ["_law_a_ask"] (spAT K n)) (m_str : mg "str" = none) (m_int : mg "int" = none)
    (g : GoodA (.by_ x ks a)) (lt : ((.by_ x ks a) : Ask).deep < n + 1) (d5 : ((.by_ x ks a) : Ask).deep ≤ 5) (ht : SqT K H t (.str ((.by_ x ks a) : Ask).word :: vs)) (da : DpAll K H vs (((.by_ x ks a) : Ask).parts.map Part.d)) (q : ∀ H', Same H H' → Q (.str ((.by_ x ks a) : Ask).t) H') :
    ∃ tr, PSs (cxOf CX0 P w K mg base NTx "_law_ask_text" (defScope sTx) f cdv A outer s H E).nox (defBody sTx) tr ∧ tr { nx := fun _ H' => Q .non H', rt := Q } (start NTx [.ref t]) H := by
  have hu := hr.units
  refine ⟨_, pss_cons (ps_if (pt_cmpR op_eq (pe_ix ix_tup (pv 0) pe_int (fun _ _ => rfl)) pe_str (nomark _))
        (pss_one (ps_set (i := 1) scTx.nd rfl (.inl rfl) (pe_lst (pa_cons (pe_ix ix_tup (pv 0) pe_int (fun _ _ => rfl)) (pa_cons (pe_cal L_wishes_text (hr.mono (by omega)) (by rfl) (pa_cons (pe_ix ix_tup (pv 0) pe_int (fun _ _ => rfl)) pa_nil)) pa_nil)))))
        (pss_one (ps_if (pt_cmpR op_eq (pe_ix ix_tup (pv 0) pe_int (fun _ _ => rfl)) pe_str (nomark _))
          (pss_one (ps_set (i := 1) scTx.nd rfl (.inl rfl) (pe_lst (pa_cons (pe_ix ix_tup (pv 0) pe_int (fun _ _ => rfl)) (pa_cons (pe_op op_add_str (pe_bm PySem.F.plainAttrs_str PySem.F.slot_str_join PySem.F.type_str_join mt_join pe_str (pa_cons (pe_ix ix_tup (pv 0) pe_int (fun _ _ => rfl)) pa_nil)) (pe_op (op_times (c := 45)) pe_str (pe_callTy call_int1 (by rfl) m_int (by decide +kernel) (pa_cons (pe_cmpR (op_eqD hu) (pe_ix ix_tup (pv 0) pe_int (fun _ _ => rfl)) (pe_tup pa_nil) (nomark _)) pa_nil)))) (pa_cons (pe_cal L_ask_text (hr.mono (by omega)) (by rfl) (pa_cons (pe_ix ix_tup (pv 0) pe_int (fun _ _ => rfl)) pa_nil)) pa_nil))))))
          (pss_one (ps_if (pt_cmpR op_eq (pe_ix ix_tup (pv 0) pe_int (fun _ _ => rfl)) pe_str (nomark _))
            (pss_one (ps_set (i := 1) scTx.nd rfl (.inl rfl) (pe_lst (pa_cons (pe_ix ix_tup (pv 0) pe_int (fun _ _ => rfl)) (pa_cons (pe_cal L_ask_text (hr.mono (by omega)) (by rfl) (pa_cons (pe_ix ix_tup (pv 0) pe_int (fun _ _ => rfl)) pa_nil)) (pa_cons (pe_cal L_number_text (hr.mono (by omega)) (by rfl) (pa_cons (pe_ix ix_tup (pv 0) pe_int (fun _ _ => rfl)) pa_nil)) pa_nil))))))
            (pss_one (ps_if (pt_cmpR op_eq (pe_ix ix_tup (pv 0) pe_int (fun _ _ => rfl)) pe_str (nomark _))
              (pss_one (ps_set (i := 1) scTx.nd rfl (.inl rfl) (pe_lst (pa_cons (pe_ix ix_tup (pv 0) pe_int (fun _ _ => rfl)) (pa_cons (pe_cal L_ask_text (hr.mono (by omega)) (by rfl) (pa_cons (pe_ix ix_tup (pv 0) pe_int (fun _ _ => rfl)) pa_nil)) (pa_cons (pe_cal L_ask_text (hr.mono (by omega)) (by rfl) (pa_cons (pe_ix ix_tup (pv 0) pe_int (fun _ _ => rfl)) pa_nil)) pa_nil))))))
              (pss_one (ps_if (pt_cmpR op_eq (pe_ix ix_tup (pv 0) pe_int (fun _ _ => rfl)) pe_str (nomark _))
                (pss_one (ps_set (i := 1) scTx.nd rfl (.inl rfl) (pe_lst (pa_cons (pe_cal L_ask_text (hr.mono (by omega)) (by rfl) (pa_cons (pe_ix ix_tup (pv 0) pe_int (fun _ _ => rfl)) pa_nil)) (pa_cons (pe_cal L_number_text (hr.mono (by omega)) (by rfl) (pa_cons (pe_ix ix_tup (pv 0) pe_int (fun _ _ => rfl)) pa_nil)) pa_nil)))))
                (pss_one (ps_set (i := 1) scTx.nd rfl (.inl rfl) (pe_lst (pa_cons (pe_callTy (SkE.call_str_str.or call_str_int) (by rfl) m_str (by decide +kernel) (pa_cons (pe_ix ix_tup (pv 0) pe_int (fun _ _ => rfl)) pa_nil)) (pa_cons (pe_cal L_ask_text (hr.mono (by omega)) (by rfl) (pa_cons (pe_ix ix_tup (pv 0) pe_int (fun _ _ => rfl)) pa_nil)) pa_nil))))))))))))))
      (rt_1 hr), ?_⟩
  obtain ⟨_, _, va, rfl, d0, d1, d2⟩ := da3 da
  obtain rfl := dp_s d0
  obtain ⟨tk, ys, rfl, hk, dk⟩ := dp_tupl d1
  obtain rfl := dp_strs dk
  have ksum := keys_sum ks g.2.1
  have ksh := keys_sh ks g.2.1
  obtain ⟨kj1, kj2⟩ := keys_join ks g.2.1
  refine ⟨_, rfl, t, _, _, _, rfl, rfl, ht, rfl, rfl, _, rfl, if_n (no_str (a := "by") (b := "fold") (by decide +kernel)) ?_⟩
  refine ⟨_, rfl, t, _, _, _, rfl, rfl, ht, rfl, rfl, _, rfl, if_y rfl ?_⟩
  refine ⟨_, rfl, t, _, _, _, rfl, rfl, ht, rfl, rfl, _, rfl, t, _, _, _, rfl, rfl, ht, rfl, _, tk, ks, rfl, rfl, .inr hk, Nat.le_trans ksum (by decide), ?_⟩
  refine ⟨_, rfl, t, _, _, _, rfl, rfl, ht, rfl, by show 0 ≤ sizeLine; decide, fun e ne => ?_⟩
  have s1 := same_new (o := .tup []) ne
  refine ⟨_, _, dp_same s1 d1, .tup (SqT.of upd_same) .nil, ksh, (by decide +kernel), .inr ⟨_, rfl, (if ks.isEmpty = true then 1 else 0), rfl, ?_, by split <;> decide, _, _, rfl, rfl, n1000 ?_, ?_⟩⟩
  · cases ks <;> rfl
  · have l1 : (SX.S (List.replicate (if ks.isEmpty = true then 1 else 0) 45)).length ≤ 1 := by
      cases ks with
      | nil => decide
      | cons _ _ => exact Nat.zero_le _
    omega
  rw [kj2]
  refine ⟨_, rfl, t, _, _, _, rfl, rfl, sqT_same (s1) ht, rfl, va, a, rfl, g.2.2, (Nat.lt_of_succ_lt_succ lt), (Nat.le_of_succ_le d5), dp_same (s1) d2, fun H2 s2 => ⟨by show 3 ≤ sizeLine; decide, fun D nD => ?_⟩⟩
  exact ⟨t, D, .by_ x ks a, _, rfl, sqT_same (s1.trans (s2.trans (same_new nD))) ht, upd_same, g, d5, q _ (s1.trans (s2.trans (same_new nD)))⟩
theorem tx_each {H : Hp} {Q : VK} {n : Nat} {t : Addr} {vs : List V} {x : Str} {a : Ask} {u m : Int} (hr : Room k (A.deeper (envOfC "_law_ask_text" (defScope sTx) s.heap.objs.size f cdv))) (L_wishes_text : Cal P w K mg base k "_law_wishes_text" ["_law_wishes_here"] (spWsT K)) (L_number_text : Cal P w K mg base k "_law_number_text" ["_law_number_here"] (spRT_ K)) (L_ask_text : Cal P w K mg base k "_law_ask_text" ["_law_a_ask"] (spAT K n)) (m_str : mg "str" = none) (m_int : mg "int" = none)
    (g : GoodA (.each x a u m)) (lt : ((.each x a u m) : Ask).deep < n + 1) (d5 : ((.each x a u m) : Ask).deep ≤ 5) (ht : SqT K H t (.str ((.each x a u m) : Ask).word :: vs)) (da : DpAll K H vs (((.each x a u m) : Ask).parts.map Part.d)) (q : ∀ H', Same H H' → Q (.str ((.each x a u m) : Ask).t) H') :
    ∃ tr, PSs (cxOf CX0 P w K mg base NTx "_law_ask_text" (defScope sTx) f cdv A outer s H E).nox (defBody sTx) tr ∧ tr { nx := fun _ H' => Q .non H', rt := Q } (start NTx [.ref t]) H := by
  have hu := hr.units
  refine ⟨_, pss_cons (ps_if (pt_cmpR op_eq (pe_ix ix_tup (pv 0) pe_int (fun _ _ => rfl)) pe_str (nomark _))
        (pss_one (ps_set (i := 1) scTx.nd rfl (.inl rfl) (pe_lst (pa_cons (pe_ix ix_tup (pv 0) pe_int (fun _ _ => rfl)) (pa_cons (pe_cal L_wishes_text (hr.mono (by omega)) (by rfl) (pa_cons (pe_ix ix_tup (pv 0) pe_int (fun _ _ => rfl)) pa_nil)) pa_nil)))))
        (pss_one (ps_if (pt_cmpR op_eq (pe_ix ix_tup (pv 0) pe_int (fun _ _ => rfl)) pe_str (nomark _))
          (pss_one (ps_set (i := 1) scTx.nd rfl (.inl rfl) (pe_lst (pa_cons (pe_ix ix_tup (pv 0) pe_int (fun _ _ => rfl)) (pa_cons (pe_op op_add_str (pe_bm PySem.F.plainAttrs_str PySem.F.slot_str_join PySem.F.type_str_join mt_join pe_str (pa_cons (pe_ix ix_tup (pv 0) pe_int (fun _ _ => rfl)) pa_nil)) (pe_op (op_times (c := 45)) pe_str (pe_callTy call_int1 (by rfl) m_int (by decide +kernel) (pa_cons (pe_cmpR (op_eqD hu) (pe_ix ix_tup (pv 0) pe_int (fun _ _ => rfl)) (pe_tup pa_nil) (nomark _)) pa_nil)))) (pa_cons (pe_cal L_ask_text (hr.mono (by omega)) (by rfl) (pa_cons (pe_ix ix_tup (pv 0) pe_int (fun _ _ => rfl)) pa_nil)) pa_nil))))))
          (pss_one (ps_if (pt_cmpR op_eq (pe_ix ix_tup (pv 0) pe_int (fun _ _ => rfl)) pe_str (nomark _))
            (pss_one (ps_set (i := 1) scTx.nd rfl (.inl rfl) (pe_lst (pa_cons (pe_ix ix_tup (pv 0) pe_int (fun _ _ => rfl)) (pa_cons (pe_cal L_ask_text (hr.mono (by omega)) (by rfl) (pa_cons (pe_ix ix_tup (pv 0) pe_int (fun _ _ => rfl)) pa_nil)) (pa_cons (pe_cal L_number_text (hr.mono (by omega)) (by rfl) (pa_cons (pe_ix ix_tup (pv 0) pe_int (fun _ _ => rfl)) pa_nil)) pa_nil))))))
            (pss_one (ps_if (pt_cmpR op_eq (pe_ix ix_tup (pv 0) pe_int (fun _ _ => rfl)) pe_str (nomark _))
              (pss_one (ps_set (i := 1) scTx.nd rfl (.inl rfl) (pe_lst (pa_cons (pe_ix ix_tup (pv 0) pe_int (fun _ _ => rfl)) (pa_cons (pe_cal L_ask_text (hr.mono (by omega)) (by rfl) (pa_cons (pe_ix ix_tup (pv 0) pe_int (fun _ _ => rfl)) pa_nil)) (pa_cons (pe_cal L_ask_text (hr.mono (by omega)) (by rfl) (pa_cons (pe_ix ix_tup (pv 0) pe_int (fun _ _ => rfl)) pa_nil)) pa_nil))))))
              (pss_one (ps_if (pt_cmpR op_eq (pe_ix ix_tup (pv 0) pe_int (fun _ _ => rfl)) pe_str (nomark _))
                (pss_one (ps_set (i := 1) scTx.nd rfl (.inl rfl) (pe_lst (pa_cons (pe_cal L_ask_text (hr.mono (by omega)) (by rfl) (pa_cons (pe_ix ix_tup (pv 0) pe_int (fun _ _ => rfl)) pa_nil)) (pa_cons (pe_cal L_number_text (hr.mono (by omega)) (by rfl) (pa_cons (pe_ix ix_tup (pv 0) pe_int (fun _ _ => rfl)) pa_nil)) pa_nil)))))
                (pss_one (ps_set (i := 1) scTx.nd rfl (.inl rfl) (pe_lst (pa_cons (pe_callTy (SkE.call_str_str.or call_str_int) (by rfl) m_str (by decide +kernel) (pa_cons (pe_ix ix_tup (pv 0) pe_int (fun _ _ => rfl)) pa_nil)) (pa_cons (pe_cal L_ask_text (hr.mono (by omega)) (by rfl) (pa_cons (pe_ix ix_tup (pv 0) pe_int (fun _ _ => rfl)) pa_nil)) pa_nil))))))))))))))
      (rt_1 hr), ?_⟩
  obtain ⟨_, va, vn, rfl, d0, d1, d2⟩ := da3 da
  obtain rfl := dp_s d0
  obtain ⟨tn, ys, rfl, hn, dn⟩ := dp_tupl d2
  obtain ⟨_, _, rfl, e0, e1⟩ := da2 dn
  obtain rfl := dp_i e0
  obtain rfl := dp_i e1
  refine ⟨_, rfl, t, _, _, _, rfl, rfl, ht, rfl, rfl, _, rfl, if_n (no_str (a := "each") (b := "fold") (by decide +kernel)) ?_⟩
  refine ⟨_, rfl, t, _, _, _, rfl, rfl, ht, rfl, rfl, _, rfl, if_n (no_str (a := "each") (b := "by") (by decide +kernel)) ?_⟩
  refine ⟨_, rfl, t, _, _, _, rfl, rfl, ht, rfl, rfl, _, rfl, if_y rfl ?_⟩
  refine ⟨_, rfl, t, _, _, _, rfl, rfl, ht, rfl, _, rfl, t, _, _, _, rfl, rfl, ht, rfl, va, a, rfl, g.2.1, (Nat.lt_of_succ_lt_succ lt), (Nat.le_of_succ_le d5), d1, fun H2 s2 => ?_⟩
  refine ⟨_, rfl, t, _, _, _, rfl, rfl, sqT_same s2 ht, rfl, tn, u, m, rfl, sqT_same s2 hn, g.2.2, fun H3 s3 => ⟨by show 3 ≤ sizeLine; decide, fun D nD => ?_⟩⟩
  exact ⟨t, D, .each x a u m, _, rfl, sqT_same (s2.trans (s3.trans (same_new nD))) ht, upd_same, g, d5, q _ (s2.trans (s3.trans (same_new nD)))⟩
theorem tx_both {H : Hp} {Q : VK} {n : Nat} {t : Addr} {vs : List V} {x : Str} {a b : Ask} (hr : Room k (A.deeper (envOfC "_law_ask_text" (defScope sTx) s.heap.objs.size f cdv))) (L_wishes_text : Cal P w K mg base k "_law_wishes_text" ["_law_wishes_here"] (spWsT K)) (L_number_text : Cal P w K mg base k "_law_number_text" ["_law_number_here"] (spRT_ K)) (L_ask_text : Cal P w K mg base k "_law_ask_text" ["_law_a_ask"] (spAT K n)) (m_str : mg "str" = none) (m_int : mg "int" = none)
    (g : GoodA (.both x a b)) (lt : ((.both x a b) : Ask).deep < n + 1) (d5 : ((.both x a b) : Ask).deep ≤ 5) (ht : SqT K H t (.str ((.both x a b) : Ask).word :: vs)) (da : DpAll K H vs (((.both x a b) : Ask).parts.map Part.d)) (q : ∀ H', Same H H' → Q (.str ((.both x a b) : Ask).t) H') :
    ∃ tr, PSs (cxOf CX0 P w K mg base NTx "_law_ask_text" (defScope sTx) f cdv A outer s H E).nox (defBody sTx) tr ∧ tr { nx := fun _ H' => Q .non H', rt := Q } (start NTx [.ref t]) H := by
  have hu := hr.units
  refine ⟨_, pss_cons (ps_if (pt_cmpR op_eq (pe_ix ix_tup (pv 0) pe_int (fun _ _ => rfl)) pe_str (nomark _))
        (pss_one (ps_set (i := 1) scTx.nd rfl (.inl rfl) (pe_lst (pa_cons (pe_ix ix_tup (pv 0) pe_int (fun _ _ => rfl)) (pa_cons (pe_cal L_wishes_text (hr.mono (by omega)) (by rfl) (pa_cons (pe_ix ix_tup (pv 0) pe_int (fun _ _ => rfl)) pa_nil)) pa_nil)))))
        (pss_one (ps_if (pt_cmpR op_eq (pe_ix ix_tup (pv 0) pe_int (fun _ _ => rfl)) pe_str (nomark _))
          (pss_one (ps_set (i := 1) scTx.nd rfl (.inl rfl) (pe_lst (pa_cons (pe_ix ix_tup (pv 0) pe_int (fun _ _ => rfl)) (pa_cons (pe_op op_add_str (pe_bm PySem.F.plainAttrs_str PySem.F.slot_str_join PySem.F.type_str_join mt_join pe_str (pa_cons (pe_ix ix_tup (pv 0) pe_int (fun _ _ => rfl)) pa_nil)) (pe_op (op_times (c := 45)) pe_str (pe_callTy call_int1 (by rfl) m_int (by decide +kernel) (pa_cons (pe_cmpR (op_eqD hu) (pe_ix ix_tup (pv 0) pe_int (fun _ _ => rfl)) (pe_tup pa_nil) (nomark _)) pa_nil)))) (pa_cons (pe_cal L_ask_text (hr.mono (by omega)) (by rfl) (pa_cons (pe_ix ix_tup (pv 0) pe_int (fun _ _ => rfl)) pa_nil)) pa_nil))))))
          (pss_one (ps_if (pt_cmpR op_eq (pe_ix ix_tup (pv 0) pe_int (fun _ _ => rfl)) pe_str (nomark _))
            (pss_one (ps_set (i := 1) scTx.nd rfl (.inl rfl) (pe_lst (pa_cons (pe_ix ix_tup (pv 0) pe_int (fun _ _ => rfl)) (pa_cons (pe_cal L_ask_text (hr.mono (by omega)) (by rfl) (pa_cons (pe_ix ix_tup (pv 0) pe_int (fun _ _ => rfl)) pa_nil)) (pa_cons (pe_cal L_number_text (hr.mono (by omega)) (by rfl) (pa_cons (pe_ix ix_tup (pv 0) pe_int (fun _ _ => rfl)) pa_nil)) pa_nil))))))
            (pss_one (ps_if (pt_cmpR op_eq (pe_ix ix_tup (pv 0) pe_int (fun _ _ => rfl)) pe_str (nomark _))
              (pss_one (ps_set (i := 1) scTx.nd rfl (.inl rfl) (pe_lst (pa_cons (pe_ix ix_tup (pv 0) pe_int (fun _ _ => rfl)) (pa_cons (pe_cal L_ask_text (hr.mono (by omega)) (by rfl) (pa_cons (pe_ix ix_tup (pv 0) pe_int (fun _ _ => rfl)) pa_nil)) (pa_cons (pe_cal L_ask_text (hr.mono (by omega)) (by rfl) (pa_cons (pe_ix ix_tup (pv 0) pe_int (fun _ _ => rfl)) pa_nil)) pa_nil))))))
              (pss_one (ps_if (pt_cmpR op_eq (pe_ix ix_tup (pv 0) pe_int (fun _ _ => rfl)) pe_str (nomark _))
                (pss_one (ps_set (i := 1) scTx.nd rfl (.inl rfl) (pe_lst (pa_cons (pe_cal L_ask_text (hr.mono (by omega)) (by rfl) (pa_cons (pe_ix ix_tup (pv 0) pe_int (fun _ _ => rfl)) pa_nil)) (pa_cons (pe_cal L_number_text (hr.mono (by omega)) (by rfl) (pa_cons (pe_ix ix_tup (pv 0) pe_int (fun _ _ => rfl)) pa_nil)) pa_nil)))))
                (pss_one (ps_set (i := 1) scTx.nd rfl (.inl rfl) (pe_lst (pa_cons (pe_callTy (SkE.call_str_str.or call_str_int) (by rfl) m_str (by decide +kernel) (pa_cons (pe_ix ix_tup (pv 0) pe_int (fun _ _ => rfl)) pa_nil)) (pa_cons (pe_cal L_ask_text (hr.mono (by omega)) (by rfl) (pa_cons (pe_ix ix_tup (pv 0) pe_int (fun _ _ => rfl)) pa_nil)) pa_nil))))))))))))))
      (rt_1 hr), ?_⟩
  obtain ⟨_, va, vb, rfl, d0, d1, d2⟩ := da3 da
  obtain rfl := dp_s d0
  refine ⟨_, rfl, t, _, _, _, rfl, rfl, ht, rfl, rfl, _, rfl, if_n (no_str (a := "both") (b := "fold") (by decide +kernel)) ?_⟩
  refine ⟨_, rfl, t, _, _, _, rfl, rfl, ht, rfl, rfl, _, rfl, if_n (no_str (a := "both") (b := "by") (by decide +kernel)) ?_⟩
  refine ⟨_, rfl, t, _, _, _, rfl, rfl, ht, rfl, rfl, _, rfl, if_n (no_str (a := "both") (b := "each") (by decide +kernel)) ?_⟩
  refine ⟨_, rfl, t, _, _, _, rfl, rfl, ht, rfl, rfl, _, rfl, if_y rfl ?_⟩
  refine ⟨_, rfl, t, _, _, _, rfl, rfl, ht, rfl, _, rfl, t, _, _, _, rfl, rfl, ht, rfl, va, a, rfl, g.2.1, (by have z : max a.deep b.deep + 1 < n + 1 := lt; omega), (by have z : max a.deep b.deep + 1 ≤ 5 := d5; omega), d1, fun H2 s2 => ?_⟩
  refine ⟨_, rfl, t, _, _, _, rfl, rfl, sqT_same (s2) ht, rfl, vb, b, rfl, g.2.2, (by have z : max a.deep b.deep + 1 < n + 1 := lt; omega), (by have z : max a.deep b.deep + 1 ≤ 5 := d5; omega), dp_same (s2) d2, fun H3 s3 => ⟨by show 3 ≤ sizeLine; decide, fun D nD => ?_⟩⟩
  exact ⟨t, D, .both x a b, _, rfl, sqT_same (s2.trans (s3.trans (same_new nD))) ht, upd_same, g, d5, q _ (s2.trans (s3.trans (same_new nD)))⟩
theorem tx_above {H : Hp} {Q : VK} {n : Nat} {t : Addr} {vs : List V} {a : Ask} {u m : Int} (hr : Room k (A.deeper (envOfC "_law_ask_text" (defScope sTx) s.heap.objs.size f cdv))) (L_wishes_text : Cal P w K mg base k "_law_wishes_text" ["_law_wishes_here"] (spWsT K)) (L_number_text : Cal P w K mg base k "_law_number_text" ["_law_number_here"] (spRT_ K)) (L_ask_text : Cal P w K mg base k "_law_ask_text" ["_law_a_ask"] (spAT K n)) (m_str : mg "str" = none) (m_int : mg "int" = none)
    (g : GoodA (.above a u m)) (lt : ((.above a u m) : Ask).deep < n + 1) (d5 : ((.above a u m) : Ask).deep ≤ 5) (ht : SqT K H t (.str ((.above a u m) : Ask).word :: vs)) (da : DpAll K H vs (((.above a u m) : Ask).parts.map Part.d)) (q : ∀ H', Same H H' → Q (.str ((.above a u m) : Ask).t) H') :
    ∃ tr, PSs (cxOf CX0 P w K mg base NTx "_law_ask_text" (defScope sTx) f cdv A outer s H E).nox (defBody sTx) tr ∧ tr { nx := fun _ H' => Q .non H', rt := Q } (start NTx [.ref t]) H := by
  have hu := hr.units
  refine ⟨_, pss_cons (ps_if (pt_cmpR op_eq (pe_ix ix_tup (pv 0) pe_int (fun _ _ => rfl)) pe_str (nomark _))
        (pss_one (ps_set (i := 1) scTx.nd rfl (.inl rfl) (pe_lst (pa_cons (pe_ix ix_tup (pv 0) pe_int (fun _ _ => rfl)) (pa_cons (pe_cal L_wishes_text (hr.mono (by omega)) (by rfl) (pa_cons (pe_ix ix_tup (pv 0) pe_int (fun _ _ => rfl)) pa_nil)) pa_nil)))))
        (pss_one (ps_if (pt_cmpR op_eq (pe_ix ix_tup (pv 0) pe_int (fun _ _ => rfl)) pe_str (nomark _))
          (pss_one (ps_set (i := 1) scTx.nd rfl (.inl rfl) (pe_lst (pa_cons (pe_ix ix_tup (pv 0) pe_int (fun _ _ => rfl)) (pa_cons (pe_op op_add_str (pe_bm PySem.F.plainAttrs_str PySem.F.slot_str_join PySem.F.type_str_join mt_join pe_str (pa_cons (pe_ix ix_tup (pv 0) pe_int (fun _ _ => rfl)) pa_nil)) (pe_op (op_times (c := 45)) pe_str (pe_callTy call_int1 (by rfl) m_int (by decide +kernel) (pa_cons (pe_cmpR (op_eqD hu) (pe_ix ix_tup (pv 0) pe_int (fun _ _ => rfl)) (pe_tup pa_nil) (nomark _)) pa_nil)))) (pa_cons (pe_cal L_ask_text (hr.mono (by omega)) (by rfl) (pa_cons (pe_ix ix_tup (pv 0) pe_int (fun _ _ => rfl)) pa_nil)) pa_nil))))))
          (pss_one (ps_if (pt_cmpR op_eq (pe_ix ix_tup (pv 0) pe_int (fun _ _ => rfl)) pe_str (nomark _))
            (pss_one (ps_set (i := 1) scTx.nd rfl (.inl rfl) (pe_lst (pa_cons (pe_ix ix_tup (pv 0) pe_int (fun _ _ => rfl)) (pa_cons (pe_cal L_ask_text (hr.mono (by omega)) (by rfl) (pa_cons (pe_ix ix_tup (pv 0) pe_int (fun _ _ => rfl)) pa_nil)) (pa_cons (pe_cal L_number_text (hr.mono (by omega)) (by rfl) (pa_cons (pe_ix ix_tup (pv 0) pe_int (fun _ _ => rfl)) pa_nil)) pa_nil))))))
            (pss_one (ps_if (pt_cmpR op_eq (pe_ix ix_tup (pv 0) pe_int (fun _ _ => rfl)) pe_str (nomark _))
              (pss_one (ps_set (i := 1) scTx.nd rfl (.inl rfl) (pe_lst (pa_cons (pe_ix ix_tup (pv 0) pe_int (fun _ _ => rfl)) (pa_cons (pe_cal L_ask_text (hr.mono (by omega)) (by rfl) (pa_cons (pe_ix ix_tup (pv 0) pe_int (fun _ _ => rfl)) pa_nil)) (pa_cons (pe_cal L_ask_text (hr.mono (by omega)) (by rfl) (pa_cons (pe_ix ix_tup (pv 0) pe_int (fun _ _ => rfl)) pa_nil)) pa_nil))))))
              (pss_one (ps_if (pt_cmpR op_eq (pe_ix ix_tup (pv 0) pe_int (fun _ _ => rfl)) pe_str (nomark _))
                (pss_one (ps_set (i := 1) scTx.nd rfl (.inl rfl) (pe_lst (pa_cons (pe_cal L_ask_text (hr.mono (by omega)) (by rfl) (pa_cons (pe_ix ix_tup (pv 0) pe_int (fun _ _ => rfl)) pa_nil)) (pa_cons (pe_cal L_number_text (hr.mono (by omega)) (by rfl) (pa_cons (pe_ix ix_tup (pv 0) pe_int (fun _ _ => rfl)) pa_nil)) pa_nil)))))
                (pss_one (ps_set (i := 1) scTx.nd rfl (.inl rfl) (pe_lst (pa_cons (pe_callTy (SkE.call_str_str.or call_str_int) (by rfl) m_str (by decide +kernel) (pa_cons (pe_ix ix_tup (pv 0) pe_int (fun _ _ => rfl)) pa_nil)) (pa_cons (pe_cal L_ask_text (hr.mono (by omega)) (by rfl) (pa_cons (pe_ix ix_tup (pv 0) pe_int (fun _ _ => rfl)) pa_nil)) pa_nil))))))))))))))
      (rt_1 hr), ?_⟩
  obtain ⟨va, vn, rfl, d1, d2⟩ := da2 da
  obtain ⟨tn, ys, rfl, hn, dn⟩ := dp_tupl d2
  obtain ⟨_, _, rfl, e0, e1⟩ := da2 dn
  obtain rfl := dp_i e0
  obtain rfl := dp_i e1
  refine ⟨_, rfl, t, _, _, _, rfl, rfl, ht, rfl, rfl, _, rfl, if_n (no_str (a := "above") (b := "fold") (by decide +kernel)) ?_⟩
  refine ⟨_, rfl, t, _, _, _, rfl, rfl, ht, rfl, rfl, _, rfl, if_n (no_str (a := "above") (b := "by") (by decide +kernel)) ?_⟩
  refine ⟨_, rfl, t, _, _, _, rfl, rfl, ht, rfl, rfl, _, rfl, if_n (no_str (a := "above") (b := "each") (by decide +kernel)) ?_⟩
  refine ⟨_, rfl, t, _, _, _, rfl, rfl, ht, rfl, rfl, _, rfl, if_n (no_str (a := "above") (b := "both") (by decide +kernel)) ?_⟩
  refine ⟨_, rfl, t, _, _, _, rfl, rfl, ht, rfl, rfl, _, rfl, if_y rfl ?_⟩
  refine ⟨_, rfl, t, _, _, _, rfl, rfl, ht, rfl, va, a, rfl, g.1, (Nat.lt_of_succ_lt_succ lt), (Nat.le_of_succ_le d5), d1, fun H2 s2 => ?_⟩
  refine ⟨_, rfl, t, _, _, _, rfl, rfl, sqT_same s2 ht, rfl, tn, u, m, rfl, sqT_same s2 hn, g.2, fun H3 s3 => ⟨by show 2 ≤ sizeLine; decide, fun D nD => ?_⟩⟩
  exact ⟨t, D, .above a u m, _, rfl, sqT_same (s2.trans (s3.trans (same_new nD))) ht, upd_same, g, d5, q _ (s2.trans (s3.trans (same_new nD)))⟩
theorem tx_fill {H : Hp} {Q : VK} {n : Nat} {t : Addr} {vs : List V} {x : Str} {a : Ask} (hr : Room k (A.deeper (envOfC "_law_ask_text" (defScope sTx) s.heap.objs.size f cdv))) (L_wishes_text : Cal P w K mg base k "_law_wishes_text" ["_law_wishes_here"] (spWsT K)) (L_number_text : Cal P w K mg base k "_law_number_text" ["_law_number_here"] (spRT_ K)) (L_ask_text : Cal P w K mg base k "_law_ask_text" ["_law_a_ask"] (spAT K n)) (m_str : mg "str" = none) (m_int : mg "int" = none)
    (g : GoodA (.fill x a)) (lt : ((.fill x a) : Ask).deep < n + 1) (d5 : ((.fill x a) : Ask).deep ≤ 5) (ht : SqT K H t (.str ((.fill x a) : Ask).word :: vs)) (da : DpAll K H vs (((.fill x a) : Ask).parts.map Part.d)) (q : ∀ H', Same H H' → Q (.str ((.fill x a) : Ask).t) H') :
    ∃ tr, PSs (cxOf CX0 P w K mg base NTx "_law_ask_text" (defScope sTx) f cdv A outer s H E).nox (defBody sTx) tr ∧ tr { nx := fun _ H' => Q .non H', rt := Q } (start NTx [.ref t]) H := by
  have hu := hr.units
  refine ⟨_, pss_cons (ps_if (pt_cmpR op_eq (pe_ix ix_tup (pv 0) pe_int (fun _ _ => rfl)) pe_str (nomark _))
        (pss_one (ps_set (i := 1) scTx.nd rfl (.inl rfl) (pe_lst (pa_cons (pe_ix ix_tup (pv 0) pe_int (fun _ _ => rfl)) (pa_cons (pe_cal L_wishes_text (hr.mono (by omega)) (by rfl) (pa_cons (pe_ix ix_tup (pv 0) pe_int (fun _ _ => rfl)) pa_nil)) pa_nil)))))
        (pss_one (ps_if (pt_cmpR op_eq (pe_ix ix_tup (pv 0) pe_int (fun _ _ => rfl)) pe_str (nomark _))
          (pss_one (ps_set (i := 1) scTx.nd rfl (.inl rfl) (pe_lst (pa_cons (pe_ix ix_tup (pv 0) pe_int (fun _ _ => rfl)) (pa_cons (pe_op op_add_str (pe_bm PySem.F.plainAttrs_str PySem.F.slot_str_join PySem.F.type_str_join mt_join pe_str (pa_cons (pe_ix ix_tup (pv 0) pe_int (fun _ _ => rfl)) pa_nil)) (pe_op (op_times (c := 45)) pe_str (pe_callTy call_int1 (by rfl) m_int (by decide +kernel) (pa_cons (pe_cmpR (op_eqD hu) (pe_ix ix_tup (pv 0) pe_int (fun _ _ => rfl)) (pe_tup pa_nil) (nomark _)) pa_nil)))) (pa_cons (pe_cal L_ask_text (hr.mono (by omega)) (by rfl) (pa_cons (pe_ix ix_tup (pv 0) pe_int (fun _ _ => rfl)) pa_nil)) pa_nil))))))
          (pss_one (ps_if (pt_cmpR op_eq (pe_ix ix_tup (pv 0) pe_int (fun _ _ => rfl)) pe_str (nomark _))
            (pss_one (ps_set (i := 1) scTx.nd rfl (.inl rfl) (pe_lst (pa_cons (pe_ix ix_tup (pv 0) pe_int (fun _ _ => rfl)) (pa_cons (pe_cal L_ask_text (hr.mono (by omega)) (by rfl) (pa_cons (pe_ix ix_tup (pv 0) pe_int (fun _ _ => rfl)) pa_nil)) (pa_cons (pe_cal L_number_text (hr.mono (by omega)) (by rfl) (pa_cons (pe_ix ix_tup (pv 0) pe_int (fun _ _ => rfl)) pa_nil)) pa_nil))))))
            (pss_one (ps_if (pt_cmpR op_eq (pe_ix ix_tup (pv 0) pe_int (fun _ _ => rfl)) pe_str (nomark _))
              (pss_one (ps_set (i := 1) scTx.nd rfl (.inl rfl) (pe_lst (pa_cons (pe_ix ix_tup (pv 0) pe_int (fun _ _ => rfl)) (pa_cons (pe_cal L_ask_text (hr.mono (by omega)) (by rfl) (pa_cons (pe_ix ix_tup (pv 0) pe_int (fun _ _ => rfl)) pa_nil)) (pa_cons (pe_cal L_ask_text (hr.mono (by omega)) (by rfl) (pa_cons (pe_ix ix_tup (pv 0) pe_int (fun _ _ => rfl)) pa_nil)) pa_nil))))))
              (pss_one (ps_if (pt_cmpR op_eq (pe_ix ix_tup (pv 0) pe_int (fun _ _ => rfl)) pe_str (nomark _))
                (pss_one (ps_set (i := 1) scTx.nd rfl (.inl rfl) (pe_lst (pa_cons (pe_cal L_ask_text (hr.mono (by omega)) (by rfl) (pa_cons (pe_ix ix_tup (pv 0) pe_int (fun _ _ => rfl)) pa_nil)) (pa_cons (pe_cal L_number_text (hr.mono (by omega)) (by rfl) (pa_cons (pe_ix ix_tup (pv 0) pe_int (fun _ _ => rfl)) pa_nil)) pa_nil)))))
                (pss_one (ps_set (i := 1) scTx.nd rfl (.inl rfl) (pe_lst (pa_cons (pe_callTy (SkE.call_str_str.or call_str_int) (by rfl) m_str (by decide +kernel) (pa_cons (pe_ix ix_tup (pv 0) pe_int (fun _ _ => rfl)) pa_nil)) (pa_cons (pe_cal L_ask_text (hr.mono (by omega)) (by rfl) (pa_cons (pe_ix ix_tup (pv 0) pe_int (fun _ _ => rfl)) pa_nil)) pa_nil))))))))))))))
      (rt_1 hr), ?_⟩
  obtain ⟨_, va, rfl, d0, d1⟩ := da2 da
  obtain rfl := dp_s d0
  refine ⟨_, rfl, t, _, _, _, rfl, rfl, ht, rfl, rfl, _, rfl, if_n (no_str (a := "fill") (b := "fold") (by decide +kernel)) ?_⟩
  refine ⟨_, rfl, t, _, _, _, rfl, rfl, ht, rfl, rfl, _, rfl, if_n (no_str (a := "fill") (b := "by") (by decide +kernel)) ?_⟩
  refine ⟨_, rfl, t, _, _, _, rfl, rfl, ht, rfl, rfl, _, rfl, if_n (no_str (a := "fill") (b := "each") (by decide +kernel)) ?_⟩
  refine ⟨_, rfl, t, _, _, _, rfl, rfl, ht, rfl, rfl, _, rfl, if_n (no_str (a := "fill") (b := "both") (by decide +kernel)) ?_⟩
  refine ⟨_, rfl, t, _, _, _, rfl, rfl, ht, rfl, rfl, _, rfl, if_n (no_str (a := "fill") (b := "above") (by decide +kernel)) ?_⟩
  refine ⟨_, rfl, t, _, _, _, rfl, rfl, ht, rfl, .inl ⟨_, rfl, _, rfl, t, _, _, _, rfl, rfl, ht, rfl, va, a, rfl, g.2, (Nat.lt_of_succ_lt_succ lt), (Nat.le_of_succ_le d5), d1, fun H2 s2 => ⟨by show 2 ≤ sizeLine; decide, fun D nD => ?_⟩⟩⟩
  exact ⟨t, D, .fill x a, _, rfl, sqT_same (s2.trans (same_new nD)) ht, upd_same, g, d5, q _ (s2.trans (same_new nD))⟩
theorem tx_top {H : Hp} {Q : VK} {n : Nat} {t : Addr} {vs : List V} {u : Int} {a : Ask} (hr : Room k (A.deeper (envOfC "_law_ask_text" (defScope sTx) s.heap.objs.size f cdv))) (L_wishes_text : Cal P w K mg base k "_law_wishes_text" ["_law_wishes_here"] (spWsT K)) (L_number_text : Cal P w K mg base k "_law_number_text" ["_law_number_here"] (spRT_ K)) (L_ask_text : Cal P w K mg base k "_law_ask_text" ["_law_a_ask"] (spAT K n)) (m_str : mg "str" = none) (m_int : mg "int" = none)
    (g : GoodA (.top u a)) (lt : ((.top u a) : Ask).deep < n + 1) (d5 : ((.top u a) : Ask).deep ≤ 5) (ht : SqT K H t (.str ((.top u a) : Ask).word :: vs)) (da : DpAll K H vs (((.top u a) : Ask).parts.map Part.d)) (q : ∀ H', Same H H' → Q (.str ((.top u a) : Ask).t) H') :
    ∃ tr, PSs (cxOf CX0 P w K mg base NTx "_law_ask_text" (defScope sTx) f cdv A outer s H E).nox (defBody sTx) tr ∧ tr { nx := fun _ H' => Q .non H', rt := Q } (start NTx [.ref t]) H := by
  have hu := hr.units
  refine ⟨_, pss_cons (ps_if (pt_cmpR op_eq (pe_ix ix_tup (pv 0) pe_int (fun _ _ => rfl)) pe_str (nomark _))
        (pss_one (ps_set (i := 1) scTx.nd rfl (.inl rfl) (pe_lst (pa_cons (pe_ix ix_tup (pv 0) pe_int (fun _ _ => rfl)) (pa_cons (pe_cal L_wishes_text (hr.mono (by omega)) (by rfl) (pa_cons (pe_ix ix_tup (pv 0) pe_int (fun _ _ => rfl)) pa_nil)) pa_nil)))))
        (pss_one (ps_if (pt_cmpR op_eq (pe_ix ix_tup (pv 0) pe_int (fun _ _ => rfl)) pe_str (nomark _))
          (pss_one (ps_set (i := 1) scTx.nd rfl (.inl rfl) (pe_lst (pa_cons (pe_ix ix_tup (pv 0) pe_int (fun _ _ => rfl)) (pa_cons (pe_op op_add_str (pe_bm PySem.F.plainAttrs_str PySem.F.slot_str_join PySem.F.type_str_join mt_join pe_str (pa_cons (pe_ix ix_tup (pv 0) pe_int (fun _ _ => rfl)) pa_nil)) (pe_op (op_times (c := 45)) pe_str (pe_callTy call_int1 (by rfl) m_int (by decide +kernel) (pa_cons (pe_cmpR (op_eqD hu) (pe_ix ix_tup (pv 0) pe_int (fun _ _ => rfl)) (pe_tup pa_nil) (nomark _)) pa_nil)))) (pa_cons (pe_cal L_ask_text (hr.mono (by omega)) (by rfl) (pa_cons (pe_ix ix_tup (pv 0) pe_int (fun _ _ => rfl)) pa_nil)) pa_nil))))))
          (pss_one (ps_if (pt_cmpR op_eq (pe_ix ix_tup (pv 0) pe_int (fun _ _ => rfl)) pe_str (nomark _))
            (pss_one (ps_set (i := 1) scTx.nd rfl (.inl rfl) (pe_lst (pa_cons (pe_ix ix_tup (pv 0) pe_int (fun _ _ => rfl)) (pa_cons (pe_cal L_ask_text (hr.mono (by omega)) (by rfl) (pa_cons (pe_ix ix_tup (pv 0) pe_int (fun _ _ => rfl)) pa_nil)) (pa_cons (pe_cal L_number_text (hr.mono (by omega)) (by rfl) (pa_cons (pe_ix ix_tup (pv 0) pe_int (fun _ _ => rfl)) pa_nil)) pa_nil))))))
            (pss_one (ps_if (pt_cmpR op_eq (pe_ix ix_tup (pv 0) pe_int (fun _ _ => rfl)) pe_str (nomark _))
              (pss_one (ps_set (i := 1) scTx.nd rfl (.inl rfl) (pe_lst (pa_cons (pe_ix ix_tup (pv 0) pe_int (fun _ _ => rfl)) (pa_cons (pe_cal L_ask_text (hr.mono (by omega)) (by rfl) (pa_cons (pe_ix ix_tup (pv 0) pe_int (fun _ _ => rfl)) pa_nil)) (pa_cons (pe_cal L_ask_text (hr.mono (by omega)) (by rfl) (pa_cons (pe_ix ix_tup (pv 0) pe_int (fun _ _ => rfl)) pa_nil)) pa_nil))))))
              (pss_one (ps_if (pt_cmpR op_eq (pe_ix ix_tup (pv 0) pe_int (fun _ _ => rfl)) pe_str (nomark _))
                (pss_one (ps_set (i := 1) scTx.nd rfl (.inl rfl) (pe_lst (pa_cons (pe_cal L_ask_text (hr.mono (by omega)) (by rfl) (pa_cons (pe_ix ix_tup (pv 0) pe_int (fun _ _ => rfl)) pa_nil)) (pa_cons (pe_cal L_number_text (hr.mono (by omega)) (by rfl) (pa_cons (pe_ix ix_tup (pv 0) pe_int (fun _ _ => rfl)) pa_nil)) pa_nil)))))
                (pss_one (ps_set (i := 1) scTx.nd rfl (.inl rfl) (pe_lst (pa_cons (pe_callTy (SkE.call_str_str.or call_str_int) (by rfl) m_str (by decide +kernel) (pa_cons (pe_ix ix_tup (pv 0) pe_int (fun _ _ => rfl)) pa_nil)) (pa_cons (pe_cal L_ask_text (hr.mono (by omega)) (by rfl) (pa_cons (pe_ix ix_tup (pv 0) pe_int (fun _ _ => rfl)) pa_nil)) pa_nil))))))))))))))
      (rt_1 hr), ?_⟩
  obtain ⟨_, va, rfl, d0, d1⟩ := da2 da
  obtain rfl := dp_i d0
  refine ⟨_, rfl, t, _, _, _, rfl, rfl, ht, rfl, rfl, _, rfl, if_n (no_str (a := "top") (b := "fold") (by decide +kernel)) ?_⟩
  refine ⟨_, rfl, t, _, _, _, rfl, rfl, ht, rfl, rfl, _, rfl, if_n (no_str (a := "top") (b := "by") (by decide +kernel)) ?_⟩
  refine ⟨_, rfl, t, _, _, _, rfl, rfl, ht, rfl, rfl, _, rfl, if_n (no_str (a := "top") (b := "each") (by decide +kernel)) ?_⟩
  refine ⟨_, rfl, t, _, _, _, rfl, rfl, ht, rfl, rfl, _, rfl, if_n (no_str (a := "top") (b := "both") (by decide +kernel)) ?_⟩
  refine ⟨_, rfl, t, _, _, _, rfl, rfl, ht, rfl, rfl, _, rfl, if_n (no_str (a := "top") (b := "above") (by decide +kernel)) ?_⟩
  refine ⟨_, rfl, t, _, _, _, rfl, rfl, ht, rfl, .inr ⟨_, rfl, log17 g.1.2, _, rfl, t, _, _, _, rfl, rfl, ht, rfl, va, a, rfl, g.2, (Nat.lt_of_succ_lt_succ lt), (Nat.le_of_succ_le d5), d1, fun H2 s2 => ⟨by show 2 ≤ sizeLine; decide, fun D nD => ?_⟩⟩⟩
  exact ⟨t, D, .top u a, _, rfl, sqT_same (s2.trans (same_new nD)) ht, upd_same, g, d5, q _ (s2.trans (same_new nD))⟩
theorem tx_shift {H : Hp} {Q : VK} {n : Nat} {t : Addr} {vs : List V} {u : Int} {a : Ask} (hr : Room k (A.deeper (envOfC "_law_ask_text" (defScope sTx) s.heap.objs.size f cdv))) (L_wishes_text : Cal P w K mg base k "_law_wishes_text" ["_law_wishes_here"] (spWsT K)) (L_number_text : Cal P w K mg base k "_law_number_text" ["_law_number_here"] (spRT_ K)) (L_ask_text : Cal P w K mg base k "_law_ask_text" ["_law_a_ask"] (spAT K n)) (m_str : mg "str" = none) (m_int : mg "int" = none)
    (g : GoodA (.shift u a)) (lt : ((.shift u a) : Ask).deep < n + 1) (d5 : ((.shift u a) : Ask).deep ≤ 5) (ht : SqT K H t (.str ((.shift u a) : Ask).word :: vs)) (da : DpAll K H vs (((.shift u a) : Ask).parts.map Part.d)) (q : ∀ H', Same H H' → Q (.str ((.shift u a) : Ask).t) H') :
    ∃ tr, PSs (cxOf CX0 P w K mg base NTx "_law_ask_text" (defScope sTx) f cdv A outer s H E).nox (defBody sTx) tr ∧ tr { nx := fun _ H' => Q .non H', rt := Q } (start NTx [.ref t]) H := by
  have hu := hr.units
  refine ⟨_, pss_cons (ps_if (pt_cmpR op_eq (pe_ix ix_tup (pv 0) pe_int (fun _ _ => rfl)) pe_str (nomark _))
        (pss_one (ps_set (i := 1) scTx.nd rfl (.inl rfl) (pe_lst (pa_cons (pe_ix ix_tup (pv 0) pe_int (fun _ _ => rfl)) (pa_cons (pe_cal L_wishes_text (hr.mono (by omega)) (by rfl) (pa_cons (pe_ix ix_tup (pv 0) pe_int (fun _ _ => rfl)) pa_nil)) pa_nil)))))
        (pss_one (ps_if (pt_cmpR op_eq (pe_ix ix_tup (pv 0) pe_int (fun _ _ => rfl)) pe_str (nomark _))
          (pss_one (ps_set (i := 1) scTx.nd rfl (.inl rfl) (pe_lst (pa_cons (pe_ix ix_tup (pv 0) pe_int (fun _ _ => rfl)) (pa_cons (pe_op op_add_str (pe_bm PySem.F.plainAttrs_str PySem.F.slot_str_join PySem.F.type_str_join mt_join pe_str (pa_cons (pe_ix ix_tup (pv 0) pe_int (fun _ _ => rfl)) pa_nil)) (pe_op (op_times (c := 45)) pe_str (pe_callTy call_int1 (by rfl) m_int (by decide +kernel) (pa_cons (pe_cmpR (op_eqD hu) (pe_ix ix_tup (pv 0) pe_int (fun _ _ => rfl)) (pe_tup pa_nil) (nomark _)) pa_nil)))) (pa_cons (pe_cal L_ask_text (hr.mono (by omega)) (by rfl) (pa_cons (pe_ix ix_tup (pv 0) pe_int (fun _ _ => rfl)) pa_nil)) pa_nil))))))
          (pss_one (ps_if (pt_cmpR op_eq (pe_ix ix_tup (pv 0) pe_int (fun _ _ => rfl)) pe_str (nomark _))
            (pss_one (ps_set (i := 1) scTx.nd rfl (.inl rfl) (pe_lst (pa_cons (pe_ix ix_tup (pv 0) pe_int (fun _ _ => rfl)) (pa_cons (pe_cal L_ask_text (hr.mono (by omega)) (by rfl) (pa_cons (pe_ix ix_tup (pv 0) pe_int (fun _ _ => rfl)) pa_nil)) (pa_cons (pe_cal L_number_text (hr.mono (by omega)) (by rfl) (pa_cons (pe_ix ix_tup (pv 0) pe_int (fun _ _ => rfl)) pa_nil)) pa_nil))))))
            (pss_one (ps_if (pt_cmpR op_eq (pe_ix ix_tup (pv 0) pe_int (fun _ _ => rfl)) pe_str (nomark _))
              (pss_one (ps_set (i := 1) scTx.nd rfl (.inl rfl) (pe_lst (pa_cons (pe_ix ix_tup (pv 0) pe_int (fun _ _ => rfl)) (pa_cons (pe_cal L_ask_text (hr.mono (by omega)) (by rfl) (pa_cons (pe_ix ix_tup (pv 0) pe_int (fun _ _ => rfl)) pa_nil)) (pa_cons (pe_cal L_ask_text (hr.mono (by omega)) (by rfl) (pa_cons (pe_ix ix_tup (pv 0) pe_int (fun _ _ => rfl)) pa_nil)) pa_nil))))))
              (pss_one (ps_if (pt_cmpR op_eq (pe_ix ix_tup (pv 0) pe_int (fun _ _ => rfl)) pe_str (nomark _))
                (pss_one (ps_set (i := 1) scTx.nd rfl (.inl rfl) (pe_lst (pa_cons (pe_cal L_ask_text (hr.mono (by omega)) (by rfl) (pa_cons (pe_ix ix_tup (pv 0) pe_int (fun _ _ => rfl)) pa_nil)) (pa_cons (pe_cal L_number_text (hr.mono (by omega)) (by rfl) (pa_cons (pe_ix ix_tup (pv 0) pe_int (fun _ _ => rfl)) pa_nil)) pa_nil)))))
                (pss_one (ps_set (i := 1) scTx.nd rfl (.inl rfl) (pe_lst (pa_cons (pe_callTy (SkE.call_str_str.or call_str_int) (by rfl) m_str (by decide +kernel) (pa_cons (pe_ix ix_tup (pv 0) pe_int (fun _ _ => rfl)) pa_nil)) (pa_cons (pe_cal L_ask_text (hr.mono (by omega)) (by rfl) (pa_cons (pe_ix ix_tup (pv 0) pe_int (fun _ _ => rfl)) pa_nil)) pa_nil))))))))))))))
      (rt_1 hr), ?_⟩
  obtain ⟨_, va, rfl, d0, d1⟩ := da2 da
  obtain rfl := dp_i d0
  refine ⟨_, rfl, t, _, _, _, rfl, rfl, ht, rfl, rfl, _, rfl, if_n (no_str (a := "shift") (b := "fold") (by decide +kernel)) ?_⟩
  refine ⟨_, rfl, t, _, _, _, rfl, rfl, ht, rfl, rfl, _, rfl, if_n (no_str (a := "shift") (b := "by") (by decide +kernel)) ?_⟩
  refine ⟨_, rfl, t, _, _, _, rfl, rfl, ht, rfl, rfl, _, rfl, if_n (no_str (a := "shift") (b := "each") (by decide +kernel)) ?_⟩
  refine ⟨_, rfl, t, _, _, _, rfl, rfl, ht, rfl, rfl, _, rfl, if_n (no_str (a := "shift") (b := "both") (by decide +kernel)) ?_⟩
  refine ⟨_, rfl, t, _, _, _, rfl, rfl, ht, rfl, rfl, _, rfl, if_n (no_str (a := "shift") (b := "above") (by decide +kernel)) ?_⟩
  refine ⟨_, rfl, t, _, _, _, rfl, rfl, ht, rfl, .inr ⟨_, rfl, log17 g.1, _, rfl, t, _, _, _, rfl, rfl, ht, rfl, va, a, rfl, g.2, (Nat.lt_of_succ_lt_succ lt), (Nat.le_of_succ_le d5), d1, fun H2 s2 => ⟨by show 2 ≤ sizeLine; decide, fun D nD => ?_⟩⟩⟩
  exact ⟨t, D, .shift u a, _, rfl, sqT_same (s2.trans (same_new nD)) ht, upd_same, g, d5, q _ (s2.trans (same_new nD))⟩
theorem ok_txS {f : Addr} {fd : FuncData} {k n : Nat} (F : Fun K "_law_ask_text" "_law_ask_text" sTx f fd) (L_wishes_text : Cal P w K mg base k "_law_wishes_text" ["_law_wishes_here"] (spWsT K)) (L_number_text : Cal P w K mg base k "_law_number_text" ["_law_number_here"] (spRT_ K)) (L_ask_text : Cal P w K mg base k "_law_ask_text" ["_law_a_ask"] (spAT K n)) (m_str : mg "str" = none) (m_int : mg "int" = none) : FnOk P w K mg base CX0 (k + 1) f fd ["_law_a_ask"] (spAT K (n + 1)) := by
  refine F.ok scTx (fun vs H Q E h => ?_) (fun cdv A outer s H vs Q E hr h => ?_)
  · obtain ⟨v, a, rfl, _⟩ := h
    rfl
  · obtain ⟨v, a, rfl, g, lt, d5, dv, q⟩ := h
    obtain ⟨t, vs, rfl, ht, da⟩ := dp_node dv
    cases a with
    | fold x ws => exact tx_fold hr L_wishes_text L_number_text L_ask_text m_str m_int g lt d5 ht da q
    | by_ x ks a => exact tx_by hr L_wishes_text L_number_text L_ask_text m_str m_int g lt d5 ht da q
    | each x a u m => exact tx_each hr L_wishes_text L_number_text L_ask_text m_str m_int g lt d5 ht da q
    | both x a b => exact tx_both hr L_wishes_text L_number_text L_ask_text m_str m_int g lt d5 ht da q
    | fill x a => exact tx_fill hr L_wishes_text L_number_text L_ask_text m_str m_int g lt d5 ht da q
    | above a u m => exact tx_above hr L_wishes_text L_number_text L_ask_text m_str m_int g lt d5 ht da q
    | top u a => exact tx_top hr L_wishes_text L_number_text L_ask_text m_str m_int g lt d5 ht da q
    | shift u a => exact tx_shift hr L_wishes_text L_number_text L_ask_text m_str m_int g lt d5 ht da q
theorem ok_tx {f : Addr} {fd : FuncData} {k : Nat} (F : Fun K "_law_ask_text" "_law_ask_text" sTx f fd) (L_wishes_text : Cal P w K mg base k "_law_wishes_text" ["_law_wishes_here"] (spWsT K)) (L_number_text : Cal P w K mg base k "_law_number_text" ["_law_number_here"] (spRT_ K)) (m_str : mg "str" = none) (m_int : mg "int" = none) (g_ : mg "_law_ask_text" = some (.ref f)) (kp : PySem.W.keepIn K (.ref f) = true) (bd : Binds K fd ["_law_a_ask"] []) : ∀ n, FnOk P w K mg base CX0 (k + 1 + n) f fd ["_law_a_ask"] (spAT K n)
  | 0 => by
    refine F.ok scTx (fun vs H Q E h => ?_) (fun cdv A outer s H vs Q E hr h => ?_)
    · obtain ⟨v, a, rfl, _⟩ := h
      rfl
    · obtain ⟨v, a, rfl, g, lt, _⟩ := h
      exact absurd lt (Nat.not_lt_zero _)
  | n + 1 => ok_txS (k := k + 1 + n) F (L_wishes_text.up (by omega)) (L_number_text.up (by omega)) ⟨f, fd, ok_tx F L_wishes_text L_number_text m_str m_int g_ kp bd n, g_, kp, bd⟩ m_str m_int
end
end Tg

set_option maxHeartbeats 1000000
namespace Tg
open PySem PySem.Spec PyProof.Rows L2 LamX
/-! ### _law_first_fold -/
def spFF (K : PySem.W.Frag) : Sp := fun vs H Q _ => ∃ (v : V) (a : Ask) (L : Addr), vs = [v] ∧ FP K a H v L ∧ GoodA a ∧ ∀ (t : Addr) (x : Str) (xs : List V) (H' : Hp), Same H H' → SqT K H' t [.str "fold", .str x, .ref L] → H' L = some (.lst xs) → xs.length ≤ 2 → Q (.ref t) H'
/-- the place of the first ask within, in the tuple -/
def ixN (w : Str) : Int := if w = "by" then 3 else if w = "above" then 1 else 2
theorem ixN_ok {b c : Ask} {j : Nat} (nf : b.word ≠ "fold") (hj : b.parts[j]? = some (.ask c)) (first : ∀ i c, i < j → b.parts[i]? ≠ some (.ask c)) : ixN b.word = ((j + 1 : Nat) : Int) := by
  cases b with
  | fold x ws => exact absurd rfl nf
  | by_ x ks a =>
    match j, hj with
    | 2, _ => rfl
    | j + 3, hj => cases hj
  | each x a u m =>
    match j, hj with
    | 1, _ => rfl
    | j + 3, hj => cases hj
  | both x a b =>
    match j, hj, first with
    | 1, _, _ => rfl
    | 2, _, first => exact absurd rfl (first 1 a (by decide))
    | j + 3, hj, _ => cases hj
  | fill x a =>
    match j, hj with
    | 1, _ => rfl
    | j + 2, hj => cases hj
  | above a u m =>
    match j, hj with
    | 0, _ => rfl
    | j + 2, hj => cases hj
  | top u a =>
    match j, hj with
    | 1, _ => rfl
    | j + 2, hj => cases hj
  | shift u a =>
    match j, hj with
    | 1, _ => rfl
    | j + 2, hj => cases hj
def kvF : List (Key × V) := [(.inr "by", .int 3), (.inr "above", .int 1)]
theorem val_ix (w : Str) : (valV kvF (.inr w)).getD (.int 2) = .int (ixN w) := by
  unfold valV kvF ixN
  by_cases h1 : w = "by"
  · subst h1
    rfl
  · by_cases h2 : w = "above"
    · subst h2
      rfl
    · rw [if_neg h1, if_neg h2]
      have e1 : decide ((Sum.inr (Str.ofString "by") : Key) = Sum.inr w) = false := decide_eq_false fun z => h1 (Sum.inr.inj z).symm
      have e2 : decide ((Sum.inr (Str.ofString "above") : Key) = Sum.inr w) = false := decide_eq_false fun z => h2 (Sum.inr.inj z).symm
      simp only [List.find?, e1, e2]
      rfl
section
variable {P : Program} {w : World} {K : PySem.W.Frag} {mg : Str → Option Value} {base : Heap}
theorem ok_ff {f : Addr} {fd : FuncData} {k : Nat} (F : Fun K "_law_first_fold" "_law_first_fold" sFF f fd) : FnOk P w K mg base CX0 (k + 1) f fd ["_law_a_ask"] (spFF K) := by
  refine F.ok scFF (fun vs H Q E h => ?_) (fun cdv A outer s H vs Q E hr h => ?_)
  · obtain ⟨v, a, L, rfl, _⟩ := h
    rfl
  · obtain ⟨v, a, L, rfl, fp, g, q⟩ := h
    have hu := hu_of hr
    refine ⟨_, pss_cons (ps_while PassesOwn.never (pt_cmpR op_ne (pe_ix ix_tup (pv 0) pe_int (fun _ _ => rfl)) pe_str (nomark _))
        (pss_one (ps_set (i := 0) scFF.nd rfl (.inl rfl) (pe_ix ix_tup (pv 0) (pe_dget2 hu (pe_disp (pps_cons pe_str pe_int (pps_cons pe_str pe_int pps_nil)) rfl rfl (by decide) (by decide)) (pe_ix ix_tup (pv 0) pe_int (fun _ _ => rfl)) pe_int ⟨rfl, rfl, rfl, rfl⟩) (fun _ _ => rfl)))))
      (pss_one (ps_ret (pv 0))), ?_⟩
    refine ⟨fun m σ Hc => ∃ (b : Ask) (v' : V), σ = [some v'] ∧ Same H Hc ∧ FP K b Hc v' L ∧ GoodA b ∧ m = b.deep, ⟨_, a, v, rfl, Same.refl _, fp, g, rfl⟩, ?_⟩
    rintro m σ Hc ⟨b, v', rfl, sm, fp, g, rfl⟩
    cases fp with
    | fold ht hl few =>
      rename_i x ws t xs
      refine ⟨_, rfl, t, _, _, _, rfl, rfl, ht, rfl, rfl, _, rfl, if_n (by decide +kernel) ?_⟩
      exact ⟨_, rfl, q t x xs Hc sm ht hl few⟩
    | step nf hj first ht hv r =>
      rename_i c j t vs v1
      have ok := parts_ok g (Nat.le_refl _) _ (List.mem_of_getElem? hj)
      refine ⟨_, rfl, t, _, _, _, rfl, rfl, ht, at_0, rfl, _, rfl, if_y (by rw [no_str nf]; rfl) ?_⟩
      refine ⟨fun σ' H' => ∃ v', σ' = [some v'] ∧ Same H H' ∧ FP K c H' v' L, fun σ' H' z => ?_, ?_⟩
      · obtain ⟨v', e, s', f'⟩ := z
        exact ⟨c.deep, ok.2, c, v', e, s', f', ok.1, rfl⟩
      · refine ⟨_, rfl, fun d nd => ⟨upd_same, kvF, rfl, by decide, ?_⟩⟩
        have s2 : Same Hc (upd (upd Hc d (.dK [])) d (.dK (mergeK [] kvF))) := fun b o e => by
          have nb := ne_of_none e nd
          rw [upd_ne nb, upd_ne nb]
          exact e
        refine ⟨d, rfl, .inl ⟨_, .inl upd_same⟩, _, rfl, t, _, _, _, rfl, rfl, sqT_same s2 ht, at_0, valV kvF (.inr b.word), .inl ⟨_, .inr b.word, .inl upd_same, rfl, rfl⟩, t, _, ixN b.word, v1, rfl, val_ix _, sqT_same s2 ht, ?_, ?_⟩
        · rw [ixN_ok nf hj first]
          exact atI_nat hv
        · exact ⟨v1, rfl, sm.trans s2, r.same s2⟩
end
end Tg

set_option maxHeartbeats 1000000
namespace Tg
open PySem PySem.Spec PyProof.Rows L2 LamX
/-! ### asks as data: compared, shown -/
structure DaP (d : PyData) (n w : Nat) : Prop where
  form : Form d n
  sho : d.showable = true
  short : d.leavesShort 20 = true
  light : d.weight ≤ w
structure DaAll (ds : List PyData) (n w : Nat) : Prop where
  form : Forms ds n
  sho : PyData.showableAll ds = true
  short : PyData.leavesShortAll 20 ds = true
  light : PyData.weightAll ds ≤ ds.length * (w + 1)
theorem DaP.up {d : PyData} {n w n' w' : Nat} (h : DaP d n w) (a : n ≤ n') (b : w ≤ w') : DaP d n' w' := ⟨h.form.up a, h.sho, h.short, Nat.le_trans h.light b⟩
theorem DaAll.nil (n w : Nat) : DaAll [] n w := ⟨.nil n, rfl, rfl, Nat.zero_le _⟩
theorem DaAll.cons {d : PyData} {ds : List PyData} {n w : Nat} (a : DaP d n w) (b : DaAll ds n w) : DaAll (d :: ds) n w := by
  refine ⟨.cons a.form b.form, ?_, ?_, ?_⟩
  · show (d.showable && PyData.showableAll ds) = true
    rw [a.sho, b.sho]
    rfl
  · show (d.leavesShort 20 && PyData.leavesShortAll 20 ds) = true
    rw [a.short, b.short]
    rfl
  · have h1 := a.light
    have h2 := b.light
    show d.weight + 1 + PyData.weightAll ds ≤ (ds.length + 1) * (w + 1)
    rw [Nat.succ_mul]
    omega
theorem DaAll.of {n w : Nat} : ∀ {ds : List PyData}, (∀ d, d ∈ ds → DaP d n w) → DaAll ds n w
  | [], _ => .nil n w
  | d :: r, h => .cons (h d (.head _)) (.of fun e he => h e (.tail _ he))
theorem DaP.list {ds : List PyData} {n w : Nat} (h : DaAll ds n w) : DaP (.list ds) (n + 1) (ds.length * (w + 1)) := ⟨.list h.form, h.sho, h.short, h.light⟩
theorem DaP.tup {ds : List PyData} {n w : Nat} (h : DaAll ds n w) : DaP (.tuple ds) (n + 1) (ds.length * (w + 1)) := ⟨.tup h.form, h.sho, h.short, h.light⟩
def daB (d : PyData) (n w : Nat) : Bool := d.canLay0 && decide (d.depth ≤ n) && PyData.eqv d d && d.showable && d.leavesShort 20 && decide (d.weight ≤ w)
theorem daB_ok {d : PyData} {n w : Nat} (h : daB d n w = true) : DaP d n w := by
  unfold daB at h
  simp only [decide_eq_true_eq, Bool.and_eq_true] at h
  exact ⟨⟨h.1.1.1.1.1, h.1.1.1.1.2, h.1.1.1.2⟩, h.1.1.2, h.1.2, h.2⟩
theorem da_words : ((whatsL ++ tracksL ++ eachL ++ bothL ++ fillL ++ asksW).all fun z => daB (.str z) 0 20) = true := by decide +kernel
theorem da_keys : (keysL.all fun ks => daB (.tuple (ks.map .str)) 1 30) = true := by decide +kernel
theorem da_wish : (allW.all fun y => daB y.d 3 60) = true := by decide +kernel
theorem da_int {i : Int} (h : i.natAbs < 10 ^ 17) : DaP (.int i) 0 60 := by
  refine ⟨.int i 0, decide_eq_true (log17 h), ?_, ?_⟩
  · show decide ((PyData.shown (.int i)).length ≤ 20) = true
    rw [PyData.shown_int]
    exact decide_eq_true (by have := nT_le h; unfold nT at this; omega)
  · show (if i == 0 then 0 else i.natAbs.log2 + 1) ≤ 60
    split
    · omega
    · by_cases z : i.natAbs = 0
      · rw [z]
        decide
      · have : i.natAbs.log2 < 57 := (Nat.log2_lt z).mpr (Nat.lt_of_lt_of_le h (by decide))
        omega
theorem da_str {z : Str} (h : z ∈ whatsL ++ tracksL ++ eachL ++ bothL ++ fillL ++ asksW) : DaP (.str z) 0 20 := daB_ok (List.all_eq_true.mp da_words z h)
theorem word_mem {k x : Str} (h : x ∈ wordsK k) : x ∈ whatsL ++ tracksL ++ eachL ++ bothL ++ fillL ++ asksW := by
  unfold wordsK at h
  simp only [List.mem_append]
  split at h
  · exact .inl (.inl (.inl (.inl (.inr h))))
  split at h
  · exact .inl (.inl (.inl (.inr h)))
  split at h
  · exact .inl (.inl (.inr h))
  split at h
  · exact .inl (.inr h)
  · cases h
theorem da_low {p : Part} (g : GoodP p) (l : p.low = true) : DaP p.d 5 130 := by
  cases p with
  | what x => exact (da_str (by simp only [List.mem_append]; exact .inl (.inl (.inl (.inl (.inl g)))))).up (by decide) (by decide)
  | wishes ws =>
    have h : DaAll (ws.map Wx.d) 3 60 := .of fun d hd => by
      obtain ⟨y, hy, rfl⟩ := List.mem_map.mp hd
      exact daB_ok (List.all_eq_true.mp da_wish y (g.g.ok y hy))
    have t := g.two
    exact (DaP.list h).up (by decide) (by rw [List.length_map]; omega)
  | word k x => exact (da_str (word_mem g)).up (by decide) (by decide)
  | keys ks => exact (daB_ok (List.all_eq_true.mp da_keys ks g)).up (by decide) (by decide)
  | num n m => exact (DaP.tup (.cons (da_int g.n17) (.cons (da_int g.m17) (.nil 0 60)))).up (by decide) (by show 2 * 61 ≤ 130; decide)
  | many n => exact (da_int g.2).up (by decide) (by decide)
  | by_ n => exact (da_int g).up (by decide) (by decide)
  | ask b => cases l
theorem da_node {a : Ask} {n w : Nat} (w20 : 20 ≤ w) (h : ∀ p, p ∈ a.parts → DaP p.d n w) : DaP a.d (n + 1) (4 * (w + 1)) := by
  rw [ask_d]
  have hw : DaP (.str a.word) n w := (da_str (by simp only [List.mem_append]; exact .inr (word_in a))).up (Nat.zero_le _) w20
  have all : DaAll (.str a.word :: a.parts.map Part.d) n w := .cons hw (.of fun d hd => by
    obtain ⟨p, hp, rfl⟩ := List.mem_map.mp hd
    exact h p hp)
  refine (DaP.tup all).up (Nat.le_refl _) (Nat.mul_le_mul_right _ ?_)
  rw [List.length_cons, List.length_map]
  exact Nat.succ_le_succ (parts_few a)
/-- how heavy -/
def wgt : Nat → Nat
  | 0 => 600
  | n + 1 => 4 * (wgt n + 1)
theorem wgt_up : ∀ {n m : Nat}, n ≤ m → wgt n ≤ wgt m
  | n, 0, h => by rw [Nat.le_zero.mp h]; exact Nat.le_refl _
  | n, m + 1, h => by
    rcases Nat.lt_or_ge n (m + 1) with c | c
    · have := wgt_up (n := n) (m := m) (by omega)
      show wgt n ≤ 4 * (wgt m + 1)
      omega
    · rw [show n = m + 1 by omega]
      exact Nat.le_refl _
theorem wgt_lo (n : Nat) : 600 ≤ wgt n := wgt_up (Nat.zero_le n)
theorem da_ask : ∀ {n : Nat} {a : Ask}, a.deep ≤ n → GoodA a → DaP a.d (a.deep + 6) (wgt a.deep) := fun {n a} l g => by
  refine Ask.by_parts (C := fun a => DaP a.d (a.deep + 6) (wgt a.deep)) (fun a g h => ?_) n a l g
  have pok := parts_ok g (Nat.le_refl _)
  cases e : a.deep with
  | zero =>
    refine (da_node (w := 130) (by decide) fun p hp => ?_).up (Nat.le_refl _) (by decide)
    rcases low_or p with ⟨b, rfl⟩ | lo
    · have := (pok _ hp).2
      omega
    · exact da_low (low_good (pok p hp) lo) lo
  | succ d =>
    refine (da_node (n := d + 6) (w := wgt d) (Nat.le_trans (by decide) (wgt_lo d)) fun p hp => ?_).up (by omega) (Nat.le_refl _)
    rcases low_or p with ⟨b, rfl⟩ | lo
    · obtain ⟨_, lt, z⟩ := h _ hp b rfl
      rw [e] at lt
      exact z.up (by omega) (wgt_up (by omega))
    · exact (da_low (low_good (pok p hp) lo) lo).up (by omega) (Nat.le_trans (by decide) (wgt_lo d))
/-- what str and == ask of an ask -/
structure ShA (a : Ask) : Prop where
  shaped : SeqAt.shaped a.d = true
  own : PyData.eqv a.d a.d = true
  sho : a.d.showable = true
  nod : a.d.hasDict = false
  deep : a.d.depth ≤ 60
  len : a.d.shown.length ≤ sizeLine
theorem sh_ask {a : Ask} (g : GoodA a) (d5 : a.deep ≤ 5) : ShA a := by
  have z := (da_ask (Nat.le_refl _) g).up (show a.deep + 6 ≤ 11 by omega) (wgt_up d5)
  have e : wgt 5 = 615764 := by decide +kernel
  have l := PyData.shown_le 20 (by decide) a.d z.short
  have lt := z.light
  rw [e] at lt
  have s : sizeLine = 2 ^ 24 := rfl
  exact ⟨z.form.shaped (by decide), z.form.own, z.sho, PyData.hasDict_of_canLay _ z.form.lay, Nat.le_trans z.form.deep (by decide), by rw [s]; omega⟩
end Tg

/-! != of lists whose items are alike by their own == -/
namespace Tg
open PySem PySem.SeqAt GQ
open AutoSeq1 (wpAny_loadPart')
open MeetsSeq MeetsSeq2 MeetsSeq3 SeqRoads2
section
variable {p : Program} {w : World} {Ar : Around} {Res : Result → Shared → Prop}
/-- the rounds that are left -/
theorem ne_rounds (x y : Addr) (many : Nat) (J : Nat → Shared → Prop) (two : ListI p w Ar (fun err t => Res (.error err) t) x y many J) (done : ∀ t, J many t → Res (.ok (.ret (.bool false))) t) :
    ∀ (left now : Nat), now + left = many → ∀ t, J now t → wpAny (model p w) Ar.in1 (Builtin.«list.__eq__.loop» ⟨[.ref x, .ref y, rawInt now, rawInt 3], []⟩) (FinOf p w Ar Res) (fun err t => Res (.error err) t) t
  | 0, now, sum, t, here => by
    have ⟨us, vs, cu, cv, atx, aty, lu, lv, _⟩ := two now t here
    obtain rfl : now = many := sum
    have told := done t here
    cases t
    wp_walk using wpAny_loadPart' atx, wpAny_loadPart' aty
    have outu : us[(now : Int).toNat]? = none := Array.getElem?_eq_none (by rw [lu]; exact Nat.le_refl _)
    have outv : vs[(now : Int).toNat]? = none := Array.getElem?_eq_none (by rw [lv]; exact Nat.le_refl _)
    rw [outu, outv]
    wp_walk using wpAny_loadPart' atx, wpAny_loadPart' aty
    have size : (us.size != vs.size) = false := by rw [lu, lv]; exact bne_self_eq_false now
    show Res (.ok (.ret (.bool (us.size != vs.size)))) _
    rw [size]
    exact told
  | left + 1, now, sum, t, here => by
    have ⟨us, vs, cu, cv, atx, aty, lu, lv, alike⟩ := two now t here
    have inu : now < us.size := by rw [lu]; omega
    have inv : now < vs.size := by rw [lv]; omega
    have said := alike inu inv
    cases t
    wp_walk using wpAny_loadPart' atx, wpAny_loadPart' aty
    rw [show us[(now : Int).toNat]? = some us[now] from Array.getElem?_eq_getElem inu, show vs[(now : Int).toNat]? = some vs[now] from Array.getElem?_eq_getElem inv]
    refine wpAny_bind (wpAny_mono said (fun b t2 both => ?_) fun _ _ er => er)
    have ⟨yes, next⟩ := both
    subst yes
    have more := ne_rounds x y many J two done left (now + 1) (by omega) t2 next
    cases t2
    wp_walk
    rw [show ((now : Int) + 1) = ((now + 1 : Nat) : Int) from by omega]
    refine ⟨plainId_quiet plain_eq_loop _, codeAny_builtin entry_eq_loop ?_⟩
    rw [Around.under_plainId (h := plain_eq_loop)]
    exact more
/-- the comparison itself -/
theorem ne_all (x y : Addr) (many : Nat) (J : Nat → Shared → Prop) (two : ListI p w Ar (fun err t => Res (.error err) t) x y many J) (done : ∀ t, J many t → Res (.ok (.ret (.bool false))) t) {t : Shared} (here : J 0 t) :
    wpAny (model p w) Ar.in1 (Builtin.«list.__ne__» ⟨[.ref x, .ref y], []⟩) (FinOf p w Ar Res) (fun err t => Res (.error err) t) t := by
  have ⟨us, vs, cu, cv, atx, aty, lu, lv, _⟩ := two 0 t here
  have rounds := ne_rounds x y many J two done many 0 (Nat.zero_add _) t here
  cases t
  have isl := AutoSeq1.sub_list_list
  have size : ¬ (us.size != vs.size) = true := by rw [lu, lv, bne_self_eq_false]; exact Bool.false_ne_true
  wp_walk using wpAny_loadPart' atx, wpAny_loadPart' aty
  refine ⟨plainId_quiet plain_eq_loop _, codeAny_builtin entry_eq_loop ?_⟩
  rw [Around.under_plainId (h := plain_eq_loop)]
  exact rounds
end
section
variable {p : Program} {w : World} {Ar : Around} {Er : Value → Shared → Prop} {t : Shared}
theorem ne_rich {x y : Addr} {many : Nat} {Qv : Value → Shared → Prop} (room : Ar.units < cLine) (J : Nat → Shared → Prop) (two : ListI p w Ar Er x y many J) (done : ∀ t, J many t → Qv (.bool false) t) (here : J 0 t) :
    wpAny (model p w) Ar (richCompare .NotEq (.ref x) (.ref y)) Qv Er t := by
  have ⟨us, vs, cu, cv, atx, aty, _⟩ := two 0 t here
  refine wpAny_richCompare_same_room (op := .NotEq) ⟨_, atx, rfl⟩ ⟨_, aty, rfl⟩ F.slot_list_ne (call_here F.slot_list_ne ⟨_, atx, rfl⟩ F.entry_list_ne (F.args_list_ne_2 _ _) ?_) room
  exact ne_all (Res := wants (fun v t => v ≠ .notImplemented ∧ Qv v t) Er) x y many J two (fun t d => ⟨(fun no => nomatch no), done t d⟩) here
end
end Tg
namespace Tg
open PySem PySem.Spec PyProof.Rows L2
section
variable {X : Cx} {n : Nat} {D : Eqv}
/-- xs != ys, of lists alike item by item: False -/
def rNeGL (D : Eqv) : R2 := fun x y H Q => DList D x y H ∧ ∀ H', Ext H H' → Q (.bl false) H'
theorem op_neGL (mon : Mon D) (one : EqG X n D) (room : Room (n + 1) X.A) : OpR X (compareOp .NotEq) (rNeGL D) := by
  rintro pins s σ H x y v u Q I rx ry ⟨⟨a, b, xs, ys, rfl, rfl, ha, hb, pairs⟩, q⟩
  cases rx
  cases ry
  have below : Sub X (n + 1) X.A := ⟨room, rfl⟩
  show wpAny (model X.prog X.w) X.A (richCompare .NotEq (.ref a) (.ref b)) (EP X pins σ Q) X.xe s
  refine ne_rich (many := xs.length) below.room.units0 (fun _ t => LoopI X pins σ H t) (fun i t w => ?_) (fun t ⟨H1, J, more⟩ => ⟨.bl false, H1, J, rfl, q H1 more⟩) ⟨H, I, Ext.rfl'⟩
  have ⟨H1, J, more⟩ := w
  have ⟨_, us, cu, ru, la⟩ := J.hok a _ (more _ _ ha)
  have ⟨_, vs, cv, rv, lb⟩ := J.hok b _ (more _ _ hb)
  have lu : us.toArray.size = xs.length := by rw [List.size_toArray, ru.length]
  have lv : vs.toArray.size = xs.length := by rw [List.size_toArray, ← rv.length, pairs.1]
  exact ⟨us.toArray, vs.toArray, cu, cv, la, lb, lu, lv, fun i1 i2 => turnG mon one below pairs ru rv i i1 i2 t w⟩
end
end Tg

set_option maxHeartbeats 1000000
namespace Tg
open PySem PySem.Spec PyProof.Rows L2 LamX
/-! ### _law_right, law -/
abbrev sRi : Stmt := topS 62
abbrev sLaw : Stmt := topS 63
theorem scRi : FnScope ["_law_draws_here", "_law_a_ask", "_law_kept", "_law_a_text", "_law_told"] ["_law_draws_here"] (defScope sRi) := ⟨rfl, rfl, rfl, by decide +kernel, rfl, by decide +kernel, by decide +kernel⟩
theorem scLaw : FnScope ["_law_script", "_law_cell", "_law_draws_here", "_law_k"] ["_law_script"] (defScope sLaw) := ⟨rfl, rfl, rfl, by decide +kernel, rfl, by decide +kernel, by decide +kernel⟩
theorem fl_tx {H : Hp} (z : Str) : DFlat (.str z) (.str z) H := ⟨rfl, rfl, by simp [eqV]⟩
def spRi : Sp := fun vs H Q _ => ∃ (p : Addr) (n : Nat), vs = [.ref p] ∧ Dr H p n ∧ n < 500000 ∧ ∀ H', Kp p H H' → Dr H' p (n + 320) → Q (.bl true) H'
section
variable {P : Program} {w : World} {K : PySem.W.Frag} {mg : Str → Option Value} {base : Heap}
theorem ok_ri {f : Addr} {fd : FuncData} {k : Nat} (F : Fun K "_law_right" "_law_right" sRi f fd) (L_ask : Cal P w K mg base k "_law_ask" ["_law_draws_here", "_law_deep"] (spAk K 6)) (L_ask_text : Cal P w K mg base k "_law_ask_text" ["_law_a_ask"] (spAT K 6)) (L_first_fold : Cal P w K mg base k "_law_first_fold" ["_law_a_ask"] (spFF K)) (C_ask_text : Cal P w K mg base k "ask_text" ["ask"] (spAT K 6)) (C_ask_text_k : CalK P w K mg base k "ask_text" ["ask"] ["ask"] [0] (spAT K 6)) (C_read_ask : Cal P w K mg base k "read_ask" ["text"] (spRA K)) (C_read_ask_k : CalK P w K mg base k "read_ask" ["text"] ["text"] [0] (spRA K)) (k2 : 2 ≤ k) (m_str : mg "str" = none) (m_isinstance : mg "isinstance" = none) (m_tuple : mg "tuple" = none) : FnG P w K mg base CX0 (k + 1) f fd ["_law_draws_here"] spRi := by
  refine okG F scRi (fun vs H Q E h => ?_) (fun cdv A outer s H vs Q E hg hr h => ?_)
  · obtain ⟨p, n, rfl, _⟩ := h
    rfl
  · obtain ⟨p, n, rfl, dr, n5, q⟩ := h
    have hu := hr.units
    refine ⟨_, pss_cons (ps_set (i := 1) scRi.nd rfl (.inl rfl) (pe_cal L_ask (hr.mono (by omega)) (by rfl) (pa_cons (pv 0) (pa_cons pe_int pa_nil))))
      (pss_cons (ps_set (i := 2) scRi.nd rfl (.inl rfl) (pe_callTy (call_strD hu hg) (by rfl) m_str (by decide +kernel) (pa_cons (pv 1) pa_nil)))
      (pss_cons (ps_set (i := 3) scRi.nd rfl (.inl rfl) (pe_cal L_ask_text (hr.mono (by omega)) (by rfl) (pa_cons (pv 1) pa_nil)))
      (pss_cons (ps_if (PW.pt (pw_or (pt_cmpR (op_neGL mon_flat eqG_flat (hr.mono (by omega))) (pe_lst (pa_cons (pe_cal C_ask_text (hr.mono (by omega)) (by rfl) (pa_cons (pv 1) pa_nil)) (pa_cons (pe_calK C_ask_text_k (hr.mono (by omega)) (by rfl) (pk_cons (pv 1) pk_nil)) pa_nil))) (pe_lst (pa_cons (pv 3) (pa_cons (pv 3) pa_nil))) (nomark _)) (pw_or1 (pt_cmpR op_ne (pe_callTy (call_strD hu hg) (by rfl) m_str (by decide +kernel) (pa_cons (pv 1) pa_nil)) (pv 2) (nomark _)))))
        (pss_one (ps_ret pe_bl))
        pss_nil)
      (pss_cons (ps_set (i := 4) scRi.nd rfl (.inl rfl) (pe_cal C_read_ask (hr.mono (by omega)) (by rfl) (pa_cons (pv 3) pa_nil)))
      (pss_cons (ps_if (PW.pt (pw_or (pt_not (pt_val (pe_callB call_isi (by rfl) m_isinstance (by decide +kernel) (pa_cons (pv 4) (pa_cons (pe_bltn (v := .ty "tuple") (by rfl) m_tuple (by decide +kernel) rfl) pa_nil))))) (pw_or (pt_cmpR (op_neD hu) (pv 4) (pv 1) (nomark _)) (pw_or (pt_cmpR op_ne (pe_callTy (call_strD hu hg) (by rfl) m_str (by decide +kernel) (pa_cons (pv 4) pa_nil)) (pv 2) (nomark _)) (pw_or1 (pt_cmpR (op_neD hu) (pe_calK C_read_ask_k (hr.mono (by omega)) (by rfl) (pk_cons (pv 3) pk_nil)) (pv 1) (nomark _)))))))
        (pss_one (ps_ret pe_bl))
        pss_nil)
      (pss_cons (ps_expr (pe_bm PySem.F.plainAttrs_list PySem.F.slot_list_append PySem.F.type_list_append mt_append (pe_ix ix_tup (pe_cal L_first_fold (hr.mono (by omega)) (by rfl) (pa_cons (pv 4) pa_nil)) pe_int (fun _ _ => rfl)) (pa_cons pe_non pa_nil)))
      (pss_one (ps_ret (pe_cmpR (op_eqD hu) (pe_cal C_read_ask (hr.mono (by omega)) (by rfl) (pa_cons (pv 3) pa_nil)) (pv 1) (nomark _)))))))))), ?_⟩
    have up : Up H [p] := fun b hb => by rw [List.mem_singleton.mp hb]; exact dr.some
    refine ⟨_, rfl, p, n, 5, [p], rfl, by decide, by decide, dr, by omega, up, .head _, fun v a H1 k1 d1_ dv g d5 => ?_⟩
    obtain ⟨t, vs, rfl, ht, da⟩ := dp_node (dp_same (hid_sub _ _) dv)
    have dv1 : Dp K H1 (.ref t) a.d := dp_same (hid_sub _ _) dv
    have sh := sh_ask g d5
    refine ⟨_, rfl, t, a.d, rfl, dv1, sh.sho, sh.nod, sh.deep, sh.len, ?_⟩
    refine ⟨_, rfl, .ref t, a, rfl, g, by omega, d5, dv1, fun H2 s2 => ?_⟩
    refine ⟨_, rfl, .ref t, a, rfl, g, by omega, d5, dp_same s2 dv1, fun H3 s3 => ⟨_, rfl, rfl, .ref t, a, rfl, g, by omega, d5, dp_same (s2.trans s3) dv1, fun H4 s4 => ⟨by show 2 ≤ sizeLine; decide, fun l1 n1 => ⟨_, rfl, _, rfl, by show 2 ≤ sizeLine; decide, fun l2 n2 => ?_⟩⟩⟩⟩
    have s5 := same_new (o := .lst [.str a.t, .str a.t]) n1
    have s6 := same_new (o := .lst [.str a.t, .str a.t]) n2
    refine ⟨⟨l1, l2, _, _, rfl, rfl, s6 _ _ upd_same, upd_same, .cons (fl_tx _) (.cons (fl_tx _) .nil)⟩, fun H6 e6 => ?_⟩
    have s16 : Same H1 H6 := ((s2.trans s3).trans (s4.trans (s5.trans s6))).trans (fun b o h => e6 b o h)
    have dv6 := dp_same s16 dv1
    refine ⟨_, rfl, if_n rfl ?_⟩
    refine ⟨_, rfl, t, a.d, rfl, dv6, sh.sho, sh.nod, sh.deep, sh.len, _, rfl, rfl, _, rfl, if_n (by rw [decide_eq_true rfl]; rfl) ?_⟩
    refine ⟨_, rfl, a, rfl, g, d5, fun v2 H7 s7 nv2 dv2 fp => ?_⟩
    obtain ⟨L, nL, fp⟩ := fp
    obtain ⟨t2, vs2, rfl, ht2, da2⟩ := dp_node dv2
    have dv7 := dp_same s7 dv6
    refine ⟨_, rfl, .ref t2, .ty "tuple", .type "tuple", .type "tuple", true, rfl, .ty _, tyT ht2, kit_ty (by decide +kernel), true, rfl, if_n rfl ?_⟩
    refine ⟨_, rfl, _, rfl, a.d, a.d, dv2, dv7, sh.shaped, sh.shaped, _, rfl, if_n (by rw [sh.own]; rfl) ?_⟩
    refine ⟨_, rfl, t2, a.d, rfl, dv2, sh.sho, sh.nod, sh.deep, sh.len, _, rfl, rfl, _, rfl, if_n (by rw [decide_eq_true rfl]; rfl) ?_⟩
    refine ⟨_, rfl, rfl, a, rfl, g, d5, fun v3 H8 s8 nv3 dv3 fp3 => ⟨_, rfl, a.d, a.d, dv3, dp_same s8 dv7, sh.shaped, sh.shaped, _, rfl, if_n (by rw [sh.own]; rfl) ?_⟩⟩
    refine ⟨_, rfl, .ref t2, a, L, rfl, fp.same s8, g, fun t3 x xs H9 s9 ht3 hL fewL => ?_⟩
    refine ⟨t3, _, _, .ref L, rfl, rfl, ht3, rfl, .inl ⟨rfl, _, SqL.of hL⟩, L, xs, .non, rfl, rfl, hL, small1000 (by omega), ?_⟩
    have s69 := s7.trans (s8.trans s9)
    have nL1 : H1 L = none := s16.free nL
    have s1m : Same H1 (upd H9 L (.lst (xs ++ [.non]))) := same_put nL1 (s16.trans s69)
    refine ⟨_, rfl, a, rfl, g, d5, fun v4 H10 s10 nv4 dv4 fp4 => ⟨_, rfl, a.d, a.d, dv4, dp_same (s1m.trans s10) dv1, sh.shaped, sh.shaped, ?_⟩⟩
    rw [sh.own]
    exact q H10 (k1.trans (.of (s1m.trans s10))) ((d1_.same (s1m.trans s10)).more (by omega))
def spLaw (K : PySem.W.Frag) : Sp := spScript K
theorem ok_law {f : Addr} {fd : FuncData} {k : Nat} (F : Fun K "law" "law" sLaw f fd) (L_draws : Cal P w K mg base k "_law_draws" ["_law_cell"] spDraws) (L_right : CalG P w K mg base k "_law_right" ["_law_draws_here"] spRi) (m_range : mg "range" = none) : FnG P w K mg base CX0 (k + 1) f fd ["_law_script"] (spScript K) := by
  refine okG F scLaw (fun vs H Q E h => ?_) (fun cdv A outer s H vs Q E hg hr h => ?_)
  · obtain ⟨a, ns, rfl, _⟩ := h
    rfl
  · obtain ⟨sa, ns, rfl, hS, n63, q⟩ := h
    refine ⟨_, pss_cons (ps_for PassesOwn.never rfl (pi_list (pe_op op_cat (pe_slice sl_list (pv 0) po_none (po_some pe_int)) (pe_lst (pa_cons pe_int pa_nil)))) (pg_name (i := 1) scLaw.nd rfl (.inl rfl))
        (pss_cons (ps_set (i := 2) scLaw.nd rfl (.inl rfl) (pe_cal L_draws (hr.mono (by omega)) (by rfl) (pa_cons (pv 1) pa_nil)))
        (pss_one (ps_for PassesOwn.never rfl (pi_range1 (by rfl) m_range (pa_cons pe_int pa_nil)) (pg_name (i := 3) scLaw.nd rfl (.inl rfl))
          (pss_one (ps_if (pt_not (pt_val (pe_calG L_right hg (hr.mono (by omega)) (by rfl) (pa_cons (pv 2) pa_nil))))
            (pss_one (ps_ret pe_bl))
            pss_nil))))))
      (pss_one (ps_ret pe_bl)), ?_⟩
    have e6 : cutV (ns.map V.int) none (some 4) = (ns.take 4).map V.int := by
      rw [show (4 : Int) = ((4 : Nat) : Int) from rfl, cut_to, List.map_take]
    refine ⟨_, rfl, 4, rfl, sa, _, rfl, hS, fun l0 n0 => ?_⟩
    rw [e6]
    have s1 := same_new (o := .lst ((ns.take 4).map V.int)) n0
    refine ⟨by show 1 ≤ sizeLine; decide, fun l1 n1 => ?_⟩
    have s2 := same_new (o := .lst [V.int 0]) n1
    refine ⟨l0, l1, _, _, rfl, rfl, s2 _ _ upd_same, upd_same, ?_, fun l2 n2 => ?_⟩
    · rw [List.length_map, List.length_take]
      exact Nat.le_of_lt (small1000 (by show _ + 1 ≤ 1000; omega))
    obtain ⟨H5, e5⟩ : ∃ H5, upd (upd (upd H l0 (.lst ((ns.take 4).map V.int))) l1 (.lst [V.int 0])) l2 (.lst ((ns.take 4).map V.int ++ [V.int 0])) = H5 := ⟨_, rfl⟩
    have h5 : H5 l2 = some (.lst ((ns.take 4 ++ [0]).map V.int)) := by
      rw [← e5, upd_same, List.map_append]
      rfl
    rw [e5]
    refine ⟨l2, rfl, ⟨_, SqL.of h5⟩, for_list (xs := (ns.take 4 ++ [0]).map V.int) (fun i σ Hc => ∃ (z1 z2 z3 : Option V), σ = [some (.ref sa), z1, z2, z3] ∧ Hc l2 = some (.lst ((ns.take 4 ++ [0]).map V.int))) ?_ ?_ ?_ ?_⟩
    · exact ⟨none, none, none, rfl, h5⟩
    · rintro i σ Hc _ ⟨z1, z2, z3, rfl, hl⟩
      exact SqL.of hl
    · rintro i x σ Hc hx ⟨z1, z2, z3, rfl, hl⟩
      rw [List.getElem?_map] at hx
      obtain ⟨c, _, rfl⟩ := Option.map_eq_some_iff.mp hx
      refine ⟨_, rfl, c, rfl, fun p a b np => ?_⟩
      have s6 := same_new (o := .lst [.int a, .int 0, .bl b]) np
      have lp : l2 ≠ p := ne_of_none hl np
      have dr0 : Dr (upd Hc p (.lst [.int a, .int 0, .bl b])) p 0 := ⟨a, 0, b, upd_same, by omega, by omega⟩
      refine ⟨8, rfl, by decide, by decide, for_range (n := 8) (fun j σ Hd => ∃ (y1 y3 : Option V), σ = [some (.ref sa), y1, some (.ref p), y3] ∧ Hd l2 = some (.lst ((ns.take 4 ++ [0]).map V.int)) ∧ Dr Hd p (320 * j)) ?_ ?_ ?_⟩
      · exact ⟨_, _, rfl, s6 _ _ hl, dr0⟩
      · rintro j σ Hd hj ⟨y1, y3, rfl, hld, dm⟩
        refine ⟨_, rfl, p, _, rfl, dm, by omega, fun H7 k7 d7 => ⟨true, rfl, if_n rfl ⟨_, _, rfl, k7 _ _ lp hld, d7.more (by omega)⟩⟩⟩
      · rintro σ Hd ⟨y1, y3, rfl, hld, _⟩
        exact ⟨_, _, _, rfl, hld⟩
    · rintro σ Hc ⟨z1, z2, z3, rfl, hl⟩
      exact q Hc
end
end Tg

namespace Tg
open PySem PySem.Spec PyProof.Rows L2
section
variable {K : PySem.W.Frag} {f : Addr} {fd : FuncData}
theorem kk_at (F : Fun K "ask_text" "ask_text" sAT f fd) : KBn K fd ["ask"] 0 ["ask"] (fun _ ws => prm [0] ws) (fun _ zs => prm [0] zs) := by
  obtain ⟨_, _, kV, doc, pm, an, cdv, ct, _, rfl, _, _⟩ := F.ex
  exact ⟨fun s us ws _ h0 h2 => match us, ws, h0, h2 with | [], [_], _, _ => .of_eq rfl, fun _ r => prm_rel r _⟩
theorem kk_ra (F : Fun K "read_ask" "read_ask" sRA f fd) : KBn K fd ["text"] 0 ["text"] (fun _ ws => prm [0] ws) (fun _ zs => prm [0] zs) := by
  obtain ⟨_, _, kV, doc, pm, an, cdv, ct, _, rfl, _, _⟩ := F.ex
  exact ⟨fun s us ws _ h0 h2 => match us, ws, h0, h2 with | [], [_], _, _ => .of_eq rfl, fun _ r => prm_rel r _⟩
end
/-! ### what the top has written; the law's own head -/
set_option maxHeartbeats 0 in
theorem all_mk {l : PySem.W.OpenLaw} {w : World} {K : PySem.W.Frag} {h : Heap} {mg : Str → Option Value} {fa  f1 f2 f3 f4 f5 f6 f7 f8 f9 f10 f11 f12 f13 f14 f15 f16 f17 f18 f19 f20 f21 f22 f23 f24 f25 f26 f27 f28 f29 f30 f31 f32 f33 f34 f35 f36 f37 f38 f39 f40 f41 f42 f43 f44 : Addr} {dF : Addr} {esF : Array DictEntry} {nF : Nat} {dW : Addr} {esW : Array DictEntry} {nW : Nat} {TF0 : Addr} {kf0_0 kf0_1 : Tok} {d_f0 : Option Addr} {n_f0 : Nat} {s_f0 : Array (Option Value)} {TF1 : Addr} {kf1_0 kf1_1 kf1_2 : Tok} {d_f1 : Option Addr} {n_f1 : Nat} {s_f1 : Array (Option Value)} {TF2 : Addr} {kf2_0 kf2_1 kf2_2 : Tok} {d_f2 : Option Addr} {n_f2 : Nat} {s_f2 : Array (Option Value)} {TF3 : Addr} {kf3_0 kf3_1 kf3_2 : Tok} {d_f3 : Option Addr} {n_f3 : Nat} {s_f3 : Array (Option Value)} {TF4 : Addr} {kf4_0 kf4_1 : Tok} {d_f4 : Option Addr} {n_f4 : Nat} {s_f4 : Array (Option Value)} {TF5 : Addr} {kf5_0 kf5_1 : Tok} {d_f5 : Option Addr} {n_f5 : Nat} {s_f5 : Array (Option Value)} {TF6 : Addr} {kf6_0 kf6_1 : Tok} {d_f6 : Option Addr} {n_f6 : Nat} {s_f6 : Array (Option Value)} {TF7 : Addr} {kf7_0 kf7_1 : Tok} {d_f7 : Option Addr} {n_f7 : Nat} {s_f7 : Array (Option Value)} {TW0 : Addr} {kw0_0 kw0_1 kw0_2 kw0_3 kw0_4 : Tok} {d_w0 : Option Addr} {n_w0 : Nat} {s_w0 : Array (Option Value)} {TW1 : Addr} {kw1_0 kw1_1 kw1_2 : Tok} {d_w1 : Option Addr} {n_w1 : Nat} {s_w1 : Array (Option Value)} {TW2 : Addr} {kw2_0 kw2_1 kw2_2 kw2_3 : Tok} {d_w2 : Option Addr} {n_w2 : Nat} {s_w2 : Array (Option Value)} {TW3 : Addr} {kw3_0 kw3_1 : Tok} {d_w3 : Option Addr} {n_w3 : Nat} {s_w3 : Array (Option Value)} {TW : Addr} {kwh_0 kwh_1 kwh_2 kwh_3 kwh_4 kwh_5 kwh_6 kwh_7 kwh_8 kwh_9 : Tok} {d_wh : Option Addr} {n_wh : Nat} {s_wh : Array (Option Value)} {tkF tkS tkM tkG tkB tkN tkW : Tok} (X : K.In h) (G : h.Ns mainGlobals mg) (hfa : mg "law" = some (.ref fa))
    {od1 an1 od2 an2 od3 an3 od4 an4 od5 an5 od6 an6 od7 an7 od8 an8 od9 an9 od10 an10 od11 an11 od12 an12 od13 an13 od14 an14 od15 an15 od16 an16 od17 an17 od18 an18 od19 an19 od20 an20 od21 an21 od22 an22 od23 an23 od24 an24 od25 an25 od26 an26 od27 an27 od28 an28 od29 an29 od30 an30 od31 an31 od32 an32 od33 an33 od34 an34 od35 an35 od36 an36 od37 an37 od38 an38 od39 an39 od40 an40 od41 an41 od42 an42 od43 an43 od44 an44 : Option Addr} {sl1 sl2 sl3 sl4 sl5 sl6 sl7 sl8 sl9 sl10 sl11 sl12 sl13 sl14 sl15 sl16 sl17 sl18 sl19 sl20 sl21 sl22 sl23 sl24 sl25 sl26 sl27 sl28 sl29 sl30 sl31 sl32 sl33 sl34 sl35 sl36 sl37 sl38 sl39 sl40 sl41 sl42 sl43 sl44 : Array (Option Value)} {oc1 kV1 dc1 pm1 cd1 ct1 oc2 kV2 dc2 pm2 cd2 ct2 oc3 kV3 dc3 pm3 cd3 ct3 oc4 kV4 dc4 pm4 cd4 ct4 oc5 kV5 dc5 pm5 cd5 ct5 oc6 kV6 dc6 pm6 cd6 ct6 oc7 kV7 dc7 pm7 cd7 ct7 oc8 kV8 dc8 pm8 cd8 ct8 oc9 kV9 dc9 pm9 cd9 ct9 oc10 kV10 dc10 pm10 cd10 ct10 oc11 kV11 dc11 pm11 cd11 ct11 oc12 kV12 dc12 pm12 cd12 ct12 oc13 kV13 dc13 pm13 cd13 ct13 oc14 kV14 dc14 pm14 cd14 ct14 oc15 kV15 dc15 pm15 cd15 ct15 oc16 kV16 dc16 pm16 cd16 ct16 oc17 kV17 dc17 pm17 cd17 ct17 oc18 kV18 dc18 pm18 cd18 ct18 oc19 kV19 dc19 pm19 cd19 ct19 oc20 kV20 dc20 pm20 cd20 ct20 oc21 kV21 dc21 pm21 cd21 ct21 oc22 kV22 dc22 pm22 cd22 ct22 oc23 kV23 dc23 pm23 cd23 ct23 oc24 kV24 dc24 pm24 cd24 ct24 oc25 kV25 dc25 pm25 cd25 ct25 oc26 kV26 dc26 pm26 cd26 ct26 oc27 kV27 dc27 pm27 cd27 ct27 oc28 kV28 dc28 pm28 cd28 ct28 oc29 kV29 dc29 pm29 cd29 ct29 oc30 kV30 dc30 pm30 cd30 ct30 oc31 kV31 dc31 pm31 cd31 ct31 oc32 kV32 dc32 pm32 cd32 ct32 oc33 kV33 dc33 pm33 cd33 ct33 oc34 kV34 dc34 pm34 cd34 ct34 oc35 kV35 dc35 pm35 cd35 ct35 oc36 kV36 dc36 pm36 cd36 ct36 oc37 kV37 dc37 pm37 cd37 ct37 oc38 kV38 dc38 pm38 cd38 ct38 oc39 kV39 dc39 pm39 cd39 ct39 oc40 kV40 dc40 pm40 cd40 ct40 oc41 kV41 dc41 pm41 cd41 ct41 oc42 kV42 dc42 pm42 cd42 ct42 oc43 kV43 dc43 pm43 cd43 ct43 oc44 kV44 dc44 pm44 cd44 ct44 : Value}
    (a1 : PySem.W.nsIn K mainGlobals "is_whole" = some (some (.ref f1)))
    (l1 : K.lookup f1 = some ⟨oc1, od1, .func (PySem.W.fnOf "is_whole" "is_whole" (defArgs sIW) (defBody sIW) (defScope sIW) .none kV1 dc1 pm1 an1 cd1 ct1), sl1⟩)
    (c1 : PySem.W.codeIn K cd1 "is_whole" = true)
    (k1 : PySem.W.keepIn K (.ref f1) = true)
    (a2 : PySem.W.nsIn K mainGlobals "read_figures" = some (some (.ref f2)))
    (l2 : K.lookup f2 = some ⟨oc2, od2, .func (PySem.W.fnOf "read_figures" "read_figures" (defArgs sRF) (defBody sRF) (defScope sRF) .none kV2 dc2 pm2 an2 cd2 ct2), sl2⟩)
    (c2 : PySem.W.codeIn K cd2 "read_figures" = true)
    (k2 : PySem.W.keepIn K (.ref f2) = true)
    (a3 : PySem.W.nsIn K mainGlobals "read_whole" = some (some (.ref f3)))
    (l3 : K.lookup f3 = some ⟨oc3, od3, .func (PySem.W.fnOf "read_whole" "read_whole" (defArgs sRWh) (defBody sRWh) (defScope sRWh) .none kV3 dc3 pm3 an3 cd3 ct3), sl3⟩)
    (c3 : PySem.W.codeIn K cd3 "read_whole" = true)
    (k3 : PySem.W.keepIn K (.ref f3) = true)
    (a4 : PySem.W.nsIn K mainGlobals "greatest_common" = some (some (.ref f4)))
    (l4 : K.lookup f4 = some ⟨oc4, od4, .func (PySem.W.fnOf "greatest_common" "greatest_common" (defArgs sGc) (defBody sGc) (defScope sGc) .none kV4 dc4 pm4 an4 cd4 ct4), sl4⟩)
    (c4 : PySem.W.codeIn K cd4 "greatest_common" = true)
    (k4 : PySem.W.keepIn K (.ref f4) = true)
    (a5 : PySem.W.nsIn K mainGlobals "lowest" = some (some (.ref f5)))
    (l5 : K.lookup f5 = some ⟨oc5, od5, .func (PySem.W.fnOf "lowest" "lowest" (defArgs sLo) (defBody sLo) (defScope sLo) .none kV5 dc5 pm5 an5 cd5 ct5), sl5⟩)
    (c5 : PySem.W.codeIn K cd5 "lowest" = true)
    (k5 : PySem.W.keepIn K (.ref f5) = true)
    (a6 : PySem.W.nsIn K mainGlobals "is_ratio" = some (some (.ref f6)))
    (l6 : K.lookup f6 = some ⟨oc6, od6, .func (PySem.W.fnOf "is_ratio" "is_ratio" (defArgs sIR) (defBody sIR) (defScope sIR) .none kV6 dc6 pm6 an6 cd6 ct6), sl6⟩)
    (c6 : PySem.W.codeIn K cd6 "is_ratio" = true)
    (k6 : PySem.W.keepIn K (.ref f6) = true)
    (a7 : PySem.W.nsIn K mainGlobals "are_keys" = some (some (.ref f7)))
    (l7 : K.lookup f7 = some ⟨oc7, od7, .func (PySem.W.fnOf "are_keys" "are_keys" (defArgs sAK) (defBody sAK) (defScope sAK) .none kV7 dc7 pm7 an7 cd7 ct7), sl7⟩)
    (c7 : PySem.W.codeIn K cd7 "are_keys" = true)
    (k7 : PySem.W.keepIn K (.ref f7) = true)
    (a8 : PySem.W.nsIn K mainGlobals "fits" = some (some (.ref f8)))
    (l8 : K.lookup f8 = some ⟨oc8, od8, .func (PySem.W.fnOf "fits" "fits" (defArgs sFt) (defBody sFt) (defScope sFt) .none kV8 dc8 pm8 an8 cd8 ct8), sl8⟩)
    (c8 : PySem.W.codeIn K cd8 "fits" = true)
    (k8 : PySem.W.keepIn K (.ref f8) = true)
    (a9 : PySem.W.nsIn K mainGlobals "has_form" = some (some (.ref f9)))
    (l9 : K.lookup f9 = some ⟨oc9, od9, .func (PySem.W.fnOf "has_form" "has_form" (defArgs sHF) (defBody sHF) (defScope sHF) .none kV9 dc9 pm9 an9 cd9 ct9), sl9⟩)
    (c9 : PySem.W.codeIn K cd9 "has_form" = true)
    (k9 : PySem.W.keepIn K (.ref f9) = true)
    (a10 : PySem.W.nsIn K mainGlobals "asks_within" = some (some (.ref f10)))
    (l10 : K.lookup f10 = some ⟨oc10, od10, .func (PySem.W.fnOf "asks_within" "asks_within" (defArgs sAW) (defBody sAW) (defScope sAW) .none kV10 dc10 pm10 an10 cd10 ct10), sl10⟩)
    (c10 : PySem.W.codeIn K cd10 "asks_within" = true)
    (k10 : PySem.W.keepIn K (.ref f10) = true)
    (a11 : PySem.W.nsIn K mainGlobals "check_ask" = some (some (.ref f11)))
    (l11 : K.lookup f11 = some ⟨oc11, od11, .func (PySem.W.fnOf "check_ask" "check_ask" (defArgs sCA) (defBody sCA) (defScope sCA) .none kV11 dc11 pm11 an11 cd11 ct11), sl11⟩)
    (c11 : PySem.W.codeIn K cd11 "check_ask" = true)
    (k11 : PySem.W.keepIn K (.ref f11) = true)
    (a12 : PySem.W.nsIn K mainGlobals "is_label_text" = some (some (.ref f12)))
    (l12 : K.lookup f12 = some ⟨oc12, od12, .func (PySem.W.fnOf "is_label_text" "is_label_text" (defArgs sLabel) (defBody sLabel) (defScope sLabel) .none kV12 dc12 pm12 an12 cd12 ct12), sl12⟩)
    (c12 : PySem.W.codeIn K cd12 "is_label_text" = true)
    (k12 : PySem.W.keepIn K (.ref f12) = true)
    (a13 : PySem.W.nsIn K mainGlobals "is_wish" = some (some (.ref f13)))
    (l13 : K.lookup f13 = some ⟨oc13, od13, .func (PySem.W.fnOf "is_wish" "is_wish" (defArgs sWish) (defBody sWish) (defScope sWish) .none kV13 dc13 pm13 an13 cd13 ct13), sl13⟩)
    (c13 : PySem.W.codeIn K cd13 "is_wish" = true)
    (k13 : PySem.W.keepIn K (.ref f13) = true)
    (a14 : PySem.W.nsIn K mainGlobals "is_wished" = some (some (.ref f14)))
    (l14 : K.lookup f14 = some ⟨oc14, od14, .func (PySem.W.fnOf "is_wished" "is_wished" (defArgs sWished) (defBody sWished) (defScope sWished) .none kV14 dc14 pm14 an14 cd14 ct14), sl14⟩)
    (c14 : PySem.W.codeIn K cd14 "is_wished" = true)
    (k14 : PySem.W.keepIn K (.ref f14) = true)
    (a15 : PySem.W.nsIn K mainGlobals "whole_of" = some (some (.ref f15)))
    (l15 : K.lookup f15 = some ⟨oc15, od15, .func (PySem.W.fnOf "whole_of" "whole_of" (defArgs sWh) (defBody sWh) (defScope sWh) .none kV15 dc15 pm15 an15 cd15 ct15), sl15⟩)
    (c15 : PySem.W.codeIn K cd15 "whole_of" = true)
    (k15 : PySem.W.keepIn K (.ref f15) = true)
    (a16 : PySem.W.nsIn K mainGlobals "ratio_text" = some (some (.ref f16)))
    (l16 : K.lookup f16 = some ⟨oc16, od16, .func (PySem.W.fnOf "ratio_text" "ratio_text" (defArgs sRT_) (defBody sRT_) (defScope sRT_) .none kV16 dc16 pm16 an16 cd16 ct16), sl16⟩)
    (c16 : PySem.W.codeIn K cd16 "ratio_text" = true)
    (k16 : PySem.W.keepIn K (.ref f16) = true)
    (a17 : PySem.W.nsIn K mainGlobals "ratio_of" = some (some (.ref f17)))
    (l17 : K.lookup f17 = some ⟨oc17, od17, .func (PySem.W.fnOf "ratio_of" "ratio_of" (defArgs sRO_) (defBody sRO_) (defScope sRO_) .none kV17 dc17 pm17 an17 cd17 ct17), sl17⟩)
    (c17 : PySem.W.codeIn K cd17 "ratio_of" = true)
    (k17 : PySem.W.keepIn K (.ref f17) = true)
    (a18 : PySem.W.nsIn K mainGlobals "wish_text" = some (some (.ref f18)))
    (l18 : K.lookup f18 = some ⟨oc18, od18, .func (PySem.W.fnOf "wish_text" "wish_text" (defArgs sWT) (defBody sWT) (defScope sWT) .none kV18 dc18 pm18 an18 cd18 ct18), sl18⟩)
    (c18 : PySem.W.codeIn K cd18 "wish_text" = true)
    (k18 : PySem.W.keepIn K (.ref f18) = true)
    (a19 : PySem.W.nsIn K mainGlobals "loose_wish" = some (some (.ref f19)))
    (l19 : K.lookup f19 = some ⟨oc19, od19, .func (PySem.W.fnOf "loose_wish" "loose_wish" (defArgs sLz) (defBody sLz) (defScope sLz) .none kV19 dc19 pm19 an19 cd19 ct19), sl19⟩)
    (c19 : PySem.W.codeIn K cd19 "loose_wish" = true)
    (k19 : PySem.W.keepIn K (.ref f19) = true)
    (a20 : PySem.W.nsIn K mainGlobals "wishes_text" = some (some (.ref f20)))
    (l20 : K.lookup f20 = some ⟨oc20, od20, .func (PySem.W.fnOf "wishes_text" "wishes_text" (defArgs sWsT) (defBody sWsT) (defScope sWsT) .none kV20 dc20 pm20 an20 cd20 ct20), sl20⟩)
    (c20 : PySem.W.codeIn K cd20 "wishes_text" = true)
    (k20 : PySem.W.keepIn K (.ref f20) = true)
    (a21 : PySem.W.nsIn K mainGlobals "wishes_of" = some (some (.ref f21)))
    (l21 : K.lookup f21 = some ⟨oc21, od21, .func (PySem.W.fnOf "wishes_of" "wishes_of" (defArgs sWO) (defBody sWO) (defScope sWO) .none kV21 dc21 pm21 an21 cd21 ct21), sl21⟩)
    (c21 : PySem.W.codeIn K cd21 "wishes_of" = true)
    (k21 : PySem.W.keepIn K (.ref f21) = true)
    (a22 : PySem.W.nsIn K mainGlobals "part_text" = some (some (.ref f22)))
    (l22 : K.lookup f22 = some ⟨oc22, od22, .func (PySem.W.fnOf "part_text" "part_text" (defArgs sPT) (defBody sPT) (defScope sPT) .none kV22 dc22 pm22 an22 cd22 ct22), sl22⟩)
    (c22 : PySem.W.codeIn K cd22 "part_text" = true)
    (k22 : PySem.W.keepIn K (.ref f22) = true)
    (a23 : PySem.W.nsIn K mainGlobals "keys_of" = some (some (.ref f23)))
    (l23 : K.lookup f23 = some ⟨oc23, od23, .func (PySem.W.fnOf "keys_of" "keys_of" (defArgs sKO) (defBody sKO) (defScope sKO) .none kV23 dc23 pm23 an23 cd23 ct23), sl23⟩)
    (c23 : PySem.W.codeIn K cd23 "keys_of" = true)
    (k23 : PySem.W.keepIn K (.ref f23) = true)
    (a24 : PySem.W.nsIn K mainGlobals "part_of" = some (some (.ref f24)))
    (l24 : K.lookup f24 = some ⟨oc24, od24, .func (PySem.W.fnOf "part_of" "part_of" (defArgs sPO) (defBody sPO) (defScope sPO) .none kV24 dc24 pm24 an24 cd24 ct24), sl24⟩)
    (c24 : PySem.W.codeIn K cd24 "part_of" = true)
    (k24 : PySem.W.keepIn K (.ref f24) = true)
    (a25 : PySem.W.nsIn K mainGlobals "ask_text" = some (some (.ref f25)))
    (l25 : K.lookup f25 = some ⟨oc25, od25, .func (PySem.W.fnOf "ask_text" "ask_text" (defArgs sAT) (defBody sAT) (defScope sAT) .none kV25 dc25 pm25 an25 cd25 ct25), sl25⟩)
    (c25 : PySem.W.codeIn K cd25 "ask_text" = true)
    (k25 : PySem.W.keepIn K (.ref f25) = true)
    (a26 : PySem.W.nsIn K mainGlobals "split_parts" = some (some (.ref f26)))
    (l26 : K.lookup f26 = some ⟨oc26, od26, .func (PySem.W.fnOf "split_parts" "split_parts" (defArgs sSP) (defBody sSP) (defScope sSP) .none kV26 dc26 pm26 an26 cd26 ct26), sl26⟩)
    (c26 : PySem.W.codeIn K cd26 "split_parts" = true)
    (k26 : PySem.W.keepIn K (.ref f26) = true)
    (a27 : PySem.W.nsIn K mainGlobals "loose_ask" = some (some (.ref f27)))
    (l27 : K.lookup f27 = some ⟨oc27, od27, .func (PySem.W.fnOf "loose_ask" "loose_ask" (defArgs sLA) (defBody sLA) (defScope sLA) .none kV27 dc27 pm27 an27 cd27 ct27), sl27⟩)
    (c27 : PySem.W.codeIn K cd27 "loose_ask" = true)
    (k27 : PySem.W.keepIn K (.ref f27) = true)
    (a28 : PySem.W.nsIn K mainGlobals "most_brackets" = some (some (.ref f28)))
    (l28 : K.lookup f28 = some ⟨oc28, od28, .func (PySem.W.fnOf "most_brackets" "most_brackets" (defArgs sMB) (defBody sMB) (defScope sMB) .none kV28 dc28 pm28 an28 cd28 ct28), sl28⟩)
    (c28 : PySem.W.codeIn K cd28 "most_brackets" = true)
    (k28 : PySem.W.keepIn K (.ref f28) = true)
    (a29 : PySem.W.nsIn K mainGlobals "ask_of" = some (some (.ref f29)))
    (l29 : K.lookup f29 = some ⟨oc29, od29, .func (PySem.W.fnOf "ask_of" "ask_of" (defArgs sAO) (defBody sAO) (defScope sAO) .none kV29 dc29 pm29 an29 cd29 ct29), sl29⟩)
    (c29 : PySem.W.codeIn K cd29 "ask_of" = true)
    (k29 : PySem.W.keepIn K (.ref f29) = true)
    (a30 : PySem.W.nsIn K mainGlobals "read_ask" = some (some (.ref f30)))
    (l30 : K.lookup f30 = some ⟨oc30, od30, .func (PySem.W.fnOf "read_ask" "read_ask" (defArgs sRA) (defBody sRA) (defScope sRA) .none kV30 dc30 pm30 an30 cd30 ct30), sl30⟩)
    (c30 : PySem.W.codeIn K cd30 "read_ask" = true)
    (k30 : PySem.W.keepIn K (.ref f30) = true)
    (a31 : PySem.W.nsIn K mainGlobals "_law_draws" = some (some (.ref f31)))
    (l31 : K.lookup f31 = some ⟨oc31, od31, .func (PySem.W.fnOf "_law_draws" "_law_draws" (defArgs sDraws) (defBody sDraws) (defScope sDraws) .none kV31 dc31 pm31 an31 cd31 ct31), sl31⟩)
    (c31 : PySem.W.codeIn K cd31 "_law_draws" = true)
    (k31 : PySem.W.keepIn K (.ref f31) = true)
    (a32 : PySem.W.nsIn K mainGlobals "_law_next" = some (some (.ref f32)))
    (l32 : K.lookup f32 = some ⟨oc32, od32, .func (PySem.W.fnOf "_law_next" "_law_next" (defArgs sNext) (defBody sNext) (defScope sNext) .none kV32 dc32 pm32 an32 cd32 ct32), sl32⟩)
    (c32 : PySem.W.codeIn K cd32 "_law_next" = true)
    (k32 : PySem.W.keepIn K (.ref f32) = true)
    (a33 : PySem.W.nsIn K mainGlobals "_law_low" = some (some (.ref f33)))
    (l33 : K.lookup f33 = some ⟨oc33, od33, .func (PySem.W.fnOf "_law_low" "_law_low" (defArgs sLow) (defBody sLow) (defScope sLow) .none kV33 dc33 pm33 an33 cd33 ct33), sl33⟩)
    (c33 : PySem.W.codeIn K cd33 "_law_low" = true)
    (k33 : PySem.W.keepIn K (.ref f33) = true)
    (a34 : PySem.W.nsIn K mainGlobals "_law_wish" = some (some (.ref f34)))
    (l34 : K.lookup f34 = some ⟨oc34, od34, .func (PySem.W.fnOf "_law_wish" "_law_wish" (defArgs sLW) (defBody sLW) (defScope sLW) .none kV34 dc34 pm34 an34 cd34 ct34), sl34⟩)
    (c34 : PySem.W.codeIn K cd34 "_law_wish" = true)
    (k34 : PySem.W.keepIn K (.ref f34) = true)
    (a35 : PySem.W.nsIn K mainGlobals "_law_number" = some (some (.ref f35)))
    (l35 : K.lookup f35 = some ⟨oc35, od35, .func (PySem.W.fnOf "_law_number" "_law_number" (defArgs sLN) (defBody sLN) (defScope sLN) .none kV35 dc35 pm35 an35 cd35 ct35), sl35⟩)
    (c35 : PySem.W.codeIn K cd35 "_law_number" = true)
    (k35 : PySem.W.keepIn K (.ref f35) = true)
    (a36 : PySem.W.nsIn K mainGlobals "_law_wishes" = some (some (.ref f36)))
    (l36 : K.lookup f36 = some ⟨oc36, od36, .func (PySem.W.fnOf "_law_wishes" "_law_wishes" (defArgs sLWs) (defBody sLWs) (defScope sLWs) .none kV36 dc36 pm36 an36 cd36 ct36), sl36⟩)
    (c36 : PySem.W.codeIn K cd36 "_law_wishes" = true)
    (k36 : PySem.W.keepIn K (.ref f36) = true)
    (a37 : PySem.W.nsIn K mainGlobals "_law_ask" = some (some (.ref f37)))
    (l37 : K.lookup f37 = some ⟨oc37, od37, .func (PySem.W.fnOf "_law_ask" "_law_ask" (defArgs sLAk) (defBody sLAk) (defScope sLAk) .none kV37 dc37 pm37 an37 cd37 ct37), sl37⟩)
    (c37 : PySem.W.codeIn K cd37 "_law_ask" = true)
    (k37 : PySem.W.keepIn K (.ref f37) = true)
    (a38 : PySem.W.nsIn K mainGlobals "_law_wish_text" = some (some (.ref f38)))
    (l38 : K.lookup f38 = some ⟨oc38, od38, .func (PySem.W.fnOf "_law_wish_text" "_law_wish_text" (defArgs sQT) (defBody sQT) (defScope sQT) .none kV38 dc38 pm38 an38 cd38 ct38), sl38⟩)
    (c38 : PySem.W.codeIn K cd38 "_law_wish_text" = true)
    (k38 : PySem.W.keepIn K (.ref f38) = true)
    (a39 : PySem.W.nsIn K mainGlobals "_law_wishes_text" = some (some (.ref f39)))
    (l39 : K.lookup f39 = some ⟨oc39, od39, .func (PySem.W.fnOf "_law_wishes_text" "_law_wishes_text" (defArgs sQs) (defBody sQs) (defScope sQs) .none kV39 dc39 pm39 an39 cd39 ct39), sl39⟩)
    (c39 : PySem.W.codeIn K cd39 "_law_wishes_text" = true)
    (k39 : PySem.W.keepIn K (.ref f39) = true)
    (a40 : PySem.W.nsIn K mainGlobals "_law_number_text" = some (some (.ref f40)))
    (l40 : K.lookup f40 = some ⟨oc40, od40, .func (PySem.W.fnOf "_law_number_text" "_law_number_text" (defArgs sNT) (defBody sNT) (defScope sNT) .none kV40 dc40 pm40 an40 cd40 ct40), sl40⟩)
    (c40 : PySem.W.codeIn K cd40 "_law_number_text" = true)
    (k40 : PySem.W.keepIn K (.ref f40) = true)
    (a41 : PySem.W.nsIn K mainGlobals "_law_ask_text" = some (some (.ref f41)))
    (l41 : K.lookup f41 = some ⟨oc41, od41, .func (PySem.W.fnOf "_law_ask_text" "_law_ask_text" (defArgs sTx) (defBody sTx) (defScope sTx) .none kV41 dc41 pm41 an41 cd41 ct41), sl41⟩)
    (c41 : PySem.W.codeIn K cd41 "_law_ask_text" = true)
    (k41 : PySem.W.keepIn K (.ref f41) = true)
    (a42 : PySem.W.nsIn K mainGlobals "_law_first_fold" = some (some (.ref f42)))
    (l42 : K.lookup f42 = some ⟨oc42, od42, .func (PySem.W.fnOf "_law_first_fold" "_law_first_fold" (defArgs sFF) (defBody sFF) (defScope sFF) .none kV42 dc42 pm42 an42 cd42 ct42), sl42⟩)
    (c42 : PySem.W.codeIn K cd42 "_law_first_fold" = true)
    (k42 : PySem.W.keepIn K (.ref f42) = true)
    (a43 : PySem.W.nsIn K mainGlobals "_law_right" = some (some (.ref f43)))
    (l43 : K.lookup f43 = some ⟨oc43, od43, .func (PySem.W.fnOf "_law_right" "_law_right" (defArgs sRi) (defBody sRi) (defScope sRi) .none kV43 dc43 pm43 an43 cd43 ct43), sl43⟩)
    (c43 : PySem.W.codeIn K cd43 "_law_right" = true)
    (k43 : PySem.W.keepIn K (.ref f43) = true)
    (a44 : PySem.W.nsIn K mainGlobals "law" = some (some (.ref f44)))
    (l44 : K.lookup f44 = some ⟨oc44, od44, .func (PySem.W.fnOf "law" "law" (defArgs sLaw) (defBody sLaw) (defScope sLaw) .none kV44 dc44 pm44 an44 cd44 ct44), sl44⟩)
    (c44 : PySem.W.codeIn K cd44 "law" = true)
    (k44 : PySem.W.keepIn K (.ref f44) = true)
    (z_range : PySem.W.nsIn K mainGlobals "range" = some none)
    (z_len : PySem.W.nsIn K mainGlobals "len" = some none)
    (z_all : PySem.W.nsIn K mainGlobals "all" = some none)
    (z_str : PySem.W.nsIn K mainGlobals "str" = some none)
    (z_int : PySem.W.nsIn K mainGlobals "int" = some none)
    (z_tuple : PySem.W.nsIn K mainGlobals "tuple" = some none)
    (z_isinstance : PySem.W.nsIn K mainGlobals "isinstance" = some none)
    (z_bool : PySem.W.nsIn K mainGlobals "bool" = some none)
    (z_set : PySem.W.nsIn K mainGlobals "set" = some none)
    (z_max : PySem.W.nsIn K mainGlobals "max" = some none)
    (z_abs : PySem.W.nsIn K mainGlobals "abs" = some none)
    (z_zip : PySem.W.nsIn K mainGlobals "zip" = some none)
    (v_FIGURES : PySem.W.nsIn K mainGlobals "FIGURES" = some (some (.str "0123456789" tkF)))
    (v_SIGNS : PySem.W.nsIn K mainGlobals "SIGNS" = some (some (.str signs tkS)))
    (v_MOST_SIGNS : PySem.W.nsIn K mainGlobals "MOST_SIGNS" = some (some (.int 20 tkM)))
    (v_MOST_FIGURES : PySem.W.nsIn K mainGlobals "MOST_FIGURES" = some (some (.int 40 tkG)))
    (v_MOST_BRACKETS : PySem.W.nsIn K mainGlobals "MOST_BRACKETS" = some (some (.int 200 tkB)))
    (v_NOTHING : PySem.W.nsIn K mainGlobals "NOTHING" = some (some (.str "-" tkN)))
    (v_NO_WISHES : PySem.W.nsIn K mainGlobals "NO_WISHES" = some (some (.str "*" tkW)))
    (v_FORMS : PySem.W.nsIn K mainGlobals "FORMS" = some (some (.ref dF)))
    (v_WORDS : PySem.W.nsIn K mainGlobals "WORDS" = some (some (.ref dW)))
    (v_WHATS : PySem.W.nsIn K mainGlobals "WHATS" = some (some (.ref TW)))
    (ldF : K.lookup dF = some ⟨.type "dict", none, .dict esF nF, #[]⟩)
    (litdF : PySem.W.KeysLit w.params esF.toList)
    (lowdF : (dF == sysModules) = false)
    (ldW : K.lookup dW = some ⟨.type "dict", none, .dict esW nW, #[]⟩)
    (litdW : PySem.W.KeysLit w.params esW.toList)
    (lowdW : (dW == sysModules) = false)
    (nf0 : PySem.W.nsIn K dF "fold" = some (some (.ref TF0)))
    (l_f0 : K.lookup TF0 = some ⟨.type "tuple", d_f0, .seq #[.str "what" kf0_0, .str "wishes" kf0_1] n_f0, s_f0⟩)
    (nf1 : PySem.W.nsIn K dF "by" = some (some (.ref TF1)))
    (l_f1 : K.lookup TF1 = some ⟨.type "tuple", d_f1, .seq #[.str "what of tracks" kf1_0, .str "keys" kf1_1, .str "ask" kf1_2] n_f1, s_f1⟩)
    (nf2 : PySem.W.nsIn K dF "each" = some (some (.ref TF2)))
    (l_f2 : K.lookup TF2 = some ⟨.type "tuple", d_f2, .seq #[.str "word of each" kf2_0, .str "ask" kf2_1, .str "number" kf2_2] n_f2, s_f2⟩)
    (nf3 : PySem.W.nsIn K dF "both" = some (some (.ref TF3)))
    (l_f3 : K.lookup TF3 = some ⟨.type "tuple", d_f3, .seq #[.str "word of both" kf3_0, .str "ask" kf3_1, .str "ask" kf3_2] n_f3, s_f3⟩)
    (nf4 : PySem.W.nsIn K dF "fill" = some (some (.ref TF4)))
    (l_f4 : K.lookup TF4 = some ⟨.type "tuple", d_f4, .seq #[.str "word of fill" kf4_0, .str "ask" kf4_1] n_f4, s_f4⟩)
    (nf5 : PySem.W.nsIn K dF "above" = some (some (.ref TF5)))
    (l_f5 : K.lookup TF5 = some ⟨.type "tuple", d_f5, .seq #[.str "ask" kf5_0, .str "number" kf5_1] n_f5, s_f5⟩)
    (nf6 : PySem.W.nsIn K dF "top" = some (some (.ref TF6)))
    (l_f6 : K.lookup TF6 = some ⟨.type "tuple", d_f6, .seq #[.str "many" kf6_0, .str "ask" kf6_1] n_f6, s_f6⟩)
    (nf7 : PySem.W.nsIn K dF "shift" = some (some (.ref TF7)))
    (l_f7 : K.lookup TF7 = some ⟨.type "tuple", d_f7, .seq #[.str "by" kf7_0, .str "ask" kf7_1] n_f7, s_f7⟩)
    (nw0 : PySem.W.nsIn K dW "what of tracks" = some (some (.ref TW0)))
    (l_w0 : K.lookup TW0 = some ⟨.type "tuple", d_w0, .seq #[.str "count" kw0_0, .str "sum" kw0_1, .str "least" kw0_2, .str "greatest" kw0_3, .str "mean" kw0_4] n_w0, s_w0⟩)
    (nw1 : PySem.W.nsIn K dW "word of each" = some (some (.ref TW1)))
    (l_w1 : K.lookup TW1 = some ⟨.type "tuple", d_w1, .seq #[.str "plus" kw1_0, .str "minus" kw1_1, .str "times" kw1_2] n_w1, s_w1⟩)
    (nw2 : PySem.W.nsIn K dW "word of both" = some (some (.ref TW2)))
    (l_w2 : K.lookup TW2 = some ⟨.type "tuple", d_w2, .seq #[.str "plus" kw2_0, .str "minus" kw2_1, .str "times" kw2_2, .str "over" kw2_3] n_w2, s_w2⟩)
    (nw3 : PySem.W.nsIn K dW "word of fill" = some (some (.ref TW3)))
    (l_w3 : K.lookup TW3 = some ⟨.type "tuple", d_w3, .seq #[.str "last" kw3_0, .str "straight" kw3_1] n_w3, s_w3⟩)
    (no0 : PySem.W.nsIn K dW "number" = some none)
    (no1 : PySem.W.nsIn K dW "keys" = some none)
    (no2 : PySem.W.nsIn K dW "many" = some none)
    (no3 : PySem.W.nsIn K dW "by" = some none)
    (no4 : PySem.W.nsIn K dW "wishes" = some none)
    (no5 : PySem.W.nsIn K dW "ask" = some none)
    (l_wh : K.lookup TW = some ⟨.type "tuple", d_wh, .seq #[.str "count" kwh_0, .str "sum" kwh_1, .str "least" kwh_2, .str "greatest" kwh_3, .str "first" kwh_4, .str "last" kwh_5, .str "mean" kwh_6, .str "spread" kwh_7, .str "rise" kwh_8, .str "held" kwh_9] n_wh, s_wh⟩)
    : ∃ fd : FuncData, (∀ (s : Shared) (v : Value), BindsTo s fd ⟨[v], []⟩ [("_law_script", v)]) ∧ ∀ base : Heap, K.In base → base.Ns mainGlobals mg → FnG l.prog w K mg base CX0 18 fa fd ["_law_script"] (spScript K) := by
  have e := hfa.symm.trans (PySem.W.mg_of X G a44)
  cases e
  have F1 := fun_mk (st := sIW) l1 c1 k1
  have F2 := fun_mk (st := sRF) l2 c2 k2
  have F3 := fun_mk (st := sRWh) l3 c3 k3
  have F4 := fun_mk (st := sGc) l4 c4 k4
  have F5 := fun_mk (st := sLo) l5 c5 k5
  have F6 := fun_mk (st := sIR) l6 c6 k6
  have F7 := fun_mk (st := sAK) l7 c7 k7
  have F8 := fun_mk (st := sFt) l8 c8 k8
  have F9 := fun_mk (st := sHF) l9 c9 k9
  have F10 := fun_mk (st := sAW) l10 c10 k10
  have F11 := fun_mk (st := sCA) l11 c11 k11
  have F12 := fun_mk (st := sLabel) l12 c12 k12
  have F13 := fun_mk (st := sWish) l13 c13 k13
  have F14 := fun_mk (st := sWished) l14 c14 k14
  have F15 := fun_mk (st := sWh) l15 c15 k15
  have F16 := fun_mk (st := sRT_) l16 c16 k16
  have F17 := fun_mk (st := sRO_) l17 c17 k17
  have F18 := fun_mk (st := sWT) l18 c18 k18
  have F19 := fun_mk (st := sLz) l19 c19 k19
  have F20 := fun_mk (st := sWsT) l20 c20 k20
  have F21 := fun_mk (st := sWO) l21 c21 k21
  have F22 := fun_mk (st := sPT) l22 c22 k22
  have F23 := fun_mk (st := sKO) l23 c23 k23
  have F24 := fun_mk (st := sPO) l24 c24 k24
  have F25 := fun_mk (st := sAT) l25 c25 k25
  have F26 := fun_mk (st := sSP) l26 c26 k26
  have F27 := fun_mk (st := sLA) l27 c27 k27
  have F28 := fun_mk (st := sMB) l28 c28 k28
  have F29 := fun_mk (st := sAO) l29 c29 k29
  have F30 := fun_mk (st := sRA) l30 c30 k30
  have F31 := fun_mk (st := sDraws) l31 c31 k31
  have F32 := fun_mk (st := sNext) l32 c32 k32
  have F33 := fun_mk (st := sLow) l33 c33 k33
  have F34 := fun_mk (st := sLW) l34 c34 k34
  have F35 := fun_mk (st := sLN) l35 c35 k35
  have F36 := fun_mk (st := sLWs) l36 c36 k36
  have F37 := fun_mk (st := sLAk) l37 c37 k37
  have F38 := fun_mk (st := sQT) l38 c38 k38
  have F39 := fun_mk (st := sQs) l39 c39 k39
  have F40 := fun_mk (st := sNT) l40 c40 k40
  have F41 := fun_mk (st := sTx) l41 c41 k41
  have F42 := fun_mk (st := sFF) l42 c42 k42
  have F43 := fun_mk (st := sRi) l43 c43 k43
  have F44 := fun_mk (st := sLaw) l44 c44 k44
  have b1 := F1.binds (ps := ["thing"]) fun _ _ _ _ _ _ us hl => match us, hl with | [_], _ => rfl
  have b2 := F2.binds (ps := ["text", "most"]) fun _ _ _ _ _ _ us hl => match us, hl with | [_, _], _ => rfl
  have b3 := F3.binds (ps := ["text", "most"]) fun _ _ _ _ _ _ us hl => match us, hl with | [_, _], _ => rfl
  have b4 := F4.binds (ps := ["one", "two"]) fun _ _ _ _ _ _ us hl => match us, hl with | [_, _], _ => rfl
  have b5 := F5.binds (ps := ["top", "bottom"]) fun _ _ _ _ _ _ us hl => match us, hl with | [_, _], _ => rfl
  have b6 := F6.binds (ps := ["thing"]) fun _ _ _ _ _ _ us hl => match us, hl with | [_], _ => rfl
  have b7 := F7.binds (ps := ["thing"]) fun _ _ _ _ _ _ us hl => match us, hl with | [_], _ => rfl
  have b8 := F8.binds (ps := ["kind", "part"]) fun _ _ _ _ _ _ us hl => match us, hl with | [_, _], _ => rfl
  have b9 := F9.binds (ps := ["thing"]) fun _ _ _ _ _ _ us hl => match us, hl with | [_], _ => rfl
  have b10 := F10.binds (ps := ["ask"]) fun _ _ _ _ _ _ us hl => match us, hl with | [_], _ => rfl
  have b11 := F11.binds (ps := ["thing"]) fun _ _ _ _ _ _ us hl => match us, hl with | [_], _ => rfl
  have b12 := F12.binds (ps := ["thing"]) fun _ _ _ _ _ _ us hl => match us, hl with | [_], _ => rfl
  have b13 := F13.binds (ps := ["thing"]) fun _ _ _ _ _ _ us hl => match us, hl with | [_], _ => rfl
  have b14 := F14.binds (ps := ["word", "thing"]) fun _ _ _ _ _ _ us hl => match us, hl with | [_, _], _ => rfl
  have b15 := F15.binds (ps := ["text"]) fun _ _ _ _ _ _ us hl => match us, hl with | [_], _ => rfl
  have b16 := F16.binds (ps := ["number"]) fun _ _ _ _ _ _ us hl => match us, hl with | [_], _ => rfl
  have b17 := F17.binds (ps := ["text"]) fun _ _ _ _ _ _ us hl => match us, hl with | [_], _ => rfl
  have b18 := F18.binds (ps := ["wish"]) fun _ _ _ _ _ _ us hl => match us, hl with | [_], _ => rfl
  have b19 := F19.binds (ps := ["text"]) fun _ _ _ _ _ _ us hl => match us, hl with | [_], _ => rfl
  have b20 := F20.binds (ps := ["wishes"]) fun _ _ _ _ _ _ us hl => match us, hl with | [_], _ => rfl
  have b21 := F21.binds (ps := ["text"]) fun _ _ _ _ _ _ us hl => match us, hl with | [_], _ => rfl
  have b22 := F22.binds (ps := ["kind", "part"]) fun _ _ _ _ _ _ us hl => match us, hl with | [_, _], _ => rfl
  have b23 := F23.binds (ps := ["text"]) fun _ _ _ _ _ _ us hl => match us, hl with | [_], _ => rfl
  have b24 := F24.binds (ps := ["kind", "text"]) fun _ _ _ _ _ _ us hl => match us, hl with | [_, _], _ => rfl
  have b25 := F25.binds (ps := ["ask"]) fun _ _ _ _ _ _ us hl => match us, hl with | [_], _ => rfl
  have b26 := F26.binds (ps := ["text"]) fun _ _ _ _ _ _ us hl => match us, hl with | [_], _ => rfl
  have b27 := F27.binds (ps := ["text"]) fun _ _ _ _ _ _ us hl => match us, hl with | [_], _ => rfl
  have b28 := F28.binds (ps := ["text"]) fun _ _ _ _ _ _ us hl => match us, hl with | [_], _ => rfl
  have b29 := F29.binds (ps := ["text"]) fun _ _ _ _ _ _ us hl => match us, hl with | [_], _ => rfl
  have b30 := F30.binds (ps := ["text"]) fun _ _ _ _ _ _ us hl => match us, hl with | [_], _ => rfl
  have b31 := F31.binds (ps := ["_law_cell"]) fun _ _ _ _ _ _ us hl => match us, hl with | [_], _ => rfl
  have b32 := F32.binds (ps := ["_law_draws_here"]) fun _ _ _ _ _ _ us hl => match us, hl with | [_], _ => rfl
  have b33 := F33.binds (ps := ["_law_top", "_law_bottom"]) fun _ _ _ _ _ _ us hl => match us, hl with | [_, _], _ => rfl
  have b34 := F34.binds (ps := ["_law_draws_here"]) fun _ _ _ _ _ _ us hl => match us, hl with | [_], _ => rfl
  have b35 := F35.binds (ps := ["_law_draws_here"]) fun _ _ _ _ _ _ us hl => match us, hl with | [_], _ => rfl
  have b36 := F36.binds (ps := ["_law_draws_here"]) fun _ _ _ _ _ _ us hl => match us, hl with | [_], _ => rfl
  have b37 := F37.binds (ps := ["_law_draws_here", "_law_deep"]) fun _ _ _ _ _ _ us hl => match us, hl with | [_, _], _ => rfl
  have b38 := F38.binds (ps := ["_law_wish_here"]) fun _ _ _ _ _ _ us hl => match us, hl with | [_], _ => rfl
  have b39 := F39.binds (ps := ["_law_wishes_here"]) fun _ _ _ _ _ _ us hl => match us, hl with | [_], _ => rfl
  have b40 := F40.binds (ps := ["_law_number_here"]) fun _ _ _ _ _ _ us hl => match us, hl with | [_], _ => rfl
  have b41 := F41.binds (ps := ["_law_a_ask"]) fun _ _ _ _ _ _ us hl => match us, hl with | [_], _ => rfl
  have b42 := F42.binds (ps := ["_law_a_ask"]) fun _ _ _ _ _ _ us hl => match us, hl with | [_], _ => rfl
  have b43 := F43.binds (ps := ["_law_draws_here"]) fun _ _ _ _ _ _ us hl => match us, hl with | [_], _ => rfl
  have g1 := PySem.W.mg_of X G a1
  have g2 := PySem.W.mg_of X G a2
  have g3 := PySem.W.mg_of X G a3
  have g4 := PySem.W.mg_of X G a4
  have g5 := PySem.W.mg_of X G a5
  have g6 := PySem.W.mg_of X G a6
  have g7 := PySem.W.mg_of X G a7
  have g8 := PySem.W.mg_of X G a8
  have g9 := PySem.W.mg_of X G a9
  have g10 := PySem.W.mg_of X G a10
  have g11 := PySem.W.mg_of X G a11
  have g12 := PySem.W.mg_of X G a12
  have g13 := PySem.W.mg_of X G a13
  have g14 := PySem.W.mg_of X G a14
  have g15 := PySem.W.mg_of X G a15
  have g16 := PySem.W.mg_of X G a16
  have g17 := PySem.W.mg_of X G a17
  have g18 := PySem.W.mg_of X G a18
  have g19 := PySem.W.mg_of X G a19
  have g20 := PySem.W.mg_of X G a20
  have g21 := PySem.W.mg_of X G a21
  have g22 := PySem.W.mg_of X G a22
  have g23 := PySem.W.mg_of X G a23
  have g24 := PySem.W.mg_of X G a24
  have g25 := PySem.W.mg_of X G a25
  have g26 := PySem.W.mg_of X G a26
  have g27 := PySem.W.mg_of X G a27
  have g28 := PySem.W.mg_of X G a28
  have g29 := PySem.W.mg_of X G a29
  have g30 := PySem.W.mg_of X G a30
  have g31 := PySem.W.mg_of X G a31
  have g32 := PySem.W.mg_of X G a32
  have g33 := PySem.W.mg_of X G a33
  have g34 := PySem.W.mg_of X G a34
  have g35 := PySem.W.mg_of X G a35
  have g36 := PySem.W.mg_of X G a36
  have g37 := PySem.W.mg_of X G a37
  have g38 := PySem.W.mg_of X G a38
  have g39 := PySem.W.mg_of X G a39
  have g40 := PySem.W.mg_of X G a40
  have g41 := PySem.W.mg_of X G a41
  have g42 := PySem.W.mg_of X G a42
  have g43 := PySem.W.mg_of X G a43
  have m_range := PySem.W.mg_none_of X G z_range
  have m_len := PySem.W.mg_none_of X G z_len
  have m_all := PySem.W.mg_none_of X G z_all
  have m_str := PySem.W.mg_none_of X G z_str
  have m_int := PySem.W.mg_none_of X G z_int
  have m_tuple := PySem.W.mg_none_of X G z_tuple
  have m_isinstance := PySem.W.mg_none_of X G z_isinstance
  have m_bool := PySem.W.mg_none_of X G z_bool
  have m_set := PySem.W.mg_none_of X G z_set
  have m_max := PySem.W.mg_none_of X G z_max
  have m_abs := PySem.W.mg_none_of X G z_abs
  have m_zip := PySem.W.mg_none_of X G z_zip
  have g_FIGURES := PySem.W.mg_of X G v_FIGURES
  have g_SIGNS := PySem.W.mg_of X G v_SIGNS
  have g_MOST_SIGNS := PySem.W.mg_of X G v_MOST_SIGNS
  have g_MOST_FIGURES := PySem.W.mg_of X G v_MOST_FIGURES
  have g_MOST_BRACKETS := PySem.W.mg_of X G v_MOST_BRACKETS
  have g_NOTHING := PySem.W.mg_of X G v_NOTHING
  have g_NO_WISHES := PySem.W.mg_of X G v_NO_WISHES
  have g_FORMS := PySem.W.mg_of X G v_FORMS
  have g_WORDS := PySem.W.mg_of X G v_WORDS
  have g_WHATS := PySem.W.mg_of X G v_WHATS
  refine ⟨PySem.W.fnOf "law" "law" (defArgs sLaw) (defBody sLaw) (defScope sLaw) .none kV44 dc44 pm44 an44 cd44 ct44, fun s v => .of_eq rfl, fun base _ _ => ?_⟩
  have FT : FormsT K w dF esF nF := ⟨⟨ldF, litdF, lowdF⟩, fun a => by
    cases a with
    | fold x ws => exact ⟨TF0, nf0, fun H => .inr ⟨_, _, _, l_f0, rfl, rfl, (by show 2 ≤ sizeLine; decide), .cons ⟨_, rfl⟩ (.cons ⟨_, rfl⟩ (.nil))⟩⟩
    | by_ x ks a => exact ⟨TF1, nf1, fun H => .inr ⟨_, _, _, l_f1, rfl, rfl, (by show 3 ≤ sizeLine; decide), .cons ⟨_, rfl⟩ (.cons ⟨_, rfl⟩ (.cons ⟨_, rfl⟩ (.nil)))⟩⟩
    | each x a n m => exact ⟨TF2, nf2, fun H => .inr ⟨_, _, _, l_f2, rfl, rfl, (by show 3 ≤ sizeLine; decide), .cons ⟨_, rfl⟩ (.cons ⟨_, rfl⟩ (.cons ⟨_, rfl⟩ (.nil)))⟩⟩
    | both x a b => exact ⟨TF3, nf3, fun H => .inr ⟨_, _, _, l_f3, rfl, rfl, (by show 3 ≤ sizeLine; decide), .cons ⟨_, rfl⟩ (.cons ⟨_, rfl⟩ (.cons ⟨_, rfl⟩ (.nil)))⟩⟩
    | fill x a => exact ⟨TF4, nf4, fun H => .inr ⟨_, _, _, l_f4, rfl, rfl, (by show 2 ≤ sizeLine; decide), .cons ⟨_, rfl⟩ (.cons ⟨_, rfl⟩ (.nil))⟩⟩
    | above a n m => exact ⟨TF5, nf5, fun H => .inr ⟨_, _, _, l_f5, rfl, rfl, (by show 2 ≤ sizeLine; decide), .cons ⟨_, rfl⟩ (.cons ⟨_, rfl⟩ (.nil))⟩⟩
    | top n a => exact ⟨TF6, nf6, fun H => .inr ⟨_, _, _, l_f6, rfl, rfl, (by show 2 ≤ sizeLine; decide), .cons ⟨_, rfl⟩ (.cons ⟨_, rfl⟩ (.nil))⟩⟩
    | shift n a => exact ⟨TF7, nf7, fun H => .inr ⟨_, _, _, l_f7, rfl, rfl, (by show 2 ≤ sizeLine; decide), .cons ⟨_, rfl⟩ (.cons ⟨_, rfl⟩ (.nil))⟩⟩⟩
  have WT : WordsT K w dW esW nW := ⟨⟨ldW, litdW, lowdW⟩, (fun k hk => by
    rcases List.mem_cons.mp hk with rfl | hk
    · exact ⟨TW0, nw0, fun H => .inr ⟨_, _, _, l_w0, rfl, rfl, (by show 5 ≤ sizeLine; decide), by rw [w_tr]; exact .cons ⟨_, rfl⟩ (.cons ⟨_, rfl⟩ (.cons ⟨_, rfl⟩ (.cons ⟨_, rfl⟩ (.cons ⟨_, rfl⟩ (.nil)))))⟩⟩
    rcases List.mem_cons.mp hk with rfl | hk
    · exact ⟨TW1, nw1, fun H => .inr ⟨_, _, _, l_w1, rfl, rfl, (by show 3 ≤ sizeLine; decide), by rw [w_ea]; exact .cons ⟨_, rfl⟩ (.cons ⟨_, rfl⟩ (.cons ⟨_, rfl⟩ (.nil)))⟩⟩
    rcases List.mem_cons.mp hk with rfl | hk
    · exact ⟨TW2, nw2, fun H => .inr ⟨_, _, _, l_w2, rfl, rfl, (by show 4 ≤ sizeLine; decide), by rw [w_bo]; exact .cons ⟨_, rfl⟩ (.cons ⟨_, rfl⟩ (.cons ⟨_, rfl⟩ (.cons ⟨_, rfl⟩ (.nil))))⟩⟩
    rcases List.mem_cons.mp hk with rfl | hk
    · exact ⟨TW3, nw3, fun H => .inr ⟨_, _, _, l_w3, rfl, rfl, (by show 2 ≤ sizeLine; decide), by rw [w_fi]; exact .cons ⟨_, rfl⟩ (.cons ⟨_, rfl⟩ (.nil))⟩⟩
    cases hk), (fun k hk => by
    rcases List.mem_cons.mp hk with rfl | hk
    · exact no0
    rcases List.mem_cons.mp hk with rfl | hk
    · exact no1
    rcases List.mem_cons.mp hk with rfl | hk
    · exact no2
    rcases List.mem_cons.mp hk with rfl | hk
    · exact no3
    rcases List.mem_cons.mp hk with rfl | hk
    · exact no4
    rcases List.mem_cons.mp hk with rfl | hk
    · exact no5
    cases hk)⟩
  have tw : ∀ H, SqT K H TW (whatsL.map V.str) := fun H => .inr ⟨_, _, _, l_wh, rfl, rfl, (by show 10 ≤ sizeLine; decide), .cons ⟨_, rfl⟩ (.cons ⟨_, rfl⟩ (.cons ⟨_, rfl⟩ (.cons ⟨_, rfl⟩ (.cons ⟨_, rfl⟩ (.cons ⟨_, rfl⟩ (.cons ⟨_, rfl⟩ (.cons ⟨_, rfl⟩ (.cons ⟨_, rfl⟩ (.cons ⟨_, rfl⟩ (.nil))))))))))⟩
  have IWh : ∀ j, Cal l.prog w K mg base (j + 1) "is_whole" ["thing"] spIW := fun j => ⟨f1, _, ok_iw F1 m_isinstance m_int m_bool, g1, k1, b1⟩
  have RF_ : ∀ j, Cal l.prog w K mg base (j + 1) "read_figures" ["text", "most"] spRF := fun j => ⟨f2, _, ok_rf F2 m_len m_all m_int g_FIGURES, g2, k2, b2⟩
  have RWh : ∀ j, Cal l.prog w K mg base (j + 2) "read_whole" ["text", "most"] spRWh := fun j => ⟨f3, _, ok_rwh (k := j + 1) F3 (RF_ j), g3, k3, b3⟩
  have WH : ∀ j, Cal l.prog w K mg base (j + 3) "whole_of" ["text"] spWh := fun j => ⟨f15, _, ok_wh (k := j + 2) F15 (RWh j) g_MOST_FIGURES, g15, k15, b15⟩
  have GC : ∀ j, Cal l.prog w K mg base (j + 1) "greatest_common" ["one", "two"] spGc := fun j => ⟨f4, _, ok_gc F4, g4, k4, b4⟩
  have LO : ∀ j, Cal l.prog w K mg base (j + 2) "lowest" ["top", "bottom"] (spLo K) := fun j => ⟨f5, _, ok_lo (k := j + 1) F5 (GC j) m_abs, g5, k5, b5⟩
  have IR : ∀ j, Cal l.prog w K mg base (j + 3) "is_ratio" ["thing"] (spIR K) := fun j => ⟨f6, _, ok_ir (k := j + 2) F6 (IWh (j + 1)) (LO j) m_isinstance m_tuple m_len m_all, g6, k6, b6⟩
  have AK : ∀ j, Cal l.prog w K mg base (j + 1) "are_keys" ["thing"] (spAK K) := fun j => ⟨f7, _, ok_ak F7 m_isinstance m_tuple m_str m_set m_len m_all, g7, k7, b7⟩
  have FI : ∀ j, Cal l.prog w K mg base (j + 4) "fits" ["kind", "part"] (spFt K) := fun j => ⟨f8, _, ok_ft (k := j + 3) F8 WT tw (IR j) (AK (j + 2)) (IWh (j + 2)) g_WHATS g_WORDS, g8, k8, b8⟩
  have HF : ∀ j, Cal l.prog w K mg base (j + 5) "has_form" ["thing"] (spHF K) := fun j => ⟨f9, _, ok_hf (k := j + 4) F9 FT (FI j) m_isinstance m_tuple m_len m_str m_all m_zip g_FORMS, g9, k9, b9⟩
  have AW : ∀ j, Cal l.prog w K mg base (j + 1) "asks_within" ["ask"] (spAW K) := fun j => ⟨f10, _, ok_aw F10 FT m_zip g_FORMS, g10, k10, b10⟩
  have CA : Cal l.prog w K mg base 12 "check_ask" ["thing"] (spCA K 6) := ⟨f11, _, ok_ca (k := 5) F11 (HF 0) (AW 4) g11 k11 b11 6, g11, k11, b11⟩
  have OL : ∀ j, FnOk l.prog w K mg base CX0 (j + 1) f12 _ ["thing"] (spIs (LblV K)) := fun j => ok_label F12 m_isinstance m_str m_len m_all g_SIGNS g_MOST_SIGNS
  have LTx : ∀ j, Cal l.prog w K mg base (j + 1) "is_label_text" ["thing"] (spIs (LblV K)) := fun j => ⟨f12, _, OL j, g12, k12, b12⟩
  have OD : ∀ j, FnOk l.prog w K mg base CX0 (j + 3) f14 _ ["word", "thing"] (spWished K) := fun j => ok_wished (k := j + 1) F14 (OL j) g12 k12 b12 m_isinstance m_tuple m_all
  have IW : ∀ j, Cal l.prog w K mg base (j + 5) "is_wish" ["thing"] (spIs (WshV K)) := fun j => ⟨f13, _, ok_wish (k := j + 3) F13 (OL (j + 2)) g12 k12 b12 (OD j) g14 k14 b14 m_isinstance m_tuple m_len, g13, k13, b13⟩
  have RT_ : ∀ j, Cal l.prog w K mg base (j + 1) "ratio_text" ["number"] (spRT_ K) := fun j => ⟨f16, _, ok_rt_ F16 m_str, g16, k16, b16⟩
  have RO_ : ∀ j, Cal l.prog w K mg base (j + 4) "ratio_of" ["text"] spRO_ := fun j => ⟨f17, _, ok_ro_ (k := j + 3) F17 (WH j) (LO (j + 1)) (RT_ (j + 2)), g17, k17, b17⟩
  have WT_ : ∀ j, Cal l.prog w K mg base (j + 1) "wish_text" ["wish"] (spWT K) := fun j => ⟨f18, _, ok_wt F18, g18, k18, b18⟩
  have LZ : ∀ j, Cal l.prog w K mg base (j + 1) "loose_wish" ["text"] (spLz K) := fun j => ⟨f19, _, ok_lz F19 m_tuple, g19, k19, b19⟩
  have WS : ∀ j, Cal l.prog w K mg base (j + 2) "wishes_text" ["wishes"] (spWsT K) := fun j => ⟨f20, _, ok_wst (k := j + 1) F20 (WT_ j) g_NO_WISHES, g20, k20, b20⟩
  have WO_ : ∀ j, Cal l.prog w K mg base (j + 6) "wishes_of" ["text"] (spWsO K) := fun j => ⟨f21, _, ok_wso (k := j + 5) F21 (LZ (j + 4)) (IW j) m_all g_NO_WISHES, g21, k21, b21⟩
  have PT : ∀ j, Cal l.prog w K mg base (j + 3) "part_text" ["kind", "part"] (spPT K) := fun j => ⟨f22, _, ok_pt (k := j + 2) F22 (WS j) (RT_ (j + 1)) m_str g_NOTHING, g22, k22, b22⟩
  have KO : ∀ j, Cal l.prog w K mg base (j + 2) "keys_of" ["text"] spKO := fun j => ⟨f23, _, ok_ko (k := j + 1) F23 (LTx j) m_tuple m_all g_NOTHING, g23, k23, b23⟩
  have PO : ∀ j, Cal l.prog w K mg base (j + 7) "part_of" ["kind", "text"] (spPO K) := fun j => ⟨f24, _, ok_po (k := j + 6) F24 (WO_ j) (KO (j + 4)) (RO_ (j + 2)) (WH (j + 3)), g24, k24, b24⟩
  have OAT : FnOk l.prog w K mg base CX0 10 f25 _ ["ask"] (spAT K 6) := ok_at (k := 3) F25 FT (PT 0) m_zip g_FORMS g25 k25 b25 6
  have AT : Cal l.prog w K mg base 16 "ask_text" ["ask"] (spAT K 6) := Cal.up (j := 10) ⟨f25, _, OAT, g25, k25, b25⟩ (by decide)
  have ATK : CalK l.prog w K mg base 16 "ask_text" ["ask"] ["ask"] [0] (spAT K 6) := ⟨f25, _, OAT.mono (by decide), g25, k25, kk_at F25⟩
  have SP_ : ∀ j, Cal l.prog w K mg base (j + 1) "split_parts" ["text"] spSP := fun j => ⟨f26, _, ok_sp F26, g26, k26, b26⟩
  have MB : ∀ j, Cal l.prog w K mg base (j + 1) "most_brackets" ["text"] spMB := fun j => ⟨f28, _, ok_mb F28 m_max, g28, k28, b28⟩
  have LA_ : Cal l.prog w K mg base 14 "loose_ask" ["text"] (spLA K 6) := ⟨f27, _, ok_la (k := 7) F27 FT (SP_ 6) (PO 0) m_zip m_len m_tuple g_FORMS g27 k27 b27 6, g27, k27, b27⟩
  have AO_ : Cal l.prog w K mg base 15 "ask_of" ["text"] (spRA K) := ⟨f29, _, ok_ao (k := 14) F29 (MB 13) LA_ (Cal.up CA (by decide)) g_MOST_BRACKETS, g29, k29, b29⟩
  have ORA : FnOk l.prog w K mg base CX0 16 f30 _ ["text"] (spRA K) := ok_ra (k := 15) F30 AO_
  have RA_ : Cal l.prog w K mg base 16 "read_ask" ["text"] (spRA K) := ⟨f30, _, ORA, g30, k30, b30⟩
  have RAK : CalK l.prog w K mg base 16 "read_ask" ["text"] ["text"] [0] (spRA K) := ⟨f30, _, ORA, g30, k30, kk_ra F30⟩
  have NX : ∀ j, Cal l.prog w K mg base (j + 1) "_law_next" ["_law_draws_here"] spNext := fun j => ⟨f32, _, ok_next F32, g32, k32, b32⟩
  have LW_ : ∀ j, Cal l.prog w K mg base (j + 1) "_law_low" ["_law_top", "_law_bottom"] (spLo K) := fun j => ⟨f33, _, ok_low F33 m_abs, g33, k33, b33⟩
  have LWi : ∀ j, Cal l.prog w K mg base (j + 2) "_law_wish" ["_law_draws_here"] (spLW K) := fun j => ⟨f34, _, ok_lw (k := j + 1) F34 (NX j), g34, k34, b34⟩
  have LNu : ∀ j, Cal l.prog w K mg base (j + 2) "_law_number" ["_law_draws_here"] spLN := fun j => ⟨f35, _, ok_ln (k := j + 1) F35 (NX j) (LW_ j), g35, k35, b35⟩
  have LWs : ∀ j, Cal l.prog w K mg base (j + 3) "_law_wishes" ["_law_draws_here"] (spLWs K) := fun j => ⟨f36, _, ok_lws (k := j + 2) F36 (NX (j + 1)) (LWi j) m_range, g36, k36, b36⟩
  have LAk : Cal l.prog w K mg base 10 "_law_ask" ["_law_draws_here", "_law_deep"] (spAk K 6) := ⟨f37, _, ok_akL (k := 3) F37 (NX 2) (LWs 0) (LNu 1) g37 k37 b37 6, g37, k37, b37⟩
  have QT : ∀ j, Cal l.prog w K mg base (j + 1) "_law_wish_text" ["_law_wish_here"] (spWT K) := fun j => ⟨f38, _, ok_qt F38 m_int, g38, k38, b38⟩
  have QS : ∀ j, Cal l.prog w K mg base (j + 2) "_law_wishes_text" ["_law_wishes_here"] (spWsT K) := fun j => ⟨f39, _, ok_qs (k := j + 1) F39 (QT j) m_int, g39, k39, b39⟩
  have NT : ∀ j, Cal l.prog w K mg base (j + 1) "_law_number_text" ["_law_number_here"] (spRT_ K) := fun j => ⟨f40, _, ok_nt F40 m_str m_int, g40, k40, b40⟩
  have TX : Cal l.prog w K mg base 9 "_law_ask_text" ["_law_a_ask"] (spAT K 6) := ⟨f41, _, ok_tx (k := 2) F41 (QS 0) (NT 1) m_str m_int g41 k41 b41 6, g41, k41, b41⟩
  have FF : ∀ j, Cal l.prog w K mg base (j + 1) "_law_first_fold" ["_law_a_ask"] (spFF K) := fun j => ⟨f42, _, ok_ff F42, g42, k42, b42⟩
  have RR : CalG l.prog w K mg base 17 "_law_right" ["_law_draws_here"] spRi := ⟨f43, _, ok_ri (k := 16) F43 (Cal.up LAk (by decide)) (Cal.up TX (by decide)) (FF 15) AT ATK RA_ RAK (by decide) m_str m_isinstance m_tuple, g43, k43, b43⟩
  exact ok_law (k := 17) F44 ⟨f31, _, ok_draws (k := 16) F31 m_range, g31, k31, b31⟩ RR m_range
end Tg
open PySem PySem.W PyProof.Rows
set_option maxRecDepth 100000 in
set_option maxHeartbeats 0 in
theorem PySem.Challenge.cw_timegranary_k86_asks_written_holds : PySem.Challenge.rw_timegranary_k86_asks_written.Holds := by
  w_on; o_law; k_head; (case hw => w_witness2)
  k_fill
  refine Tg.walk_g (l := PySem.Challenge.rw_timegranary_k86_asks_written) (k := 18) (x := "_law_script") rfl rfl ⟨rfl, by decide, by decide⟩ (fun w h Y => PySem.W.kIn_of Y) ?F
  case F =>
    intro w mg fa h KX G hmg
    refine' Tg.all_mk KX G hmg ?a1 ?l1 ?c1 ?k1 ?a2 ?l2 ?c2 ?k2 ?a3 ?l3 ?c3 ?k3 ?a4 ?l4 ?c4 ?k4 ?a5 ?l5 ?c5 ?k5 ?a6 ?l6 ?c6 ?k6 ?a7 ?l7 ?c7 ?k7 ?a8 ?l8 ?c8 ?k8 ?a9 ?l9 ?c9 ?k9 ?a10 ?l10 ?c10 ?k10 ?a11 ?l11 ?c11 ?k11 ?a12 ?l12 ?c12 ?k12 ?a13 ?l13 ?c13 ?k13 ?a14 ?l14 ?c14 ?k14 ?a15 ?l15 ?c15 ?k15 ?a16 ?l16 ?c16 ?k16 ?a17 ?l17 ?c17 ?k17 ?a18 ?l18 ?c18 ?k18 ?a19 ?l19 ?c19 ?k19 ?a20 ?l20 ?c20 ?k20 ?a21 ?l21 ?c21 ?k21 ?a22 ?l22 ?c22 ?k22 ?a23 ?l23 ?c23 ?k23 ?a24 ?l24 ?c24 ?k24 ?a25 ?l25 ?c25 ?k25 ?a26 ?l26 ?c26 ?k26 ?a27 ?l27 ?c27 ?k27 ?a28 ?l28 ?c28 ?k28 ?a29 ?l29 ?c29 ?k29 ?a30 ?l30 ?c30 ?k30 ?a31 ?l31 ?c31 ?k31 ?a32 ?l32 ?c32 ?k32 ?a33 ?l33 ?c33 ?k33 ?a34 ?l34 ?c34 ?k34 ?a35 ?l35 ?c35 ?k35 ?a36 ?l36 ?c36 ?k36 ?a37 ?l37 ?c37 ?k37 ?a38 ?l38 ?c38 ?k38 ?a39 ?l39 ?c39 ?k39 ?a40 ?l40 ?c40 ?k40 ?a41 ?l41 ?c41 ?k41 ?a42 ?l42 ?c42 ?k42 ?a43 ?l43 ?c43 ?k43 ?a44 ?l44 ?c44 ?k44 ?z_range ?z_len ?z_all ?z_str ?z_int ?z_tuple ?z_isinstance ?z_bool ?z_set ?z_max ?z_abs ?z_zip ?v_FIGURES ?v_SIGNS ?v_MOST_SIGNS ?v_MOST_FIGURES ?v_MOST_BRACKETS ?v_NOTHING ?v_NO_WISHES ?v_FORMS ?v_WORDS ?v_WHATS ?ldF ?litdF ?lowdF ?ldW ?litdW ?lowdW ?nf0 ?l_f0 ?nf1 ?l_f1 ?nf2 ?l_f2 ?nf3 ?l_f3 ?nf4 ?l_f4 ?nf5 ?l_f5 ?nf6 ?l_f6 ?nf7 ?l_f7 ?nw0 ?l_w0 ?nw1 ?l_w1 ?nw2 ?l_w2 ?nw3 ?l_w3 ?no0 ?no1 ?no2 ?no3 ?no4 ?no5 ?l_wh
    (case a1 => k_is); (case l1 => k_is); (case c1 => k_is); (case k1 => k_is); (case a2 => k_is); (case l2 => k_is)
    (case c2 => k_is); (case k2 => k_is); (case a3 => k_is); (case l3 => k_is); (case c3 => k_is); (case k3 => k_is)
    (case a4 => k_is); (case l4 => k_is); (case c4 => k_is); (case k4 => k_is); (case a5 => k_is); (case l5 => k_is)
    (case c5 => k_is); (case k5 => k_is); (case a6 => k_is); (case l6 => k_is); (case c6 => k_is); (case k6 => k_is)
    (case a7 => k_is); (case l7 => k_is); (case c7 => k_is); (case k7 => k_is); (case a8 => k_is); (case l8 => k_is)
    (case c8 => k_is); (case k8 => k_is); (case a9 => k_is); (case l9 => k_is); (case c9 => k_is); (case k9 => k_is)
    (case a10 => k_is); (case l10 => k_is); (case c10 => k_is); (case k10 => k_is); (case a11 => k_is); (case l11 => k_is)
    (case c11 => k_is); (case k11 => k_is); (case a12 => k_is); (case l12 => k_is); (case c12 => k_is); (case k12 => k_is)
    (case a13 => k_is); (case l13 => k_is); (case c13 => k_is); (case k13 => k_is); (case a14 => k_is); (case l14 => k_is)
    (case c14 => k_is); (case k14 => k_is); (case a15 => k_is); (case l15 => k_is); (case c15 => k_is); (case k15 => k_is)
    (case a16 => k_is); (case l16 => k_is); (case c16 => k_is); (case k16 => k_is); (case a17 => k_is); (case l17 => k_is)
    (case c17 => k_is); (case k17 => k_is); (case a18 => k_is); (case l18 => k_is); (case c18 => k_is); (case k18 => k_is)
    (case a19 => k_is); (case l19 => k_is); (case c19 => k_is); (case k19 => k_is); (case a20 => k_is); (case l20 => k_is)
    (case c20 => k_is); (case k20 => k_is); (case a21 => k_is); (case l21 => k_is); (case c21 => k_is); (case k21 => k_is)
    (case a22 => k_is); (case l22 => k_is); (case c22 => k_is); (case k22 => k_is); (case a23 => k_is); (case l23 => k_is)
    (case c23 => k_is); (case k23 => k_is); (case a24 => k_is); (case l24 => k_is); (case c24 => k_is); (case k24 => k_is)
    (case a25 => k_is); (case l25 => k_is); (case c25 => k_is); (case k25 => k_is); (case a26 => k_is); (case l26 => k_is)
    (case c26 => k_is); (case k26 => k_is); (case a27 => k_is); (case l27 => k_is); (case c27 => k_is); (case k27 => k_is)
    (case a28 => k_is); (case l28 => k_is); (case c28 => k_is); (case k28 => k_is); (case a29 => k_is); (case l29 => k_is)
    (case c29 => k_is); (case k29 => k_is); (case a30 => k_is); (case l30 => k_is); (case c30 => k_is); (case k30 => k_is)
    (case a31 => k_is); (case l31 => k_is); (case c31 => k_is); (case k31 => k_is); (case a32 => k_is); (case l32 => k_is)
    (case c32 => k_is); (case k32 => k_is); (case a33 => k_is); (case l33 => k_is); (case c33 => k_is); (case k33 => k_is)
    (case a34 => k_is); (case l34 => k_is); (case c34 => k_is); (case k34 => k_is); (case a35 => k_is); (case l35 => k_is)
    (case c35 => k_is); (case k35 => k_is); (case a36 => k_is); (case l36 => k_is); (case c36 => k_is); (case k36 => k_is)
    (case a37 => k_is); (case l37 => k_is); (case c37 => k_is); (case k37 => k_is); (case a38 => k_is); (case l38 => k_is)
    (case c38 => k_is); (case k38 => k_is); (case a39 => k_is); (case l39 => k_is); (case c39 => k_is); (case k39 => k_is)
    (case a40 => k_is); (case l40 => k_is); (case c40 => k_is); (case k40 => k_is); (case a41 => k_is); (case l41 => k_is)
    (case c41 => k_is); (case k41 => k_is); (case a42 => k_is); (case l42 => k_is); (case c42 => k_is); (case k42 => k_is)
    (case a43 => k_is); (case l43 => k_is); (case c43 => k_is); (case k43 => k_is); (case a44 => k_is); (case l44 => k_is)
    (case c44 => k_is); (case k44 => k_is); (case z_range => k_is); (case z_len => k_is); (case z_all => k_is); (case z_str => k_is)
    (case z_int => k_is); (case z_tuple => k_is); (case z_isinstance => k_is); (case z_bool => k_is); (case z_set => k_is); (case z_max => k_is)
    (case z_abs => k_is); (case z_zip => k_is); (case v_FIGURES => k_is); (case v_SIGNS => k_is); (case v_MOST_SIGNS => k_is); (case v_MOST_FIGURES => k_is)
    (case v_MOST_BRACKETS => k_is); (case v_NOTHING => k_is); (case v_NO_WISHES => k_is); (case v_FORMS => k_is); (case v_WORDS => k_is); (case v_WHATS => k_is)
    (case ldF => k_is); (case litdF => exact ⟨⟨_, _, rfl, rfl⟩, ⟨_, _, rfl, rfl⟩, ⟨_, _, rfl, rfl⟩, ⟨_, _, rfl, rfl⟩, ⟨_, _, rfl, rfl⟩, ⟨_, _, rfl, rfl⟩, ⟨_, _, rfl, rfl⟩, ⟨_, _, rfl, rfl⟩, trivial⟩); (case lowdF => first | decide | rfl); (case ldW => k_is); (case litdW => exact ⟨⟨_, _, rfl, rfl⟩, ⟨_, _, rfl, rfl⟩, ⟨_, _, rfl, rfl⟩, ⟨_, _, rfl, rfl⟩, trivial⟩); (case lowdW => first | decide | rfl)
    (case nf0 => k_is); (case l_f0 => k_is); (case nf1 => k_is); (case l_f1 => k_is); (case nf2 => k_is); (case l_f2 => k_is)
    (case nf3 => k_is); (case l_f3 => k_is); (case nf4 => k_is); (case l_f4 => k_is); (case nf5 => k_is); (case l_f5 => k_is)
    (case nf6 => k_is); (case l_f6 => k_is); (case nf7 => k_is); (case l_f7 => k_is); (case nw0 => k_is); (case l_w0 => k_is)
    (case nw1 => k_is); (case l_w1 => k_is); (case nw2 => k_is); (case l_w2 => k_is); (case nw3 => k_is); (case l_w3 => k_is)
    (case no0 => k_is); (case no1 => k_is); (case no2 => k_is); (case no3 => k_is); (case no4 => k_is); (case no5 => k_is)
    (case l_wh => k_is)

