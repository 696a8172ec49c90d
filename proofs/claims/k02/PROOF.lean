import PyProof.Rows.All
import Wide.All
import OpenK.AllK
import Wide.FinOn
import HandS.ForMost
import HandS.Conv
import HandS.Wide
import HandS.IsInst
import HandS.Defaults
import PySem.Challenge.RW_timegranary_k02_tidy_lists
import PyProof.ReprRoads
import HandS.SortRule
import HandS.Style
import PyProof.Rows.ReprShort
import PyProof.Rows.RegFStrParts
set_option Elab.async false
set_option linter.all false
set_option maxRecDepth 100000
namespace Tg
open PySem PySem.Spec PyProof.Rows L2

/-! ### rules of my own: a call by keywords alone; list(range(a, b, c)) -/
section
variable {X : Cx} {CX : CXT} {k : Nat} {f : Addr} {fd : FuncData} {ps ks : List Str} {sp : Sp} {E : XK} {x : Str} {p pos : Pos} {kws : List Keyword} {tk : TA}
  {g : List Value → List Value → List Value} {gV : List V → List V → List V}
def tKw0 (n : Nat) (sp : Sp) (gV : List V → List V → List V) (E : XK) (tk : TA) : TE :=
  fun σ H Q => tk σ H fun zs H2 => zs.length = n ∧ sp (gV [] zs) H2 Q E
theorem pe_kw0 (F : FnOk X.prog X.w X.K X.mg X.base CX k f fd ps sp) (room : Room k X.A) (gl : Gl X x) (at_x : X.mg x = some (.ref f)) (kept : PySem.W.keepIn X.K (.ref f) = true) (binds : KBn X.K fd ps 0 ks g gV) (lets : Passes CX X E) (vals : PK X kws tk)
    (named : (backToKw pos (keywordEach kws X.env)).all (·.1.isSome) = true := by rfl) (names : (backToKw pos (keywordEach kws X.env)).filterMap (·.1) = ks := by rfl) (nodebug : (x == ("__debug__" : Str)) = false := by decide)
    (nostar : ((backTo pos (starEach [] X.env)).any (·.1) || (backToKw pos (keywordEach kws X.env)).any (·.1.isNone)) = false := by rfl) : PE X (.Call (.Name x p) [] kws pos) (tKw0 ks.length sp gV E tk) := by
  constructor
  intro pins s σ H Q I read
  refine wpAny_Call_Name_kw (ld_glob I gl at_x (PySem.W.callWith_KW0 (h₀ := X.base) I.ok.mod.kin kept named (thn (vals.run pos pins s σ H _ I read) fun ws s2 y => ?_) nostar) nodebug)
  obtain ⟨zs, H2, J, rel, many, h⟩ := y
  rw [names]
  exact ⟨J.kIn, run_fnN (us := []) (vs := []) F room binds lets J .nil rel rfl many h⟩
end

/-- two keywords, the second parameter's first -/
def sw2 {α : Type} : List α → List α
  | [y, x] => [x, y]
  | _ => []
/-- three keywords, the parameters' from the last on -/
def sw3 {α : Type} : List α → List α
  | [z, y, x] => [x, y, z]
  | _ => []
theorem sw2_rel : ∀ {zs : List V} {ws : List Value}, Vals zs ws → Vals (sw2 zs) (sw2 ws)
  | _, _, .nil => .nil
  | _, _, .cons _ .nil => .nil
  | _, _, .cons a (.cons b .nil) => .cons b (.cons a .nil)
  | _, _, .cons _ (.cons _ (.cons _ _)) => .nil
theorem sw3_rel : ∀ {zs : List V} {ws : List Value}, Vals zs ws → Vals (sw3 zs) (sw3 ws)
  | _, _, .nil => .nil
  | _, _, .cons _ .nil => .nil
  | _, _, .cons _ (.cons _ .nil) => .nil
  | _, _, .cons a (.cons b (.cons c .nil)) => .cons c (.cons b (.cons a .nil))
  | _, _, .cons _ (.cons _ (.cons _ (.cons _ _))) => .nil

section
variable {X : Cx} {a b c : Expr} {ta : TA}
def rg3 (a c : Int) (n : Nat) : List V := (List.range n).map fun i => V.int (a + (i : Nat) * c)
theorem rg3_length (a c : Int) (n : Nat) : (rg3 a c n).length = n := by
  simp [rg3]
def R3 (a b c : Int) (n : Nat) : Prop :=
  c ≠ 0 ∧ c.natAbs.log2 < 9000 ∧ Builtin.Range.small a b c = true ∧ Builtin.Range.rangeSize a b c = n ∧ n ≤ 2 ^ 24
def tLst3 (ta : TA) : TE := fun σ H Q => ta σ H fun vs H1 => ∃ (a b c : Int) (n : Nat), vs = [.int a, .int b, .int c] ∧ R3 a b c n ∧
  ∀ q, H1 q = none → Q (.ref q) (upd H1 q (.lst (rg3 a c n)))
theorem pe_lst3 {p p2 pos pos2 : Pos} (calm : X.calm = true) (gl : Gl X "list") (nl : X.mg "list" = none) (gr : Gl X "range") (nr : X.mg "range" = none) (args : PA X [a, b, c] ta)
    (one : starEach [a, b, c] X.env = (false, eval a X.env) :: starEach [b, c] X.env := by rfl) (nostar : (backTo pos2 (starEach [b, c] X.env)).any (·.1) = false := by rfl)
    (whole : starEach [.Call (.Name "range" p2) [a, b, c] [] pos2] X.env = (false, eval (.Call (.Name "range" p2) [a, b, c] [] pos2) X.env) :: starEach [] X.env := by rfl) :
    PE X (.Call (.Name "list" p) [.Call (.Name "range" p2) [a, b, c] [] pos2] [] pos) (tLst3 ta) := by
  constructor
  intro pins s σ H Q I read
  refine Call_ (ld_blt I gl nl boot_list (PyProof.Rows.callWith_type1 (args_cons (Call_ (ld_blt I gr nr boot_range (PyProof.Rows.callWith_type1 (thn (args.run pos2 pins s σ H _ I read) fun us s1 y => ?_) one nostar))) whole) whole))
  obtain ⟨zs, H1, J, rel, i, j, k, n, e, ⟨c0, c1, c2, c3, c4⟩, h⟩ := y
  subst e
  match us, rel with
  | [_, _, _], .cons ⟨t, ei⟩ (.cons ⟨u, ej⟩ (.cons ⟨v, ek⟩ .nil)) =>
    subst ei
    subst ej
    subst ek
    refine call_range_3 c0 (args_nil ?_) (.inl (PyProof.noPylong_of_log2 c1))
    obtain ⟨hx, ehx⟩ : ∃ hx, hx = s1.heap.push { cls := .type "range", data := .fields #[.int i t, .int j u, .int k v] } := ⟨_, rfl⟩
    have J2 : Inv X pins σ H1 { s1 with heap := hx } := by
      rw [ehx]
      exact J.kept (t' := s1.toks) fun _ _ z => Heap.get?_push_of_some _ z
    rw [← ehx]
    refine call_list_range (s := { s1 with heap := hx }) (n := n) (J2.ok.hd calm) (by rw [ehx]; exact IsRange.new ..) c2 c3 c4 fun h' tk acc cc kp made items => ?_
    have len : acc.toList.length = n := Array.length_toList.trans items.1
    have vals : Vals (rg3 i k n) acc.toList := by
      have z := vals_of_get acc.toList (fun m : Nat => V.int (i + m * k)) fun m w hw => by
        obtain ⟨tw, ew⟩ := items.2 m w (by rw [← hw, Array.getElem?_toList])
        exact ⟨tw, ew⟩
      rw [len] at z
      exact z
    refine ⟨.ref hx.objs.size, upd H1 hx.objs.size (.lst (rg3 i k n)), J2.laid kp (Nat.le_refl _) (show ObjOk X.prog X.w _ _ _ (.lst (rg3 i k n)) from ⟨?_, acc.toList, cc, vals, ?_⟩), rfl, h _ (J2.hok.fresh (Nat.le_refl _))⟩
    · rw [rg3_length, sizeLine_eq]
      omega
    · rw [Array.toArray_toList]
      exact made
end

/-! ### lists of ints, compared -/
theorem dp_ints {K : PySem.W.Frag} {H : Hp} : ∀ ns : List Int, DpAll K H (ns.map V.int) (ns.map PyData.int)
  | [] => .nil
  | n :: r => .cons (.int n) (dp_ints r)
theorem lay_ints : ∀ ns : List Int, PyData.canLayAll0 (ns.map PyData.int) = true
  | [] => rfl
  | n :: r => by
    show (true && PyData.canLayAll0 (r.map PyData.int)) = true
    rw [lay_ints r]
    rfl
theorem depth_ints : ∀ ns : List Int, PyData.depthAll (ns.map PyData.int) = 0
  | [] => rfl
  | n :: r => by
    show max 0 (PyData.depthAll (r.map PyData.int)) = 0
    rw [depth_ints r]
    rfl
theorem shaped_ints (ns : List Int) : SeqAt.shaped (.list (ns.map PyData.int)) = true := by
  unfold SeqAt.shaped
  have h1 : PyData.canLay0 (.list (ns.map PyData.int)) = true := lay_ints ns
  have h2 : PyData.depth (.list (ns.map PyData.int)) = 1 := by
    show PyData.depthAll (ns.map PyData.int) + 1 = 1
    rw [depth_ints]
  rw [h1, h2]
  rfl
theorem eqv_ints : ∀ ns : List Int, PyData.eqvAll (ns.map PyData.int) (ns.map PyData.int) = true
  | [] => rfl
  | n :: r => by
    show ((n == n) && PyData.eqvAll (r.map PyData.int) (r.map PyData.int)) = true
    rw [eqv_ints r, beq_self_eq_true]
    rfl
theorem dp_lst {K : PySem.W.Frag} {H : Hp} {a : Addr} {ns : List Int} (h : SqL K H a (ns.map V.int)) : Dp K H (.ref a) (.list (ns.map PyData.int)) := .lst h (dp_ints ns)
end Tg

namespace Tg
open PySem PySem.Spec PyProof.Rows L2
/-! ### the text -/
def topS (i : Nat) : Stmt := PySem.Challenge.pw_timegranary_k02_tidy_lists.main.body.getD i (.Pass ⟨0, 0, 0, 0⟩)
abbrev sTidy : Stmt := topS 1
abbrev sJoined : Stmt := topS 2
abbrev sMet : Stmt := topS 3
abbrev sLess : Stmt := topS 4
abbrev sGaps : Stmt := topS 5
abbrev sDraws : Stmt := topS 7
abbrev sNext : Stmt := topS 8
abbrev sList : Stmt := topS 9
abbrev sHas : Stmt := topS 10
abbrev sTimes : Stmt := topS 11
abbrev sLTidy : Stmt := topS 12
abbrev sRight : Stmt := topS 13
abbrev sLaw : Stmt := topS 14
theorem scDraws : FnScope ["_law_cell", "_law_cut", "_law_k"] ["_law_cell"] (defScope sDraws) := ⟨rfl, rfl, rfl, by decide +kernel, rfl, by decide +kernel, by decide +kernel⟩
theorem scNext : FnScope ["_law_draws_here", "_law_k", "_law_number"] ["_law_draws_here"] (defScope sNext) := ⟨rfl, rfl, rfl, by decide +kernel, rfl, by decide +kernel, by decide +kernel⟩
section
variable {P : Program} {w : World} {K : PySem.W.Frag} {mg : Str → Option Value} {base : Heap}
/-! ### _law_draws -/
/-- the draws at p, of which at most n were taken -/
def Dr (H : Hp) (p : Addr) (n : Nat) : Prop := ∃ (a k : Int) (b : Bool), H p = some (.lst [.int a, .int k, .bl b]) ∧ 0 ≤ k ∧ k ≤ n
/-- all but p stands as it stood -/
def Kp (p : Addr) (H H' : Hp) : Prop := ∀ b o, b ≠ p → H b = some o → H' b = some o
theorem Kp.refl (p : Addr) (H : Hp) : Kp p H H := fun _ _ _ h => h
theorem Kp.trans {p : Addr} {H H1 H2 : Hp} (a : Kp p H H1) (b : Kp p H1 H2) : Kp p H H2 := fun c o hc h => b c o hc (a c o hc h)
theorem Kp.of {p : Addr} {H H' : Hp} (s : Same H H') : Kp p H H' := fun c o _ h => s c o h
theorem Kp.put {p : Addr} {H : Hp} {o : HO} : Kp p H (upd H p o) := fun c u hc h => by
  rw [upd_ne hc]
  exact h
theorem Dr.same {H H' : Hp} {p : Addr} {n : Nat} (s : Same H H') (d : Dr H p n) : Dr H' p n := by
  obtain ⟨a, k, b, h, r⟩ := d
  exact ⟨a, k, b, s _ _ h, r⟩
theorem Dr.ne {H : Hp} {p l : Addr} {n : Nat} (d : Dr H p n) (h : H l = none) : l ≠ p := fun z => by
  obtain ⟨_, _, _, z2, _⟩ := d
  rw [z, z2] at h
  cases h
theorem same_new {H : Hp} {p : Addr} {o : HO} (h : H p = none) : Same H (upd H p o) := fun b x e => by
  rw [upd_ne (ne_of_none e h)]
  exact e
def spDraws : Sp := fun vs H Q _ => ∃ c : Int, vs = [.int c] ∧ ∀ (p : Addr) (a : Int) (b : Bool), H p = none → Q (.ref p) (upd H p (.lst [.int a, .int 0, .bl b]))
theorem ok_draws {f : Addr} {fd : FuncData} {k : Nat} (F : Fun K "_law_draws" "_law_draws" sDraws f fd) (mr : mg "range" = none) : FnOk P w K mg base CX0 (k + 1) f fd ["_law_cell"] spDraws := by
  refine F.ok scDraws (fun vs H Q E h => ?_) (fun cdv A outer s H vs Q E hr h => ?_)
  · obtain ⟨c, rfl, _⟩ := h
    rfl
  · obtain ⟨c, rfl, q⟩ := h
    refine ⟨_, pss_cons (ps_set (i := 1) scDraws.nd rfl (.inl rfl) (pe_op op_pow pe_int pe_int))
      (pss_cons (ps_for PassesOwn.never rfl (pi_range1 (by rfl) mr (pa_cons pe_int pa_nil)) (pg_name (i := 2) scDraws.nd rfl (.inl rfl))
        (pss_one (ps_set (i := 1) scDraws.nd rfl (.inl rfl) (pe_op op_mulW (pv 1) (pv 1)))))
      (pss_one (ps_ret (pe_lst (pa_cons (pe_op op_mod (pv 0) (pv 1)) (pa_cons pe_int (pa_cons (pe_cmpR op_ge (pv 0) (pe_op op_pow pe_int pe_int) (nomark _)) pa_nil))))))), ?_⟩
    refine ⟨10, 60, rfl, rfl, ⟨by decide, by decide, by decide⟩, ?_⟩
    refine ⟨7, rfl, by decide, by decide, for_range (n := 7) (fun i σ H2 => ∃ (x : Int) (y : Option V), σ = [some (.int c), some (.int x), y] ∧ H2 = H ∧ 0 < x ∧ x.natAbs < 2 ^ (200 * 2 ^ i)) ?_ ?_ ?_⟩
    · exact ⟨_, none, rfl, rfl, by decide, by decide⟩
    · rintro i σ H2 hi ⟨x, y, rfl, rfl, hx, hb⟩
      refine ⟨_, rfl, _, rfl, x, x, rfl, rfl, ?_, x * x, _, rfl, rfl, Int.mul_pos hx hx, ?_⟩
      · have h7 : 2 ^ i ≤ 2 ^ 6 := Nat.pow_le_pow_right (by decide) (by omega)
        have h0 : 0 < 2 ^ i := Nat.pow_pos (by decide)
        exact wide_mul hb hb (by omega) (by omega) (by omega)
      · have e := wide_lt hb hb
        rw [show 200 * 2 ^ (i + 1) = 200 * 2 ^ i + 200 * 2 ^ i by rw [Nat.pow_succ]; omega]
        exact e
    · rintro σ H2 ⟨x, y, rfl, rfl, hx, _⟩
      refine ⟨_, rfl, _, rfl, c, x, rfl, rfl, hx, _, rfl, 10, 18, rfl, rfl, ⟨by decide, by decide, by decide⟩, c, _, rfl, rfl, ?_, fun p hp => ?_⟩
      · show 3 ≤ sizeLine
        decide
      · exact q p _ _ hp
/-! ### _law_next -/
def spNext : Sp := fun vs H Q _ => ∃ (p : Addr) (n : Nat), vs = [.ref p] ∧ Dr H p n ∧ n < 1000000 ∧
  ∀ (v : Int) (H' : Hp), Kp p H H' → Dr H' p (n + 1) → 0 ≤ v → v < 1000000000 → Q (.int v) H'
theorem ok_next {f : Addr} {fd : FuncData} {k : Nat} (F : Fun K "_law_next" "_law_next" sNext f fd) : FnOk P w K mg base CX0 (k + 1) f fd ["_law_draws_here"] spNext := by
  refine F.ok scNext (fun vs H Q E h => ?_) (fun cdv A outer s H vs Q E hr h => ?_)
  · obtain ⟨p, n, rfl, _⟩ := h
    rfl
  · obtain ⟨p, n, rfl, ⟨a, k, b, hp, k0, kn⟩, hn, q⟩ := h
    refine ⟨_, pss_cons (ps_asg (pe_op op_add (pe_ix ix_list (pv 0) pe_int (fun _ _ => rfl)) pe_int) (pg_sub (pv 0) pe_int set_list))
      (pss_cons (ps_set (i := 1) scNext.nd rfl (.inl rfl) (pe_ix ix_list (pv 0) pe_int (fun _ _ => rfl)))
      (pss_cons (ps_if (pt_val (pe_ix ix_list (pv 0) pe_int (fun _ _ => rfl)))
        (pss_cons (ps_set (i := 2) scNext.nd rfl (.inl rfl) (pe_op op_mod (pe_ix ix_list (pv 0) pe_int (fun _ _ => rfl)) (pe_op op_pow pe_int pe_int)))
        (pss_cons (ps_asg (pe_op op_fdiv (pe_ix ix_list (pv 0) pe_int (fun _ _ => rfl)) (pe_op op_pow pe_int pe_int)) (pg_sub (pv 0) pe_int set_list))
        (pss_one (ps_ret (pv 2))))) pss_nil)
      (pss_cons (ps_set (i := 2) scNext.nd rfl (.inl rfl) (pe_op op_mod (pe_op op_mul (pe_op op_add (pe_op op_add (pe_op op_mod (pe_ix ix_list (pv 0) pe_int (fun _ _ => rfl)) pe_int) (pe_op op_mul (pe_op op_mul (pv 1) (pv 1)) pe_int)) (pv 1)) pe_int) pe_int))
      (pss_cons (ps_set (i := 2) scNext.nd rfl (.inl rfl) (pe_op op_mod (pe_op op_mul (pv 2) (pv 2)) pe_int))
      (pss_one (ps_ret (pe_op op_fdiv (pe_op op_mod (pe_op op_mul (pv 2) (pe_op op_add (pv 2) pe_int)) pe_int) pe_int))))))), ?_⟩
    have h1 : (upd H p (.lst [.int a, .int (k + 1), .bl b])) p = some (.lst [.int a, .int (k + 1), .bl b]) := upd_same
    refine ⟨_, rfl, p, _, 1, .int k, rfl, rfl, SqL.of hp, rfl, k, 1, rfl, rfl, _, rfl, p, _, 1, 1, rfl, rfl, hp, rfl, ?_⟩
    refine ⟨_, rfl, p, _, 1, .int (k + 1), rfl, rfl, SqL.of h1, rfl, ?_⟩
    refine ⟨_, rfl, p, _, 2, .bl b, rfl, rfl, SqL.of h1, rfl, b, rfl, ?_⟩
    cases b with
    | true =>
      refine ⟨_, rfl, p, _, 0, .int a, rfl, rfl, SqL.of h1, rfl, 10, 6, rfl, rfl, ⟨by decide, by decide, by decide⟩, a, 1000000, rfl, rfl, (by show (0 : Int) < 1000000; decide), ?_⟩
      refine ⟨_, rfl, p, _, 0, .int a, rfl, rfl, SqL.of h1, rfl, 10, 6, rfl, rfl, ⟨by decide, by decide, by decide⟩, a, 1000000, rfl, rfl, ⟨by decide, by decide⟩, _, rfl, p, _, 0, 0, rfl, rfl, h1, rfl, ?_⟩
      refine ⟨_, rfl, ?_⟩
      rw [upd_upd]
      exact q _ _ Kp.put ⟨_, _, _, upd_same, by omega, by omega⟩ (Int.emod_nonneg _ (by decide)) (Int.lt_of_lt_of_le (Int.emod_lt_of_pos _ (by decide)) (by decide))
    | false =>
      refine ⟨_, rfl, p, _, 0, .int a, rfl, rfl, SqL.of h1, rfl, a, 1000003, rfl, rfl, (by show (0 : Int) < 1000003; decide), _, rfl, _, rfl, k + 1, k + 1, rfl, rfl, .inl ⟨by omega, by omega⟩, _, 7919, rfl, rfl, .inr ⟨by decide, by decide⟩,
        _, _, rfl, rfl, _, rfl, _, k + 1, rfl, rfl, _, 48271, rfl, rfl, .inr ⟨by decide, by decide⟩, _, 2147483629, rfl, rfl, (by show (0 : Int) < 2147483629; decide), ?_⟩
      obtain ⟨x, ex⟩ : ∃ x : Int, (a % 1000003 + (k + 1) * (k + 1) * 7919 + (k + 1)) * 48271 % 2147483629 = x := ⟨_, rfl⟩
      have x0 : 0 ≤ x := by
        rw [← ex]
        exact Int.emod_nonneg _ (by decide)
      have x1 : x < 2147483629 := by
        rw [← ex]
        exact Int.emod_lt_of_pos _ (by decide)
      refine ⟨_, rfl, _, rfl, x, x, congrArg V.int ex, congrArg V.int ex, .inl ⟨by omega, by omega⟩, _, 2147483587, rfl, rfl, (by show (0 : Int) < 2147483587; decide), ?_⟩
      obtain ⟨y, ey⟩ : ∃ y : Int, x * x % 2147483587 = y := ⟨_, rfl⟩
      have y0 : 0 ≤ y := by
        rw [← ey]
        exact Int.emod_nonneg _ (by decide)
      have y1 : y < 2147483587 := by
        rw [← ey]
        exact Int.emod_lt_of_pos _ (by decide)
      refine ⟨_, rfl, _, rfl, y, 2, congrArg V.int ey, rfl, y, _, congrArg V.int ey, rfl, .inl ⟨by omega, by omega⟩, _, 2147483579, rfl, rfl, (by show (0 : Int) < 2147483579; decide), _, 7, rfl, rfl, ⟨by decide, by decide⟩, ?_⟩
      have z0 : 0 ≤ y * (y + 2) % 2147483579 := Int.emod_nonneg _ (by decide)
      have z1 : y * (y + 2) % 2147483579 < 2147483579 := Int.emod_lt_of_pos _ (by decide)
      exact q _ _ Kp.put ⟨_, _, _, upd_same, by omega, by omega⟩ (by omega) (by omega)
end
end Tg

set_option autoImplicit false
namespace Tg
/-! ### tidy lists, without Python -/
def Has (ps : List (Int × Int)) (t : Int) : Prop := ∃ p, p ∈ ps ∧ p.1 ≤ t ∧ t < p.2
def Tidy (ps : List (Int × Int)) : Prop := (∀ p, p ∈ ps → p.1 < p.2) ∧ ps.Pairwise (fun p q => p.2 < q.1)
theorem has_nil (t : Int) : ¬ Has [] t := fun ⟨_, h, _⟩ => nomatch h
theorem has_cons {a : Int × Int} {ps : List (Int × Int)} {t : Int} : Has (a :: ps) t ↔ (a.1 ≤ t ∧ t < a.2) ∨ Has ps t := by
  constructor
  · rintro ⟨p, hp, h⟩
    rcases List.mem_cons.mp hp with rfl | z
    · exact .inl h
    · exact .inr ⟨p, z, h⟩
  · rintro (h | ⟨p, hp, h⟩)
    · exact ⟨a, List.mem_cons_self, h⟩
    · exact ⟨p, List.mem_cons_of_mem _ hp, h⟩
theorem has_append {ps qs : List (Int × Int)} {t : Int} : Has (ps ++ qs) t ↔ Has ps t ∨ Has qs t := by
  constructor
  · rintro ⟨p, hp, h⟩
    rcases List.mem_append.mp hp with z | z
    · exact .inl ⟨p, z, h⟩
    · exact .inr ⟨p, z, h⟩
  · rintro (⟨p, z, h⟩ | ⟨p, z, h⟩)
    · exact ⟨p, List.mem_append_left _ z, h⟩
    · exact ⟨p, List.mem_append_right _ z, h⟩
theorem has_one {s e t : Int} : Has [(s, e)] t ↔ s ≤ t ∧ t < e := by
  rw [has_cons]
  exact ⟨fun h => h.elim id fun z => (has_nil t z).elim, .inl⟩
theorem tidy_nil : Tidy [] := ⟨fun _ h => (nomatch h), List.Pairwise.nil⟩
theorem tidy_tail {a : Int × Int} {ps : List (Int × Int)} (h : Tidy (a :: ps)) : Tidy ps :=
  ⟨fun p hp => h.1 p (List.mem_cons_of_mem _ hp), (List.pairwise_cons.mp h.2).2⟩
theorem tidy_unique : ∀ {p q : List (Int × Int)}, Tidy p → Tidy q → (∀ t, Has p t ↔ Has q t) → p = q
  | [], [], _, _, _ => rfl
  | [], b :: q, _, hq, h => by
    have hb := hq.1 b List.mem_cons_self
    exact (has_nil b.1 ((h b.1).mpr ⟨b, List.mem_cons_self, by omega, hb⟩)).elim
  | a :: p, [], hp, _, h => by
    have ha := hp.1 a List.mem_cons_self
    exact (has_nil a.1 ((h a.1).mp ⟨a, List.mem_cons_self, by omega, ha⟩)).elim
  | a :: p, b :: q, hp, hq, h => by
    have ha := hp.1 a List.mem_cons_self
    have hb := hq.1 b List.mem_cons_self
    have pa := (List.pairwise_cons.mp hp.2).1
    have pb := (List.pairwise_cons.mp hq.2).1
    have lo : ∀ {c : Int × Int} {r : List (Int × Int)} {t : Int}, (∀ x, x ∈ r → c.2 < x.1) → c.1 < c.2 → Has (c :: r) t → c.1 ≤ t := by
      intro c r t h1 h2 h3
      rcases has_cons.mp h3 with z | ⟨x, hx, z⟩
      · exact z.1
      · have := h1 x hx
        omega
    have e1 : a.1 = b.1 := by
      have z1 := lo pb hb ((h a.1).mp ⟨a, List.mem_cons_self, by omega, ha⟩)
      have z2 := lo pa ha ((h b.1).mpr ⟨b, List.mem_cons_self, by omega, hb⟩)
      omega
    have e2 : a.2 = b.2 := by
      rcases Int.lt_trichotomy a.2 b.2 with z | z | z
      · rcases has_cons.mp ((h a.2).mpr ⟨b, List.mem_cons_self, by omega, z⟩) with y | ⟨x, hx, y⟩
        · omega
        · have := pa x hx
          omega
      · exact z
      · rcases has_cons.mp ((h b.2).mp ⟨a, List.mem_cons_self, by omega, z⟩) with y | ⟨x, hx, y⟩
        · omega
        · have := pb x hx
          omega
    have e : a = b := Prod.ext e1 e2
    subst e
    have tl : ∀ t, Has p t ↔ Has q t := fun t => by
      constructor
      · rintro ⟨x, hx, y⟩
        have := pa x hx
        rcases has_cons.mp ((h t).mp ⟨x, List.mem_cons_of_mem _ hx, y⟩) with z | z
        · omega
        · exact z
      · rintro ⟨x, hx, y⟩
        have := pb x hx
        rcases has_cons.mp ((h t).mpr ⟨x, List.mem_cons_of_mem _ hx, y⟩) with z | z
        · omega
        · exact z
    rw [tidy_unique (tidy_tail hp) (tidy_tail hq) tl]
/-! #### tidy's loop -/
def mstep (out : List (Int × Int)) (x : Int × Int) : List (Int × Int) := match out.getLast? with
  | some l => if x.1 ≤ l.2 then out.dropLast ++ [(l.1, max l.2 x.2)] else out ++ [x]
  | none => out ++ [x]
theorem mstep_len (out : List (Int × Int)) (x : Int × Int) : (mstep out x).length ≤ out.length + 1 := by
  unfold mstep
  split
  · split
    · rw [List.length_append, List.length_dropLast]
      simp only [List.length_cons, List.length_nil]
      omega
    · rw [List.length_append]
      exact Nat.le_refl _
  · rw [List.length_append]
    exact Nat.le_refl _
theorem pairwise_snoc {R : Int × Int → Int × Int → Prop} {l : List (Int × Int)} {x : Int × Int} : (l ++ [x]).Pairwise R ↔ l.Pairwise R ∧ ∀ y, y ∈ l → R y x := by
  rw [List.pairwise_append]
  constructor
  · rintro ⟨h1, _, h3⟩
    exact ⟨h1, fun y hy => h3 y hy x List.mem_cons_self⟩
  · rintro ⟨h1, h2⟩
    refine ⟨h1, List.pairwise_singleton _ _, fun y hy z hz => ?_⟩
    cases List.mem_singleton.mp hz
    exact h2 y hy
theorem mstep_ok {out : List (Int × Int)} {x : Int × Int} (h : Tidy out) (hx : x.1 < x.2) (hs : ∀ p, p ∈ out → p.1 ≤ x.1) :
    Tidy (mstep out x) ∧ (∀ t, Has (mstep out x) t ↔ Has out t ∨ (x.1 ≤ t ∧ t < x.2)) ∧ (∀ p, p ∈ mstep out x → p.1 ≤ x.1) := by
  unfold mstep
  cases e : out.getLast? with
  | none =>
    have : out = [] := List.getLast?_eq_none_iff.mp e
    subst this
    refine ⟨⟨fun p hp => ?_, List.pairwise_singleton _ _⟩, fun t => ?_, fun p hp => ?_⟩
    · cases List.mem_singleton.mp hp
      exact hx
    · show Has ([] ++ [x]) t ↔ _
      rw [has_append, show [x] = [(x.1, x.2)] from rfl, has_one]
    · cases List.mem_singleton.mp hp
      exact Int.le_refl _
  | some l =>
    obtain ⟨ini, rfl⟩ : ∃ ini, out = ini ++ [l] := by
      obtain ⟨ys, hy⟩ := List.getLast?_eq_some_iff.mp e
      exact ⟨ys, hy⟩
    have hl := h.1 l (List.mem_append_right _ List.mem_cons_self)
    have hls := hs l (List.mem_append_right _ List.mem_cons_self)
    obtain ⟨w1, w2⟩ := pairwise_snoc.mp h.2
    by_cases z : x.1 ≤ l.2
    · simp only [if_pos z, List.dropLast_concat]
      refine ⟨⟨fun p hp => ?_, pairwise_snoc.mpr ⟨w1, fun y hy => w2 y hy⟩⟩, fun t => ?_, fun p hp => ?_⟩
      · rcases List.mem_append.mp hp with y | y
        · exact h.1 p (List.mem_append_left _ y)
        · cases List.mem_singleton.mp y
          show l.1 < max l.2 x.2
          omega
      · rw [has_append, has_append, has_one, show [l] = [(l.1, l.2)] from rfl, has_one, or_assoc]
        refine or_congr Iff.rfl ?_
        omega
      · rcases List.mem_append.mp hp with y | y
        · exact hs p (List.mem_append_left _ y)
        · cases List.mem_singleton.mp y
          exact hls
    · simp only [if_neg z]
      refine ⟨⟨fun p hp => ?_, pairwise_snoc.mpr ⟨h.2, fun y hy => ?_⟩⟩, fun t => ?_, fun p hp => ?_⟩
      · rcases List.mem_append.mp hp with y | y
        · exact h.1 p y
        · cases List.mem_singleton.mp y
          exact hx
      · rcases List.mem_append.mp hy with q | q
        · have := w2 y q
          have := h.1 y hy
          omega
        · cases List.mem_singleton.mp q
          omega
      · rw [has_append (qs := [x]), show [x] = [(x.1, x.2)] from rfl, has_one]
      · rcases List.mem_append.mp hp with y | y
        · exact hs p y
        · cases List.mem_singleton.mp y
          exact Int.le_refl _
/-- sorted by the starts, all of some time: the loop's list is tidy, with just their times -/
theorem fold_ok : ∀ (ys out : List (Int × Int)), Tidy out → (∀ x, x ∈ ys → x.1 < x.2) → ys.Pairwise (fun a b => a.1 ≤ b.1) → (∀ p, p ∈ out → ∀ x, x ∈ ys → p.1 ≤ x.1) →
    Tidy (ys.foldl mstep out) ∧ (∀ t, Has (ys.foldl mstep out) t ↔ Has out t ∨ Has ys t)
  | [], out, h, _, _, _ => ⟨h, fun t => ⟨.inl, fun z => z.elim id fun y => (has_nil t y).elim⟩⟩
  | x :: ys, out, h, h1, h2, h3 => by
    obtain ⟨a, b, c⟩ := mstep_ok h (h1 x List.mem_cons_self) (fun p hp => h3 p hp x List.mem_cons_self)
    obtain ⟨w1, w2⟩ := List.pairwise_cons.mp h2
    obtain ⟨u, v⟩ := fold_ok ys (mstep out x) a (fun y hy => h1 y (List.mem_cons_of_mem _ hy)) w2 (fun p hp y hy => Int.le_trans (c p hp) (w1 y hy))
    refine ⟨u, fun t => ?_⟩
    rw [List.foldl_cons, v t, b t, has_cons, or_assoc]
theorem fold_len : ∀ (ys out : List (Int × Int)), (ys.foldl mstep out).length ≤ out.length + ys.length
  | [], out => by simp
  | x :: ys, out => by
    have h1 := fold_len ys (mstep out x)
    have h2 := mstep_len out x
    rw [List.foldl_cons, List.length_cons]
    omega
/-! #### met's loop -/
structure MetInv (p q : List (Int × Int)) (i j : Nat) (out : List (Int × Int)) : Prop where
  tidy : Tidy out
  has : ∀ t, (Has p t ∧ Has q t) ↔ (Has out t ∨ (Has (p.drop i) t ∧ Has (q.drop j) t))
  sep : ∀ r, r ∈ out → (∀ x, x ∈ p.drop i → r.2 < x.1) ∨ (∀ y, y ∈ q.drop j → r.2 < y.1)
  len : out.length ≤ i + j
theorem met_start (p q : List (Int × Int)) : MetInv p q 0 0 [] :=
  ⟨tidy_nil, fun t => ⟨.inr, fun z => z.elim (fun y => (has_nil t y).elim) id⟩, fun _ h => (nomatch h), Nat.le_refl _⟩
theorem drop_split {p : List (Int × Int)} {i : Nat} {a : Int × Int} (h : p[i]? = some a) : p.drop i = a :: p.drop (i + 1) := by
  obtain ⟨hi, e⟩ := List.getElem?_eq_some_iff.mp h
  rw [List.drop_eq_getElem_cons hi, e]
theorem tidy_drop {p : List (Int × Int)} (h : Tidy p) (i : Nat) : Tidy (p.drop i) :=
  ⟨fun x hx => h.1 x (List.mem_of_mem_drop hx), h.2.sublist (List.drop_sublist i p)⟩
def cut (a b : Int × Int) : Int × Int := (max a.1 b.1, min a.2 b.2)
def mout (out : List (Int × Int)) (a b : Int × Int) : List (Int × Int) := if (cut a b).1 < (cut a b).2 then out ++ [cut a b] else out
theorem met_step {p q : List (Int × Int)} {i j : Nat} {out : List (Int × Int)} {a b : Int × Int} (hp : Tidy p) (hq : Tidy q) (I : MetInv p q i j out) (ha : p[i]? = some a) (hb : q[j]? = some b) :
    MetInv p q (if a.2 < b.2 then i + 1 else i) (if a.2 < b.2 then j else j + 1) (mout out a b) := by
  have ea := drop_split ha
  have eb := drop_split hb
  have ta := tidy_drop hp i
  have tb := tidy_drop hq j
  rw [ea] at ta
  rw [eb] at tb
  have fa := (List.pairwise_cons.mp ta.2).1
  have fb := (List.pairwise_cons.mp tb.2).1
  have la := ta.1 a List.mem_cons_self
  have lb := tb.1 b List.mem_cons_self
  have hm : ∀ t, Has (mout out a b) t ↔ Has out t ∨ ((a.1 ≤ t ∧ t < a.2) ∧ (b.1 ≤ t ∧ t < b.2)) := fun t => by
    unfold mout
    by_cases z : (cut a b).1 < (cut a b).2
    · rw [if_pos z, has_append, show [cut a b] = [((cut a b).1, (cut a b).2)] from rfl, has_one]
      refine or_congr Iff.rfl ?_
      show (max a.1 b.1 ≤ t ∧ t < min a.2 b.2) ↔ _
      omega
    · rw [if_neg z]
      refine ⟨.inl, fun y => y.elim id fun y => ?_⟩
      exfalso
      have : ¬ max a.1 b.1 < min a.2 b.2 := z
      omega
  have ht : Tidy (mout out a b) := by
    unfold mout
    by_cases z : (cut a b).1 < (cut a b).2
    · rw [if_pos z]
      refine ⟨fun x hx => ?_, pairwise_snoc.mpr ⟨I.tidy.2, fun y hy => ?_⟩⟩
      · rcases List.mem_append.mp hx with y | y
        · exact I.tidy.1 x y
        · cases List.mem_singleton.mp y
          exact z
      · show y.2 < max a.1 b.1
        rcases I.sep y hy with g | g
        · have := g a (by rw [ea]; exact List.mem_cons_self)
          omega
        · have := g b (by rw [eb]; exact List.mem_cons_self)
          omega
    · rw [if_neg z]
      exact I.tidy
  have hl : (mout out a b).length ≤ i + j + 1 := by
    unfold mout
    have := I.len
    split
    · rw [List.length_append]
      simp only [List.length_cons, List.length_nil]
      omega
    · omega
  have hmem : ∀ r, r ∈ mout out a b → r ∈ out ∨ r = cut a b := fun r hr => by
    unfold mout at hr
    split at hr
    · rcases List.mem_append.mp hr with y | y
      · exact .inl y
      · exact .inr (List.mem_singleton.mp y)
    · exact .inl hr
  by_cases z : a.2 < b.2
  · rw [if_pos z, if_pos z]
    refine ⟨ht, fun t => ?_, fun r hr => ?_, by omega⟩
    · rw [I.has t, hm t, ea, eb, has_cons, has_cons, or_assoc]
      refine or_congr Iff.rfl ?_
      constructor
      · rintro ⟨h1 | h1, h2⟩
        · rcases h2 with h2 | ⟨y, hy, h2⟩
          · exact .inl ⟨h1, h2⟩
          · have := fb y hy
            omega
        · exact .inr ⟨h1, h2⟩
      · rintro (⟨h1, h2⟩ | ⟨h1, h2⟩)
        · exact ⟨.inl h1, .inl h2⟩
        · exact ⟨.inr h1, h2⟩
    · rcases hmem r hr with y | rfl
      · rcases I.sep r y with g | g
        · exact .inl fun x hx => g x (by rw [ea]; exact List.mem_cons_of_mem _ hx)
        · exact .inr g
      · refine .inl fun x hx => ?_
        have := fa x hx
        show min a.2 b.2 < x.1
        omega
  · rw [if_neg z, if_neg z]
    refine ⟨ht, fun t => ?_, fun r hr => ?_, by omega⟩
    · rw [I.has t, hm t, ea, eb, has_cons, has_cons, or_assoc]
      refine or_congr Iff.rfl ?_
      constructor
      · rintro ⟨h1, h2 | h2⟩
        · rcases h1 with h1 | ⟨y, hy, h1⟩
          · exact .inl ⟨h1, h2⟩
          · have := fa y hy
            omega
        · exact .inr ⟨h1, h2⟩
      · rintro (⟨h1, h2⟩ | ⟨h1, h2⟩)
        · exact ⟨.inl h1, .inl h2⟩
        · exact ⟨h1, .inr h2⟩
    · rcases hmem r hr with y | rfl
      · rcases I.sep r y with g | g
        · exact .inl g
        · exact .inr fun x hx => g x (by rw [eb]; exact List.mem_cons_of_mem _ hx)
      · refine .inr fun x hx => ?_
        have := fb x hx
        show min a.2 b.2 < x.1
        omega
theorem met_done {p q : List (Int × Int)} {i j : Nat} {out : List (Int × Int)} (I : MetInv p q i j out) (h : p.length ≤ i ∨ q.length ≤ j) : Tidy out ∧ ∀ t, Has out t ↔ Has p t ∧ Has q t := by
  refine ⟨I.tidy, fun t => ?_⟩
  rw [I.has t]
  refine ⟨.inl, fun y => y.elim id fun y => ?_⟩
  rcases h with z | z
  · rw [List.drop_of_length_le z] at y
    exact (has_nil t y.1).elim
  · rw [List.drop_of_length_le z] at y
    exact (has_nil t y.2).elim
/-! #### gaps -/
def gapsR : Int → List (Int × Int) → Int → List (Int × Int)
  | low, [], high => [(low, high)]
  | low, a :: p, high => (low, a.1) :: gapsR a.2 p high
def keepL (l : List (Int × Int)) : List (Int × Int) := l.filter fun x => decide (x.1 < x.2)
theorem gaps_zip : ∀ (p : List (Int × Int)) (low high : Int), (low :: p.map (·.2)).zip (p.map (·.1) ++ [high]) = gapsR low p high
  | [], low, high => rfl
  | a :: p, low, high => by
    show (low, a.1) :: ((a.2 :: p.map (·.2)).zip (p.map (·.1) ++ [high])) = _
    rw [gaps_zip p a.2 high]
    rfl
theorem gaps_len : ∀ (p : List (Int × Int)) (low high : Int), (gapsR low p high).length = p.length + 1
  | [], _, _ => rfl
  | a :: p, low, high => by
    show (gapsR a.2 p high).length + 1 = _
    rw [gaps_len p a.2 high]
    rfl
theorem gaps_ge : ∀ (p : List (Int × Int)) (low high : Int), Tidy p → (∀ b, b ∈ p → low < b.2) → ∀ x, x ∈ gapsR low p high → low ≤ x.1
  | [], low, high, _, _, x, hx => by
    cases List.mem_singleton.mp hx
    exact Int.le_refl _
  | a :: p, low, high, h, h1, x, hx => by
    rcases List.mem_cons.mp hx with rfl | z
    · exact Int.le_refl _
    · have f := (List.pairwise_cons.mp h.2).1
      have := gaps_ge p a.2 high (tidy_tail h) (fun b hb => by
        have := f b hb
        have := h.1 b (List.mem_cons_of_mem _ hb)
        omega) x z
      have := h1 a List.mem_cons_self
      omega
theorem keep_has {l : List (Int × Int)} {t : Int} : Has (keepL l) t ↔ Has l t := by
  constructor
  · rintro ⟨x, hx, y⟩
    exact ⟨x, (List.mem_filter.mp hx).1, y⟩
  · rintro ⟨x, hx, y⟩
    exact ⟨x, List.mem_filter.mpr ⟨hx, decide_eq_true (by omega)⟩, y⟩
theorem tail_lt {a : Int × Int} {p : List (Int × Int)} (h : Tidy (a :: p)) : ∀ b, b ∈ p → a.2 < b.2 := fun b hb => by
  have := (List.pairwise_cons.mp h.2).1 b hb
  have := h.1 b (List.mem_cons_of_mem _ hb)
  omega
theorem gaps_tidy : ∀ (p : List (Int × Int)) (low high : Int), Tidy p → Tidy (keepL (gapsR low p high))
  | [], low, high, _ => by
    refine ⟨fun x hx => of_decide_eq_true (List.mem_filter.mp hx).2, ?_⟩
    exact (List.pairwise_singleton _ _).sublist List.filter_sublist
  | a :: p, low, high, h => by
    have ih := gaps_tidy p a.2 high (tidy_tail h)
    have la := h.1 a List.mem_cons_self
    refine ⟨fun x hx => of_decide_eq_true (List.mem_filter.mp hx).2, ?_⟩
    unfold keepL gapsR
    rw [List.filter_cons]
    split
    · refine List.pairwise_cons.mpr ⟨fun y hy => ?_, ih.2⟩
      have := gaps_ge p a.2 high (tidy_tail h) (tail_lt h) y (List.mem_filter.mp hy).1
      show a.1 < y.1
      omega
    · exact ih.2
theorem gaps_has : ∀ (p : List (Int × Int)) (low high t : Int), Tidy p → low ≤ t → t < high → (Has (gapsR low p high) t ↔ ¬ Has p t)
  | [], low, high, t, _, h1, h2 => ⟨fun _ => has_nil t, fun _ => ⟨(low, high), List.mem_cons_self, h1, h2⟩⟩
  | a :: p, low, high, t, h, h1, h2 => by
    have la := h.1 a List.mem_cons_self
    have fa := (List.pairwise_cons.mp h.2).1
    show Has ((low, a.1) :: gapsR a.2 p high) t ↔ _
    rw [has_cons, has_cons]
    by_cases z : t < a.2
    · have n1 : ¬ Has (gapsR a.2 p high) t := fun ⟨x, hx, y⟩ => by
        have := gaps_ge p a.2 high (tidy_tail h) (tail_lt h) x hx
        omega
      have n2 : ¬ Has p t := fun ⟨x, hx, y⟩ => by
        have := fa x hx
        omega
      constructor
      · rintro (y | y)
        · rintro (q | q)
          · have : t < a.1 := y.2
            omega
          · exact n2 q
        · exact (n1 y).elim
      · intro y
        left
        have : ¬ (a.1 ≤ t ∧ t < a.2) := fun q => y (.inl q)
        show low ≤ t ∧ t < a.1
        omega
    · have ih := gaps_has p a.2 high t (tidy_tail h) (by omega) h2
      rw [ih]
      constructor
      · rintro (y | y)
        · have : t < a.1 := y.2
          omega
        · rintro (q | q)
          · omega
          · exact y q
      · intro y
        exact .inr fun q => y (.inr q)
/-- all times of a tidy list lie between its first start and its last end -/
theorem tidy_span {a : Int × Int} {p : List (Int × Int)} {l : Int × Int} (h : Tidy (a :: p)) (hl : (a :: p).getLast? = some l) {t : Int} (ht : Has (a :: p) t) : a.1 ≤ t ∧ t < l.2 := by
  obtain ⟨ini, e⟩ := List.getLast?_eq_some_iff.mp hl
  obtain ⟨x, hx, y1, y2⟩ := ht
  constructor
  · rcases List.mem_cons.mp hx with rfl | z
    · exact y1
    · have := (List.pairwise_cons.mp h.2).1 x z
      have := h.1 a List.mem_cons_self
      omega
  · rw [e] at hx h
    rcases List.mem_append.mp hx with z | z
    · have := (pairwise_snoc.mp h.2).2 x z
      have := h.1 l (List.mem_append_right _ List.mem_cons_self)
      omega
    · cases List.mem_singleton.mp z
      exact y2
end Tg

namespace Tg
open PySem PySem.Spec PyProof.Rows L2
/-! ### promises of defs that are called where no repr is under way (str and repr of lists ask for it) -/
section
variable {P : Program} {w : World} {K : PySem.W.Frag} {mg : Str → Option Value} {base : Heap} {CX : CXT} {k : Nat} {f : Addr} {fd : FuncData} {ps : List Str} {sp : Sp}
/-- FnOk's promise, asked only where no repr is under way -/
structure FnG (P : Program) (w : World) (K : PySem.W.Frag) (mg : Str → Option Value) (base : Heap) (CX : CXT) (k : Nat) (f : Addr) (fd : FuncData) (ps : List Str) (sp : Sp) : Prop where
  arity : ∀ {zs : List V} {H : Hp} {Q : VK} {E : XK}, sp zs H Q E → zs.length = ps.length
  runs : ∀ {A : Around} {outer : List Env} {s : Shared} {H : Hp} {given : Args} {us : List Value} {zs : List V} {Q : VK} {E : XK}, A.guards = some [] → Room k A →
    Env0 P w K mg base A outer s H → BindsTo s fd given (ps.zip us) → Vals zs us → sp zs H Q E → codeAny (model P w) A (.call (.ref f) given) (CR CX outer P w H s Q E) s
theorem FnG.of (F : FnOk P w K mg base CX k f fd ps sp) : FnG P w K mg base CX k f fd ps sp := ⟨fun h => F.len _ _ _ _ h, fun _ r e b v h => F.run _ _ _ _ _ _ _ _ _ r e b v h⟩
end
section
variable {P : Program} {w : World} {K : PySem.W.Frag} {mg : Str → Option Value} {base : Heap}
/-- where a body ends: what its call hands back -/
theorem body_end {CX : CXT} {N : List Str} {qual : Str} {scope : Scope} {f : Addr} {cdv : Value} {A : Around} {outer : List Env} {s s' : Shared} {H : Hp} {Q : VK} {E : XK} {fl : Flow}
    (h : SP (cxOf CX P w K mg base N qual scope f cdv A outer s H E) [] { nx := fun _ H' => Q .non H', rt := Q } fl s') :
    CR CX outer P w H s Q E (match fl with | .ret u => .ok (.ret u) | .next => .ok (.ret .none) | x => .ok x) s' := by
  cases fl with
  | ret u =>
    obtain ⟨v, _, Hx, J, rv, z⟩ := h
    exact ⟨v, Hx, J.os, J.bare, J.base, J.hok, rv, z⟩
  | next =>
    obtain ⟨_, Hx, J, z⟩ := h
    exact ⟨V.non, Hx, J.os, J.bare, J.base, J.hok, rfl, z⟩
  | brk => exact h.elim fun _ z => z.elim fun _ y => y.2.elim
  | cont => exact h.elim fun _ z => z.elim fun _ y => y.2.elim
/-- a def by its body, where no repr is under way -/
theorem okG {x qual : Str} {st : Stmt} {f : Addr} {fd : FuncData} {N ps : List Str} {k : Nat} {sp : Sp} (F : Fun K x qual st f fd) (S : FnScope N ps (defScope st))
    (many : ∀ zs H Q E, sp zs H Q E → zs.length = ps.length)
    (bodies : ∀ (cdv : Value) (A : Around) (outer : List Env) (s : Shared) (H : Hp) (zs : List V) (Q : VK) (E : XK), A.guards = some [] → Room k (A.deeper (envOfC qual (defScope st) s.heap.objs.size f cdv)) → sp zs H Q E →
      ∃ t, PSs (cxOf CX0 P w K mg base N qual (defScope st) f cdv A outer s H E).nox (defBody st) t ∧ t { nx := fun _ H' => Q .non H', rt := Q } (start N zs) H) : FnG P w K mg base CX0 (k + 1) f fd ps sp := by
  obtain ⟨_, _, _, _, _, _, cdv, _, _, rfl, at_f, code⟩ := F.ex
  refine ⟨fun h => many _ _ _ _ h, fun {A outer s H given us zs Q E} hg room e0 binds rel h => ?_⟩
  have stays : ∀ b o, base.get? b = some o → s.heap.get? b = some o := fun b o z => (e0.bs b o z).1
  have written := e0.mod.kin.keeps stays
  have endless := e0.mod.nolimit.keeps stays
  have slots : ∀ y ∈ ps.zip us, (defScope st).names.lookup y.1 = some .local ∨ ((defScope st).names.lookup y.1 = some .cell ∧ ((cellsFrom (s.heap.objs.size + 1) (defScope st).names []).lookup y.1).isSome = true) := fun y hy =>
    (S.par y.1 (List.of_mem_zip hy).1).imp id fun z => ⟨z, PySem.W.cellsFrom_some _ _ _ (.inl z)⟩
  refine codeAny_call_function room.depth (written _ _ at_f) rfl S.co S.gen rfl (PySem.W.codeRec_of written code) (binds _ _ _ _ (wpAny_newFunctionEnv_cells S.kind slots fun env he s1 fresh => ?_))
  subst he
  obtain ⟨t, ht, read⟩ := bodies cdv A outer s H zs Q E hg (room.deeper _) h
  have I := inv_start (CX := CX0) (P := P) (w := w) (E := E) S room.hd e0 (many _ _ _ _ h) rel fresh
  refine ⟨endless.keeps fresh.toInCall.keep, codeAny_func (wpAny_mono (ht.nox.run [] s1 (start N zs) H _ I read) (fun fl s' z => ?_) fun _ _ z => z)⟩
  have told := body_end z
  cases fl with
  | ret u => exact told
  | next => exact told
  | brk => exact False.elim told
  | cont => exact False.elim told
end
section
variable {X : Cx} {CX : CXT} {k : Nat} {f : Addr} {fd : FuncData} {ps : List Str} {sp : Sp} {E : XK} {x : Str} {p pos : Pos} {e : Expr} {es : List Expr} {t : TA}
/-- the reading of f(e, ..) for such a def -/
abbrev tCallG (sp : Sp) (E : XK) (t : TA) : TE := fun σ H Q => t σ H fun zs H1 => sp zs H1 Q E
theorem pe_callG (F : FnG X.prog X.w X.K X.mg X.base CX k f fd ps sp) (quiet : X.A.guards = some []) (room : Room k X.A) (gl : Gl X x) (at_x : X.mg x = some (.ref f)) (kept : PySem.W.keepIn X.K (.ref f) = true)
    (binds : Binds X.K fd ps []) (lets : Passes CX X E) (args : PA X (e :: es) t) (nodebug : (x == ("__debug__" : Str)) = false := by decide)
    (one : starEach (e :: es) X.env = (false, eval e X.env) :: starEach es X.env := by rfl) (nostar : (backTo pos (starEach es X.env)).any (·.1) = false := by rfl) : PE X (.Call (.Name x p) (e :: es) [] pos) (tCallG sp E t) := by
  constructor
  intro pins s σ H Q I read
  refine wpAny_Call_Name_kw (ld_glob I gl at_x (PySem.W.callWith_K (h₀ := X.base) I.ok.mod.kin kept (thn (args.run pos pins s σ H _ I read) fun us s1 y => ?_) one nostar) nodebug)
  obtain ⟨zs, H1, J, rel, h⟩ := y
  have len : (us ++ []).length = ps.length := by
    rw [List.append_nil, ← rel.length]
    exact F.arity h
  have bound := binds s1 us J.kIn len
  rw [List.append_nil] at bound
  refine ⟨J.kIn, wpAny_call (codeAny_mono (F.runs (given := ⟨us, []⟩) quiet room J.env0 bound rel h) fun a s' z => ?_)⟩
  match a, z with
  | .error er, z => exact lets pins σ H1 s1 er s' J z
  | .ok (.ret u), z => exact J.after z
/-! ### str(x) of data -/
def rShow (K : PySem.W.Frag) : List V → Hp → VK → Prop := fun xs H Q => ∃ (a : Addr) (d : PyData), xs = [.ref a] ∧ Dp K H (.ref a) d ∧ d.showable = true ∧ d.hasDict = false ∧ d.depth ≤ 60 ∧ d.shown.length ≤ sizeLine ∧ Q (.str d.shown) H
theorem call_strD (deep : X.A.units + 64 < cLine) (quiet : X.A.guards = some []) : CallR X (.type "str") (rShow X.K) := by
  rintro pins s σ H _ _ Q I (_ | ⟨ra, rb⟩) ⟨a, d, e, dp, h1, h2, h3, h4, h⟩
  · exact nomatch e
  · obtain ⟨rfl, rfl⟩ := List.cons.inj e
    cases rb
    obtain ⟨as, rd⟩ := Dp.reads I d _ _ dp ra
    cases (show _ = Value.ref a from ra)
    exact str_of_reads rd h1 (fun z => absurd (h2.symm.trans z) (by decide)) quiet (by omega) (fun _ _ z => z) (fun hx u tk kp => ⟨.str d.shown, H, I.kept kp, ⟨u, rfl⟩, h⟩) h4
end
/-! ### the law's own head, for such a def -/
/-- a law's promise: of a list of at most 63 ints it gives True -/
def spScript (K : PySem.W.Frag) : Sp := fun zs H Q _ => ∃ (a : Addr) (ns : List Int), zs = [.ref a] ∧ SqL K H a (ns.map V.int) ∧ ns.length ≤ 63 ∧ ∀ Hx, Q (.bl true) Hx
section
variable {P : Program} {w : World} {K : PySem.W.Frag} {mg mb : Str → Option Value} {k : Nat} {fa a : Addr} {fd : FuncData} {x : Str} {s1 : Shared} {vs : List Value} {ns : List Int}
theorem law_from (KX : K.In s1.heap) (globals : s1.heap.Ns mainGlobals mg) (builtins : s1.heap.Ns builtinsNs mb) (boot : ∀ y : Str, y ≠ "__name__" → mb y = bootBuiltins y) (lim : s1.heap.NoLimit) (nogens : s1.gens = #[])
    (script : s1.heap.get? a = some { cls := .type "list", data := .seq vs.toArray }) (room : Room k callerA) (F : ∀ B : Heap, K.In B → B.Ns mainGlobals mg → FnG P w K mg B CX0 k fa fd [x] (spScript K))
    (bind : ∀ (s : Shared) (u : Value), BindsTo s fd ⟨[u], []⟩ [(x, u)]) (H : Hp) (only : Only H) (here : SqL K H a (ns.map V.int)) (few : ns.length ≤ 63) (fine : HOk P w H s1.heap) (alone : ∀ b, H b ≠ none → b = a ∧ K.lookup a = none) :
    codeAny (model P w) callerA (.call (.ref fa) ⟨[.ref a], []⟩) (fun r s' => r = .ok (.ret (.bool true)) ∧ OldK s1.heap s'.heap ∧ s'.os = s1.os ∧ AllBare s'.gens) s1 := by
  have free : ∀ {b : Addr}, (b = a → K.lookup a = none → False) → H b = none := fun {b} z => by
    cases hb : H b with
    | none => rfl
    | some u => exact ((fun y => z y.1 y.2) (alone b (by rw [hb]; exact fun e => nomatch e))).elim
  have dicts : ∀ {b : Addr} {m : Str → Option Value}, s1.heap.Ns b m → (hidT s1.heap H).Ns b m := fun {b m} y => by
    obtain ⟨o, es, ep, e, dd, r⟩ := y
    refine ⟨o, es, ep, hidT_get e (free fun z _ => ?_), dd, r⟩
    rw [z, script] at e
    cases e
    exact nomatch dd
  have kin : K.In (hidT s1.heap H) := fun b o e => hidT_get (KX b o e) (free fun z y => by
    rw [z, y] at e
    exact nomatch e)
  obtain ⟨mc, c1, c2⟩ := lim
  have e0 : Env0 P w K mg (hidT s1.heap H) callerA [] s1 H := {
    frames := rfl
    mod := ⟨kin, dicts globals, ⟨mb, dicts builtins, boot⟩, ⟨mc, dicts c1, c2⟩⟩
    bs := fun _ _ z => of_hidT z
    bsz := Nat.le_of_eq (hidT_size _ _)
    funs := trivial
    frf := fun b z => nomatch (show b ∈ ([] : List Addr) from z)
    hok := fine
    bare := .of_eq nogens }
  have run := (F _ kin (dicts globals)).runs (given := ⟨[.ref a], []⟩) (us := [.ref a]) (zs := [.ref a]) (Q := fun v _ => v = .bl true) (E := fun _ _ _ => False) rfl room e0 (bind s1 (.ref a)) (.cons rfl .nil) ⟨a, ns, rfl, here, few, fun _ => rfl⟩
  refine codeAny_mono run fun r s' told => ?_
  match r, told with
  | .error er, told => exact told.elim
  | .ok (.ret u), told =>
    obtain ⟨v, Hx, os, bare, un, fine2, rel, is_true⟩ := told
    cases (show v = .bl true from is_true)
    cases (show u = Value.bool true from rel)
    refine ⟨rfl, .of_keep fun b o e => ?_, os, bare⟩
    rcases only b with z | ⟨og, _, z⟩
    · exact un.keep b o e z (fun y => nomatch (show b ∈ ([] : List Addr) from y)) (by simp)
    · have still := (fine2 b _ (un.frzs b og _ z)).1
      cases e.symm.trans (fine b _ z).1
      exact still
end
theorem walk_g {l : PySem.W.OpenLaw} {k : Nat} {q : Program} {loose : List Str} {XP : (Str → Option Value) → Heap → Prop} {YP : World → Heap → Prop} {d : DefRec} {K : Params → PySem.W.Frag} {x : Str} (most : l.most = some 63) (plain : d.params.defaults = [])
    (room : Room k callerA) (inK : ∀ w h, YP w h → (K w.params).In h)
    (law : ∀ w mg fa h, (K w.params).In h → h.Ns mainGlobals mg → mg d.name = some (.ref fa) → ∃ fd : FuncData, (∀ (s : Shared) (v : Value), BindsTo s fd ⟨[v], []⟩ [(x, v)]) ∧ ∀ B : Heap, (K w.params).In B → B.Ns mainGlobals mg → FnG l.prog w (K w.params) mg B CX0 k fa fd [x] (spScript (K w.params))) :
    PySem.W.WalkO q loose XP YP l.row.toRowW d [] (fun f zs => PySem.call f zs) := by
  refine Att.attach_call most plain fun w _ s1 mg mb fa _ _ _ _ a vs ns G Y _ _ _ at_law script these few nogens => ?_
  have KX := inK w _ Y
  obtain ⟨fd, bind, F⟩ := law w mg fa _ KX G.T.g at_law
  have rel := vals_ints these
  have line : ns.length ≤ sizeLine := Nat.le_trans few (by decide)
  have go := law_from (ns := ns) KX G.T.g G.T.b G.T.builtins G.T.nolimit nogens script room F bind
  cases look : (K w.params).lookup a with
  | some o =>
    cases script.symm.trans (KX a o look)
    refine go (fun _ => none) (fun _ => .inl rfl) (.inr ⟨_, vs.toArray, _, look, rfl, rfl, rfl, ?_, ?_⟩) few (fun b u z => ((nomatch z : (none : Option HO) = some u → False) z).elim) (fun b z => absurd rfl z)
    · rw [List.size_toArray, these.length]
      exact line
    · rw [List.toList_toArray]
      exact rel
  | none =>
    obtain ⟨o, eo⟩ : ∃ o : HO, o = .frz { cls := .type "list", data := .seq vs.toArray } (.lst (ns.map V.int)) := ⟨_, rfl⟩
    have at_a : ∀ b, (if b = a then some o else none) = none ∨ (b = a ∧ (if b = a then some o else none) = some o) := fun b => by
      by_cases z : b = a
      · exact .inr ⟨z, if_pos z⟩
      · exact .inl (if_neg z)
    refine go (fun b => if b = a then some o else none) (fun b => ?_) (.inl (.inr ⟨_, (if_pos rfl).trans (congrArg some eo)⟩)) few (fun b u z => ?_) (fun b z => ?_)
    · rcases at_a b with z | ⟨_, z⟩
      · exact .inl z
      · exact .inr ⟨_, _, z.trans (congrArg some eo)⟩
    · rcases at_a b with y | ⟨e, y⟩
      · exact nomatch y.symm.trans z
      · cases y.symm.trans z
        subst e
        rw [eo]
        exact ⟨script, by rw [List.length_map]; exact line, vs, _, rel, script⟩
    · rcases at_a b with y | ⟨e, _⟩
      · exact absurd y z
      · exact ⟨e, look⟩
end Tg

namespace Tg
open PySem PySem.Spec PyProof.Rows L2
abbrev NT : List Str := ["stretches", "out", "start", "end", "stretch"]
theorem scTidy : FnScope NT ["stretches"] (defScope sTidy) := ⟨rfl, rfl, rfl, by decide +kernel, rfl, by decide +kernel, by decide +kernel⟩
theorem scJoined : FnScope ["one", "two"] ["one", "two"] (defScope sJoined) := ⟨rfl, rfl, rfl, by decide +kernel, rfl, by decide +kernel, by decide +kernel⟩
/-! ### lists of stretches in the heap -/
abbrev PT3 := Addr × Int × Int
def Tp (H : Hp) (q : PT3) : Prop := H q.1 = some (.tup [.int q.2.1, .int q.2.2])
def refs (L : List PT3) : List V := L.map fun q => V.ref q.1
def StX (H : Hp) (a : Addr) (L : List PT3) : Prop := H a = some (.lst (refs L)) ∧ ∀ q, q ∈ L → Tp H q
def StL (H : Hp) (a : Addr) (ps : List (Int × Int)) : Prop := ∃ L : List PT3, StX H a L ∧ L.map (·.2) = ps
theorem StL.same {H H' : Hp} {a : Addr} {ps : List (Int × Int)} (s : Same H H') (h : StL H a ps) : StL H' a ps := by
  obtain ⟨L, ⟨h1, h2⟩, h3⟩ := h
  exact ⟨L, ⟨s _ _ h1, fun q hq => s _ _ (h2 q hq)⟩, h3⟩
theorem refs_len (L : List PT3) : (refs L).length = L.length := List.length_map _
theorem refs_snoc (L : List PT3) (q : PT3) : refs (L ++ [q]) = refs L ++ [V.ref q.1] := by
  unfold refs
  rw [List.map_append]
  rfl
theorem refs_get {L : List PT3} {i : Nat} {x : V} (h : (refs L)[i]? = some x) : ∃ q, L[i]? = some q ∧ x = .ref q.1 := by
  unfold refs at h
  rw [List.getElem?_map] at h
  obtain ⟨q, h1, h2⟩ := Option.map_eq_some_iff.mp h
  exact ⟨q, h1, h2.symm⟩
/-- the pair behind a value -/
def kOf (H : Hp) (x : V) : Int × Int := match x with
  | .ref t => match H t with
    | some (.tup [.int s, .int e]) => (s, e)
    | _ => (0, 0)
  | _ => (0, 0)
theorem kOf_is {H : Hp} {q : PT3} (h : Tp H q) : kOf H (.ref q.1) = q.2 := by
  have e : H q.1 = some (.tup [.int q.2.1, .int q.2.2]) := h
  simp only [kOf, e]
/-- values that stand for pairs, as a list of pairs with their places -/
def back (H : Hp) (ys : List V) : List PT3 := ys.map fun x => (match x with | .ref t => t | _ => 0, kOf H x)
theorem back_refs {H : Hp} : ∀ {ys : List V}, (∀ x, x ∈ ys → ∃ q : PT3, x = .ref q.1 ∧ Tp H q) → refs (back H ys) = ys ∧ ∀ q, q ∈ back H ys → Tp H q
  | [], _ => ⟨rfl, fun _ h => nomatch h⟩
  | x :: ys, h => by
    obtain ⟨q, rfl, hq⟩ := h x List.mem_cons_self
    obtain ⟨h1, h2⟩ := back_refs (H := H) (ys := ys) fun y hy => h y (List.mem_cons_of_mem _ hy)
    constructor
    · show V.ref q.1 :: refs (back H ys) = _
      rw [h1]
    · intro r hr
      rcases List.mem_cons.mp hr with rfl | z
      · show H q.1 = some (.tup [.int (kOf H (.ref q.1)).1, .int (kOf H (.ref q.1)).2])
        rw [kOf_is hq]
        exact hq
      · exact h2 r z
theorem back_snd {H : Hp} (ys : List V) : (back H ys).map (·.2) = ys.map (kOf H) := by
  unfold back
  rw [List.map_map]
  rfl
theorem kmap {H : Hp} : ∀ {L : List PT3}, (∀ q, q ∈ L → Tp H q) → (refs L).map (kOf H) = L.map (·.2)
  | [], _ => rfl
  | q :: L, h => by
    show kOf H (.ref q.1) :: (refs L).map (kOf H) = q.2 :: L.map (·.2)
    rw [kOf_is (h q List.mem_cons_self), kmap fun r hr => h r (List.mem_cons_of_mem _ hr)]
theorem mstep_snoc (ini : List (Int × Int)) (l x : Int × Int) : mstep (ini ++ [l]) x = if x.1 ≤ l.2 then ini ++ [(l.1, max l.2 x.2)] else ini ++ [l] ++ [x] := by
  unfold mstep
  rw [List.getLast?_concat]
  show (if x.1 ≤ l.2 then (ini ++ [l]).dropLast ++ [(l.1, max l.2 x.2)] else ini ++ [l] ++ [x]) = _
  rw [List.dropLast_concat]
theorem take_fold {ys : List (Int × Int)} {i : Nat} {x : Int × Int} (h : ys[i]? = some x) : (ys.take (i + 1)).foldl mstep [] = mstep ((ys.take i).foldl mstep []) x := by
  rw [List.take_add_one, h, List.foldl_append]
  rfl
theorem if_f {A B : Prop} (h : B) : if false = true then A else B := by
  rw [if_neg (by decide)]
  exact h
theorem if_t {A B : Prop} (h : A) : if true = true then A else B := by
  rw [if_pos rfl]
  exact h
section
variable {P : Program} {w : World} {K : PySem.W.Frag} {mg : Str → Option Value} {base : Heap}
def spTidy : Sp := fun vs H Q _ => ∃ (a : Addr) (ps : List (Int × Int)), vs = [.ref a] ∧ StL H a ps ∧ ps.length ≤ 500 ∧
  ∀ H' r rs, Same H H' → H r = none → StL H' r rs → Tidy rs → (∀ t, Has rs t ↔ Has ps t) → rs.length ≤ ps.length → Q (.ref r) H'
theorem ok_tidy {f : Addr} {fd : FuncData} {k : Nat} (F : Fun K "tidy" "tidy" sTidy f fd) (ms : mg "sorted" = none) (mx : mg "max" = none) : FnOk P w K mg base CX0 (k + 1) f fd ["stretches"] spTidy := by
  refine F.ok scTidy (fun vs H Q E h => ?_) (fun cdv A outer s H vs Q E hr h => ?_)
  · obtain ⟨a, ps, rfl, _⟩ := h
    rfl
  · obtain ⟨a, ps, rfl, ⟨L, ⟨ha, hL⟩, rfl⟩, hlen, q⟩ := h
    rw [List.length_map] at hlen
    refine ⟨_, pss_cons (ps_set (i := 1) scTidy.nd rfl (.inl rfl) (pe_lst pa_nil))
      (pss_cons (ps_for PassesOwn.never rfl (pi_list (pe_callB cr_sortedPO (by rfl) ms boot_sorted (pa_cons
          (pe_lc (own := [("stretch", 4)]) (g := gName 4) (by rfl) scTidy.nd (pi_list (pv 0)) (blkOk_by (own := [("stretch", 4)]) (N := NT) (sc := defScope sTidy) (by decide +kernel))
            (fun _ _ _ _ _ => pg_name (i := 4) scTidy.nd rfl (.inl rfl))
            (fun _ _ _ _ _ => pts_one (pt_cmpR op_lt (pe_ix (r := rIxT K) ix_tup (pv 4) pe_int (fun _ _ => rfl)) (pe_ix (r := rIxT K) ix_tup (pv 4) pe_int (fun _ _ => rfl)) (nomark _)))
            (fun _ _ _ _ _ => pv 4)) pa_nil)))
          (pg_tup rfl (pgs_cons (pg_name (i := 2) scTidy.nd rfl (.inl rfl)) (pgs_cons (pg_name (i := 3) scTidy.nd rfl (.inl rfl)) pgs_nil)))
        (pss_one (ps_if (PW.pt (pw_and (pt_truth (pv 1) (fun _ => rfl)) (pw_and1 (pt_cmpR op_le (pv 2) (pe_ix ix_tup (pe_ix ix_list (pv 1) (pe_un un_neg pe_int) (fun _ _ => rfl)) pe_int (fun _ _ => rfl)) (nomark _)))))
          (pss_one (ps_asg (pe_tup (pa_cons (pe_ix ix_tup (pe_ix ix_list (pv 1) (pe_un un_neg pe_int) (fun _ _ => rfl)) pe_int (fun _ _ => rfl))
            (pa_cons (pe_callB (call_max2 rfl) (by rfl) mx boot_max (pa_cons (pe_ix ix_tup (pe_ix ix_list (pv 1) (pe_un un_neg pe_int) (fun _ _ => rfl)) pe_int (fun _ _ => rfl)) (pa_cons (pv 3) pa_nil))) pa_nil)))
            (pg_sub (pv 1) (pe_un un_neg pe_int) set_list)))
          (pss_one (ps_expr (pe_bm PySem.F.plainAttrs_list PySem.F.slot_list_append PySem.F.type_list_append mt_append (pv 1) (pa_cons (pe_tup (pa_cons (pv 2) (pa_cons (pv 3) pa_nil))) pa_nil)))))))
      (pss_one (ps_ret (pv 1)))), ?_⟩
    -- out = []
    refine ⟨Nat.zero_le _, fun o no => ?_⟩
    have s1 : Same H (upd H o (.lst [])) := same_new no
    have ho1 : (upd H o (.lst [])) o = some (.lst []) := upd_same
    -- the comprehension
    refine ⟨_, rfl, a, rfl, ⟨_, SqL.of (s1 _ _ ha)⟩, fun D nD => lc_list (K := K) (a := a) (xs := refs L) (fun i Hc => Same (upd H o (.lst [])) Hc ∧ Hc D = some (.lst (refs ((L.take i).filter fun q => decide (q.2.1 < q.2.2))))) ?_ ?_ ?_ ?_⟩
    · exact ⟨same_new nD, upd_same⟩
    · rintro i Hc _ ⟨sc, _⟩
      exact SqL.of (sc _ _ (s1 _ _ ha))
    · rintro i x Hc hx ⟨sc, hD⟩
      obtain ⟨q0, hq0, rfl⟩ := refs_get hx
      have tq : Tp Hc q0 := sc _ _ (s1 _ _ (hL q0 (List.mem_of_getElem? hq0)))
      have et : L.take (i + 1) = L.take i ++ [q0] := by
        rw [List.take_add_one, hq0]
        rfl
      refine ⟨rfl, ?_⟩
      refine ⟨_, rfl, q0.1, _, 0, .int q0.2.1, rfl, rfl, SqT.of tq, rfl, _, rfl, q0.1, _, 1, .int q0.2.2, rfl, rfl, SqT.of tq, rfl, _, _, rfl, rfl, _, rfl, ite2 (fun g => ?_) (fun g => ?_)⟩
      · refine ⟨_, rfl, _, hD, ?_, fun b o' e => ?_, ?_⟩
        · rw [refs_len]
          refine small1000 (Nat.le_trans (List.length_filter_le _ _) ?_)
          rw [List.length_take]
          omega
        · rw [upd_ne (ne_of_none e nD)]
          exact sc b o' e
        · rw [upd_same, et, List.filter_append, List.filter_cons, if_pos g, List.filter_nil, refs_snoc]
      · refine ⟨sc, ?_⟩
        rw [hD, et, List.filter_append, List.filter_cons, if_neg g, List.filter_nil, List.append_nil]
    · rintro Hc ⟨sc, hD⟩
      rw [show (refs L).length = L.length from refs_len L, List.take_length] at hD
      have hLf : ∀ q, q ∈ L.filter (fun q => decide (q.2.1 < q.2.2)) → Tp Hc q := fun q hq => sc _ _ (s1 _ _ (hL q (List.mem_filter.mp hq).1))
      -- sorted
      refine ⟨D, _, kOf Hc, rfl, SqL.of hD, fun x hx => ?_, fun ys r hsrt hstb nr => ?_⟩
      · obtain ⟨q0, hq0, rfl⟩ := List.mem_map.mp hx
        refine ⟨q0.1, rfl, ?_⟩
        rw [kOf_is (hLf q0 hq0)]
        exact hLf q0 hq0
      · have hys : ∀ x, x ∈ ys → ∃ q : PT3, x = .ref q.1 ∧ Tp Hc q := fun x hx => by
          obtain ⟨q0, hq0, rfl⟩ := List.mem_map.mp (hstb.perm.mem_iff.mp hx)
          exact ⟨q0, rfl, hLf q0 hq0⟩
        obtain ⟨eb, tb⟩ := back_refs hys
        obtain ⟨Z, eZ⟩ : ∃ Z, Z = back Hc ys := ⟨_, rfl⟩
        have hZ2 : Z.map (·.2) = ys.map (kOf Hc) := by
          rw [eZ]
          exact back_snd ys
        have pz : (Z.map (·.2)).Perm ((L.filter (fun q => decide (q.2.1 < q.2.2))).map (·.2)) := by
          rw [hZ2, ← kmap hLf]
          exact hstb.perm.map _
        have pw : (Z.map (·.2)).Pairwise (fun x y => x.1 ≤ y.1) := by
          rw [hZ2, List.pairwise_map]
          refine hsrt.imp fun {x y} z => ?_
          have z2 : SrtO.lexB (kOf Hc y) (kOf Hc x) = false := z
          rcases Int.lt_or_le (kOf Hc y).1 (kOf Hc x).1 with g | g
          · rw [SrtO.lexB_iff.mpr (.inl g)] at z2
            cases z2
          · exact g
        have lZ : (Z.map (·.2)).length ≤ L.length := by
          rw [pz.length_eq, List.length_map]
          exact List.length_filter_le _ _
        have s2 : Same H (upd Hc r (.lst ys)) := fun b o' e => same_new nr _ _ (sc _ _ (s1 _ _ e))
        have hr2 : (upd Hc r (.lst ys)) r = some (.lst (refs Z)) := by
          rw [upd_same, eZ, eb]
        have ho2 : (upd Hc r (.lst ys)) o = some (.lst []) := same_new nr _ _ (sc _ _ ho1)
        have tZ : ∀ q, q ∈ Z → Tp (upd Hc r (.lst ys)) q := fun q hq => same_new nr _ _ (tb q (by rw [← eZ]; exact hq))
        have nro : r ≠ o := fun z => by
          rw [z, sc _ _ ho1] at nr
          cases nr
        -- the loop
        have nZ : ∀ q : PT3, q ∈ Z → q.1 ≠ o := fun q hq z => by
          have := tZ q hq
          unfold Tp at this
          rw [z, ho2] at this
          cases this
        refine ⟨r, rfl, ⟨_, SqL.of hr2⟩, for_list (K := K) (a := r) (xs := refs Z) (fun i σ H2 => ∃ z2 z3 z4 : Option V, σ = [some (.ref a), some (.ref o), z2, z3, z4] ∧ Same H H2 ∧ H2 r = some (.lst (refs Z)) ∧ (∀ q, q ∈ Z → Tp H2 q) ∧
          StL H2 o (((Z.map (·.2)).take i).foldl mstep [])) ?_ ?_ ?_ ?_⟩
        · exact ⟨none, none, none, rfl, s2, hr2, tZ, [], ⟨ho2, fun _ h => nomatch h⟩, rfl⟩
        · rintro i σ H2 _ ⟨_, _, _, _, _, h, _⟩
          exact SqL.of h
        · rintro i x σ H2 hx ⟨z2, z3, z4, rfl, sm, hr3, tz3, Lo, ⟨ho3, to3⟩, eo3⟩
          obtain ⟨q0, hq0, rfl⟩ := refs_get hx
          have tq : Tp H2 q0 := tz3 q0 (List.mem_of_getElem? hq0)
          have ez : (Z.map (·.2))[i]? = some q0.2 := by
            rw [List.getElem?_map, hq0]
            rfl
          have lo : Lo.length ≤ 500 := by
            have h1 := fold_len ((Z.map (·.2)).take i) []
            rw [← eo3, List.length_map, List.length_take] at h1
            simp only [List.length_nil] at h1
            omega
          refine ⟨q0.1, _, rfl, SqT.of tq, rfl, .int q0.2.1, [.int q0.2.2], rfl, .int q0.2.2, [], rfl, rfl, ?_⟩
          -- what stays when the list at o is changed
          have stay : ∀ {H3 : Hp} {u : HO}, Same H2 H3 → Same H (upd H3 o u) ∧ (upd H3 o u) r = some (.lst (refs Z)) ∧ (∀ q, q ∈ Z → Tp (upd H3 o u) q) := fun {H3 u} s3 => by
            refine ⟨fun b o' e => ?_, ?_, fun q hq => ?_⟩
            · rw [upd_ne (ne_of_none e no)]
              exact s3 _ _ (sm _ _ e)
            · rw [upd_ne nro]
              exact s3 _ _ hr3
            · show (upd H3 o u) q.1 = _
              rw [upd_ne (nZ q hq)]
              exact s3 _ _ (tz3 q hq)
          rcases List.eq_nil_or_concat Lo with rfl | ⟨Li, lq, rfl⟩
          · -- the first one
            refine ⟨_, rfl, false, .inl ⟨_, SqL.of ho3, rfl⟩, if_f (if_f ?_)⟩
            refine ⟨_, rfl, .inl ⟨rfl, _, SqL.of ho3⟩, _, rfl, _, rfl, (by show 2 ≤ sizeLine; decide), fun t nt => ?_⟩
            have s3 : Same H2 (upd H2 t (.tup [.int q0.2.1, .int q0.2.2])) := same_new nt
            obtain ⟨y1, y2, y3⟩ := stay (u := .lst (refs [] ++ [.ref t])) s3
            refine ⟨o, _, _, rfl, rfl, s3 _ _ ho3, small1000 (by show 0 ≤ 1000; decide), _, _, _, rfl, y1, y2, y3, [(t, q0.2)], ⟨upd_same, fun q hq => ?_⟩, ?_⟩
            · cases List.mem_singleton.mp hq
              show (upd _ o _) t = _
              rw [upd_ne (show t ≠ o from fun z => by rw [z, ho3] at nt; cases nt), upd_same]
            · rw [take_fold ez, ← eo3]
              rfl
          · have eo4 : ((Z.map (·.2)).take i).foldl mstep [] = Li.map (·.2) ++ [lq.2] := by
              rw [← eo3, List.concat_eq_append, List.map_append]
              rfl
            rw [List.concat_eq_append] at ho3 to3 lo
            rw [refs_snoc] at ho3
            have tl : Tp H2 lq := to3 lq (List.mem_append_right _ List.mem_cons_self)
            have tru : (!(refs Li ++ [V.ref lq.1]).isEmpty) = true := by
              cases refs Li <;> rfl
            refine ⟨_, rfl, true, .inl ⟨_, SqL.of ho3, tru.symm⟩, if_t ?_⟩
            refine ⟨_, rfl, _, rfl, 1, rfl, o, _, -1, .ref lq.1, rfl, rfl, SqL.of ho3, atI_last _ _, lq.1, _, 1, .int lq.2.2, rfl, rfl, SqT.of tl, rfl, q0.2.1, lq.2.2, rfl, rfl, _, rfl, ite2 (fun g => ?_) (fun g => ?_)⟩
            · have g1 : q0.2.1 ≤ lq.2.2 := of_decide_eq_true g
              refine ⟨_, rfl, 1, rfl, o, _, -1, .ref lq.1, rfl, rfl, SqL.of ho3, atI_last _ _, lq.1, _, 0, .int lq.2.1, rfl, rfl, SqT.of tl, rfl,
                _, rfl, 1, rfl, o, _, -1, .ref lq.1, rfl, rfl, SqL.of ho3, atI_last _ _, lq.1, _, 1, .int lq.2.2, rfl, rfl, SqT.of tl, rfl, _, rfl, lq.2.2, q0.2.2, rfl, (by show 2 ≤ sizeLine; decide), fun t nt => ?_⟩
              have emax : (if q0.2.2 > lq.2.2 then q0.2.2 else lq.2.2) = max lq.2.2 q0.2.2 := by
                split <;> omega
              rw [emax]
              have s3 : Same H2 (upd H2 t (.tup [.int lq.2.1, .int (max lq.2.2 q0.2.2)])) := same_new nt
              have eset : (refs Li ++ [V.ref lq.1]).set Li.length (.ref t) = refs (Li ++ [(t, lq.2.1, max lq.2.2 q0.2.2)]) := by
                rw [refs_snoc, ← refs_len Li, List.set_append_right _ _ (Nat.le_refl _), Nat.sub_self]
                rfl
              obtain ⟨y1, y2, y3⟩ := stay (u := .lst (refs (Li ++ [(t, lq.2.1, max lq.2.2 q0.2.2)]))) s3
              refine ⟨_, rfl, 1, rfl, o, _, -1, Li.length, rfl, rfl, s3 _ _ ho3, ?_, ?_⟩
              · unfold ixN
                rw [List.length_append, refs_len]
                simp only [List.length_cons, List.length_nil]
                rw [if_neg (by decide), if_pos (by omega)]
                congr 1
                omega
              · rw [eset]
                refine ⟨_, _, _, rfl, y1, y2, y3, Li ++ [(t, lq.2.1, max lq.2.2 q0.2.2)], ⟨upd_same, fun q hq => ?_⟩, ?_⟩
                · rcases List.mem_append.mp hq with z | z
                  · show (upd _ o _) q.1 = _
                    have tq2 := to3 q (List.mem_append_left _ z)
                    rw [upd_ne (show q.1 ≠ o from fun z => by
                      unfold Tp at tq2
                      rw [z, ho3] at tq2
                      cases tq2)]
                    exact s3 _ _ tq2
                  · cases List.mem_singleton.mp z
                    show (upd _ o _) t = _
                    rw [upd_ne (show t ≠ o from fun z => by rw [z, ho3] at nt; cases nt), upd_same]
                · rw [take_fold ez, eo4, mstep_snoc, if_pos g1, List.map_append]
                  rfl
            · have g1 : ¬ q0.2.1 ≤ lq.2.2 := fun z => g (decide_eq_true z)
              refine ⟨_, rfl, .inl ⟨rfl, _, SqL.of ho3⟩, _, rfl, _, rfl, (by show 2 ≤ sizeLine; decide), fun t nt => ?_⟩
              have s3 : Same H2 (upd H2 t (.tup [.int q0.2.1, .int q0.2.2])) := same_new nt
              have eapp : refs Li ++ [V.ref lq.1] ++ [V.ref t] = refs (Li ++ [lq] ++ [(t, q0.2)]) := by
                rw [refs_snoc, refs_snoc]
              obtain ⟨y1, y2, y3⟩ := stay (u := .lst (refs (Li ++ [lq] ++ [(t, q0.2)]))) s3
              refine ⟨o, _, _, rfl, rfl, s3 _ _ ho3, ?_, ?_⟩
              · rw [← refs_snoc, refs_len]
                exact small1000 (by omega)
              · rw [eapp]
                refine ⟨_, _, _, rfl, y1, y2, y3, Li ++ [lq] ++ [(t, q0.2)], ⟨upd_same, fun q hq => ?_⟩, ?_⟩
                · rcases List.mem_append.mp hq with z | z
                  · show (upd _ o _) q.1 = _
                    have tq2 := to3 q z
                    rw [upd_ne (show q.1 ≠ o from fun z => by
                      unfold Tp at tq2
                      rw [z, ho3] at tq2
                      cases tq2)]
                    exact s3 _ _ tq2
                  · cases List.mem_singleton.mp z
                    show (upd _ o _) t = _
                    rw [upd_ne (show t ≠ o from fun z => by rw [z, ho3] at nt; cases nt), upd_same]
                · rw [take_fold ez, eo4, mstep_snoc, if_neg g1, List.map_append, List.map_append]
                  rfl
        · rintro σ H2 ⟨_, _, _, rfl, sm, _, _, st⟩
          rw [show (refs Z).length = (Z.map (·.2)).length by rw [refs_len, List.length_map], List.take_length] at st
          have mem : ∀ x, x ∈ Z.map (·.2) ↔ x ∈ (L.filter (fun q => decide (q.2.1 < q.2.2))).map (·.2) := fun x => pz.mem_iff
          have pos : ∀ x, x ∈ Z.map (·.2) → x.1 < x.2 := fun x hx => by
            obtain ⟨q0, hq0, rfl⟩ := List.mem_map.mp ((mem x).mp hx)
            exact of_decide_eq_true (List.mem_filter.mp hq0).2
          obtain ⟨h1, h2⟩ := fold_ok (Z.map (·.2)) [] tidy_nil pos pw (fun _ h => nomatch h)
          refine ⟨_, rfl, q H2 o _ sm no st h1 (fun t => ?_) ?_⟩
          · rw [h2 t]
            constructor
            · rintro (z | ⟨x, hx, y⟩)
              · exact (has_nil t z).elim
              · obtain ⟨q0, hq0, rfl⟩ := List.mem_map.mp ((mem x).mp hx)
                exact ⟨q0.2, List.mem_map.mpr ⟨q0, (List.mem_filter.mp hq0).1, rfl⟩, y⟩
            · rintro ⟨x, hx, y⟩
              obtain ⟨q0, hq0, rfl⟩ := List.mem_map.mp hx
              exact .inr ⟨q0.2, (mem _).mpr (List.mem_map.mpr ⟨q0, List.mem_filter.mpr ⟨hq0, decide_eq_true (by omega)⟩, rfl⟩), y⟩
          · have h3 := fold_len (Z.map (·.2)) []
            simp only [List.length_nil] at h3
            rw [List.length_map]
            omega
end
end Tg

namespace Tg
open PySem PySem.Spec PyProof.Rows L2
abbrev NG : List Str := ["stretches", "low", "high", "starts", "ends", "start", "end"]
theorem scMet : FnScope ["one", "two", "out", "left", "right", "start", "end"] ["one", "two"] (defScope sMet) := ⟨rfl, rfl, rfl, by decide +kernel, rfl, by decide +kernel, by decide +kernel⟩
theorem scLess : FnScope ["one", "two"] ["one", "two"] (defScope sLess) := ⟨rfl, rfl, rfl, by decide +kernel, rfl, by decide +kernel, by decide +kernel⟩
theorem scGaps : FnScope NG ["stretches", "low", "high"] (defScope sGaps) := ⟨rfl, rfl, rfl, by decide +kernel, rfl, by decide +kernel, by decide +kernel⟩
theorem refs_app (L M : List PT3) : refs L ++ refs M = refs (L ++ M) := by
  unfold refs
  rw [List.map_append]
theorem StL.len {H : Hp} {a : Addr} {ps : List (Int × Int)} {xs : List V} (h : StL H a ps) (e : H a = some (.lst xs)) : xs.length = ps.length := by
  obtain ⟨L, ⟨h1, _⟩, rfl⟩ := h
  rw [h1] at e
  cases e
  rw [refs_len, List.length_map]
/-- an item of such a list -/
theorem StL.at {H : Hp} {a : Addr} {ps : List (Int × Int)} {i : Nat} {x : Int × Int} (h : StL H a ps) (e : ps[i]? = some x) :
    ∃ xs t, H a = some (.lst xs) ∧ xs.length = ps.length ∧ xs[i]? = some (V.ref t) ∧ H t = some (.tup [.int x.1, .int x.2]) := by
  obtain ⟨L, ⟨h1, h2⟩, rfl⟩ := h
  rw [List.getElem?_map] at e
  obtain ⟨q, e1, rfl⟩ := Option.map_eq_some_iff.mp e
  refine ⟨refs L, q.1, h1, ?_, ?_, h2 q (List.mem_of_getElem? e1)⟩
  · rw [refs_len, List.length_map]
  · unfold refs
    rw [List.getElem?_map, e1]
    rfl
theorem StL.xs {H : Hp} {a : Addr} {ps : List (Int × Int)} (h : StL H a ps) : ∃ xs, H a = some (.lst xs) ∧ xs.length = ps.length := by
  obtain ⟨L, ⟨h1, _⟩, rfl⟩ := h
  exact ⟨_, h1, by rw [refs_len, List.length_map]⟩
/-- one more at the end -/
theorem StL.push {H : Hp} {o t : Addr} {ps : List (Int × Int)} {s e : Int} (h : StL H o ps) (nt : H t = none) :
    ∃ xs, H o = some (.lst xs) ∧ xs.length = ps.length ∧ StL (upd (upd H t (.tup [.int s, .int e])) o (.lst (xs ++ [.ref t]))) o (ps ++ [(s, e)]) := by
  obtain ⟨L, ⟨h1, h2⟩, rfl⟩ := h
  have nto : t ≠ o := fun z => by
    rw [z, h1] at nt
    cases nt
  refine ⟨_, h1, by rw [refs_len, List.length_map], L ++ [(t, s, e)], ⟨?_, fun q hq => ?_⟩, ?_⟩
  · rw [upd_same, refs_snoc]
  · rcases List.mem_append.mp hq with z | z
    · have tq := h2 q z
      show (upd _ o _) q.1 = _
      rw [upd_ne (show q.1 ≠ o from fun y => by
        unfold Tp at tq
        rw [y, h1] at tq
        cases tq)]
      exact same_new nt _ _ tq
    · cases List.mem_singleton.mp z
      show (upd _ o _) t = _
      rw [upd_ne nto, upd_same]
  · rw [List.map_append]
    rfl
section
variable {P : Program} {w : World} {K : PySem.W.Frag} {mg : Str → Option Value} {base : Heap}
/-! ### joined -/
def spJoined : Sp := fun vs H Q _ => ∃ (a b : Addr) (ps qs : List (Int × Int)), vs = [.ref a, .ref b] ∧ StL H a ps ∧ StL H b qs ∧ ps.length + qs.length ≤ 500 ∧
  ∀ H' r rs, Same H H' → H r = none → StL H' r rs → Tidy rs → (∀ t, Has rs t ↔ Has ps t ∨ Has qs t) → rs.length ≤ ps.length + qs.length → Q (.ref r) H'
theorem ok_joined {f g : Addr} {fd gd : FuncData} {k : Nat} (F : Fun K "joined" "joined" sJoined f fd) (GO : FnOk P w K mg base CX0 k g gd ["stretches"] spTidy) (mG : mg "tidy" = some (.ref g)) (kG : PySem.W.keepIn K (.ref g) = true) (bG : Binds K gd ["stretches"] []) (ml : mg "list" = none) :
    FnOk P w K mg base CX0 (k + 1) f fd ["one", "two"] spJoined := by
  refine F.ok scJoined (fun vs H Q E h => ?_) (fun cdv A outer s H vs Q E hr h => ?_)
  · obtain ⟨a, b, ps, qs, rfl, _⟩ := h
    rfl
  · obtain ⟨a, b, ps, qs, rfl, ⟨L, ⟨ha, hL⟩, rfl⟩, ⟨M, ⟨hb, hM⟩, rfl⟩, hlen, q⟩ := h
    rw [List.length_map, List.length_map] at hlen
    refine ⟨_, pss_one (ps_ret (pe_call GO hr (by rfl) mG kG bG .nil pass0 (pa_cons (pe_op op_cat (pe_callTy call_list_of (by rfl) ml boot_list (pa_cons (pv 0) pa_nil)) (pe_callTy call_list_of (by rfl) ml boot_list (pa_cons (pv 1) pa_nil))) pa_nil))), ?_⟩
    refine ⟨_, rfl, a, _, rfl, .inl (SqL.of ha), fun l1 n1 => ?_⟩
    have s1 := same_new (o := .lst (refs L)) n1
    refine ⟨_, rfl, b, _, rfl, .inl (SqL.of (s1 _ _ hb)), fun l2 n2 => ?_⟩
    have s2 := same_new (o := .lst (refs M)) n2
    have h1 : (upd (upd H l1 (.lst (refs L))) l2 (.lst (refs M))) l1 = some (.lst (refs L)) := s2 _ _ upd_same
    refine ⟨l1, l2, _, _, rfl, rfl, h1, upd_same, ?_, fun l3 n3 => ?_⟩
    · rw [refs_len, refs_len]
      exact Nat.le_of_lt (small1000 (by omega))
    · have s3 := same_new (o := .lst (refs L ++ refs M)) n3
      have sA := (s1.trans s2).trans s3
      refine ⟨l3, (L ++ M).map (·.2), rfl, ⟨L ++ M, ⟨?_, fun x hx => ?_⟩, rfl⟩, ?_, fun H' r rs sm nr st td hs hl => ?_⟩
      · rw [upd_same, refs_app]
      · rcases List.mem_append.mp hx with z | z
        · exact sA _ _ (hL x z)
        · exact sA _ _ (hM x z)
      · rw [List.length_map, List.length_append]
        exact hlen
      · refine q H' r rs (sA.trans sm) (sA.free nr) st td (fun t => ?_) ?_
        · rw [hs t, List.map_append, has_append]
        · rw [List.map_append, List.length_append] at hl
          exact hl
/-! ### met -/
def spMet : Sp := fun vs H Q _ => ∃ (a b : Addr) (ps qs : List (Int × Int)), vs = [.ref a, .ref b] ∧ StL H a ps ∧ StL H b qs ∧ Tidy ps ∧ Tidy qs ∧ ps.length + qs.length ≤ 500 ∧
  ∀ H' r rs, Same H H' → H r = none → StL H' r rs → Tidy rs → (∀ t, Has rs t ↔ Has ps t ∧ Has qs t) → rs.length ≤ ps.length + qs.length → Q (.ref r) H'
def muM (m n : Nat) (σ : List (Option V)) : Nat := match σ[3]?, σ[4]? with
  | some (some (V.int l)), some (some (V.int r)) => (m - l.toNat) + (n - r.toNat)
  | _, _ => 0
theorem ok_met {f : Addr} {fd : FuncData} {k : Nat} (F : Fun K "met" "met" sMet f fd) (ml : mg "len" = none) (mx : mg "max" = none) (mn : mg "min" = none) : FnOk P w K mg base CX0 (k + 1) f fd ["one", "two"] spMet := by
  refine F.ok scMet (fun vs H Q E h => ?_) (fun cdv A outer s H vs Q E hr h => ?_)
  · obtain ⟨a, b, ps, qs, rfl, _⟩ := h
    rfl
  · obtain ⟨a, b, ps, qs, rfl, ha, hb, tp, tq, hlen, q⟩ := h
    refine ⟨_, pss_cons (ps_set (i := 2) scMet.nd rfl (.inl rfl) (pe_lst pa_nil))
      (pss_cons (ps_set (i := 3) scMet.nd rfl (.inl rfl) pe_int)
      (pss_cons (ps_set (i := 4) scMet.nd rfl (.inl rfl) pe_int)
      (pss_cons (ps_while PassesOwn.never (PW.pt (pw_and (pt_cmpR op_lt (pv 3) (pe_callB call_len_seq (by rfl) ml PySem.boot_len (pa_cons (pv 0) pa_nil)) (nomark _)) (pw_and1 (pt_cmpR op_lt (pv 4) (pe_callB call_len_seq (by rfl) ml PySem.boot_len (pa_cons (pv 1) pa_nil)) (nomark _)))))
        (pss_cons (ps_set (i := 5) scMet.nd rfl (.inl rfl) (pe_callB (call_max2 rfl) (by rfl) mx boot_max (pa_cons (pe_ix ix_tup (pe_ix ix_list (pv 0) (pv 3) (fun _ _ => rfl)) pe_int (fun _ _ => rfl)) (pa_cons (pe_ix ix_tup (pe_ix ix_list (pv 1) (pv 4) (fun _ _ => rfl)) pe_int (fun _ _ => rfl)) pa_nil))))
        (pss_cons (ps_set (i := 6) scMet.nd rfl (.inl rfl) (pe_callB (call_min2 rfl) (by rfl) mn boot_min (pa_cons (pe_ix ix_tup (pe_ix ix_list (pv 0) (pv 3) (fun _ _ => rfl)) pe_int (fun _ _ => rfl)) (pa_cons (pe_ix ix_tup (pe_ix ix_list (pv 1) (pv 4) (fun _ _ => rfl)) pe_int (fun _ _ => rfl)) pa_nil))))
        (pss_cons (ps_if (pt_cmpR op_lt (pv 5) (pv 6) (nomark _)) (pss_one (ps_expr (pe_bm PySem.F.plainAttrs_list PySem.F.slot_list_append PySem.F.type_list_append mt_append (pv 2) (pa_cons (pe_tup (pa_cons (pv 5) (pa_cons (pv 6) pa_nil))) pa_nil)))) pss_nil)
        (pss_one (ps_if (pt_cmpR op_lt (pe_ix ix_tup (pe_ix ix_list (pv 0) (pv 3) (fun _ _ => rfl)) pe_int (fun _ _ => rfl)) (pe_ix ix_tup (pe_ix ix_list (pv 1) (pv 4) (fun _ _ => rfl)) pe_int (fun _ _ => rfl)) (nomark _))
          (pss_one (ps_aug (i := 3) scMet.nd rfl (.inl rfl) pe_int ip_add)) (pss_one (ps_aug (i := 4) scMet.nd rfl (.inl rfl) pe_int ip_add))))))))
      (pss_one (ps_ret (pv 2)))))), ?_⟩
    refine ⟨Nat.zero_le _, fun o no => ?_⟩
    have s1 : Same H (upd H o (.lst [])) := same_new no
    refine while_by (fun σ H2 => ∃ (i j : Nat) (out : List (Int × Int)) (z5 z6 : Option V), σ = [some (.ref a), some (.ref b), some (.ref o), some (.int i), some (.int j), z5, z6] ∧ Same H H2 ∧ StL H2 o out ∧ MetInv ps qs i j out ∧ i ≤ ps.length ∧ j ≤ qs.length)
      (fun σ _ => muM ps.length qs.length σ) ?_ ?_ ?_
    · exact ⟨0, 0, [], none, none, rfl, s1, ⟨[], ⟨upd_same, fun _ h => nomatch h⟩, rfl⟩, met_start ps qs, Nat.zero_le _, Nat.zero_le _⟩
    · rintro σ H2 ⟨i, j, out, z5, z6, rfl, sm, so, I, hi, hj⟩
      obtain ⟨xa, exa, la⟩ := (ha.same sm).xs
      obtain ⟨xb, exb, lb⟩ := (hb.same sm).xs
      have fin : (ps.length ≤ i ∨ qs.length ≤ j) → Q (.ref o) H2 := fun z => by
        obtain ⟨y1, y2⟩ := met_done I z
        exact q H2 o out sm no so y1 y2 (by have := I.len; omega)
      refine ⟨_, rfl, _, rfl, a, _, rfl, .inl (SqL.of exa), _, _, rfl, rfl, _, rfl, ite2 (fun g => ?_) (fun g => ?_)⟩
      · have g1 : i < ps.length := by
          have : (i : Int) < (xa.length : Int) := of_decide_eq_true g
          omega
        refine ⟨_, rfl, _, rfl, b, _, rfl, .inl (SqL.of exb), _, _, rfl, rfl, _, rfl, ite2 (fun g' => ?_) (fun g' => ?_)⟩
        · have g2 : j < qs.length := by
            have : (j : Int) < (xb.length : Int) := of_decide_eq_true g'
            omega
          obtain ⟨A', eA⟩ : ∃ x, ps[i]? = some x := ⟨_, List.getElem?_eq_getElem g1⟩
          obtain ⟨B', eB⟩ : ∃ x, qs[j]? = some x := ⟨_, List.getElem?_eq_getElem g2⟩
          obtain ⟨ya, ta, ea1, _, ea3, ea4⟩ := (ha.same sm).at eA
          obtain ⟨yb, tb, eb1, _, eb3, eb4⟩ := (hb.same sm).at eB
          have step := met_step tp tq I eA eB
          have emax : (if B'.1 > A'.1 then B'.1 else A'.1) = (cut A' B').1 := by
            show _ = max A'.1 B'.1
            split <;> omega
          have emin : (if B'.2 < A'.2 then B'.2 else A'.2) = (cut A' B').2 := by
            show _ = min A'.2 B'.2
            split <;> omega
          refine ⟨_, rfl, _, rfl, a, _, i, .ref ta, rfl, rfl, SqL.of ea1, atI_nat ea3, ta, _, 0, .int A'.1, rfl, rfl, SqT.of ea4, rfl, _, rfl, _, rfl, b, _, j, .ref tb, rfl, rfl, SqL.of eb1, atI_nat eb3, tb, _, 0, .int B'.1, rfl, rfl, SqT.of eb4, rfl, A'.1, B'.1, rfl, ?_⟩
          refine ⟨_, rfl, _, rfl, a, _, i, .ref ta, rfl, rfl, SqL.of ea1, atI_nat ea3, ta, _, 1, .int A'.2, rfl, rfl, SqT.of ea4, rfl, _, rfl, _, rfl, b, _, j, .ref tb, rfl, rfl, SqL.of eb1, atI_nat eb3, tb, _, 1, .int B'.2, rfl, rfl, SqT.of eb4, rfl, A'.2, B'.2, rfl, ?_⟩
          rw [emax, emin]
          -- what follows the append, at a heap with the longer list
          have tail : ∀ (H3 : Hp), Same H2 H3 ∨ (Same H H3 ∧ H3 a = some (.lst ya) ∧ H3 b = some (.lst yb) ∧ H3 ta = H2 ta ∧ H3 tb = H2 tb) → True := fun _ _ => trivial
          have last : ∀ (H3 : Hp), Same H H3 → H3 a = some (.lst ya) → H3 b = some (.lst yb) → H3 ta = some (.tup [.int A'.1, .int A'.2]) → H3 tb = some (.tup [.int B'.1, .int B'.2]) → StL H3 o (mout out A' B') →
              tIfS (tTest (tOp (rI0 fun i j => .bl (decide (i < j))) (tOp (rIxT K) (tOp (rIxL K) (tVar 0) (tVar 3)) (tC (.int 1))) (tOp (rIxT K) (tOp (rIxL K) (tVar 1) (tVar 4)) (tC (.int 1))))) (tAug 3 (tC (.int 1)) (ipI fun i j => i + j)) (tAug 4 (tC (.int 1)) (ipI fun i j => i + j))
                { nx := fun σ' H' => (∃ (i j : Nat) (out : List (Int × Int)) (z5 z6 : Option V), σ' = [some (.ref a), some (.ref b), some (.ref o), some (.int i), some (.int j), z5, z6] ∧ Same H H' ∧ StL H' o out ∧ MetInv ps qs i j out ∧ i ≤ ps.length ∧ j ≤ qs.length) ∧ muM ps.length qs.length σ' < (ps.length - i) + (qs.length - j),
                  ct := fun _ _ => True, bk := fun _ _ => True, rt := fun _ _ => True }
                [some (.ref a), some (.ref b), some (.ref o), some (.int i), some (.int j), some (.int (cut A' B').1), some (.int (cut A' B').2)] H3 := by
            intro H3 s3 a3 b3 t3 u3 o3
            refine ⟨_, rfl, _, rfl, a, _, i, .ref ta, rfl, rfl, SqL.of a3, atI_nat ea3, ta, _, 1, .int A'.2, rfl, rfl, SqT.of t3, rfl, _, rfl, _, rfl, b, _, j, .ref tb, rfl, rfl, SqL.of b3, atI_nat eb3, tb, _, 1, .int B'.2, rfl, rfl, SqT.of u3, rfl, A'.2, B'.2, rfl, rfl, _, rfl, ite2 (fun y => ?_) (fun y => ?_)⟩
            · have y1 : A'.2 < B'.2 := of_decide_eq_true y
              rw [if_pos y1, if_pos y1] at step
              refine ⟨_, rfl, i, 1, rfl, rfl, ⟨i + 1, j, _, _, _, rfl, s3, o3, step, by omega, hj⟩, ?_⟩
              show (ps.length - ((i : Int) + 1).toNat) + (qs.length - (j : Int).toNat) < _
              omega
            · have y1 : ¬ A'.2 < B'.2 := fun z => y (decide_eq_true z)
              rw [if_neg y1, if_neg y1] at step
              refine ⟨_, rfl, j, 1, rfl, rfl, ⟨i, j + 1, _, _, _, rfl, s3, o3, step, hi, by omega⟩, ?_⟩
              show (ps.length - (i : Int).toNat) + (qs.length - ((j : Int) + 1).toNat) < _
              omega
          have mu0 : muM ps.length qs.length [some (.ref a), some (.ref b), some (.ref o), some (.int i), some (.int j), z5, z6] = (ps.length - i) + (qs.length - j) := by
            show (ps.length - (i : Int).toNat) + (qs.length - (j : Int).toNat) = _
            omega
          refine ⟨_, rfl, _, rfl, (cut A' B').1, (cut A' B').2, rfl, rfl, _, rfl, ite2 (fun y => ?_) (fun y => ?_)⟩
          · have y1 : (cut A' B').1 < (cut A' B').2 := of_decide_eq_true y
            obtain ⟨xo, exo, lo⟩ := so.xs
            refine ⟨_, rfl, .inl ⟨rfl, _, SqL.of exo⟩, _, rfl, _, rfl, (by show 2 ≤ sizeLine; decide), fun t nt => ?_⟩
            obtain ⟨xo2, exo2, lo2, st⟩ := so.push (s := (cut A' B').1) (e := (cut A' B').2) nt
            cases exo.symm.trans exo2
            have s3 := same_new (o := .tup [.int (cut A' B').1, .int (cut A' B').2]) nt
            have keep : ∀ b' o', H2 b' = some o' → b' ≠ o → (upd (upd H2 t (.tup [.int (cut A' B').1, .int (cut A' B').2])) o (.lst (xo ++ [.ref t]))) b' = some o' := fun b' o' e z => by
              rw [upd_ne z]
              exact s3 _ _ e
            have hno : ∀ {b' : Addr} {o' : HO}, H b' = some o' → b' ≠ o := fun e => ne_of_none e no
            obtain ⟨L1, ⟨ha1, ta1⟩, _⟩ := id ha
            obtain ⟨L2, ⟨hb1, tb1⟩, _⟩ := id hb
            have mo : mout out A' B' = out ++ [cut A' B'] := by
              unfold mout
              rw [if_pos y1]
            have oT : ∀ {u : Addr} {v w : Int}, H2 u = some (.tup [.int v, .int w]) → u ≠ o := fun {u v w} e z => by
              rw [z, exo] at e
              cases e
            have z := last (upd (upd H2 t (.tup [.int (cut A' B').1, .int (cut A' B').2])) o (.lst (xo ++ [.ref t])))
              (fun b' o' e => keep _ _ (sm _ _ e) (hno e)) (keep _ _ ea1 (hno ha1)) (keep _ _ eb1 (hno hb1)) (keep _ _ ea4 (oT ea4)) (keep _ _ eb4 (oT eb4)) (by rw [mo]; exact st)
            refine ⟨o, _, _, rfl, rfl, s3 _ _ exo, ?_, ?_⟩
            · rw [lo]
              exact small1000 (by have := I.len; omega)
            · rw [mu0]
              exact z
          · have y1 : ¬ (cut A' B').1 < (cut A' B').2 := fun z => y (decide_eq_true z)
            have mo : mout out A' B' = out := by
              unfold mout
              rw [if_neg y1]
            have z := last H2 sm ea1 eb1 ea4 eb4 (by rw [mo]; exact so)
            rw [mu0]
            exact z
        · refine ⟨_, rfl, fin (.inr ?_)⟩
          have : ¬ (j : Int) < (xb.length : Int) := fun z => g' (decide_eq_true z)
          omega
      · refine if_f ⟨_, rfl, fin (.inl ?_)⟩
        have : ¬ (i : Int) < (xa.length : Int) := fun z => g (decide_eq_true z)
        omega
    · rintro σ H2 Q1 Q2 hq ⟨v3, e3, v0, e0, p0, xs0, r0, sq0, i0, j0, r1, r2, k0, ek0, hk0⟩
      refine ⟨v3, e3, v0, e0, p0, xs0, r0, sq0, i0, j0, r1, r2, k0, ek0, ?_⟩
      cases k0 with
      | false => exact hq _ _ hk0
      | true =>
        obtain ⟨w3, f3, w0, f0, p1, xs1, t0, sq1, i1, j1, t1, t2, k1, ek1, hk1⟩ := hk0
        exact ⟨w3, f3, w0, f0, p1, xs1, t0, sq1, i1, j1, t1, t2, k1, ek1, hq _ _ hk1⟩
end
end Tg

namespace Tg
open PySem PySem.Spec PyProof.Rows L2
section
variable {P : Program} {w : World} {K : PySem.W.Frag} {mg : Str → Option Value} {base : Heap}
/-! ### gaps -/
def spGaps : Sp := fun vs H Q _ => ∃ (a : Addr) (low high : Int) (ps : List (Int × Int)), vs = [.ref a, .int low, .int high] ∧ StL H a ps ∧ ps.length ≤ 500 ∧
  ∀ H' r, Same H H' → H r = none → StL H' r (keepL (gapsR low ps high)) → Q (.ref r) H'
theorem take_snoc {α : Type} {l : List α} {i : Nat} {x : α} (h : l[i]? = some x) : l.take (i + 1) = l.take i ++ [x] := by
  rw [List.take_add_one, h]
  rfl
theorem ok_gaps {f : Addr} {fd : FuncData} {k : Nat} (F : Fun K "gaps" "gaps" sGaps f fd) (mz : mg "zip" = none) : FnOk P w K mg base CX0 (k + 1) f fd ["stretches", "low", "high"] spGaps := by
  refine F.ok scGaps (fun vs H Q E h => ?_) (fun cdv A outer s H vs Q E hr h => ?_)
  · obtain ⟨a, low, high, ps, rfl, _⟩ := h
    rfl
  · obtain ⟨a, low, high, ps, rfl, ⟨L, ⟨ha, hL⟩, rfl⟩, hlen, q⟩ := h
    rw [List.length_map] at hlen
    refine ⟨_, pss_cons (ps_set (i := 3) scGaps.nd rfl (.inl rfl) (pe_op op_cat (pe_lst (pa_cons (pv 1) pa_nil))
        (pe_lc (own := [("start", 5), ("end", 6)]) (g := gTup K 2 (gCons (gName 5) (gCons (gName 6) gNil))) (by rfl) scGaps.nd (pi_list (pv 0)) (blkOk_by (own := [("start", 5), ("end", 6)]) (N := NG) (sc := defScope sGaps) (by decide +kernel))
            (fun _ _ _ _ _ => pg_tup rfl (pgs_cons (pg_name (i := 5) scGaps.nd rfl (.inl rfl)) (pgs_cons (pg_name (i := 6) scGaps.nd rfl (.inl rfl)) pgs_nil)))
            (fun _ _ _ _ _ => pts_nil) (fun _ _ _ _ _ => pv 6))))
      (pss_cons (ps_set (i := 4) scGaps.nd rfl (.inl rfl) (pe_op op_cat
        (pe_lc (own := [("start", 5), ("end", 6)]) (g := gTup K 2 (gCons (gName 5) (gCons (gName 6) gNil))) (by rfl) scGaps.nd (pi_list (pv 0)) (blkOk_by (own := [("start", 5), ("end", 6)]) (N := NG) (sc := defScope sGaps) (by decide +kernel))
            (fun _ _ _ _ _ => pg_tup rfl (pgs_cons (pg_name (i := 5) scGaps.nd rfl (.inl rfl)) (pgs_cons (pg_name (i := 6) scGaps.nd rfl (.inl rfl)) pgs_nil)))
            (fun _ _ _ _ _ => pts_nil) (fun _ _ _ _ _ => pv 5))
        (pe_lst (pa_cons (pv 2) pa_nil))))
      (pss_one (ps_ret (pe_lc (own := [("start", 5), ("end", 6)]) (g := gTup K 2 (gCons (gName 5) (gCons (gName 6) gNil))) (by rfl) scGaps.nd (pi_zip (by rfl) mz (pa_cons (pv 3) (pa_cons (pv 4) pa_nil))) (blkOk_by (own := [("start", 5), ("end", 6)]) (N := NG) (sc := defScope sGaps) (by decide +kernel))
            (fun _ _ _ _ _ => pg_tup rfl (pgs_cons (pg_name (i := 5) scGaps.nd rfl (.inl rfl)) (pgs_cons (pg_name (i := 6) scGaps.nd rfl (.inl rfl)) pgs_nil)))
            (fun _ _ _ _ _ => pts_one (pt_cmpR op_lt (pv 5) (pv 6) (nomark _))) (fun _ _ _ _ _ => pe_tup (pa_cons (pv 5) (pa_cons (pv 6) pa_nil))))))), ?_⟩
    -- starts
    refine ⟨_, rfl, (by show 1 ≤ sizeLine; decide), fun l1 n1 => ?_⟩
    have s1 : Same H (upd H l1 (.lst [.int low])) := same_new n1
    refine ⟨_, rfl, a, rfl, ⟨_, SqL.of (s1 _ _ ha)⟩, fun D nD => lc_list (K := K) (a := a) (xs := refs L) (fun i Hc => Same (upd H l1 (.lst [.int low])) Hc ∧ Hc D = some (.lst (((L.take i).map fun q => q.2.2).map V.int))) ?_ ?_ ?_ ?_⟩
    · exact ⟨same_new nD, upd_same⟩
    · rintro i Hc _ ⟨sc, _⟩
      exact SqL.of (sc _ _ (s1 _ _ ha))
    · rintro i x Hc hx ⟨sc, hD⟩
      obtain ⟨q0, hq0, rfl⟩ := refs_get hx
      have tq : Tp Hc q0 := sc _ _ (s1 _ _ (hL q0 (List.mem_of_getElem? hq0)))
      refine ⟨q0.1, _, rfl, SqT.of tq, rfl, .int q0.2.1, [.int q0.2.2], rfl, .int q0.2.2, [], rfl, rfl, rfl, _, rfl, _, hD, ?_, fun b o' e => ?_, ?_⟩
      · rw [List.length_map, List.length_map, List.length_take]
        exact small1000 (by omega)
      · rw [upd_ne (ne_of_none e nD)]
        exact sc b o' e
      · rw [upd_same, take_snoc hq0, List.map_append, List.map_append]
        rfl
    rintro Hc ⟨sc, hD⟩
    rw [show (refs L).length = L.length from refs_len L, List.take_length] at hD
    refine ⟨l1, D, _, _, rfl, rfl, sc _ _ upd_same, hD, ?_, fun l3 n3 => ?_⟩
    · rw [List.length_map, List.length_map]
      exact Nat.le_of_lt (small1000 (by show 1 + L.length ≤ 1000; omega))
    have e3 : [V.int low] ++ (L.map fun q => q.2.2).map V.int = (low :: L.map fun q => q.2.2).map V.int := rfl
    rw [e3]
    have sA : Same H (upd Hc l3 (.lst ((low :: L.map fun q => q.2.2).map V.int))) := fun b o' e => same_new n3 _ _ (sc _ _ (s1 _ _ e))
    have h3 : (upd Hc l3 (.lst ((low :: L.map fun q => q.2.2).map V.int))) l3 = some (.lst ((low :: L.map fun q => q.2.2).map V.int)) := upd_same
    obtain ⟨Hd, eHd⟩ : ∃ Hd, Hd = upd Hc l3 (.lst ((low :: L.map fun q => q.2.2).map V.int)) := ⟨_, rfl⟩
    rw [← eHd] at sA h3 ⊢
    -- ends
    refine ⟨_, rfl, a, rfl, ⟨_, SqL.of (sA _ _ ha)⟩, fun D2 nD2 => lc_list (K := K) (a := a) (xs := refs L) (fun i He => Same Hd He ∧ He D2 = some (.lst (((L.take i).map fun q => q.2.1).map V.int))) ?_ ?_ ?_ ?_⟩
    · exact ⟨same_new nD2, upd_same⟩
    · rintro i He _ ⟨se, _⟩
      exact SqL.of (se _ _ (sA _ _ ha))
    · rintro i x He hx ⟨se, hD2⟩
      obtain ⟨q0, hq0, rfl⟩ := refs_get hx
      have tq : Tp He q0 := se _ _ (sA _ _ (hL q0 (List.mem_of_getElem? hq0)))
      refine ⟨q0.1, _, rfl, SqT.of tq, rfl, .int q0.2.1, [.int q0.2.2], rfl, .int q0.2.2, [], rfl, rfl, rfl, _, rfl, _, hD2, ?_, fun b o' e => ?_, ?_⟩
      · rw [List.length_map, List.length_map, List.length_take]
        exact small1000 (by omega)
      · rw [upd_ne (ne_of_none e nD2)]
        exact se b o' e
      · rw [upd_same, take_snoc hq0, List.map_append, List.map_append]
        rfl
    rintro He ⟨se, hD2⟩
    rw [show (refs L).length = L.length from refs_len L, List.take_length] at hD2
    refine ⟨_, rfl, (by show 1 ≤ sizeLine; decide), fun l4 n4 => ?_⟩
    have s4 := same_new (o := .lst [.int high]) n4
    refine ⟨D2, l4, _, _, rfl, rfl, s4 _ _ hD2, upd_same, ?_, fun l5 n5 => ?_⟩
    · rw [List.length_map, List.length_map]
      exact Nat.le_of_lt (small1000 (by show L.length + 1 ≤ 1000; omega))
    have e5 : (L.map fun q => q.2.1).map V.int ++ [V.int high] = ((L.map fun q => q.2.1) ++ [high]).map V.int := by
      rw [List.map_append]
      rfl
    rw [e5]
    have s5 := same_new (o := .lst (((L.map fun q => q.2.1) ++ [high]).map V.int)) n5
    have sB : Same H (upd (upd He l4 (.lst [.int high])) l5 (.lst (((L.map fun q => q.2.1) ++ [high]).map V.int))) := fun b o' e => s5 _ _ (s4 _ _ (se _ _ (sA _ _ e)))
    have h3' : (upd (upd He l4 (.lst [.int high])) l5 (.lst (((L.map fun q => q.2.1) ++ [high]).map V.int))) l3 = some (.lst ((low :: L.map fun q => q.2.2).map V.int)) := s5 _ _ (s4 _ _ (se _ _ h3))
    have h5' : (upd (upd He l4 (.lst [.int high])) l5 (.lst (((L.map fun q => q.2.1) ++ [high]).map V.int))) l5 = some (.lst (((L.map fun q => q.2.1) ++ [high]).map V.int)) := upd_same
    obtain ⟨Hf, eHf⟩ : ∃ Hf, Hf = upd (upd He l4 (.lst [.int high])) l5 (.lst (((L.map fun q => q.2.1) ++ [high]).map V.int)) := ⟨_, rfl⟩
    rw [← eHf] at sB h3' h5' ⊢
    -- the pairs
    obtain ⟨S, eS⟩ : ∃ S, S = (low :: L.map fun q => q.2.2) := ⟨_, rfl⟩
    obtain ⟨T, eT⟩ : ∃ T, T = ((L.map fun q => q.2.1) ++ [high]) := ⟨_, rfl⟩
    rw [← eS] at h3'
    rw [← eT] at h5'
    have lS : S.length = L.length + 1 := by
      rw [eS, List.length_cons, List.length_map]
    have lT : T.length = L.length + 1 := by
      rw [eT, List.length_append, List.length_map]
      rfl
    have eG : S.zip T = gapsR low (L.map (·.2)) high := by
      rw [← gaps_zip, eS, eT, List.map_map, List.map_map]
      rfl
    refine ⟨_, rfl, _, rfl, l3, l5, _, _, rfl, SqL.of h3', SqL.of h5', fun D3 nD3 => ?_⟩
    refine ⟨fun i m Hg => i + m = L.length + 1 ∧ Same Hf Hg ∧ StL Hg D3 (keepL ((S.zip T).take i)), ⟨L.length + 1, by omega, same_new nD3, [], ⟨upd_same, fun _ h => nomatch h⟩, rfl⟩, fun i m Hg hW => ?_⟩
    obtain ⟨em, sg, sD⟩ := hW
    have hA : SqL K Hg l3 (S.map V.int) := SqL.of (sg _ _ h3')
    have hB : SqL K Hg l5 (T.map V.int) := SqL.of (sg _ _ h5')
    by_cases hi : i < L.length + 1
    · have i1 : i < S.length := by omega
      have i2 : i < T.length := by omega
      have g1 : (S.map V.int)[i]? = some (.int S[i]) := by
        rw [List.getElem?_map, List.getElem?_eq_getElem i1]
        rfl
      have g2 : (T.map V.int)[i]? = some (.int T[i]) := by
        rw [List.getElem?_map, List.getElem?_eq_getElem i2]
        rfl
      have gz : (S.zip T)[i]? = some (S[i], T[i]) := by
        rw [List.getElem?_zip_eq_some]
        exact ⟨List.getElem?_eq_getElem i1, List.getElem?_eq_getElem i2⟩
      refine .inr ⟨⟨_, _, _, _, hA, hB, g1, g2⟩, fun H' => Same Hf H' ∧ StL H' D3 (keepL ((S.zip T).take (i + 1))), fun H' hN => ⟨m - 1, by omega, by omega, hN.1, hN.2⟩, fun x H' hy => ?_⟩
      obtain ⟨tt, x1, x2, rfl, nT, rfl, f1, f2⟩ := hy
      have ex1 : x1 = .int S[i] := Option.some.inj ((f1 _ hA).symm.trans g1)
      have ex2 : x2 = .int T[i] := Option.some.inj ((f2 _ hB).symm.trans g2)
      subst ex1
      subst ex2
      have st := same_new (o := .tup [.int S[i], .int T[i]]) nT
      refine ⟨tt, _, rfl, SqT.of upd_same, rfl, .int S[i], [.int T[i]], rfl, .int T[i], [], rfl, rfl, rfl, ?_⟩
      have ek : keepL ((S.zip T).take (i + 1)) = keepL ((S.zip T).take i) ++ (if S[i] < T[i] then [(S[i], T[i])] else []) := by
        unfold keepL
        rw [take_snoc gz, List.filter_append, List.filter_cons, List.filter_nil]
        by_cases z : S[i] < T[i]
        · rw [if_pos (decide_eq_true z), if_pos z]
        · rw [if_neg (fun y => z (of_decide_eq_true y)), if_neg z]
      refine ⟨_, rfl, _, rfl, S[i], T[i], rfl, rfl, _, rfl, ite2 (fun g => ?_) (fun g => ?_)⟩
      · have g0 : S[i] < T[i] := of_decide_eq_true g
        refine ⟨_, rfl, _, rfl, (by show 2 ≤ sizeLine; decide), fun u nu => ?_⟩
        have sD' := sD.same st
        obtain ⟨xo, exo, lo, sp'⟩ := sD'.push (s := S[i]) (e := T[i]) nu
        refine ⟨xo, same_new nu _ _ exo, ?_, fun b o' e => ?_, ?_⟩
        · rw [lo]
          refine small1000 ?_
          unfold keepL
          refine Nat.le_trans (List.length_filter_le _ _) ?_
          rw [List.length_take]
          omega
        · rw [upd_ne (ne_of_none e nD3)]
          exact same_new nu _ _ (st _ _ (sg _ _ e))
        · rw [ek, if_pos g0]
          exact sp'
      · have g0 : ¬ S[i] < T[i] := fun z => g (decide_eq_true z)
        refine ⟨sg.trans st, ?_⟩
        rw [ek, if_neg g0, List.append_nil]
        exact sD.same st
    · refine .inl ⟨⟨_, _, hA, hB, .inl ?_⟩, ?_⟩
      · rw [List.length_map]
        omega
      · have ef : (S.zip T).take i = S.zip T := List.take_of_length_le (by
          rw [List.length_zip]
          omega)
        rw [ef, eG] at sD
        exact q Hg D3 (sB.trans sg) (sB.free nD3) sD
/-! ### less -/
def spLess : Sp := fun vs H Q _ => ∃ (a b : Addr) (ps qs : List (Int × Int)), vs = [.ref a, .ref b] ∧ StL H a ps ∧ StL H b qs ∧ Tidy ps ∧ Tidy qs ∧ ps.length + qs.length ≤ 490 ∧
  ∀ H' r rs, Same H H' → H r = none → StL H' r rs → Tidy rs → (∀ t, Has rs t ↔ Has ps t ∧ ¬ Has qs t) → rs.length ≤ ps.length + qs.length + 1 → Q (.ref r) H'
theorem ok_less {f g1 g2 : Addr} {fd gd1 gd2 : FuncData} {k : Nat} (F : Fun K "less" "less" sLess f fd) (M : FnOk P w K mg base CX0 k g1 gd1 ["one", "two"] spMet) (mM : mg "met" = some (.ref g1)) (kM : PySem.W.keepIn K (.ref g1) = true) (bM : Binds K gd1 ["one", "two"] [])
    (G : FnOk P w K mg base CX0 k g2 gd2 ["stretches", "low", "high"] spGaps) (mG : mg "gaps" = some (.ref g2)) (kG : PySem.W.keepIn K (.ref g2) = true) (bG : Binds K gd2 ["stretches", "low", "high"] []) :
    FnOk P w K mg base CX0 (k + 1) f fd ["one", "two"] spLess := by
  refine F.ok scLess (fun vs H Q E h => ?_) (fun cdv A outer s H vs Q E hr h => ?_)
  · obtain ⟨a, b, ps, qs, rfl, _⟩ := h
    rfl
  · obtain ⟨a, b, ps, qs, rfl, ha, hb, tp, tq, hlen, q⟩ := h
    refine ⟨_, pss_cons (ps_if (pt_not (pt_truth (pv 0) (fun _ => rfl))) (pss_one (ps_ret (pe_lst pa_nil))) pss_nil)
      (pss_one (ps_ret (pe_call M hr (by rfl) mM kM bM .nil pass0 (pa_cons (pv 0) (pa_cons (pe_call G hr (by rfl) mG kG bG .nil pass0 (pa_cons (pv 1)
        (pa_cons (pe_ix ix_tup (pe_ix ix_list (pv 0) pe_int (fun _ _ => rfl)) pe_int (fun _ _ => rfl)) (pa_cons (pe_ix ix_tup (pe_ix ix_list (pv 0) (pe_un un_neg pe_int) (fun _ _ => rfl)) pe_int (fun _ _ => rfl)) pa_nil)))) pa_nil))))), ?_⟩
    obtain ⟨L, ⟨ha1, ha2⟩, ep⟩ := id ha
    cases L with
    | nil =>
      have ep' : ps = [] := ep.symm
      subst ep'
      refine ⟨_, rfl, false, .inl ⟨_, SqL.of ha1, rfl⟩, if_t ⟨Nat.zero_le _, fun l n => ?_⟩⟩
      exact q _ l [] (same_new n) n ⟨[], ⟨upd_same, fun _ h => nomatch h⟩, rfl⟩ tidy_nil (fun t => ⟨fun z => (has_nil t z).elim, fun z => (has_nil t z.1).elim⟩) (Nat.zero_le _)
    | cons q0 L =>
      refine ⟨_, rfl, true, .inl ⟨_, SqL.of ha1, rfl⟩, if_f ?_⟩
      obtain ⟨Li, lq, eL⟩ : ∃ Li lq, q0 :: L = Li ++ [lq] := by
        rcases List.eq_nil_or_concat (q0 :: L) with z | ⟨Li, lq, z⟩
        · cases z
        · exact ⟨Li, lq, by rw [z, List.concat_eq_append]⟩
      have t0 : Tp H q0 := ha2 q0 List.mem_cons_self
      have tl : Tp H lq := ha2 lq (by rw [eL]; exact List.mem_append_right _ List.mem_cons_self)
      have at1 : atI (refs (q0 :: L)) (-1) = some (.ref lq.1) := by
        rw [eL, refs_snoc]
        exact atI_last _ _
      refine ⟨_, rfl, _, rfl, _, rfl, a, _, 0, .ref q0.1, rfl, rfl, SqL.of ha1, atI_nat (j := 0) rfl, q0.1, _, 0, .int q0.2.1, rfl, rfl, SqT.of t0, rfl, _, rfl, 1, rfl, a, _, -1, .ref lq.1, rfl, rfl, SqL.of ha1, at1, lq.1, _, 1, .int lq.2.2, rfl, rfl, SqT.of tl, rfl,
        b, q0.2.1, lq.2.2, qs, rfl, hb, by omega, fun H1 r1 s1 n1 st1 => ?_⟩
      have gl : (keepL (gapsR q0.2.1 qs lq.2.2)).length ≤ qs.length + 1 := by
        unfold keepL
        refine Nat.le_trans (List.length_filter_le _ _) ?_
        rw [gaps_len]
        exact Nat.le_refl _
      refine ⟨a, r1, ps, _, rfl, ha.same s1, st1, tp, gaps_tidy qs _ _ tq, by omega, fun H2 r2 rs s2 n2 st2 td2 hs2 hl2 => ?_⟩
      have ep' : ps = q0.2 :: L.map (·.2) := ep.symm
      refine q H2 r2 rs (s1.trans s2) (s1.free n2) st2 td2 (fun t => ?_) (by omega)
      rw [hs2 t, keep_has]
      constructor
      · rintro ⟨z1, z2⟩
        have z3 := z1
        rw [ep'] at z3 tp
        have sp' := tidy_span tp (l := lq.2) (by
          have e2 : q0.2 :: L.map (·.2) = Li.map (·.2) ++ [lq.2] := by
            have := congrArg (List.map (·.2)) eL
            rw [List.map_append] at this
            exact this
          rw [e2, List.getLast?_concat]) z3
        exact ⟨z1, (gaps_has qs q0.2.1 lq.2.2 t tq sp'.1 sp'.2).mp z2⟩
      · rintro ⟨z1, z2⟩
        have z3 := z1
        rw [ep'] at z3 tp
        have sp' := tidy_span tp (l := lq.2) (by
          have e2 : q0.2 :: L.map (·.2) = Li.map (·.2) ++ [lq.2] := by
            have := congrArg (List.map (·.2)) eL
            rw [List.map_append] at this
            exact this
          rw [e2, List.getLast?_concat]) z3
        exact ⟨z1, (gaps_has qs q0.2.1 lq.2.2 t tq sp'.1 sp'.2).mpr z2⟩
end
end Tg

namespace Tg
open PySem PySem.Spec PyProof.Rows L2
theorem scList : FnScope ["_law_draws_here", "_law_told", "_law_far", "_law_k", "_law_pick", "_law_start", "_law_end"] ["_law_draws_here"] (defScope sList) := ⟨rfl, rfl, rfl, by decide +kernel, rfl, by decide +kernel, by decide +kernel⟩
abbrev NH : List Str := ["_law_some", "_law_time", "_law_pair"]
theorem scHas : FnScope NH ["_law_some", "_law_time"] (defScope sHas) := ⟨rfl, rfl, rfl, by decide +kernel, rfl, by decide +kernel, by decide +kernel⟩
theorem scTimes : FnScope ["_law_a_one", "_law_a_two", "_law_told", "_law_start", "_law_end"] ["_law_a_one", "_law_a_two"] (defScope sTimes) := ⟨rfl, rfl, rfl, by decide +kernel, rfl, by decide +kernel, by decide +kernel⟩
theorem scLTidy : FnScope ["_law_told", "_law_k", "_law_pair"] ["_law_told"] (defScope sLTidy) := ⟨rfl, rfl, rfl, by decide +kernel, rfl, by decide +kernel, by decide +kernel⟩
/-! ### such lists as data -/
def pd (x : Int × Int) : PyData := .tuple [.int x.1, .int x.2]
def dP (ps : List (Int × Int)) : PyData := .list (ps.map pd)
theorem dp_refs {K : PySem.W.Frag} {H : Hp} : ∀ {L : List PT3}, (∀ q, q ∈ L → Tp H q) → DpAll K H (refs L) ((L.map (·.2)).map pd)
  | [], _ => .nil
  | q :: L, h => .cons (.tup (SqT.of (h q List.mem_cons_self)) (.cons (.int _) (.cons (.int _) .nil))) (dp_refs fun r hr => h r (List.mem_cons_of_mem _ hr))
theorem StL.dp {K : PySem.W.Frag} {H : Hp} {a : Addr} {ps : List (Int × Int)} (h : StL H a ps) : Dp K H (.ref a) (dP ps) := by
  obtain ⟨L, ⟨h1, h2⟩, rfl⟩ := h
  exact .lst (SqL.of h1) (dp_refs h2)
theorem pd_all (ps : List (Int × Int)) : PyData.canLayAll0 (ps.map pd) = true ∧ PyData.depthAll (ps.map pd) ≤ 1 ∧ PyData.eqvAll (ps.map pd) (ps.map pd) = true := by
  induction ps with
  | nil => exact ⟨rfl, Nat.zero_le _, rfl⟩
  | cons x r ih =>
    obtain ⟨h1, h2, h3⟩ := ih
    refine ⟨?_, ?_, ?_⟩
    · show (true && PyData.canLayAll0 (r.map pd)) = true
      rw [h1]
      rfl
    · show max 1 (PyData.depthAll (r.map pd)) ≤ 1
      omega
    · show (((x.1 == x.1) && ((x.2 == x.2) && true)) && PyData.eqvAll (r.map pd) (r.map pd)) = true
      rw [h3, beq_self_eq_true, beq_self_eq_true]
      rfl
theorem shaped_of {d : PyData} (h1 : d.canLay0 = true) (h2 : d.depth ≤ 64) : SeqAt.shaped d = true := by
  unfold SeqAt.shaped
  rw [h1, decide_eq_true h2]
  rfl
theorem dP_lay (ps : List (Int × Int)) : (dP ps).canLay0 = true := (pd_all ps).1
theorem dP_depth (ps : List (Int × Int)) : (dP ps).depth ≤ 2 := by
  show PyData.depthAll (ps.map pd) + 1 ≤ 2
  have := (pd_all ps).2.1
  omega
theorem dP_eq (ps : List (Int × Int)) : PyData.eqv (dP ps) (dP ps) = true := (pd_all ps).2.2
theorem dP_shaped (ps : List (Int × Int)) : SeqAt.shaped (dP ps) = true := shaped_of (dP_lay ps) (Nat.le_trans (dP_depth ps) (by decide))
/-- lists of such lists -/
def dPs (pss : List (List (Int × Int))) : PyData := .list (pss.map dP)
theorem dPs_all (pss : List (List (Int × Int))) : PyData.canLayAll0 (pss.map dP) = true ∧ PyData.depthAll (pss.map dP) ≤ 2 ∧ PyData.eqvAll (pss.map dP) (pss.map dP) = true := by
  induction pss with
  | nil => exact ⟨rfl, Nat.zero_le _, rfl⟩
  | cons x r ih =>
    obtain ⟨h1, h2, h3⟩ := ih
    refine ⟨?_, ?_, ?_⟩
    · show ((dP x).canLay0 && PyData.canLayAll0 (r.map dP)) = true
      rw [h1, dP_lay]
      rfl
    · show max (dP x).depth (PyData.depthAll (r.map dP)) ≤ 2
      have := dP_depth x
      omega
    · show (PyData.eqv (dP x) (dP x) && PyData.eqvAll (r.map dP) (r.map dP)) = true
      rw [h3, dP_eq]
      rfl
theorem dPs_lay (pss : List (List (Int × Int))) : (dPs pss).canLay0 = true := (dPs_all pss).1
theorem dPs_depth (pss : List (List (Int × Int))) : (dPs pss).depth ≤ 3 := by
  show PyData.depthAll (pss.map dP) + 1 ≤ 3
  have := (dPs_all pss).2.1
  omega
theorem dPs_shaped (pss : List (List (Int × Int))) : SeqAt.shaped (dPs pss) = true := shaped_of (dPs_lay pss) (Nat.le_trans (dPs_depth pss) (by decide))
theorem dPs_ne (pss : List (List (Int × Int))) : (!PyData.eqv (dPs pss) (dPs pss)) = false := by
  have e : PyData.eqv (dPs pss) (dPs pss) = true := (dPs_all pss).2.2
  rw [e]
  rfl
/-- small enough to be shown -/
def Small (ps : List (Int × Int)) : Prop := ps.length ≤ 30 ∧ ∀ x, x ∈ ps → (-999999999999 ≤ x.1 ∧ x.1 ≤ 999999999999) ∧ (-999999999999 ≤ x.2 ∧ x.2 ≤ 999999999999)
theorem w_int {i : Int} (h1 : -999999999999 ≤ i) (h2 : i ≤ 999999999999) : PyData.weight (.int i) ≤ 41 := by
  show (if i == 0 then 0 else i.natAbs.log2 + 1) ≤ 41
  split
  · exact Nat.zero_le _
  · have : i.natAbs < 2 ^ 41 := by omega
    exact PySem.Flt.log2_lt_of (by decide) this
theorem pd_small : ∀ {ps : List (Int × Int)}, (∀ x, x ∈ ps → (-999999999999 ≤ x.1 ∧ x.1 ≤ 999999999999) ∧ (-999999999999 ≤ x.2 ∧ x.2 ≤ 999999999999)) →
    PyData.showableAll (ps.map pd) = true ∧ PyData.hasDictAll (ps.map pd) = false ∧ PyData.intsShortAll 13 (ps.map pd) = true ∧ PyData.weightAll (ps.map pd) ≤ 100 * ps.length
  | [], _ => ⟨rfl, rfl, rfl, Nat.zero_le _⟩
  | x :: r, h => by
    obtain ⟨i1, i2, i3, i4⟩ := pd_small (ps := r) fun y hy => h y (List.mem_cons_of_mem _ hy)
    obtain ⟨⟨a1, a2⟩, b1, b2⟩ := h x List.mem_cons_self
    have l1 : x.1.natAbs.log2 < 1920 := Nat.lt_of_lt_of_le (PySem.Flt.log2_lt_of (k := 41) (by decide) (by omega)) (by decide)
    have l2 : x.2.natAbs.log2 < 1920 := Nat.lt_of_lt_of_le (PySem.Flt.log2_lt_of (k := 41) (by decide) (by omega)) (by decide)
    refine ⟨?_, ?_, ?_, ?_⟩
    · show ((decide (x.1.natAbs.log2 < 1920) && (decide (x.2.natAbs.log2 < 1920) && true)) && PyData.showableAll (r.map pd)) = true
      rw [i1, decide_eq_true l1, decide_eq_true l2]
      rfl
    · show ((false || (false || false)) || PyData.hasDictAll (r.map pd)) = false
      rw [i2]
      rfl
    · show ((decide ((PyData.shown (.int x.1)).length ≤ 13) && (decide ((PyData.shown (.int x.2)).length ≤ 13) && true)) && PyData.intsShortAll 13 (r.map pd)) = true
      rw [i3, decide_eq_true (PyData.shown_int_le2 a1 a2), decide_eq_true (PyData.shown_int_le2 b1 b2)]
      rfl
    · show (PyData.weight (.int x.1) + 1 + (PyData.weight (.int x.2) + 1 + 0)) + 1 + PyData.weightAll (r.map pd) ≤ 100 * (r.length + 1)
      have := w_int a1 a2
      have := w_int b1 b2
      omega
theorem two_shown {ps qs : List (Int × Int)} (h1 : Small ps) (h2 : Small qs) : (dPs [ps, qs]).showable = true ∧ (dPs [ps, qs]).hasDict = false ∧ (dPs [ps, qs]).depth ≤ 60 ∧ (dPs [ps, qs]).shown.length ≤ sizeLine := by
  obtain ⟨a1, a2, a3, a4⟩ := pd_small h1.2
  obtain ⟨b1, b2, b3, b4⟩ := pd_small h2.2
  have l1 := h1.1
  have l2 := h2.1
  have s1 : (dPs [ps, qs]).intsShort 13 = true := by
    show (PyData.intsShortAll 13 (ps.map pd) && (PyData.intsShortAll 13 (qs.map pd) && true)) = true
    rw [a3, b3]
    rfl
  have w1 : (dPs [ps, qs]).weight ≤ 2 ^ 20 := by
    show PyData.weightAll (ps.map pd) + 1 + (PyData.weightAll (qs.map pd) + 1 + 0) ≤ 2 ^ 20
    omega
  have y : PyData.layable0 (dPs [ps, qs]) = true := by
    unfold PyData.layable0
    rw [dPs_lay, decide_eq_true (Nat.le_trans (dPs_depth _) (by decide) : (dPs [ps, qs]).depth ≤ 64), decide_eq_true w1]
    rfl
  refine ⟨?_, ?_, Nat.le_trans (dPs_depth _) (by decide), Nat.le_trans (shown_le13 y s1) (by decide)⟩
  · show (PyData.showableAll (ps.map pd) && (PyData.showableAll (qs.map pd) && true)) = true
    rw [a1, b1]
    rfl
  · show (PyData.hasDictAll (ps.map pd) || (PyData.hasDictAll (qs.map pd) || false)) = false
    rw [a2, b2]
    rfl
/-! ### whether a time is in a list -/
def hasB (ps : List (Int × Int)) (t : Int) : Bool := ps.any fun x => decide (x.1 ≤ t) && decide (t < x.2)
theorem hasB_iff {ps : List (Int × Int)} {t : Int} : hasB ps t = true ↔ Has ps t := by
  unfold hasB
  rw [List.any_eq_true]
  constructor
  · rintro ⟨x, hx, h⟩
    obtain ⟨h1, h2⟩ := Bool.and_eq_true_iff.mp h
    exact ⟨x, hx, of_decide_eq_true h1, of_decide_eq_true h2⟩
  · rintro ⟨x, hx, h1, h2⟩
    exact ⟨x, hx, Bool.and_eq_true_iff.mpr ⟨decide_eq_true h1, decide_eq_true h2⟩⟩
theorem hasB_congr {ps qs : List (Int × Int)} {t : Int} (h : Has ps t ↔ Has qs t) : hasB ps t = hasB qs t := by
  rw [Bool.eq_iff_iff, hasB_iff, hasB_iff]
  exact h
theorem StL.kp {H H' : Hp} {p o : Addr} {n : Nat} {ps : List (Int × Int)} (k : Kp p H H') (d : Dr H p n) (ho : o ≠ p) (h : StL H o ps) : StL H' o ps := by
  obtain ⟨L, ⟨h1, h2⟩, h3⟩ := h
  refine ⟨L, ⟨k _ _ ho h1, fun q hq => k _ _ (fun z => ?_) (h2 q hq)⟩, h3⟩
  have tq := h2 q hq
  obtain ⟨_, _, _, z2, _⟩ := d
  unfold Tp at tq
  rw [z, z2] at tq
  cases tq
/-- the last one once more -/
theorem StL.dup {H : Hp} {o : Addr} {ps : List (Int × Int)} {x : Int × Int} (h : StL H o (ps ++ [x])) :
    ∃ xs t, H o = some (.lst (xs ++ [.ref t])) ∧ xs.length = ps.length ∧ StL (upd H o (.lst (xs ++ [.ref t] ++ [.ref t]))) o (ps ++ [x] ++ [x]) := by
  obtain ⟨L, ⟨h1, h2⟩, e⟩ := h
  rcases List.eq_nil_or_concat L with rfl | ⟨Li, q, rfl⟩
  · have := congrArg List.length e
    simp at this
  · rw [List.concat_eq_append] at h1 h2 e
    rw [List.map_append] at e
    obtain ⟨e1, e2⟩ := List.append_inj' e rfl
    have e3 : q.2 = x := List.cons.inj e2 |>.1
    rw [refs_snoc] at h1
    refine ⟨refs Li, q.1, h1, ?_, Li ++ [q] ++ [q], ⟨?_, fun r hr => ?_⟩, ?_⟩
    · rw [refs_len, ← e1, List.length_map]
    · rw [upd_same, refs_snoc, refs_snoc]
    · have hr' : r ∈ Li ++ [q] := by
        rcases List.mem_append.mp hr with z | z
        · exact z
        · exact List.mem_append_right _ z
      have tq := h2 r hr'
      show (upd H o _) r.1 = _
      rw [upd_ne (show r.1 ≠ o from fun z => by
        unfold Tp at tq
        rw [z, h1] at tq
        cases tq)]
      exact tq
    · rw [List.map_append, List.map_append, e1]
      show _ ++ [q.2] ++ [q.2] = _
      rw [e3]
section
variable {P : Program} {w : World} {K : PySem.W.Frag} {mg : Str → Option Value} {base : Heap}
/-! ### _law_has -/
def spHas : Sp := fun vs H Q _ => ∃ (a : Addr) (t : Int) (ps : List (Int × Int)), vs = [.ref a, .int t] ∧ StL H a ps ∧ ps.length ≤ 500 ∧ ∀ H', Same H H' → Q (.bl (hasB ps t)) H'
theorem ok_has {f : Addr} {fd : FuncData} {k : Nat} (F : Fun K "_law_has" "_law_has" sHas f fd) : FnOk P w K mg base CX0 (k + 1) f fd ["_law_some", "_law_time"] spHas := by
  refine F.ok scHas (fun vs H Q E h => ?_) (fun cdv A outer s H vs Q E hr h => ?_)
  · obtain ⟨a, t, ps, rfl, _⟩ := h
    rfl
  · obtain ⟨a, t, ps, rfl, ⟨L, ⟨ha, hL⟩, rfl⟩, hlen, q⟩ := h
    rw [List.length_map] at hlen
    refine ⟨_, pss_one (ps_ret (pe_cmpR (op_neD hr.units)
      (pe_lc (own := [("_law_pair", 2)]) (g := gName 2) (by rfl) scHas.nd (pi_list (pv 0)) (blkOk_by (own := [("_law_pair", 2)]) (N := NH) (sc := defScope sHas) (by decide +kernel))
        (fun _ _ _ _ _ => pg_name (i := 2) scHas.nd rfl (.inl rfl))
        (fun _ _ _ _ _ => pts_one (pt_chain op_le op_lt (pe_ix (r := rIxT K) ix_tup (pv 2) pe_int (fun _ _ => rfl)) (pv 1) (pe_ix (r := rIxT K) ix_tup (pv 2) pe_int (fun _ _ => rfl))))
        (fun _ _ _ _ _ => pv 2)) (pe_lst pa_nil) (nomark _))), ?_⟩
    refine ⟨_, rfl, a, rfl, ⟨_, SqL.of ha⟩, fun D nD => lc_list (K := K) (a := a) (xs := refs L) (fun i Hc => Same H Hc ∧ Hc D = some (.lst (refs ((L.take i).filter fun q => decide (q.2.1 ≤ t) && decide (t < q.2.2))))) ?_ ?_ ?_ ?_⟩
    · exact ⟨same_new nD, upd_same⟩
    · rintro i Hc _ ⟨sc, _⟩
      exact SqL.of (sc _ _ ha)
    · rintro i x Hc hx ⟨sc, hD⟩
      obtain ⟨q0, hq0, rfl⟩ := refs_get hx
      have tq : Tp Hc q0 := sc _ _ (hL q0 (List.mem_of_getElem? hq0))
      have no : (decide (q0.2.1 ≤ t) && decide (t < q0.2.2)) = false → Same H Hc ∧ Hc D = some (.lst (refs ((L.take (i + 1)).filter fun q => decide (q.2.1 ≤ t) && decide (t < q.2.2)))) := fun z => by
        refine ⟨sc, ?_⟩
        rw [hD, take_snoc hq0, List.filter_append, List.filter_cons, if_neg (by rw [z]; decide), List.filter_nil, List.append_nil]
      refine ⟨rfl, _, rfl, q0.1, _, 0, .int q0.2.1, rfl, rfl, SqT.of tq, rfl, _, rfl, q0.2.1, t, rfl, rfl, _, rfl, ite2 (fun g => ?_) (fun g => ?_)⟩
      · refine ⟨_, rfl, q0.1, _, 1, .int q0.2.2, rfl, rfl, SqT.of tq, rfl, t, q0.2.2, rfl, rfl, _, rfl, ite2 (fun g' => ?_) (fun g' => ?_)⟩
        · refine ⟨_, rfl, _, hD, ?_, fun b o' e => ?_, ?_⟩
          · rw [refs_len]
            refine small1000 (Nat.le_trans (List.length_filter_le _ _) ?_)
            rw [List.length_take]
            omega
          · rw [upd_ne (ne_of_none e nD)]
            exact sc b o' e
          · rw [upd_same, take_snoc hq0, List.filter_append, List.filter_cons, if_pos (by rw [g, g']; rfl), List.filter_nil, refs_snoc]
        · exact no (by rw [Bool.eq_false_iff.mpr g', Bool.and_false])
      · exact ⟨_, rfl, if_f (no (by rw [Bool.eq_false_iff.mpr g, Bool.false_and]))⟩
    · rintro Hc ⟨sc, hD⟩
      rw [show (refs L).length = L.length from refs_len L, List.take_length] at hD
      refine ⟨Nat.zero_le _, fun l n => ?_⟩
      have sl := same_new (o := .lst []) n
      have hF : ∀ q, q ∈ L.filter (fun q => decide (q.2.1 ≤ t) && decide (t < q.2.2)) → Tp (upd Hc l (.lst [])) q := fun q hq => sl _ _ (sc _ _ (hL q (List.mem_filter.mp hq).1))
      have st : StL (upd Hc l (.lst [])) D ((L.filter fun q => decide (q.2.1 ≤ t) && decide (t < q.2.2)).map (·.2)) := ⟨_, ⟨sl _ _ hD, hF⟩, rfl⟩
      refine ⟨_, .list [], st.dp, .lst (SqL.of upd_same) .nil, dP_shaped _, by decide, ?_⟩
      have e : (!PyData.eqv (dP ((L.filter fun q => decide (q.2.1 ≤ t) && decide (t < q.2.2)).map (·.2))) (.list [])) = hasB (L.map (·.2)) t := by
        have e1 : hasB (L.map (·.2)) t = L.any fun q => decide (q.2.1 ≤ t) && decide (t < q.2.2) := by
          unfold hasB
          rw [List.any_map]
          rfl
        rw [e1]
        cases hF2 : L.filter (fun q => decide (q.2.1 ≤ t) && decide (t < q.2.2)) with
        | nil =>
          show false = _
          symm
          rw [List.any_eq_false]
          intro x hx z
          have : x ∈ L.filter (fun q => decide (q.2.1 ≤ t) && decide (t < q.2.2)) := List.mem_filter.mpr ⟨hx, z⟩
          rw [hF2] at this
          cases this
        | cons y r =>
          show true = _
          symm
          rw [List.any_eq_true]
          have : y ∈ L.filter (fun q => decide (q.2.1 ≤ t) && decide (t < q.2.2)) := by
            rw [hF2]
            exact List.mem_cons_self
          exact ⟨y, (List.mem_filter.mp this).1, (List.mem_filter.mp this).2⟩
      rw [e]
      exact q _ (sc.trans sl)
/-! ### _law_tidy -/
def spLTidy : Sp := fun vs H Q _ => ∃ (a : Addr) (ps : List (Int × Int)), vs = [.ref a] ∧ StL H a ps ∧ Tidy ps ∧ ∀ H', Same H H' → Q (.bl true) H'
theorem ok_ltidy {f : Addr} {fd : FuncData} {k : Nat} (F : Fun K "_law_tidy" "_law_tidy" sLTidy f fd) (mi : mg "isinstance" = none) (ml : mg "list" = none) (me : mg "enumerate" = none) (mt : mg "tuple" = none) (mlen : mg "len" = none) : FnOk P w K mg base CX0 (k + 1) f fd ["_law_told"] spLTidy := by
  refine F.ok scLTidy (fun vs H Q E h => ?_) (fun cdv A outer s H vs Q E hr h => ?_)
  · obtain ⟨a, ps, rfl, _⟩ := h
    rfl
  · obtain ⟨a, ps, rfl, ha, tp, q⟩ := h
    refine ⟨_, pss_cons (ps_if (pt_not (pt_val (pe_callB call_isi (by rfl) mi PyProof.Rows.boot_isinstance (pa_cons (pv 0) (pa_cons (pe_bltn (v := .ty "list") (by rfl) ml boot_list rfl) pa_nil))))) (pss_one (ps_ret pe_bl)) pss_nil)
      (pss_cons (ps_for PassesOwn.never rfl (pi_enum (by rfl) me (pa_cons (pv 0) pa_nil)) (pg_tup rfl (pgs_cons (pg_name (i := 1) scLTidy.nd rfl (.inl rfl)) (pgs_cons (pg_name (i := 2) scLTidy.nd rfl (.inl rfl)) pgs_nil)))
        (pss_cons (ps_if (PW.pt (pw_or (pt_not (pt_val (pe_callB call_isi (by rfl) mi PyProof.Rows.boot_isinstance (pa_cons (pv 2) (pa_cons (pe_bltn (v := .ty "tuple") (by rfl) mt PySem.Pv.boot_tuple rfl) pa_nil)))))
            (pw_or (pt_cmpR op_ne (pe_callB call_len_seq (by rfl) mlen PySem.boot_len (pa_cons (pv 2) pa_nil)) pe_int (nomark _))
            (pw_or1 (pt_cmpR op_ge (pe_ix ix_tup (pv 2) pe_int (fun _ _ => rfl)) (pe_ix ix_tup (pv 2) pe_int (fun _ _ => rfl)) (nomark _))))))
          (pss_one (ps_ret pe_bl)) pss_nil)
        (pss_one (ps_if (PW.pt (pw_and (pt_cmpR op_gt (pv 1) pe_int (nomark _)) (pw_and1 (pt_cmpR op_ge (pe_ix ix_tup (pe_ix ix_list (pv 0) (pe_op op_sub (pv 1) pe_int) (fun _ _ => rfl)) pe_int (fun _ _ => rfl)) (pe_ix ix_tup (pv 2) pe_int (fun _ _ => rfl)) (nomark _)))))
          (pss_one (ps_ret pe_bl)) pss_nil))))
      (pss_one (ps_ret pe_bl))), ?_⟩
    obtain ⟨xs, exs, lxs⟩ := ha.xs
    refine ⟨_, rfl, .ref a, .ty "list", .type "list", .type "list", true, rfl, .ty "list", .base (.lst exs), kit_ty (by decide +kernel), true, rfl, if_f ?_⟩
    refine ⟨_, rfl, a, _, rfl, SqL.of exs, ?_⟩
    refine ⟨fun i m σ Hc => ∃ z1 z2 : Option V, σ = [some (.ref a), z1, z2] ∧ i + m = ps.length ∧ Same H Hc, ⟨ps.length, none, none, rfl, by omega, Same.refl _⟩, fun i m σ Hc hW => ?_⟩
    obtain ⟨z1, z2, rfl, em, sc⟩ := hW
    have hA : SqL K Hc a xs := SqL.of (sc _ _ exs)
    by_cases hi : i < ps.length
    · obtain ⟨x, ex⟩ : ∃ x, ps[i]? = some x := ⟨_, List.getElem?_eq_getElem hi⟩
      obtain ⟨ys, t, ey, _, ey2, ey3⟩ := (ha.same sc).at ex
      cases (sc _ _ exs).symm.trans ey
      refine .inr ⟨⟨_, _, hA, ey2⟩, fun σ' H' => (∃ z1 z2 : Option V, σ' = [some (.ref a), z1, z2]) ∧ Same H H', fun σ' H' hN => ?_, fun v H' hy => ?_⟩
      · obtain ⟨⟨y1, y2, e⟩, s'⟩ := hN
        exact ⟨m - 1, by omega, y1, y2, e, by omega, s'⟩
      · obtain ⟨T, v0, rfl, nT, rfl, fT⟩ := hy
        have ev : v0 = .ref t := Option.some.inj ((fT _ hA).symm.trans ey2)
        subst ev
        have st := same_new (o := .tup [.int (i : Nat), .ref t]) nT
        have ht := st _ _ ey3
        have hx := tp.1 x (List.mem_of_getElem? ex)
        refine ⟨T, _, rfl, SqT.of upd_same, rfl, .int (i : Nat), [.ref t], rfl, .ref t, [], rfl, rfl, ?_⟩
        refine ⟨_, rfl, .ref t, .ty "tuple", .type "tuple", .type "tuple", true, rfl, .ty "tuple", .base (.tup ht), kit_ty (by decide +kernel), true, rfl, if_f ?_⟩
        refine ⟨_, rfl, t, _, rfl, .inr (SqT.of ht), rfl, false, rfl, if_f ?_⟩
        refine ⟨_, rfl, t, _, 0, .int x.1, rfl, rfl, SqT.of ht, rfl, _, rfl, t, _, 1, .int x.2, rfl, rfl, SqT.of ht, rfl, x.1, x.2, rfl, rfl, false, congrArg V.bl (decide_eq_false (by omega)), if_f ?_⟩
        have done : (∃ z1 z2 : Option V, [some (V.ref a), some (.int (i : Nat)), some (.ref t)] = [some (.ref a), z1, z2]) ∧ Same H (upd Hc T (.tup [.int (i : Nat), .ref t])) := ⟨⟨_, _, rfl⟩, sc.trans st⟩
        refine ⟨_, rfl, (i : Int), 0, rfl, rfl, _, rfl, ite2 (fun g => ?_) (fun g => if_f done)⟩
        have g0 : (0 : Int) < (i : Int) := of_decide_eq_true g
        obtain ⟨y, ey⟩ : ∃ y, ps[i - 1]? = some y := ⟨_, List.getElem?_eq_getElem (by omega)⟩
        obtain ⟨zs, u, ez, _, ez2, ez3⟩ := (ha.same (sc.trans st)).at ey
        cases (st _ _ (sc _ _ exs)).symm.trans ez
        have hxy : y.2 < x.1 := by
          have pw := List.pairwise_iff_getElem.mp tp.2
          obtain ⟨h1, e1⟩ := List.getElem?_eq_some_iff.mp ey
          obtain ⟨h2, e2⟩ := List.getElem?_eq_some_iff.mp ex
          have := pw (i - 1) i h1 h2 (by omega)
          rw [e1, e2] at this
          exact this
        have eat : atI xs ((i : Int) - 1) = some (.ref u) := by
          have : (i : Int) - 1 = ((i - 1 : Nat) : Int) := by omega
          rw [this]
          exact atI_nat ez2
        refine ⟨_, rfl, _, rfl, (i : Int), 1, rfl, rfl, a, _, _, .ref u, rfl, rfl, SqL.of (st _ _ (sc _ _ exs)), eat, u, _, 1, .int y.2, rfl, rfl, SqT.of ez3, rfl, _, rfl, t, _, 0, .int x.1, rfl, rfl, SqT.of ht, rfl, y.2, x.1, rfl, rfl, false, congrArg V.bl (decide_eq_false (by omega)), if_f done⟩
    · refine .inl ⟨⟨_, hA, by omega⟩, ?_⟩
      exact q _ sc
end
end Tg

namespace Tg
open PySem PySem.Spec PyProof.Rows L2
theorem atI_mem {xs : List Int} {i : Int} (h0 : 0 ≤ i) (h1 : i < xs.length) : ∃ v, v ∈ xs ∧ atI (xs.map V.int) i = some (.int v) := by
  obtain ⟨j, rfl⟩ : ∃ j : Nat, i = (j : Int) := ⟨i.toNat, by omega⟩
  have hj : j < xs.length := by omega
  refine ⟨xs[j], List.getElem_mem hj, atI_nat ?_⟩
  rw [List.getElem?_map, List.getElem?_eq_getElem hj]
  rfl
theorem Dr.more {H : Hp} {p : Addr} {m n : Nat} (d : Dr H p m) (h : m ≤ n) : Dr H p n := by
  obtain ⟨a, k, b, e, k0, k1⟩ := d
  exact ⟨a, k, b, e, k0, by omega⟩
section
variable {P : Program} {w : World} {K : PySem.W.Frag} {mg : Str → Option Value} {base : Heap}
/-! ### _law_list -/
def Bnd (ps : List (Int × Int)) : Prop := ∀ x, x ∈ ps → (-999999999999 ≤ x.1 ∧ x.1 ≤ 999999999999) ∧ (-999999999999 ≤ x.2 ∧ x.2 ≤ 999999999999)
def spList : Sp := fun vs H Q _ => ∃ (p : Addr) (n : Nat), vs = [.ref p] ∧ Dr H p n ∧ n + 20 < 1000000 ∧
  ∀ H' r ps, Kp p H H' → Dr H' p (n + 20) → H r = none → StL H' r ps → Small ps → Q (.ref r) H'
theorem ok_list {f g : Addr} {fd gd : FuncData} {k : Nat} (F : Fun K "_law_list" "_law_list" sList f fd) (G : FnOk P w K mg base CX0 k g gd ["_law_draws_here"] spNext) (gG : mg "_law_next" = some (.ref g)) (kG : PySem.W.keepIn K (.ref g) = true) (bG : Binds K gd ["_law_draws_here"] [])
    (mr : mg "range" = none) (ma : mg "abs" = none) : FnOk P w K mg base CX0 (k + 1) f fd ["_law_draws_here"] spList := by
  refine F.ok scList (fun vs H Q E h => ?_) (fun cdv A outer s H vs Q E hr h => ?_)
  · obtain ⟨p, n, rfl, _⟩ := h
    rfl
  · obtain ⟨p, n, rfl, hd, hn, q⟩ := h
    refine ⟨_, pss_cons (ps_set (i := 1) scList.nd rfl (.inl rfl) (pe_lst pa_nil))
      (pss_cons (ps_set (i := 2) scList.nd rfl (.inl rfl) (pe_ix ix_list (pe_lst (pa_cons pe_int (pa_cons pe_int (pa_cons (pe_op op_pow pe_int pe_int) (pa_cons (pe_op op_sub pe_int (pe_op op_pow pe_int pe_int)) pa_nil)))))
          (pe_op op_mod (pe_call G hr (by rfl) gG kG bG .nil pass0 (pa_cons (pv 0) pa_nil)) pe_int) (fun _ _ => rfl)))
      (pss_cons (ps_for PassesOwn.never rfl (pi_range1 (by rfl) mr (pa_cons (pe_op op_mod (pe_call G hr (by rfl) gG kG bG .nil pass0 (pa_cons (pv 0) pa_nil)) pe_int) pa_nil)) (pg_name (i := 3) scList.nd rfl (.inl rfl))
        (pss_cons (ps_set (i := 4) scList.nd rfl (.inl rfl) (pe_call G hr (by rfl) gG kG bG .nil pass0 (pa_cons (pv 0) pa_nil)))
        (pss_cons (ps_set (i := 5) scList.nd rfl (.inl rfl) (pe_op op_mod (pv 4) pe_int))
        (pss_cons (ps_set (i := 6) scList.nd rfl (.inl rfl) (pe_op op_add (pv 5) (pe_ix ix_list (pe_lst (pa_cons pe_int (pa_cons pe_int (pa_cons (pe_op op_mod (pe_op op_fdiv (pv 4) pe_int) pe_int) (pa_cons (pe_op op_sub pe_int pe_int) pa_nil)))))
            (pe_op op_mod (pe_op op_fdiv (pv 4) pe_int) pe_int) (fun _ _ => rfl))))
        (pss_cons (ps_expr (pe_bm PySem.F.plainAttrs_list PySem.F.slot_list_append PySem.F.type_list_append mt_append (pv 1) (pa_cons (pe_tup (pa_cons (pe_op op_mul (pv 5) (pv 2))
            (pa_cons (pe_op op_add (pe_op op_mul (pv 5) (pv 2)) (pe_op op_mul (pe_op op_sub (pv 6) (pv 5)) (pe_callB call_abs (by rfl) ma boot_abs (pa_cons (pv 2) pa_nil)))) pa_nil))) pa_nil)))
        (pss_one (ps_if (pt_cmpR op_eq (pe_op op_mod (pe_op op_fdiv (pv 4) pe_int) pe_int) pe_int (nomark _))
          (pss_one (ps_expr (pe_bm PySem.F.plainAttrs_list PySem.F.slot_list_append PySem.F.type_list_append mt_append (pv 1) (pa_cons (pe_ix ix_list (pv 1) (pe_un un_neg pe_int) (fun _ _ => rfl)) pa_nil)))) pss_nil)))))))
      (pss_one (ps_ret (pv 1))))), ?_⟩
    refine ⟨Nat.zero_le _, fun o no => ?_⟩
    have s1 : Same H (upd H o (.lst [])) := same_new no
    have op : o ≠ p := hd.ne no
    refine ⟨10, 8, rfl, rfl, ⟨by decide, by decide, by decide⟩, 10, 8, rfl, rfl, ⟨by decide, by decide, by decide⟩, 0, _, rfl, rfl, (by show 4 ≤ sizeLine; decide), fun l1 n1 => ?_⟩
    have s2 := same_new (o := .lst [.int 1, .int 1, .int (10 ^ 8), .int (0 - 10 ^ 8)]) n1
    refine ⟨_, rfl, p, n, rfl, (hd.same s1).same s2, by omega, fun y H3 k3 d3 y0 y1 => ?_⟩
    have l1p : l1 ≠ p := (hd.same s1).ne n1
    have m3 : H3 l1 = some (.lst ([1, 1, 10 ^ 8, 0 - 10 ^ 8].map V.int)) := k3 l1 _ l1p upd_same
    have o3 : StL H3 o [] := ⟨[], ⟨k3 o _ op (s2 _ _ upd_same), fun _ h => nomatch h⟩, rfl⟩
    obtain ⟨far, hf, ef⟩ := atI_mem (xs := [1, 1, 10 ^ 8, 0 - 10 ^ 8]) (Int.emod_nonneg y (show (4 : Int) ≠ 0 by decide)) (Int.emod_lt_of_pos y (show (0 : Int) < 4 by decide))
    have far3 : far = 1 ∨ far = 100000000 ∨ far = -100000000 := by
      simp only [List.mem_cons, List.not_mem_nil, or_false] at hf
      rcases hf with rfl | rfl | rfl | rfl
      · exact .inl rfl
      · exact .inl rfl
      · exact .inr (.inl rfl)
      · exact .inr (.inr rfl)
    refine ⟨y, 4, rfl, rfl, (by show (0 : Int) < 4; decide), l1, _, y % 4, .int far, rfl, rfl, SqL.of m3, ef, ?_⟩
    have kA : Kp p H H3 := (Kp.of (s1.trans s2)).trans k3
    -- the loop
    refine ⟨_, rfl, p, n + 1, rfl, d3, by omega, fun x H4 k4 d4 x0 x1 => ?_⟩
    have m0 := Int.emod_nonneg x (show (13 : Int) ≠ 0 by decide)
    have m1 := Int.emod_lt_of_pos x (show (0 : Int) < 13 by decide)
    have o4 : StL H4 o [] := o3.kp k4 d3 op
    refine ⟨x, 13, rfl, rfl, (by show (0 : Int) < 13; decide), x % 13, rfl, by omega, by omega, for_range (n := (x % 13).toNat) (fun i σ H2 => ∃ (ps : List (Int × Int)) (z3 z4 z5 z6 : Option V),
      σ = [some (.ref p), some (.ref o), some (.int far), z3, z4, z5, z6] ∧ Kp p H H2 ∧ Dr H2 p (n + 2 + i) ∧ StL H2 o ps ∧ ps.length ≤ 2 * i ∧ Bnd ps) ?_ ?_ ?_⟩
    · exact ⟨[], none, none, none, none, rfl, kA.trans k4, d4, o4, Nat.le_refl _, fun _ h => nomatch h⟩
    · rintro i σ H2 hi ⟨ps, z3, z4, z5, z6, rfl, k2, d2, st, hl, hb⟩
      -- pick
      refine ⟨_, rfl, p, n + 2 + i, rfl, d2, by omega, fun pk H5 k5 d5 p0 p1 => ?_⟩
      have st5 : StL H5 o ps := st.kp k5 d2 op
      -- start
      refine ⟨_, rfl, pk, 40, rfl, rfl, (by show (0 : Int) < 40; decide), ?_⟩
      have a0 := Int.emod_nonneg pk (show (40 : Int) ≠ 0 by decide)
      have a1 := Int.emod_lt_of_pos pk (show (0 : Int) < 40 by decide)
      obtain ⟨sv, esv⟩ : ∃ sv : Int, pk % 40 = sv := ⟨_, rfl⟩
      rw [esv] at a0 a1
      have esV : V.int (pk % 40) = V.int sv := congrArg V.int esv
      -- end
      refine ⟨_, rfl, _, rfl, pk, 40, rfl, rfl, ⟨by decide, by decide⟩, _, 12, rfl, rfl, (by show (0 : Int) < 12; decide), 0, 2, rfl, rfl, (by show 4 ≤ sizeLine; decide), fun l6 n6 => ?_⟩
      have s6 := same_new (o := .lst [.int 0, .int 1, .int (pk / 40 % 12), .int (0 - 2)]) n6
      obtain ⟨dv, hdv, edv⟩ := atI_mem (xs := [0, 1, pk / 40 % 12, 0 - 2]) (Int.emod_nonneg (pk / 480) (show (4 : Int) ≠ 0 by decide)) (Int.emod_lt_of_pos (pk / 480) (show (0 : Int) < 4 by decide))
      have dv1 : -2 ≤ dv ∧ dv ≤ 11 := by
        simp only [List.mem_cons, List.not_mem_nil, or_false] at hdv
        rcases hdv with rfl | rfl | rfl | rfl <;> omega
      refine ⟨_, rfl, pk, 480, rfl, rfl, ⟨by decide, by decide⟩, _, 4, rfl, rfl, (by show (0 : Int) < 4; decide), l6, _, _, .int dv, rfl, rfl, SqL.of upd_same, edv, sv, dv, esV, rfl, ?_⟩
      have st6 := st5.same s6
      -- told.append(..)
      obtain ⟨xo, exo, lo⟩ := st6.xs
      have cm : CMul sv far := .inl ⟨by omega, by omega⟩
      have ab : (if far < 0 then -far else far) ≤ 100000000 ∧ 0 ≤ (if far < 0 then -far else far) := by
        rcases far3 with rfl | rfl | rfl <;> decide
      refine ⟨_, rfl, .inl ⟨rfl, _, SqL.of exo⟩, _, rfl, _, rfl, sv, far, esV, rfl, cm, _, rfl, _, rfl, sv, far, esV, rfl, cm, _, rfl, _, rfl, sv + dv, sv, rfl, esV, _, rfl, far, rfl, sv + dv - sv, _, rfl, rfl, .inl ⟨by omega, by omega⟩, sv * far, _, rfl, rfl, (by show 2 ≤ sizeLine; decide), fun t nt => ?_⟩
      obtain ⟨xo2, exo2, lo2, st7⟩ := st6.push (s := sv * far) (e := sv * far + (sv + dv - sv) * (if far < 0 then -far else far)) nt
      cases exo.symm.trans exo2
      have bnew : (-999999999999 ≤ sv * far ∧ sv * far ≤ 999999999999) ∧ (-999999999999 ≤ sv * far + (sv + dv - sv) * (if far < 0 then -far else far) ∧ sv * far + (sv + dv - sv) * (if far < 0 then -far else far) ≤ 999999999999) := by
        rcases far3 with rfl | rfl | rfl
        · rw [if_neg (by decide)]
          omega
        · rw [if_neg (by decide)]
          omega
        · rw [if_pos (by decide)]
          omega
      refine ⟨o, _, _, rfl, rfl, same_new nt _ _ exo, ?_, ?_⟩
      · rw [lo]
        exact small1000 (by omega)
      have d6 : Dr H5 p (n + 2 + i + 1) := d5
      have no6 : ∀ {b' : Addr} {o' : HO}, H b' = some o' → b' ≠ o := fun e => ne_of_none e no
      -- the heap behind it
      obtain ⟨H7, e7⟩ : ∃ H7, H7 = upd (upd (upd H5 l6 (.lst [.int 0, .int 1, .int (pk / 40 % 12), .int (0 - 2)])) t (.tup [.int (sv * far), .int (sv * far + (sv + dv - sv) * (if far < 0 then -far else far))])) o (.lst (xo ++ [.ref t])) := ⟨_, rfl⟩
      have k7 : Kp p H H7 := fun b' o' z e => by
        rw [e7, upd_ne (no6 e)]
        exact same_new nt _ _ (s6 _ _ ((k2.trans k5) _ _ z e))
      have d7 : Dr H7 p (n + 2 + (i + 1)) := by
        obtain ⟨da, dk, db, de, dk0, dk1⟩ := d6
        refine ⟨da, dk, db, ?_, dk0, by omega⟩
        rw [e7, upd_ne op.symm]
        exact same_new nt _ _ (s6 _ _ de)
      rw [← e7] at st7
      have b7 : Bnd (ps ++ [(sv * far, sv * far + (sv + dv - sv) * (if far < 0 then -far else far))]) := fun x hx => by
        rcases List.mem_append.mp hx with z | z
        · exact hb x z
        · cases List.mem_singleton.mp z
          exact bnew
      have l7 : (ps ++ [(sv * far, sv * far + (sv + dv - sv) * (if far < 0 then -far else far))]).length ≤ 2 * i + 1 := by
        rw [List.length_append]
        simp only [List.length_cons, List.length_nil]
        omega
      subst e7
      refine ⟨_, rfl, pk, 1920, rfl, rfl, ⟨by decide, by decide⟩, _, 8, rfl, rfl, (by show (0 : Int) < 8; decide), rfl, _, rfl, ite2 (fun g => ?_) (fun g => ?_)⟩
      · obtain ⟨xd, td, exd, lxd, st8⟩ := st7.dup
        refine ⟨_, rfl, .inl ⟨rfl, _, SqL.of exd⟩, _, rfl, 1, rfl, o, _, -1, .ref td, rfl, rfl, SqL.of exd, atI_last _ _, o, _, _, rfl, rfl, exd, ?_, ?_⟩
        · rw [List.length_append, lxd]
          exact small1000 (by show ps.length + 1 ≤ 1000; omega)
        · refine ⟨_, _, _, _, _, rfl, fun b' o' z e => ?_, ?_, st8, ?_, fun x hx => ?_⟩
          · rw [upd_ne (no6 e)]
            exact k7 _ _ z e
          · obtain ⟨da, dk, db, de, dk0, dk1⟩ := d7
            refine ⟨da, dk, db, ?_, dk0, dk1⟩
            rw [upd_ne op.symm]
            exact de
          · rw [List.length_append]
            simp only [List.length_cons, List.length_nil]
            omega
          · rcases List.mem_append.mp hx with z | z
            · exact b7 x z
            · cases List.mem_singleton.mp z
              exact bnew
      · exact ⟨_, _, _, _, _, rfl, k7, d7, st7, by omega, b7⟩
    · rintro σ H2 ⟨ps, z3, z4, z5, z6, rfl, k2, d2, st, hl, hb⟩
      exact ⟨_, rfl, q H2 o ps k2 (d2.more (by omega)) no st ⟨by omega, hb⟩⟩
/-! ### _law_times -/
def spTimes : Sp := fun vs H Q _ => ∃ (a b : Addr) (ps qs : List (Int × Int)), vs = [.ref a, .ref b] ∧ StL H a ps ∧ StL H b qs ∧ ps.length + qs.length ≤ 100 ∧
  ∀ H' r (ts : List Int), Same H H' → H r = none → H' r = some (.lst (ts.map V.int)) → Q (.ref r) H'
theorem ok_times {f : Addr} {fd : FuncData} {k : Nat} (F : Fun K "_law_times" "_law_times" sTimes f fd) : FnOk P w K mg base CX0 (k + 1) f fd ["_law_a_one", "_law_a_two"] spTimes := by
  refine F.ok scTimes (fun vs H Q E h => ?_) (fun cdv A outer s H vs Q E hr h => ?_)
  · obtain ⟨a, b, ps, qs, rfl, _⟩ := h
    rfl
  · obtain ⟨a, b, ps, qs, rfl, ⟨L, ⟨ha, hL⟩, rfl⟩, ⟨M, ⟨hb, hM⟩, rfl⟩, hlen, q⟩ := h
    rw [List.length_map, List.length_map] at hlen
    refine ⟨_, pss_cons (ps_set (i := 2) scTimes.nd rfl (.inl rfl) (pe_lst pa_nil))
      (pss_cons (ps_for PassesOwn.never rfl (pi_list (pe_op op_cat (pv 0) (pv 1))) (pg_tup rfl (pgs_cons (pg_name (i := 3) scTimes.nd rfl (.inl rfl)) (pgs_cons (pg_name (i := 4) scTimes.nd rfl (.inl rfl)) pgs_nil)))
        (pss_one (ps_set (i := 2) scTimes.nd rfl (.inl rfl) (pe_op op_cat (pv 2) (pe_lst (pa_cons (pe_op op_sub (pv 3) pe_int) (pa_cons (pv 3) (pa_cons (pe_op op_add (pv 3) pe_int) (pa_cons (pe_op op_sub (pv 4) pe_int) (pa_cons (pv 4) (pa_cons (pe_op op_add (pv 4) pe_int) pa_nil)))))))))))
      (pss_one (ps_ret (pv 2)))), ?_⟩
    refine ⟨Nat.zero_le _, fun o no => ?_⟩
    have s1 : Same H (upd H o (.lst [])) := same_new no
    refine ⟨_, rfl, _, rfl, a, b, _, _, rfl, rfl, s1 _ _ ha, s1 _ _ hb, ?_, fun c nc => ?_⟩
    · rw [refs_len, refs_len]
      exact Nat.le_of_lt (small1000 (by omega))
    rw [refs_app]
    have s2 := same_new (o := .lst (refs (L ++ M))) nc
    have hc : (upd (upd H o (.lst [])) c (.lst (refs (L ++ M)))) c = some (.lst (refs (L ++ M))) := upd_same
    have ho : (upd (upd H o (.lst [])) c (.lst (refs (L ++ M)))) o = some (.lst (([] : List Int).map V.int)) := s2 _ _ upd_same
    have hT : ∀ q, q ∈ L ++ M → Tp H q := fun q hq => by
      rcases List.mem_append.mp hq with z | z
      · exact hL q z
      · exact hM q z
    refine ⟨c, rfl, ⟨_, SqL.of hc⟩, for_list (K := K) (a := c) (xs := refs (L ++ M)) (fun i σ H2 => ∃ (r : Addr) (ts : List Int) (z3 z4 : Option V), σ = [some (.ref a), some (.ref b), some (.ref r), z3, z4] ∧ Same H H2 ∧ H r = none ∧ H2 c = some (.lst (refs (L ++ M))) ∧
      H2 r = some (.lst (ts.map V.int)) ∧ ts.length = 6 * i) ?_ ?_ ?_ ?_⟩
    · exact ⟨o, [], none, none, rfl, s1.trans s2, no, hc, ho, rfl⟩
    · rintro i σ H2 _ ⟨_, _, _, _, _, _, _, h, _⟩
      exact SqL.of h
    · rintro i x σ H2 hx ⟨r, ts, z3, z4, rfl, sm, nr, h2, h3, lt⟩
      obtain ⟨q0, hq0, rfl⟩ := refs_get hx
      have il : i < (L ++ M).length := (List.getElem?_eq_some_iff.mp hq0).1
      rw [List.length_append] at il
      have tq : Tp H2 q0 := sm _ _ (hT q0 (List.mem_of_getElem? hq0))
      refine ⟨q0.1, _, rfl, SqT.of tq, rfl, .int q0.2.1, [.int q0.2.2], rfl, .int q0.2.2, [], rfl, rfl, ?_⟩
      refine ⟨_, rfl, _, rfl, q0.2.1, 1, rfl, rfl, _, rfl, _, rfl, q0.2.1, 1, rfl, rfl, _, rfl, q0.2.2, 1, rfl, rfl, _, rfl, _, rfl, q0.2.2, 1, rfl, rfl, (by show 6 ≤ sizeLine; decide), fun l nl => ?_⟩
      have s3 := same_new (o := .lst ([q0.2.1 - 1, q0.2.1, q0.2.1 + 1, q0.2.2 - 1, q0.2.2, q0.2.2 + 1].map V.int)) nl
      refine ⟨r, l, _, _, rfl, rfl, s3 _ _ h3, upd_same, ?_, fun l2 n2 => ?_⟩
      · rw [List.length_map]
        exact Nat.le_of_lt (small1000 (by show ts.length + 6 ≤ 1000; omega))
      · have s4 := same_new (o := .lst ((ts ++ [q0.2.1 - 1, q0.2.1, q0.2.1 + 1, q0.2.2 - 1, q0.2.2, q0.2.2 + 1]).map V.int)) n2
        refine ⟨l2, ts ++ [q0.2.1 - 1, q0.2.1, q0.2.1 + 1, q0.2.2 - 1, q0.2.2, q0.2.2 + 1], _, _, rfl, ?_, (sm.trans s3).free n2, ?_, ?_, ?_⟩
        · intro b' o' e
          rw [upd_ne (ne_of_none e ((sm.trans s3).free n2))]
          exact s3 _ _ (sm _ _ e)
        · rw [upd_ne (ne_of_none (s3 _ _ h2) n2)]
          exact s3 _ _ h2
        · rw [upd_same, List.map_append]
          rfl
        · rw [List.length_append, lt]
          show 6 * i + 6 = 6 * (i + 1)
          omega
    · rintro σ H2 ⟨r, ts, _, _, rfl, sm, nr, _, h3, _⟩
      exact ⟨_, rfl, q H2 r ts sm nr h3⟩
end
end Tg

namespace Tg
open PySem PySem.Spec PyProof.Rows L2
abbrev NR : List Str := ["_law_draws_here", "_law_a_one", "_law_a_two", "_law_kept", "_law_first", "_law_second", "_law_found", "_law_again", "_law_every", "_law_shared", "_law_rest", "_law_same", "_law_again_first", "_law_time", "_law_in_one", "_law_in_two", "_law_due", "_law_some"]
theorem scRight : FnScope NR ["_law_draws_here"] (defScope sRight) := ⟨rfl, rfl, rfl, by decide +kernel, rfl, by decide +kernel, by decide +kernel⟩
theorem scLaw : FnScope ["_law_script", "_law_drawn"] ["_law_script"] (defScope sLaw) := ⟨rfl, rfl, rfl, by decide +kernel, rfl, by decide +kernel, by decide +kernel⟩
/-- one keyword -/
def sw1 {α : Type} : List α → List α
  | [x] => [x]
  | _ => []
theorem sw1_rel : ∀ {zs : List V} {ws : List Value}, Vals zs ws → Vals (sw1 zs) (sw1 ws)
  | _, _, .nil => .nil
  | _, _, .cons a .nil => .cons a .nil
  | _, _, .cons _ (.cons _ _) => .nil
/-- a def that may be called by its name -/
def Cal (P : Program) (w : World) (K : PySem.W.Frag) (mg : Str → Option Value) (base : Heap) (k : Nat) (x : Str) (ps : List Str) (sp : Sp) : Prop :=
  ∃ f fd, FnOk P w K mg base CX0 k f fd ps sp ∧ mg x = some (.ref f) ∧ PySem.W.keepIn K (.ref f) = true ∧ Binds K fd ps []
/-- .. and by keywords -/
def CalK (P : Program) (w : World) (K : PySem.W.Frag) (mg : Str → Option Value) (base : Heap) (k : Nat) (x : Str) (ps ks : List Str) (g : List Value → List Value) (gV : List V → List V) (sp : Sp) : Prop :=
  ∃ f fd, FnOk P w K mg base CX0 k f fd ps sp ∧ mg x = some (.ref f) ∧ PySem.W.keepIn K (.ref f) = true ∧ Binds K fd ps [] ∧ KBn K fd ps 0 ks (fun _ ws => g ws) (fun _ zs => gV zs)
structure Fns (P : Program) (w : World) (K : PySem.W.Frag) (mg : Str → Option Value) (base : Heap) (k : Nat) : Prop where
  ti : CalK P w K mg base k "tidy" ["stretches"] ["stretches"] sw1 sw1 spTidy
  jo : CalK P w K mg base k "joined" ["one", "two"] ["two", "one"] sw2 sw2 spJoined
  me : CalK P w K mg base k "met" ["one", "two"] ["two", "one"] sw2 sw2 spMet
  le : CalK P w K mg base k "less" ["one", "two"] ["two", "one"] sw2 sw2 spLess
  li : Cal P w K mg base k "_law_list" ["_law_draws_here"] spList
  ha : Cal P w K mg base k "_law_has" ["_law_some", "_law_time"] spHas
  tm : Cal P w K mg base k "_law_times" ["_law_a_one", "_law_a_two"] spTimes
  lt : Cal P w K mg base k "_law_tidy" ["_law_told"] spLTidy
  mS : mg "str" = none
  mA : mg "all" = none
  mL : mg "list" = none
abbrev rListOf (K : PySem.W.Frag) : List V → Hp → VK → Prop := fun xs H Q => ∃ p ys, xs = [V.ref p] ∧ (SqL K H p ys ∨ SqT K H p ys) ∧ ∀ l, H l = none → Q (V.ref l) (upd H l (.lst ys))
/-- a list of not more than n things -/
def Lx (n : Nat) (H : Hp) (r : Addr) : Prop := ∃ xs, H r = some (.lst xs) ∧ xs.length ≤ n
theorem StL.lx {H : Hp} {a : Addr} {ps : List (Int × Int)} {n : Nat} (h : StL H a ps) (l : ps.length ≤ n) : Lx n H a := by
  obtain ⟨xs, e, e2⟩ := h.xs
  exact ⟨xs, e, by omega⟩
theorem Lx.same {H H' : Hp} {r : Addr} {n : Nat} (s : Same H H') (h : Lx n H r) : Lx n H' r := by
  obtain ⟨xs, e, l⟩ := h
  exact ⟨xs, s _ _ e, l⟩
theorem Lx.push {H : Hp} {r e t : Addr} {n : Nat} {T : HO} {xs : List V} (h : Lx n H r) (he : H e = some (.lst xs)) (nt : H t = none) : Lx (n + 1) (upd (upd H t T) e (.lst (xs ++ [.ref t]))) r := by
  obtain ⟨ys, ey, l⟩ := h
  by_cases z : r = e
  · subst z
    cases he.symm.trans ey
    refine ⟨_, upd_same, ?_⟩
    rw [List.length_append]
    simp only [List.length_cons, List.length_nil]
    omega
  · refine ⟨ys, ?_, by omega⟩
    rw [upd_ne z]
    exact same_new nt _ _ ey
theorem push_same {B H : Hp} {e t : Addr} {T u : HO} (s : Same B H) (ne : B e = none) (nt : H t = none) : Same B (upd (upd H t T) e u) := fun b o z => by
  rw [upd_ne (ne_of_none z ne)]
  exact same_new nt _ _ (s _ _ z)
/-- a list of stretches stays, whatever another list becomes -/
theorem StL.other {H : Hp} {c D : Addr} {rs : List (Int × Int)} {xs ys : List V} (h : StL H c rs) (hD : H D = some (.lst xs)) (n : c ≠ D) : StL (upd H D (.lst ys)) c rs := by
  obtain ⟨L, ⟨h1, h2⟩, h3⟩ := h
  refine ⟨L, ⟨?_, fun q hq => ?_⟩, h3⟩
  · rw [upd_ne n]
    exact h1
  · have tq := h2 q hq
    show (upd H D _) q.1 = _
    rw [upd_ne (show q.1 ≠ D from fun z => by
      unfold Tp at tq
      rw [z, hD] at tq
      cases tq)]
    exact tq
/-! #### or, and of truths -/
theorem or_read {σ : List (Option V)} {H : Hp} {Q : VK} {i : Nat} {b1 b2 : Bool} (h : σ[i]? = some (some (.bl b2))) (q : Q (.bl (b1 || b2)) H) : if b1 = true then Q (.bl true) H else tVar i σ H Q := by
  cases b1 with
  | true => exact if_t q
  | false => exact if_f ⟨_, h, q⟩
theorem and_read {σ : List (Option V)} {H : Hp} {Q : VK} {i : Nat} {b1 b2 : Bool} (h : σ[i]? = some (some (.bl b2))) (q : Q (.bl (b1 && b2)) H) : if b1 = true then tVar i σ H Q else Q (.bl false) H := by
  cases b1 with
  | true => exact if_t ⟨_, h, q⟩
  | false => exact if_f q
theorem andn_read {σ : List (Option V)} {H : Hp} {Q : VK} {i : Nat} {b1 b2 : Bool} (h : σ[i]? = some (some (.bl b2))) (q : Q (.bl (b1 && !b2)) H) : if b1 = true then tNotV (tVar i) σ H Q else Q (.bl false) H := by
  cases b1 with
  | true => exact if_t ⟨_, h, _, rfl, q⟩
  | false => exact if_f q
theorem bl_ne (bs : List Bool) : (!PyData.eqv (.list (bs.map PyData.bool)) (.list (bs.map PyData.bool))) = false ∧ SeqAt.shaped (.list (bs.map PyData.bool)) = true := by
  have h : PyData.eqvAll (bs.map PyData.bool) (bs.map PyData.bool) = true ∧ PyData.canLayAll0 (bs.map PyData.bool) = true ∧ PyData.depthAll (bs.map PyData.bool) = 0 := by
    induction bs with
    | nil => exact ⟨rfl, rfl, rfl⟩
    | cons b r ih =>
      obtain ⟨h1, h2, h3⟩ := ih
      refine ⟨?_, ?_, ?_⟩
      · show ((b == b) && PyData.eqvAll (r.map PyData.bool) (r.map PyData.bool)) = true
        rw [h1, beq_self_eq_true]
        rfl
      · show (true && PyData.canLayAll0 (r.map PyData.bool)) = true
        rw [h2]
        rfl
      · show max 0 (PyData.depthAll (r.map PyData.bool)) = 0
        rw [h3]
        rfl
  obtain ⟨h1, h2, h3⟩ := h
  constructor
  · have e : PyData.eqv (.list (bs.map PyData.bool)) (.list (bs.map PyData.bool)) = true := h1
    rw [e]
    rfl
  · refine shaped_of h2 ?_
    show PyData.depthAll (bs.map PyData.bool) + 1 ≤ 64
    omega
theorem dp_bls {K : PySem.W.Frag} {H : Hp} : ∀ bs : List Bool, DpAll K H (bs.map V.bl) (bs.map PyData.bool)
  | [] => .nil
  | b :: r => .cons (.bl b) (dp_bls r)
section
variable {P : Program} {w : World} {K : PySem.W.Frag} {mg : Str → Option Value} {base : Heap}
def spRight : Sp := fun vs H Q _ => ∃ (p : Addr), vs = [.ref p] ∧ Dr H p 0 ∧ ∀ H', Kp p H H' → Q (.bl true) H'
set_option maxHeartbeats 0 in
theorem ok_right {f : Addr} {fd : FuncData} {k : Nat} (F : Fun K "_law_right" "_law_right" sRight f fd) (T : Fns P w K mg base k) : FnG P w K mg base CX0 (k + 1) f fd ["_law_draws_here"] spRight := by
  obtain ⟨⟨ft, fdt, FT, gT, kT, bT, zT⟩, ⟨fj, fdj, FJ, gJ, kJ, bJ, zJ⟩, ⟨fm, fdm, FM, gM, kM, bM, zM⟩, ⟨fl, fdl, FL, gL, kL, bL, zL⟩, ⟨fi, fdi, FI, gI, kI, bI⟩, ⟨fh, fdh, FH, gH, kH, bH⟩, ⟨fx, fdx, FX, gX, kX, bX⟩, ⟨fy, fdy, FY, gY, kY, bY⟩, mS, mA, mL⟩ := T
  refine okG F scRight (fun vs H Q E h => ?_) (fun cdv A outer s H vs Q E hg hr h => ?_)
  · obtain ⟨p, rfl, _⟩ := h
    rfl
  · obtain ⟨p, rfl, hd, q⟩ := h
    have hu := hr.units
    refine ⟨_, pss_cons (ps_par (i := 1) (j := 2) rfl scRight.nd rfl rfl (by decide) rfl rfl (pa_cons (pe_call FI hr (by rfl) gI kI bI .nil pass0 (pa_cons (pv 0) pa_nil)) (pa_cons (pe_call FI hr (by rfl) gI kI bI .nil pass0 (pa_cons (pv 0) pa_nil)) pa_nil)) (by rfl))
      (pss_cons (ps_set (i := 3) scRight.nd rfl (.inl rfl) (pe_callTy (call_strD hu hg) (by rfl) mS PySem.Pv.boot_str (pa_cons (pe_lst (pa_cons (pv 1) (pa_cons (pv 2) pa_nil))) pa_nil)))
      (pss_cons (ps_par (i := 4) (j := 5) rfl scRight.nd rfl rfl (by decide) rfl rfl (pa_cons (pe_call FT hr (by rfl) gT kT bT .nil pass0 (pa_cons (pv 1) pa_nil)) (pa_cons (pe_kw0 FT hr (by rfl) gT kT zT pass0 (pk_cons (pv 2) pk_nil)) pa_nil)) (by rfl))
      (pss_cons (ps_if (PW.pt (pw_or (pt_not (pt_val (pe_call FY hr (by rfl) gY kY bY .nil pass0 (pa_cons (pv 4) pa_nil))))
          (pw_or (pt_not (pt_val (pe_call FY hr (by rfl) gY kY bY .nil pass0 (pa_cons (pv 5) pa_nil))))
          (pw_or1 (pt_cmpR op_ne (pe_callTy (call_strD hu hg) (by rfl) mS PySem.Pv.boot_str (pa_cons (pe_lst (pa_cons (pv 1) (pa_cons (pv 2) pa_nil))) pa_nil)) (pv 3) (nomark _))))))
        (pss_one (ps_ret pe_bl)) pss_nil)
      (pss_cons (ps_set (i := 6) scRight.nd rfl (.inl rfl) (pe_lst (pa_cons (pe_call FJ hr (by rfl) gJ kJ bJ .nil pass0 (pa_cons (pv 4) (pa_cons (pv 5) pa_nil))) (pa_cons (pe_call FM hr (by rfl) gM kM bM .nil pass0 (pa_cons (pv 4) (pa_cons (pv 5) pa_nil)))
          (pa_cons (pe_call FL hr (by rfl) gL kL bL .nil pass0 (pa_cons (pv 4) (pa_cons (pv 5) pa_nil))) pa_nil)))))
      (pss_cons (ps_if (pt_cmpR (op_neD hu) (pv 6) (pe_lst (pa_cons (pe_kw0 FJ hr (by rfl) gJ kJ zJ pass0 (pk_cons (pv 5) (pk_cons (pv 4) pk_nil))) (pa_cons (pe_kw0 FM hr (by rfl) gM kM zM pass0 (pk_cons (pv 5) (pk_cons (pv 4) pk_nil)))
          (pa_cons (pe_kw0 FL hr (by rfl) gL kL zL pass0 (pk_cons (pv 5) (pk_cons (pv 4) pk_nil))) pa_nil)))) (nomark _)) (pss_one (ps_ret pe_bl)) pss_nil)
      (pss_cons (ps_if (pt_not (pt_val (pe_callB (cr_all rfl) (by rfl) mA boot_all (pa_cons (pe_lc (own := [("_law_some", 17)]) (g := gName 17) (by rfl) scRight.nd (pi_list (pv 6)) (blkOk_by (own := [("_law_some", 17)]) (N := NR) (sc := defScope sRight) (by decide +kernel))
          (fun _ _ _ _ _ => pg_name (i := 17) scRight.nd rfl (.inl rfl)) (fun _ _ _ _ _ => pts_nil) (fun _ _ _ _ _ => pe_call FY hr (by rfl) gY kY bY .nil pass0 (pa_cons (pv 17) pa_nil))) pa_nil)))) (pss_one (ps_ret pe_bl)) pss_nil)
      (pss_cons (ps_setLc (i := 7) (own := [("_law_some", 17)]) (g := gName 17) rfl scRight.nd rfl rfl (sw_true rfl rfl rfl (by decide +kernel)) (pi_list (pv 6)) (blkOk_by (own := [("_law_some", 17)]) (N := NR) (sc := defScope sRight) (by decide +kernel))
          (fun _ _ _ _ _ => pg_name (i := 17) scRight.nd rfl (.inl rfl)) (fun _ _ _ _ _ => pts_nil) (fun _ _ _ _ _ => pe_callTy (r := rListOf K) call_list_of (by rfl) mL boot_list (pa_cons (pv 17) pa_nil)))
      (pss_cons (ps_par3 (i := 8) (j := 9) (l := 10) rfl scRight.nd rfl rfl rfl (by decide) (by decide) (by decide) rfl rfl rfl (pa_cons (pe_call FJ hr (by rfl) gJ kJ bJ .nil pass0 (pa_cons (pv 4) (pa_cons (pv 5) pa_nil))) (pa_cons (pe_call FM hr (by rfl) gM kM bM .nil pass0 (pa_cons (pv 4) (pa_cons (pv 5) pa_nil)))
          (pa_cons (pe_call FL hr (by rfl) gL kL bL .nil pass0 (pa_cons (pv 4) (pa_cons (pv 5) pa_nil))) pa_nil))) (by rfl))
      (pss_cons (ps_par (i := 11) (j := 12) rfl scRight.nd rfl rfl (by decide) rfl rfl (pa_cons (pe_call FJ hr (by rfl) gJ kJ bJ .nil pass0 (pa_cons (pv 4) (pa_cons (pe_lst pa_nil) pa_nil))) (pa_cons (pe_call FT hr (by rfl) gT kT bT .nil pass0 (pa_cons (pv 4) pa_nil)) pa_nil)) (by rfl))
      (pss_cons (ps_expr (pe_bm PySem.F.plainAttrs_list PySem.F.slot_list_append PySem.F.type_list_append mt_append (pv 8) (pa_cons (pe_tup (pa_cons pe_int (pa_cons pe_int pa_nil))) pa_nil)))
      (pss_cons (ps_expr (pe_bm PySem.F.plainAttrs_list PySem.F.slot_list_append PySem.F.type_list_append mt_append (pv 9) (pa_cons (pe_tup (pa_cons pe_int (pa_cons pe_int pa_nil))) pa_nil)))
      (pss_cons (ps_expr (pe_bm PySem.F.plainAttrs_list PySem.F.slot_list_append PySem.F.type_list_append mt_append (pv 10) (pa_cons (pe_tup (pa_cons pe_int (pa_cons pe_int pa_nil))) pa_nil)))
      (pss_cons (ps_expr (pe_bm PySem.F.plainAttrs_list PySem.F.slot_list_append PySem.F.type_list_append mt_append (pv 11) (pa_cons (pe_tup (pa_cons pe_int (pa_cons pe_int pa_nil))) pa_nil)))
      (pss_cons (ps_expr (pe_bm PySem.F.plainAttrs_list PySem.F.slot_list_append PySem.F.type_list_append mt_append (pv 12) (pa_cons (pe_tup (pa_cons pe_int (pa_cons pe_int pa_nil))) pa_nil)))
      (pss_cons (ps_if (PW.pt (pw_or (pt_cmpR (op_neD hu) (pe_lst (pa_cons (pe_call FT hr (by rfl) gT kT bT .nil pass0 (pa_cons (pv 1) pa_nil)) (pa_cons (pe_call FT hr (by rfl) gT kT bT .nil pass0 (pa_cons (pv 2) pa_nil)) pa_nil))) (pe_lst (pa_cons (pv 4) (pa_cons (pv 5) pa_nil))) (nomark _))
          (pw_or1 (pt_cmpR (op_neD hu) (pe_lst (pa_cons (pe_call FJ hr (by rfl) gJ kJ bJ .nil pass0 (pa_cons (pv 4) (pa_cons (pv 5) pa_nil))) (pa_cons (pe_call FM hr (by rfl) gM kM bM .nil pass0 (pa_cons (pv 4) (pa_cons (pv 5) pa_nil))) pa_nil))) (pe_slice sl_list (pv 7) po_none (po_some pe_int)) (nomark _)))))
        (pss_one (ps_ret pe_bl)) pss_nil)
      (pss_cons (ps_for PassesOwn.never rfl (pi_list (pe_call FX hr (by rfl) gX kX bX .nil pass0 (pa_cons (pv 1) (pa_cons (pv 2) pa_nil)))) (pg_name (i := 13) scRight.nd rfl (.inr rfl))
        (pss_cons (ps_par (i := 14) (j := 15) rfl scRight.nd rfl rfl (by decide) rfl rfl (pa_cons (pe_call FH hr (by rfl) gH kH bH .nil pass0 (pa_cons (pv 1) (pa_cons (pv 13) pa_nil))) (pa_cons (pe_call FH hr (by rfl) gH kH bH .nil pass0 (pa_cons (pv 2) (pa_cons (pv 13) pa_nil))) pa_nil)) (by rfl))
        (pss_cons (ps_if (pt_cmpR (op_neD hu) (pe_lst (pa_cons (pe_call FH hr (by rfl) gH kH bH .nil pass0 (pa_cons (pv 4) (pa_cons (pv 13) pa_nil))) (pa_cons (pe_call FH hr (by rfl) gH kH bH .nil pass0 (pa_cons (pv 5) (pa_cons (pv 13) pa_nil))) pa_nil))) (pe_lst (pa_cons (pv 14) (pa_cons (pv 15) pa_nil))) (nomark _)) (pss_one (ps_ret pe_bl)) pss_nil)
        (pss_cons (ps_set (i := 16) scRight.nd rfl (.inl rfl) (pe_lst (pa_cons (pe_or (pv 14) (pe_one (pv 15))) (pa_cons (pe_and (pv 14) (pe_one (pv 15))) (pa_cons (pe_and (pv 14) (pe_one (pe_not (pv 15)))) pa_nil)))))
        (pss_one (ps_if (pt_cmpR (op_neD hu) (pe_lc (own := [("_law_some", 17)]) (g := gName 17) (by rfl) scRight.nd (pi_list (pv 6)) (blkOk_by (own := [("_law_some", 17)]) (N := NR) (sc := defScope sRight) (by decide +kernel))
            (fun _ _ _ _ _ => pg_name (i := 17) scRight.nd rfl (.inl rfl)) (fun _ _ _ _ _ => pts_nil) (fun _ _ _ _ _ => pe_call FH hr (by rfl) gH kH bH .nil pass0 (pa_cons (pv 17) (pa_cons (pv 13) pa_nil)))) (pv 16) (nomark _)) (pss_one (ps_ret pe_bl)) pss_nil))))))
      (pss_one (ps_ret (pe_and (pe_cmpR (op_eqD hu) (pe_call FT hr (by rfl) gT kT bT .nil pass0 (pa_cons (pv 4) pa_nil)) (pv 4) (nomark _))
        (pe_and (pe_cmpR (op_eqD hu) (pe_call FL hr (by rfl) gL kL bL .nil pass0 (pa_cons (pv 4) (pa_cons (pe_lst pa_nil) pa_nil))) (pv 4) (nomark _))
        (pe_one (pe_cmpR (op_eqD hu) (pe_call FM hr (by rfl) gM kM bM .nil pass0 (pa_cons (pv 4) (pa_cons (pe_lst pa_nil) pa_nil))) (pe_lst pa_nil) (nomark _))))))))))))))))))))))), ?_⟩
    -- the two lists
    refine ⟨_, rfl, p, 0, rfl, hd, by decide, fun H1 a one k1 d1 na st1 sm1 => ?_⟩
    refine ⟨_, rfl, p, 20, rfl, d1, by decide, fun H2 b two k2 d2 nb st2 sm2 => ⟨_, _, rfl, ?_⟩⟩
    have sta : StL H2 a one := st1.kp k2 d1 (hd.ne na)
    have kp2 : Kp p H H2 := k1.trans k2
    have l1 := sm1.1
    have l2 := sm2.1
    obtain ⟨w1, w2, w3, w4⟩ := two_shown sm1 sm2
    -- kept
    refine ⟨_, rfl, _, rfl, (by show 2 ≤ sizeLine; decide), fun x3 n3 => ?_⟩
    have s3 := same_new (o := .lst [.ref a, .ref b]) n3
    refine ⟨x3, dPs [one, two], rfl, .lst (SqL.of upd_same) (.cons (sta.same s3).dp (.cons (st2.same s3).dp .nil)), w1, w2, w3, w4, ?_⟩
    -- first, second
    refine ⟨_, rfl, a, one, rfl, sta.same s3, by omega, fun H4 f1 r1 s4 nf1 stf1 td1 hs1 hl1 => ?_⟩
    refine ⟨_, rfl, rfl, b, two, rfl, (st2.same s3).same s4, by omega, fun H5 f2 r2 s5 nf2 stf2 td2 hs2 hl2 => ⟨_, _, rfl, ?_⟩⟩
    have s25 : Same H2 H5 := (s3.trans s4).trans s5
    -- both are tidy, and what was handed in stays
    refine ⟨_, rfl, f1, r1, rfl, stf1.same s5, td1, fun H6 s6 => ⟨true, rfl, if_f ?_⟩⟩
    refine ⟨_, rfl, f2, r2, rfl, stf2.same s6, td2, fun H7 s7 => ⟨true, rfl, if_f ?_⟩⟩
    have s27 : Same H2 H7 := (s25.trans s6).trans s7
    refine ⟨_, rfl, _, rfl, (by show 2 ≤ sizeLine; decide), fun x8 n8 => ?_⟩
    have s8 := same_new (o := .lst [.ref a, .ref b]) n8
    refine ⟨x8, dPs [one, two], rfl, .lst (SqL.of upd_same) (.cons (sta.same (s27.trans s8)).dp (.cons (st2.same (s27.trans s8)).dp .nil)), w1, w2, w3, w4, _, rfl, rfl, false, congrArg V.bl (by rw [decide_eq_true rfl]; rfl), if_f ?_⟩
    have s28 := s27.trans s8
    have F1 : StL (upd H7 x8 (.lst [.ref a, .ref b])) f1 r1 := stf1.same (((s5.trans s6).trans s7).trans s8)
    have F2 : StL (upd H7 x8 (.lst [.ref a, .ref b])) f2 r2 := stf2.same ((s6.trans s7).trans s8)
    have l3 : r1.length ≤ 30 := by omega
    have l4 : r2.length ≤ 30 := by omega
    -- found
    refine ⟨_, rfl, _, rfl, f1, f2, r1, r2, rfl, F1, F2, by omega, fun H9 j1 rj s9 nj stj tdj hsj hlj => ?_⟩
    refine ⟨_, rfl, _, rfl, f1, f2, r1, r2, rfl, F1.same s9, F2.same s9, td1, td2, by omega, fun Ha m1 rm sa nm stm tdm hsm hlm => ?_⟩
    refine ⟨_, rfl, _, rfl, f1, f2, r1, r2, rfl, (F1.same s9).same sa, (F2.same s9).same sa, td1, td2, by omega, fun Hb e1 re sb ne ste tde hse hle => ?_⟩
    refine ⟨(by show 3 ≤ sizeLine; decide), fun fo nfo => ?_⟩
    have sfo := same_new (o := .lst [.ref j1, .ref m1, .ref e1]) nfo
    have J0 := ((stj.same sa).same sb).same sfo
    have M0 := (stm.same sb).same sfo
    have E0' := ste.same sfo
    have s2c : Same H2 (upd Hb fo (.lst [.ref j1, .ref m1, .ref e1])) := (((s28.trans s9).trans sa).trans sb).trans sfo
    have F1c := (((F1.same s9).same sa).same sb).same sfo
    have F2c := (((F2.same s9).same sa).same sb).same sfo
    have Fo : (upd Hb fo (.lst [.ref j1, .ref m1, .ref e1])) fo = some (.lst [.ref j1, .ref m1, .ref e1]) := upd_same
    obtain ⟨Hc, eHc⟩ : ∃ Hc, Hc = upd Hb fo (.lst [.ref j1, .ref m1, .ref e1]) := ⟨_, rfl⟩
    rw [← eHc] at J0 M0 E0' s2c F1c F2c Fo
    -- by keywords the same
    refine ⟨_, rfl, _, rfl, _, rfl, rfl, f1, f2, r1, r2, rfl, (by rw [← eHc]; exact F1c), (by rw [← eHc]; exact F2c), by omega, fun Hd j2 rj2 sd nj2 stj2 tdj2 hsj2 hlj2 => ?_⟩
    rw [← eHc] at sd
    refine ⟨_, rfl, _, rfl, rfl, f1, f2, r1, r2, rfl, F1c.same sd, F2c.same sd, td1, td2, by omega, fun He m2 rm2 se nm2 stm2 tdm2 hsm2 hlm2 => ?_⟩
    refine ⟨_, rfl, _, rfl, rfl, f1, f2, r1, r2, rfl, (F1c.same sd).same se, (F2c.same sd).same se, td1, td2, by omega, fun Hf e2 re2 sf ne2 ste2 tde2 hse2 hle2 => ?_⟩
    refine ⟨(by show 3 ≤ sizeLine; decide), fun fo2 nfo2 => ?_⟩
    have sg := same_new (o := .lst [.ref j2, .ref m2, .ref e2]) nfo2
    have scg : Same Hc (upd Hf fo2 (.lst [.ref j2, .ref m2, .ref e2])) := ((sd.trans se).trans sf).trans sg
    have ej : rj2 = rj := tidy_unique tdj2 tdj fun t => (hsj2 t).trans (hsj t).symm
    have em : rm2 = rm := tidy_unique tdm2 tdm fun t => (hsm2 t).trans (hsm t).symm
    have ee : re2 = re := tidy_unique tde2 tde fun t => (hse2 t).trans (hse t).symm
    refine ⟨dPs [rj, rm, re], dPs [rj2, rm2, re2], .lst (SqL.of (scg _ _ Fo)) (.cons (J0.same scg).dp (.cons (M0.same scg).dp (.cons (E0'.same scg).dp .nil))),
      .lst (SqL.of upd_same) (.cons (((stj2.same se).same sf).same sg).dp (.cons ((stm2.same sf).same sg).dp (.cons (ste2.same sg).dp .nil))), dPs_shaped _, dPs_shaped _, false, congrArg V.bl (by rw [ej, em, ee]; exact dPs_ne _), if_f ?_⟩
    obtain ⟨Hg, eHg⟩ : ∃ Hg, Hg = upd Hf fo2 (.lst [.ref j2, .ref m2, .ref e2]) := ⟨_, rfl⟩
    rw [← eHg] at scg
    have s2g := s2c.trans scg
    have Fog := scg _ _ Fo
    have Jg := J0.same scg
    have Mg := M0.same scg
    have Eg := E0'.same scg
    have F1g := F1c.same scg
    have F2g := F2c.same scg
    -- all of them are tidy
    have item : ∀ (i : Nat) (x : V), [V.ref j1, V.ref m1, V.ref e1][i]? = some x → ∃ r rs, x = .ref r ∧ StL Hg r rs ∧ Tidy rs ∧ rs.length ≤ 100 ∧ [rj, rm, re][i]? = some rs := fun i x hx => by
      match i, hx with
      | 0, hx => exact ⟨j1, rj, (Option.some.inj hx).symm, Jg, tdj, by omega, rfl⟩
      | 1, hx => exact ⟨m1, rm, (Option.some.inj hx).symm, Mg, tdm, by omega, rfl⟩
      | 2, hx => exact ⟨e1, re, (Option.some.inj hx).symm, Eg, tde, by omega, rfl⟩
      | n + 3, hx => cases hx
    refine ⟨_, rfl, fo, rfl, ⟨_, SqL.of (by rw [← eHg]; exact Fog)⟩, fun D1 nD1 => lc_list (K := K) (a := fo) (xs := [.ref j1, .ref m1, .ref e1]) (fun i Hx => Same Hg Hx ∧ Hx D1 = some (.lst ((List.replicate i true).map V.bl))) ?_ ?_ ?_ ?_⟩
    · exact ⟨fun c o z => same_new nD1 _ _ (by rw [← eHg]; exact z), upd_same⟩
    · rintro i Hx _ ⟨sx, _⟩
      exact SqL.of (sx _ _ Fog)
    · rintro i x Hx hx ⟨sx, hD1⟩
      have i3 : i < 3 := (List.getElem?_eq_some_iff.mp hx).1
      obtain ⟨r, rs, rfl, sr, tr, _, _⟩ := item i x hx
      refine ⟨rfl, _, rfl, r, rs, rfl, sr.same sx, tr, fun Hy sy => ⟨_, sy _ _ hD1, ?_, fun c o z => ?_, ?_⟩⟩
      · rw [List.length_map, List.length_replicate]
        exact small1000 (by omega)
      · rw [upd_ne (ne_of_none z (by rw [eHg]; exact nD1))]
        exact sy _ _ (sx _ _ z)
      · rw [upd_same, List.replicate_succ', List.map_append]
        rfl
    rintro Hh ⟨sh, hD1⟩
    refine ⟨D1, _, rfl, SqL.of hD1, true, rfl, if_f ?_⟩
    have Foh := sh _ _ Fog
    -- again
    refine ⟨_, rfl, fo, rfl, ⟨_, SqL.of Foh⟩, fun D2 nD2 => lc_list (K := K) (a := fo) (xs := [.ref j1, .ref m1, .ref e1]) (fun i Hx => Same Hh Hx ∧ ∃ ds : List (Addr × List (Int × Int)), Hx D2 = some (.lst (ds.map fun d => V.ref d.1)) ∧ (∀ d, d ∈ ds → StL Hx d.1 d.2 ∧ d.1 ≠ D2) ∧
      ds.map (·.2) = [rj, rm, re].take i) ?_ ?_ ?_ ?_⟩
    · exact ⟨same_new nD2, [], upd_same, (fun _ h => nomatch h), rfl⟩
    · rintro i Hx _ ⟨sx, _⟩
      exact SqL.of (sx _ _ Foh)
    · rintro i x Hx hx ⟨sx, ds, hD2, hds, eds⟩
      have i3 : i < 3 := (List.getElem?_eq_some_iff.mp hx).1
      obtain ⟨r, rs, rfl, sr, tr, _, ei⟩ := item i x hx
      obtain ⟨L, ⟨hr1, hr2⟩, er⟩ := (sr.same sh).same sx
      refine ⟨rfl, _, rfl, r, _, rfl, .inl (SqL.of hr1), fun l nl => ?_⟩
      have sl := same_new (o := .lst (refs L)) nl
      have lD : l ≠ D2 := fun z => by
        rw [z, hD2] at nl
        cases nl
      refine ⟨_, sl _ _ hD2, ?_, fun c o z => ?_, ds ++ [(l, rs)], ?_, fun d hd' => ?_, ?_⟩
      · rw [List.length_map]
        have : ds.length ≤ 3 := by
          have := congrArg List.length eds
          rw [List.length_map, List.length_take] at this
          simp only [List.length_cons, List.length_nil] at this
          omega
        exact small1000 (by omega)
      · rw [upd_ne (ne_of_none z nD2)]
        exact sl _ _ (sx _ _ z)
      · rw [upd_same, List.map_append]
        rfl
      · rcases List.mem_append.mp hd' with z | z
        · obtain ⟨y1, y2⟩ := hds d z
          exact ⟨(y1.same sl).other (sl _ _ hD2) y2, y2⟩
        · cases List.mem_singleton.mp z
          have y1 : StL (upd Hx l (.lst (refs L))) l rs := ⟨L, ⟨upd_same, fun q hq => sl _ _ (hr2 q hq)⟩, er⟩
          exact ⟨y1.other (sl _ _ hD2) lD, lD⟩
      · rw [List.map_append, eds, take_snoc ei]
        rfl
    rintro Hi ⟨si, ds, hD2, hds, eds⟩
    obtain ⟨c1, c2, c3, eds2⟩ : ∃ c1 c2 c3, ds = [(c1, rj), (c2, rm), (c3, re)] := by
      match ds, eds with
      | [d1, d2, d3], eds =>
        have e : [d1.2, d2.2, d3.2] = [rj, rm, re] := eds
        cases e
        exact ⟨d1.1, d2.1, d3.1, rfl⟩
      | [], eds => exact absurd (show (0 : Nat) = 3 from congrArg List.length eds) (by decide)
      | [_], eds => exact absurd (show (1 : Nat) = 3 from congrArg List.length eds) (by decide)
      | [_, _], eds => exact absurd (show (2 : Nat) = 3 from congrArg List.length eds) (by decide)
      | _ :: _ :: _ :: _ :: r, eds =>
        have z := congrArg List.length eds
        rw [List.length_map] at z
        have z2 : r.length + 4 = 3 := z
        omega
    subst eds2
    have C1 : StL Hi c1 rj := (hds _ List.mem_cons_self).1
    have C2 : StL Hi c2 rm := (hds _ (List.mem_cons_of_mem _ List.mem_cons_self)).1
    have Ag : Hi D2 = some (.lst [.ref c1, .ref c2, .ref c3]) := hD2
    have s2i : Same H2 Hi := (s2g.trans sh).trans si
    have F1i := (F1g.same sh).same si
    have F2i := (F2g.same sh).same si
    -- every, shared, rest
    refine ⟨_, rfl, _, rfl, f1, f2, r1, r2, rfl, F1i, F2i, by omega, fun Hj v1 q1 sj nv1 sv1 _ _ lv1 => ?_⟩
    refine ⟨_, rfl, _, rfl, f1, f2, r1, r2, rfl, F1i.same sj, F2i.same sj, td1, td2, by omega, fun Hk v2 q2 sk nv2 sv2 _ _ lv2 => ?_⟩
    refine ⟨_, rfl, _, rfl, f1, f2, r1, r2, rfl, (F1i.same sj).same sk, (F2i.same sj).same sk, td1, td2, by omega, fun Hl v3 q3 sl nv3 sv3 _ _ lv3 => ⟨_, _, _, rfl, ?_⟩⟩
    have sil := (sj.trans sk).trans sl
    -- same, again_first
    refine ⟨_, rfl, Nat.zero_le _, fun l5 n5 => ?_⟩
    have s5' := same_new (o := .lst []) n5
    have em0 : StL (upd Hl l5 (.lst [])) l5 [] := ⟨[], ⟨upd_same, fun _ h => nomatch h⟩, rfl⟩
    refine ⟨f1, l5, r1, [], rfl, (F1i.same sil).same s5', em0, by simp only [List.length_nil]; omega, fun Hm v4 q4 sm nv4 sv4 _ _ lv4 => ?_⟩
    simp only [List.length_nil] at lv4
    have sim := (sil.trans s5').trans sm
    refine ⟨_, rfl, f1, r1, rfl, F1i.same sim, by omega, fun Hn v5 q5 sn nv5 sv5 _ _ lv5 => ⟨_, _, rfl, ?_⟩⟩
    have sin := sim.trans sn
    have x1 : Lx 100 Hn v1 := ((((((sv1.same sk).same sl).same s5').same sm).same sn)).lx (by omega)
    have x2 : Lx 100 Hn v2 := (((((sv2.same sl).same s5').same sm).same sn)).lx (by omega)
    have x3' : Lx 100 Hn v3 := ((((sv3.same s5').same sm).same sn)).lx (by omega)
    have x4 : Lx 100 Hn v4 := (sv4.same sn).lx (by omega)
    have x5 : Lx 100 Hn v5 := sv5.lx (by omega)
    have nv1' : Hi v1 = none := nv1
    have nv2' : Hi v2 = none := sj.free nv2
    have nv3' : Hi v3 = none := (sj.trans sk).free nv3
    have nv4' : Hi v4 = none := (sil.trans s5').free nv4
    have nv5' : Hi v5 = none := sim.free nv5
    -- five appends
    obtain ⟨y1, ey1, ly1⟩ := x1
    refine ⟨_, rfl, .inl ⟨rfl, _, SqL.of ey1⟩, (by show 2 ≤ sizeLine; decide), fun t1 nt1 => ⟨v1, _, _, rfl, rfl, same_new nt1 _ _ ey1, small1000 (by omega), ?_⟩⟩
    have p1 := push_same (T := .tup [.int 0, .int 0]) (u := .lst (y1 ++ [.ref t1])) sin nv1' nt1
    have x2a := x2.push (T := .tup [.int 0, .int 0]) ey1 nt1
    have x3a := x3'.push (T := .tup [.int 0, .int 0]) ey1 nt1
    have x4a := x4.push (T := .tup [.int 0, .int 0]) ey1 nt1
    have x5a := x5.push (T := .tup [.int 0, .int 0]) ey1 nt1
    obtain ⟨y2, ey2, ly2⟩ := x2a
    refine ⟨_, rfl, .inl ⟨rfl, _, SqL.of ey2⟩, (by show 2 ≤ sizeLine; decide), fun t2 nt2 => ⟨v2, _, _, rfl, rfl, same_new nt2 _ _ ey2, small1000 (by omega), ?_⟩⟩
    have p2 := push_same (T := .tup [.int 0, .int 0]) (u := .lst (y2 ++ [.ref t2])) p1 nv2' nt2
    have x3b := x3a.push (T := .tup [.int 0, .int 0]) ey2 nt2
    have x4b := x4a.push (T := .tup [.int 0, .int 0]) ey2 nt2
    have x5b := x5a.push (T := .tup [.int 0, .int 0]) ey2 nt2
    obtain ⟨y3, ey3, ly3⟩ := x3b
    refine ⟨_, rfl, .inl ⟨rfl, _, SqL.of ey3⟩, (by show 2 ≤ sizeLine; decide), fun t3 nt3 => ⟨v3, _, _, rfl, rfl, same_new nt3 _ _ ey3, small1000 (by omega), ?_⟩⟩
    have p3 := push_same (T := .tup [.int 0, .int 0]) (u := .lst (y3 ++ [.ref t3])) p2 nv3' nt3
    have x4c := x4b.push (T := .tup [.int 0, .int 0]) ey3 nt3
    have x5c := x5b.push (T := .tup [.int 0, .int 0]) ey3 nt3
    obtain ⟨y4, ey4, ly4⟩ := x4c
    refine ⟨_, rfl, .inl ⟨rfl, _, SqL.of ey4⟩, (by show 2 ≤ sizeLine; decide), fun t4 nt4 => ⟨v4, _, _, rfl, rfl, same_new nt4 _ _ ey4, small1000 (by omega), ?_⟩⟩
    have p4 := push_same (T := .tup [.int 0, .int 0]) (u := .lst (y4 ++ [.ref t4])) p3 nv4' nt4
    have x5d := x5c.push (T := .tup [.int 0, .int 0]) ey4 nt4
    obtain ⟨y5, ey5, ly5⟩ := x5d
    refine ⟨_, rfl, .inl ⟨rfl, _, SqL.of ey5⟩, (by show 2 ≤ sizeLine; decide), fun t5 nt5 => ⟨v5, _, _, rfl, rfl, same_new nt5 _ _ ey5, small1000 (by omega), ?_⟩⟩
    have p5 := push_same (T := .tup [.int 0, .int 0]) (u := .lst (y5 ++ [.ref t5])) p4 nv5' nt5
    -- told again alike
    have s2o := s2i.trans p5
    refine ⟨_, rfl, a, one, rfl, sta.same s2o, by omega, fun Hp g1 u1 sp ng1 su1 tu1 hu1 lu1 => ?_⟩
    refine ⟨_, rfl, b, two, rfl, (st2.same s2o).same sp, by omega, fun Hq g2 u2 sq ng2 su2 tu2 hu2 lu2 => ?_⟩
    refine ⟨(by show 2 ≤ sizeLine; decide), fun l6 n6 => ?_⟩
    have s6' := same_new (o := .lst [.ref g1, .ref g2]) n6
    have siq := (p5.trans sp).trans sq
    refine ⟨_, rfl, _, rfl, (by show 2 ≤ sizeLine; decide), fun l7 n7 => ?_⟩
    have s7' := same_new (o := .lst [.ref f1, .ref f2]) n7
    have eu1 : u1 = r1 := tidy_unique tu1 td1 fun t => (hu1 t).trans (hs1 t).symm
    have eu2 : u2 = r2 := tidy_unique tu2 td2 fun t => (hu2 t).trans (hs2 t).symm
    refine ⟨dPs [u1, u2], dPs [r1, r2], .lst (SqL.of (s7' _ _ upd_same)) (.cons (((su1.same sq).same s6').same s7').dp (.cons ((su2.same s6').same s7').dp .nil)),
      .lst (SqL.of upd_same) (.cons (((F1i.same siq).same s6').same s7').dp (.cons (((F2i.same siq).same s6').same s7').dp .nil)), dPs_shaped _, dPs_shaped _, false, congrArg V.bl (by rw [eu1, eu2]; exact dPs_ne _), if_f ?_⟩
    have sir := (siq.trans s6').trans s7'
    refine ⟨_, rfl, _, rfl, f1, f2, r1, r2, rfl, F1i.same sir, F2i.same sir, by omega, fun Hr g3 u3 sr ng3 su3 tu3 hu3 lu3 => ?_⟩
    refine ⟨_, rfl, _, rfl, f1, f2, r1, r2, rfl, (F1i.same sir).same sr, (F2i.same sir).same sr, td1, td2, by omega, fun Hs g4 u4 ss ng4 su4 tu4 hu4 lu4 => ?_⟩
    refine ⟨(by show 2 ≤ sizeLine; decide), fun l8 n8' => ?_⟩
    have s8' := same_new (o := .lst [.ref g3, .ref g4]) n8'
    have sis := ((sir.trans sr).trans ss).trans s8'
    refine ⟨_, rfl, 2, rfl, D2, _, rfl, SqL.of (sis _ _ Ag), fun l9 n9 => ?_⟩
    have s9' := same_new (o := .lst [.ref c1, .ref c2]) n9
    have eu3 : u3 = rj := tidy_unique tu3 tdj fun t => (hu3 t).trans (hsj t).symm
    have eu4 : u4 = rm := tidy_unique tu4 tdm fun t => (hu4 t).trans (hsm t).symm
    refine ⟨dPs [u3, u4], dPs [rj, rm], .lst (SqL.of (s9' _ _ upd_same)) (.cons (((su3.same ss).same s8').same s9').dp (.cons ((su4.same s8').same s9').dp .nil)),
      .lst (SqL.of upd_same) (.cons ((C1.same sis).same s9').dp (.cons ((C2.same sis).same s9').dp .nil)), dPs_shaped _, dPs_shaped _, false, congrArg V.bl (by rw [eu3, eu4]; exact dPs_ne _), if_f ?_⟩
    have sit := sis.trans s9'
    -- the times
    refine ⟨_, rfl, _, rfl, a, b, one, two, rfl, sta.same (s2i.trans sit), st2.same (s2i.trans sit), by omega, fun Ht tl ts st nt ett => ?_⟩
    have siu := sit.trans st
    have s2u := s2i.trans siu
    have sgu : Same Hg Ht := (sh.trans si).trans siu
    refine ⟨tl, rfl, ⟨_, SqL.of ett⟩, for_list (K := K) (a := tl) (xs := ts.map V.int) (fun i σ Hx => ∃ z13 z14 z15 z16 : Option V, σ = [some (.ref p), some (.ref a), some (.ref b), some (.str (dPs [one, two]).shown), some (.ref f1), some (.ref f2), some (.ref fo), some (.ref D2), some (.ref v1), some (.ref v2), some (.ref v3), some (.ref v4), some (.ref v5), z13, z14, z15, z16, none] ∧ Same Ht Hx) ?_ ?_ ?_ ?_⟩
    · exact ⟨none, none, none, none, rfl, Same.refl _⟩
    · rintro i σ Hx _ ⟨_, _, _, _, _, sx⟩
      exact SqL.of (sx _ _ ett)
    · rintro i xv σ Hx hx ⟨z13, z14, z15, z16, rfl, sx⟩
      obtain ⟨t, rfl⟩ : ∃ t : Int, xv = .int t := by
        rw [List.getElem?_map] at hx
        obtain ⟨c, _, e⟩ := Option.map_eq_some_iff.mp hx
        exact ⟨c, e.symm⟩
      -- in_one, in_two
      refine ⟨_, rfl, _, rfl, a, t, one, rfl, (sta.same s2u).same sx, by omega, fun Hx1 sx1 => ?_⟩
      refine ⟨_, rfl, _, rfl, b, t, two, rfl, ((st2.same s2u).same sx).same sx1, by omega, fun Hx2 sx2 => ⟨_, _, rfl, ?_⟩⟩
      have sy2 := (sx.trans sx1).trans sx2
      refine ⟨_, rfl, _, rfl, f1, t, r1, rfl, (F1i.same siu).same sy2, by omega, fun Hx3 sx3 => ?_⟩
      refine ⟨_, rfl, _, rfl, f2, t, r2, rfl, ((F2i.same siu).same sy2).same sx3, by omega, fun Hx4 sx4 => ?_⟩
      refine ⟨(by show 2 ≤ sizeLine; decide), fun la na' => ?_⟩
      have sa' := same_new (o := .lst ([hasB r1 t, hasB r2 t].map V.bl)) na'
      refine ⟨_, rfl, _, rfl, (by show 2 ≤ sizeLine; decide), fun lb nb' => ?_⟩
      have sb' := same_new (o := .lst ([hasB one t, hasB two t].map V.bl)) nb'
      have eb1 : hasB r1 t = hasB one t := hasB_congr (hs1 t)
      have eb2 : hasB r2 t = hasB two t := hasB_congr (hs2 t)
      refine ⟨.list ([hasB r1 t, hasB r2 t].map PyData.bool), .list ([hasB one t, hasB two t].map PyData.bool), .lst (SqL.of (sb' _ _ upd_same)) (dp_bls [hasB r1 t, hasB r2 t]), .lst (SqL.of upd_same) (dp_bls [hasB one t, hasB two t]), (bl_ne _).2, (bl_ne _).2, false, congrArg V.bl (by rw [eb1, eb2]; exact (bl_ne _).1), if_f ?_⟩
      have sy4 := (((sy2.trans sx3).trans sx4).trans sa').trans sb'
      -- due
      refine ⟨_, rfl, _, rfl, or_read (b2 := hasB two t) rfl ?_⟩
      refine ⟨_, rfl, _, rfl, and_read (b2 := hasB two t) rfl ?_⟩
      refine ⟨_, rfl, _, rfl, andn_read (b2 := hasB two t) rfl ?_⟩
      refine ⟨(by show 3 ≤ sizeLine; decide), fun lc nc' => ?_⟩
      have sc' := same_new (o := .lst ([hasB one t || hasB two t, hasB one t && hasB two t, hasB one t && !hasB two t].map V.bl)) nc'
      have sy5 := sy4.trans sc'
      have syg := sgu.trans sy5
      have b1 : hasB rj t = (hasB one t || hasB two t) := by
        rw [Bool.eq_iff_iff, Bool.or_eq_true, hasB_iff, hasB_iff, hasB_iff, hsj t, hs1 t, hs2 t]
      have b2 : hasB rm t = (hasB one t && hasB two t) := by
        rw [Bool.eq_iff_iff, Bool.and_eq_true, hasB_iff, hasB_iff, hasB_iff, hsm t, hs1 t, hs2 t]
      have b3 : hasB re t = (hasB one t && !hasB two t) := by
        rw [Bool.eq_iff_iff, Bool.and_eq_true, Bool.not_eq_true', ← Bool.not_eq_true, hasB_iff, hasB_iff, hasB_iff, hse t, hs1 t, hs2 t]
      obtain ⟨Hv, eHv⟩ : ∃ Hv, Hv = upd (upd (upd Hx4 la (.lst ([hasB r1 t, hasB r2 t].map V.bl))) lb (.lst ([hasB one t, hasB two t].map V.bl))) lc (.lst ([hasB one t || hasB two t, hasB one t && hasB two t, hasB one t && !hasB two t].map V.bl)) := ⟨_, rfl⟩
      have hlc : Hv lc = some (.lst ([hasB one t || hasB two t, hasB one t && hasB two t, hasB one t && !hasB two t].map V.bl)) := by
        rw [eHv]
        exact upd_same
      have sy6 : Same Ht Hv := by
        subst eHv
        exact sy5
      have syh : Same Hg Hv := sgu.trans sy6
      refine ⟨_, rfl, fo, rfl, ⟨_, SqL.of (by subst eHv; exact syh _ _ Fog)⟩, fun D3 nD3 => lc_list (K := K) (a := fo) (xs := [.ref j1, .ref m1, .ref e1]) (fun i Hz => Same Hv Hz ∧ Hz D3 = some (.lst ((([rj, rm, re].take i).map fun rs => hasB rs t).map V.bl))) ?_ ?_ ?_ ?_⟩
      · subst eHv
        exact ⟨same_new nD3, upd_same⟩
      · rintro i Hz _ ⟨sz, _⟩
        exact SqL.of (sz _ _ (syh _ _ Fog))
      · rintro i x Hz hx ⟨sz, hD3⟩
        have nD3' : Hv D3 = none := by
          subst eHv
          exact nD3
        obtain ⟨r, rs, rfl, sr', _, lr, ei⟩ := item i x hx
        refine ⟨rfl, _, rfl, _, rfl, r, t, rs, rfl, (sr'.same syh).same sz, by omega, fun Hw sw => ⟨_, sw _ _ hD3, ?_, fun c o z => ?_, ?_⟩⟩
        · rw [List.length_map, List.length_map, List.length_take]
          exact small1000 (by simp only [List.length_cons, List.length_nil]; omega)
        · rw [upd_ne (ne_of_none z nD3')]
          exact sw _ _ (sz _ _ z)
        · rw [upd_same, take_snoc ei, List.map_append, List.map_append]
          rfl
      rintro Hz ⟨sz, hD3⟩
      have hD3' : Hz D3 = some (.lst ([hasB rj t, hasB rm t, hasB re t].map V.bl)) := hD3
      refine ⟨_, rfl, .list ([hasB rj t, hasB rm t, hasB re t].map PyData.bool), .list ([hasB one t || hasB two t, hasB one t && hasB two t, hasB one t && !hasB two t].map PyData.bool), .lst (SqL.of hD3') (dp_bls [hasB rj t, hasB rm t, hasB re t]), .lst (SqL.of (sz _ _ hlc)) (dp_bls [hasB one t || hasB two t, hasB one t && hasB two t, hasB one t && !hasB two t]), (bl_ne _).2, (bl_ne _).2,
        false, congrArg V.bl (by rw [b1, b2, b3]; exact (bl_ne _).1), if_f ?_⟩
      exact ⟨_, _, _, _, rfl, sy6.trans sz⟩
    · rintro σ Hx ⟨_, _, _, _, rfl, sx⟩
      have six := siu.trans sx
      -- the end
      refine ⟨_, rfl, f1, r1, rfl, F1i.same six, by omega, fun Hx1 h1 o1 sx1 nh1 so1 to1 ho1 lo1 => ?_⟩
      have e1' : o1 = r1 := tidy_unique to1 td1 ho1
      subst e1'
      refine ⟨_, rfl, dP o1, dP o1, so1.dp, ((F1i.same six).same sx1).dp, dP_shaped _, dP_shaped _, true, congrArg V.bl (dP_eq _), if_t ?_⟩
      refine ⟨_, rfl, Nat.zero_le _, fun lx nx => ?_⟩
      have sx2 := same_new (o := .lst []) nx
      have em1 : StL (upd Hx1 lx (.lst [])) lx [] := ⟨[], ⟨upd_same, fun _ h => nomatch h⟩, rfl⟩
      refine ⟨f1, lx, o1, [], rfl, ((F1i.same six).same sx1).same sx2, em1, td1, tidy_nil, by simp only [List.length_nil]; omega, fun Hx3 h2 o2 sx3 nh2 so2 to2 ho2 lo2 => ?_⟩
      have e2' : o2 = o1 := tidy_unique to2 td1 fun t => (ho2 t).trans ⟨fun z => z.1, fun z => ⟨z, has_nil t⟩⟩
      subst e2'
      refine ⟨_, rfl, dP o2, dP o2, so2.dp, (((F1i.same six).same sx1).same (sx2.trans sx3)).dp, dP_shaped _, dP_shaped _, true, congrArg V.bl (dP_eq _), if_t ?_⟩
      refine ⟨_, rfl, Nat.zero_le _, fun ly ny => ?_⟩
      have sx4 := same_new (o := .lst []) ny
      have em2 : StL (upd Hx3 ly (.lst [])) ly [] := ⟨[], ⟨upd_same, fun _ h => nomatch h⟩, rfl⟩
      refine ⟨f1, ly, o2, [], rfl, (((F1i.same six).same sx1).same (sx2.trans sx3)).same sx4, em2, td1, tidy_nil, by simp only [List.length_nil]; omega, fun Hx5 h3 o3 sx5 nh3 so3 to3 ho3 lo3 => ?_⟩
      have e3' : o3 = [] := tidy_unique to3 tidy_nil fun t => (ho3 t).trans ⟨fun z => z.2, fun z => (has_nil t z).elim⟩
      subst e3'
      refine ⟨Nat.zero_le _, fun lz nz => ?_⟩
      have sx6 := same_new (o := .lst []) nz
      have em3 : StL (upd Hx5 lz (.lst [])) lz [] := ⟨[], ⟨upd_same, fun _ h => nomatch h⟩, rfl⟩
      refine ⟨dP [], dP [], (so3.same sx6).dp, em3.dp, dP_shaped _, dP_shaped _, ?_⟩
      rw [dP_eq]
      exact q _ (kp2.trans (.of ((s2i.trans six).trans ((((sx1.trans sx2).trans sx3).trans sx4).trans (sx5.trans sx6)))))
/-! ### the law -/
theorem ok_law {f fR fD : Addr} {fd fdR fdD : FuncData} {k : Nat} (F : Fun K "law" "law" sLaw f fd) (R : FnG P w K mg base CX0 k fR fdR ["_law_draws_here"] spRight) (gR : mg "_law_right" = some (.ref fR)) (kR : PySem.W.keepIn K (.ref fR) = true) (bR : Binds K fdR ["_law_draws_here"] [])
    (D : FnOk P w K mg base CX0 k fD fdD ["_law_cell"] spDraws) (gD : mg "_law_draws" = some (.ref fD)) (kD : PySem.W.keepIn K (.ref fD) = true) (bD : Binds K fdD ["_law_cell"] []) (T : Fns P w K mg base k) : FnG P w K mg base CX0 (k + 1) f fd ["_law_script"] (spScript K) := by
  obtain ⟨⟨ft, fdt, FT, gT, kT, bT, zT⟩, ⟨fj, fdj, FJ, gJ, kJ, bJ, zJ⟩, _, ⟨fl, fdl, FL, gL, kL, bL, zL⟩, _, _, _, _, _, _, _⟩ := T
  refine okG F scLaw (fun vs H Q E h => ?_) (fun cdv A outer s H vs Q E hg hr h => ?_)
  · obtain ⟨a, ns, rfl, _⟩ := h
    rfl
  · obtain ⟨a, ns, rfl, hS, hlen, q⟩ := h
    have hu := hr.units
    refine ⟨_, pss_cons (ps_for PassesOwn.never rfl (pi_list (pe_op op_cat (pe_slice sl_list (pv 0) po_none (po_some pe_int)) (pe_lst (pa_cons pe_int pa_nil)))) (pg_name (i := 1) scLaw.nd rfl (.inl rfl))
        (pss_one (ps_if (pt_not (pt_val (pe_callG R hg hr (by rfl) gR kR bR pass0 (pa_cons (pe_call D hr (by rfl) gD kD bD .nil pass0 (pa_cons (pv 1) pa_nil)) pa_nil)))) (pss_one (ps_ret pe_bl)) pss_nil)))
      (pss_one (ps_ret (pe_and (pe_cmpR (op_eqD hu) (pe_call FT hr (by rfl) gT kT bT .nil pass0 (pa_cons (pe_lst pa_nil) pa_nil)) (pe_lst pa_nil) (nomark _))
        (pe_and (pe_cmpR (op_eqD hu) (pe_call FJ hr (by rfl) gJ kJ bJ .nil pass0 (pa_cons (pe_lst pa_nil) (pa_cons (pe_lst pa_nil) pa_nil))) (pe_lst pa_nil) (nomark _))
        (pe_one (pe_cmpR (op_eqD hu) (pe_call FL hr (by rfl) gL kL bL .nil pass0 (pa_cons (pe_lst pa_nil) (pa_cons (pe_lst pa_nil) pa_nil))) (pe_lst pa_nil) (nomark _))))))), ?_⟩
    refine ⟨_, rfl, 8, rfl, a, _, rfl, hS, fun l1 n1 => ?_⟩
    refine ⟨Nat.le_of_lt (small1000 (by show 1 ≤ 1000; decide)), fun l2 n2 => ?_⟩
    have e1 : ∃ ms : List Int, cutV (ns.map V.int) none (some 8) = ms.map V.int ∧ ms.length ≤ 63 := by
      unfold cutV
      refine ⟨(ns.drop (HT.sIx (ns.map V.int).length 0 none)).take (HT.sIx (ns.map V.int).length (ns.map V.int).length (some 8) - HT.sIx (ns.map V.int).length 0 none), ?_, ?_⟩
      · rw [List.map_take, List.map_drop]
      · rw [List.length_take, List.length_drop]
        omega
    obtain ⟨ms, em, lm⟩ := e1
    have m1 : (upd (upd H l1 (.lst (cutV (ns.map V.int) none (some 8)))) l2 (.lst [.int 0])) l1 = some (.lst (ms.map V.int)) := by
      rw [upd_ne (ne_of_none upd_same n2), upd_same, em]
    refine ⟨l1, l2, _, _, rfl, rfl, m1, upd_same, ?_, fun l3 n3 => ?_⟩
    · rw [List.length_map]
      exact Nat.le_of_lt (small1000 (by show ms.length + 1 ≤ 1000; omega))
    · generalize upd (upd H l1 (.lst (cutV (ns.map V.int) none (some 8)))) l2 (.lst [.int 0]) = H2 at n3
      have m3 : (upd H2 l3 (.lst ((ms ++ [0]).map V.int))) l3 = some (.lst ((ms ++ [0]).map V.int)) := upd_same
      have e3 : (ms.map V.int ++ [V.int 0]) = (ms ++ [0]).map V.int := by
        rw [List.map_append]
        rfl
      rw [e3]
      revert m3
      generalize upd H2 l3 (.lst ((ms ++ [0]).map V.int)) = H3
      intro m3
      refine ⟨l3, rfl, ⟨_, SqL.of m3⟩, for_list (K := K) (a := l3) (xs := (ms ++ [0]).map V.int) (fun i σ Hc => ∃ z1 : Option V, σ = [some (.ref a), z1] ∧ Hc l3 = some (.lst ((ms ++ [0]).map V.int))) ⟨none, rfl, m3⟩ ?_ ?_ ?_⟩
      · rintro i σ Hc _ ⟨_, _, h⟩
        exact SqL.of h
      · rintro i xv σ Hc hx ⟨z1, rfl, hc⟩
        obtain ⟨c, rfl⟩ : ∃ c : Int, xv = .int c := by
          rw [List.getElem?_map] at hx
          obtain ⟨c, _, e⟩ := Option.map_eq_some_iff.mp hx
          exact ⟨c, e.symm⟩
        refine ⟨_, rfl, c, rfl, fun p da db np => ?_⟩
        have np3 : l3 ≠ p := ne_of_none hc np
        refine ⟨p, rfl, ⟨da, 0, db, upd_same, by decide, by decide⟩, fun Hd kd => ⟨true, rfl, if_f ⟨_, rfl, kd _ _ np3 ?_⟩⟩⟩
        rw [upd_ne np3]
        exact hc
      · rintro σ Hc ⟨_, rfl, _⟩
        have nil_ : ∀ {Hx : Hp} {l : Addr}, Hx l = none → StL (upd Hx l (.lst [])) l [] := fun {Hx l} _ => ⟨[], ⟨upd_same, fun _ h => nomatch h⟩, rfl⟩
        have is_nil : ∀ {rs : List (Int × Int)}, Tidy rs → (∀ t, ¬ Has rs t) → rs = [] := fun td h => tidy_unique td tidy_nil fun t => ⟨fun z => (h t z).elim, fun z => (has_nil t z).elim⟩
        refine ⟨Nat.zero_le _, fun x1 y1 => ?_⟩
        refine ⟨x1, [], rfl, nil_ y1, Nat.zero_le _, fun H4 r4 s4 s4' n4 st4 td4 hs4 _ => ?_⟩
        have e4 := is_nil td4 fun t z => has_nil t ((hs4 t).mp z)
        subst e4
        refine ⟨Nat.zero_le _, fun x5 y5 => ⟨dP [], dP [], (st4.same (same_new y5)).dp, (nil_ y5).dp, dP_shaped _, dP_shaped _, true, congrArg V.bl (dP_eq _), if_t ?_⟩⟩
        refine ⟨Nat.zero_le _, fun x6 y6 => ⟨Nat.zero_le _, fun x7 y7 => ?_⟩⟩
        refine ⟨x6, x7, [], [], rfl, (nil_ y6).same (same_new y7), nil_ y7, Nat.zero_le _, fun H8 r8 s8 s8' n8 st8 td8 hs8 _ => ?_⟩
        have e8 := is_nil td8 fun t z => ((hs8 t).mp z).elim (has_nil t) (has_nil t)
        subst e8
        refine ⟨Nat.zero_le _, fun x9 y9 => ⟨dP [], dP [], (st8.same (same_new y9)).dp, (nil_ y9).dp, dP_shaped _, dP_shaped _, true, congrArg V.bl (dP_eq _), if_t ?_⟩⟩
        refine ⟨Nat.zero_le _, fun xa ya => ⟨Nat.zero_le _, fun xb yb => ?_⟩⟩
        refine ⟨xa, xb, [], [], rfl, (nil_ ya).same (same_new yb), nil_ yb, tidy_nil, tidy_nil, Nat.zero_le _, fun Hc' rc sc sc' nc stc tdc hsc _ => ?_⟩
        have ec := is_nil tdc fun t z => has_nil t ((hsc t).mp z).1
        subst ec
        refine ⟨Nat.zero_le _, fun xd yd => ⟨dP [], dP [], (stc.same (same_new yd)).dp, (nil_ yd).dp, dP_shaped _, dP_shaped _, ?_⟩⟩
        rw [dP_eq]
        exact q _
end
end Tg

namespace Tg
open PySem PySem.Spec PyProof.Rows L2
theorem Cal.mono {P : Program} {w : World} {K : PySem.W.Frag} {mg : Str → Option Value} {base : Heap} {j k : Nat} {x : Str} {ps : List Str} {sp : Sp} (c : Cal P w K mg base j x ps sp) (h : j ≤ k) : Cal P w K mg base k x ps sp := by
  obtain ⟨f, fd, F, r⟩ := c
  exact ⟨f, fd, F.mono h, r⟩
theorem CalK.mono {P : Program} {w : World} {K : PySem.W.Frag} {mg : Str → Option Value} {base : Heap} {j k : Nat} {x : Str} {ps ks : List Str} {g : List Value → List Value} {gV : List V → List V} {sp : Sp} (c : CalK P w K mg base j x ps ks g gV sp) (h : j ≤ k) : CalK P w K mg base k x ps ks g gV sp := by
  obtain ⟨f, fd, F, r⟩ := c
  exact ⟨f, fd, F.mono h, r⟩
theorem Fns.mono {P : Program} {w : World} {K : PySem.W.Frag} {mg : Str → Option Value} {base : Heap} {j k : Nat} (T : Fns P w K mg base j) (h : j ≤ k) : Fns P w K mg base k :=
  ⟨T.ti.mono h, T.jo.mono h, T.me.mono h, T.le.mono h, T.li.mono h, T.ha.mono h, T.tm.mono h, T.lt.mono h, T.mS, T.mA, T.mL⟩
section
variable {K : PySem.W.Frag}
theorem kbn1 {x : Str} {st : Stmt} {f : Addr} {fd : FuncData} {a : Str} (F : Fun K x x st f fd) (h : ∀ (kV doc pm : Value) (an : Option Addr) (cdv ct v : Value), bindArgs (PySem.W.fnOf x x (defArgs st) (defBody st) (defScope st) .none kV doc pm an cdv ct) ⟨[], [(a, v)]⟩ = pure [(a, v)]) :
    KBn K fd [a] 0 [a] (fun _ ws => sw1 ws) (fun _ zs => sw1 zs) := by
  obtain ⟨_, _, kV, doc, pm, an, cdv, ct, _, rfl, _, _⟩ := F.ex
  exact ⟨fun s us ws _ h0 h2 => match us, ws, h0, h2 with | [], [v], _, _ => .of_eq (h kV doc pm an cdv ct v), fun _ r => sw1_rel r⟩
theorem kbn2 {x : Str} {st : Stmt} {f : Addr} {fd : FuncData} {a b : Str} (F : Fun K x x st f fd) (h : ∀ (kV doc pm : Value) (an : Option Addr) (cdv ct u v : Value), bindArgs (PySem.W.fnOf x x (defArgs st) (defBody st) (defScope st) .none kV doc pm an cdv ct) ⟨[], [(b, u), (a, v)]⟩ = pure [(a, v), (b, u)]) :
    KBn K fd [a, b] 0 [b, a] (fun _ ws => sw2 ws) (fun _ zs => sw2 zs) := by
  obtain ⟨_, _, kV, doc, pm, an, cdv, ct, _, rfl, _, _⟩ := F.ex
  exact ⟨fun s us ws _ h0 h2 => match us, ws, h0, h2 with | [], [u, v], _, _ => .of_eq (h kV doc pm an cdv ct u v), fun _ r => sw2_rel r⟩
end
/-! ### what the top has written; the law's own head -/
theorem all_mk {l : PySem.W.OpenLaw} {w : World} {K : PySem.W.Frag} {h : Heap} {mg : Str → Option Value} {fa f1 f2 f3 f4 f5 f6 f7 f8 f9 f10 f11 f12 f13 : Addr} (X : K.In h) (G : h.Ns mainGlobals mg) (hfa : mg "law" = some (.ref fa))
    {od1 an1 od2 an2 od3 an3 od4 an4 od5 an5 od6 an6 od7 an7 od8 an8 od9 an9 od10 an10 od11 an11 od12 an12 od13 an13 : Option Addr} {sl1 sl2 sl3 sl4 sl5 sl6 sl7 sl8 sl9 sl10 sl11 sl12 sl13 : Array (Option Value)} {oc1 kV1 dc1 pm1 cd1 ct1 oc2 kV2 dc2 pm2 cd2 ct2 oc3 kV3 dc3 pm3 cd3 ct3 oc4 kV4 dc4 pm4 cd4 ct4 oc5 kV5 dc5 pm5 cd5 ct5 oc6 kV6 dc6 pm6 cd6 ct6 oc7 kV7 dc7 pm7 cd7 ct7 oc8 kV8 dc8 pm8 cd8 ct8 oc9 kV9 dc9 pm9 cd9 ct9 oc10 kV10 dc10 pm10 cd10 ct10 oc11 kV11 dc11 pm11 cd11 ct11 oc12 kV12 dc12 pm12 cd12 ct12 oc13 kV13 dc13 pm13 cd13 ct13 : Value}
    (a1 : PySem.W.nsIn K mainGlobals "tidy" = some (some (.ref f1))) (l1 : K.lookup f1 = some ⟨oc1, od1, .func (PySem.W.fnOf "tidy" "tidy" (defArgs sTidy) (defBody sTidy) (defScope sTidy) .none kV1 dc1 pm1 an1 cd1 ct1), sl1⟩) (c1 : PySem.W.codeIn K cd1 "tidy" = true) (k1 : PySem.W.keepIn K (.ref f1) = true)
    (a2 : PySem.W.nsIn K mainGlobals "joined" = some (some (.ref f2))) (l2 : K.lookup f2 = some ⟨oc2, od2, .func (PySem.W.fnOf "joined" "joined" (defArgs sJoined) (defBody sJoined) (defScope sJoined) .none kV2 dc2 pm2 an2 cd2 ct2), sl2⟩) (c2 : PySem.W.codeIn K cd2 "joined" = true) (k2 : PySem.W.keepIn K (.ref f2) = true)
    (a3 : PySem.W.nsIn K mainGlobals "met" = some (some (.ref f3))) (l3 : K.lookup f3 = some ⟨oc3, od3, .func (PySem.W.fnOf "met" "met" (defArgs sMet) (defBody sMet) (defScope sMet) .none kV3 dc3 pm3 an3 cd3 ct3), sl3⟩) (c3 : PySem.W.codeIn K cd3 "met" = true) (k3 : PySem.W.keepIn K (.ref f3) = true)
    (a4 : PySem.W.nsIn K mainGlobals "less" = some (some (.ref f4))) (l4 : K.lookup f4 = some ⟨oc4, od4, .func (PySem.W.fnOf "less" "less" (defArgs sLess) (defBody sLess) (defScope sLess) .none kV4 dc4 pm4 an4 cd4 ct4), sl4⟩) (c4 : PySem.W.codeIn K cd4 "less" = true) (k4 : PySem.W.keepIn K (.ref f4) = true)
    (a5 : PySem.W.nsIn K mainGlobals "gaps" = some (some (.ref f5))) (l5 : K.lookup f5 = some ⟨oc5, od5, .func (PySem.W.fnOf "gaps" "gaps" (defArgs sGaps) (defBody sGaps) (defScope sGaps) .none kV5 dc5 pm5 an5 cd5 ct5), sl5⟩) (c5 : PySem.W.codeIn K cd5 "gaps" = true) (k5 : PySem.W.keepIn K (.ref f5) = true)
    (a6 : PySem.W.nsIn K mainGlobals "_law_draws" = some (some (.ref f6))) (l6 : K.lookup f6 = some ⟨oc6, od6, .func (PySem.W.fnOf "_law_draws" "_law_draws" (defArgs sDraws) (defBody sDraws) (defScope sDraws) .none kV6 dc6 pm6 an6 cd6 ct6), sl6⟩) (c6 : PySem.W.codeIn K cd6 "_law_draws" = true) (k6 : PySem.W.keepIn K (.ref f6) = true)
    (a7 : PySem.W.nsIn K mainGlobals "_law_next" = some (some (.ref f7))) (l7 : K.lookup f7 = some ⟨oc7, od7, .func (PySem.W.fnOf "_law_next" "_law_next" (defArgs sNext) (defBody sNext) (defScope sNext) .none kV7 dc7 pm7 an7 cd7 ct7), sl7⟩) (c7 : PySem.W.codeIn K cd7 "_law_next" = true) (k7 : PySem.W.keepIn K (.ref f7) = true)
    (a8 : PySem.W.nsIn K mainGlobals "_law_list" = some (some (.ref f8))) (l8 : K.lookup f8 = some ⟨oc8, od8, .func (PySem.W.fnOf "_law_list" "_law_list" (defArgs sList) (defBody sList) (defScope sList) .none kV8 dc8 pm8 an8 cd8 ct8), sl8⟩) (c8 : PySem.W.codeIn K cd8 "_law_list" = true) (k8 : PySem.W.keepIn K (.ref f8) = true)
    (a9 : PySem.W.nsIn K mainGlobals "_law_has" = some (some (.ref f9))) (l9 : K.lookup f9 = some ⟨oc9, od9, .func (PySem.W.fnOf "_law_has" "_law_has" (defArgs sHas) (defBody sHas) (defScope sHas) .none kV9 dc9 pm9 an9 cd9 ct9), sl9⟩) (c9 : PySem.W.codeIn K cd9 "_law_has" = true) (k9 : PySem.W.keepIn K (.ref f9) = true)
    (a10 : PySem.W.nsIn K mainGlobals "_law_times" = some (some (.ref f10))) (l10 : K.lookup f10 = some ⟨oc10, od10, .func (PySem.W.fnOf "_law_times" "_law_times" (defArgs sTimes) (defBody sTimes) (defScope sTimes) .none kV10 dc10 pm10 an10 cd10 ct10), sl10⟩) (c10 : PySem.W.codeIn K cd10 "_law_times" = true) (k10 : PySem.W.keepIn K (.ref f10) = true)
    (a11 : PySem.W.nsIn K mainGlobals "_law_tidy" = some (some (.ref f11))) (l11 : K.lookup f11 = some ⟨oc11, od11, .func (PySem.W.fnOf "_law_tidy" "_law_tidy" (defArgs sLTidy) (defBody sLTidy) (defScope sLTidy) .none kV11 dc11 pm11 an11 cd11 ct11), sl11⟩) (c11 : PySem.W.codeIn K cd11 "_law_tidy" = true) (k11 : PySem.W.keepIn K (.ref f11) = true)
    (a12 : PySem.W.nsIn K mainGlobals "_law_right" = some (some (.ref f12))) (l12 : K.lookup f12 = some ⟨oc12, od12, .func (PySem.W.fnOf "_law_right" "_law_right" (defArgs sRight) (defBody sRight) (defScope sRight) .none kV12 dc12 pm12 an12 cd12 ct12), sl12⟩) (c12 : PySem.W.codeIn K cd12 "_law_right" = true) (k12 : PySem.W.keepIn K (.ref f12) = true)
    (a13 : PySem.W.nsIn K mainGlobals "law" = some (some (.ref f13))) (l13 : K.lookup f13 = some ⟨oc13, od13, .func (PySem.W.fnOf "law" "law" (defArgs sLaw) (defBody sLaw) (defScope sLaw) .none kV13 dc13 pm13 an13 cd13 ct13), sl13⟩) (c13 : PySem.W.codeIn K cd13 "law" = true) (k13 : PySem.W.keepIn K (.ref f13) = true)
    (z1 : PySem.W.nsIn K mainGlobals "sorted" = some none)
    (z2 : PySem.W.nsIn K mainGlobals "max" = some none)
    (z3 : PySem.W.nsIn K mainGlobals "list" = some none)
    (z4 : PySem.W.nsIn K mainGlobals "len" = some none)
    (z5 : PySem.W.nsIn K mainGlobals "min" = some none)
    (z6 : PySem.W.nsIn K mainGlobals "zip" = some none)
    (z7 : PySem.W.nsIn K mainGlobals "range" = some none)
    (z8 : PySem.W.nsIn K mainGlobals "abs" = some none)
    (z9 : PySem.W.nsIn K mainGlobals "str" = some none)
    (z10 : PySem.W.nsIn K mainGlobals "isinstance" = some none)
    (z11 : PySem.W.nsIn K mainGlobals "enumerate" = some none)
    (z12 : PySem.W.nsIn K mainGlobals "tuple" = some none)
    (z13 : PySem.W.nsIn K mainGlobals "all" = some none)
    : ∃ fd : FuncData, (∀ (s : Shared) (v : Value), BindsTo s fd ⟨[v], []⟩ [("_law_script", v)]) ∧ ∀ base : Heap, K.In base → base.Ns mainGlobals mg → FnG l.prog w K mg base CX0 4 fa fd ["_law_script"] (spScript K) := by
  have e := hfa.symm.trans (PySem.W.mg_of X G a13)
  cases e
  have F1 := fun_mk (st := sTidy) l1 c1 k1
  have F2 := fun_mk (st := sJoined) l2 c2 k2
  have F3 := fun_mk (st := sMet) l3 c3 k3
  have F4 := fun_mk (st := sLess) l4 c4 k4
  have F5 := fun_mk (st := sGaps) l5 c5 k5
  have F6 := fun_mk (st := sDraws) l6 c6 k6
  have F7 := fun_mk (st := sNext) l7 c7 k7
  have F8 := fun_mk (st := sList) l8 c8 k8
  have F9 := fun_mk (st := sHas) l9 c9 k9
  have F10 := fun_mk (st := sTimes) l10 c10 k10
  have F11 := fun_mk (st := sLTidy) l11 c11 k11
  have F12 := fun_mk (st := sRight) l12 c12 k12
  have F13 := fun_mk (st := sLaw) l13 c13 k13
  have b1 := F1.binds (ps := ["stretches"]) fun _ _ _ _ _ _ us hl => match us, hl with | [_], _ => rfl
  have b2 := F2.binds (ps := ["one", "two"]) fun _ _ _ _ _ _ us hl => match us, hl with | [_, _], _ => rfl
  have b3 := F3.binds (ps := ["one", "two"]) fun _ _ _ _ _ _ us hl => match us, hl with | [_, _], _ => rfl
  have b4 := F4.binds (ps := ["one", "two"]) fun _ _ _ _ _ _ us hl => match us, hl with | [_, _], _ => rfl
  have b5 := F5.binds (ps := ["stretches", "low", "high"]) fun _ _ _ _ _ _ us hl => match us, hl with | [_, _, _], _ => rfl
  have b6 := F6.binds (ps := ["_law_cell"]) fun _ _ _ _ _ _ us hl => match us, hl with | [_], _ => rfl
  have b7 := F7.binds (ps := ["_law_draws_here"]) fun _ _ _ _ _ _ us hl => match us, hl with | [_], _ => rfl
  have b8 := F8.binds (ps := ["_law_draws_here"]) fun _ _ _ _ _ _ us hl => match us, hl with | [_], _ => rfl
  have b9 := F9.binds (ps := ["_law_some", "_law_time"]) fun _ _ _ _ _ _ us hl => match us, hl with | [_, _], _ => rfl
  have b10 := F10.binds (ps := ["_law_a_one", "_law_a_two"]) fun _ _ _ _ _ _ us hl => match us, hl with | [_, _], _ => rfl
  have b11 := F11.binds (ps := ["_law_told"]) fun _ _ _ _ _ _ us hl => match us, hl with | [_], _ => rfl
  have b12 := F12.binds (ps := ["_law_draws_here"]) fun _ _ _ _ _ _ us hl => match us, hl with | [_], _ => rfl
  have g1 := PySem.W.mg_of X G a1
  have g2 := PySem.W.mg_of X G a2
  have g3 := PySem.W.mg_of X G a3
  have g4 := PySem.W.mg_of X G a4
  have g5 := PySem.W.mg_of X G a5
  have g6 := PySem.W.mg_of X G a6
  have g7 := PySem.W.mg_of X G a7
  have g8 := PySem.W.mg_of X G a8
  have g9 := PySem.W.mg_of X G a9
  have g10 := PySem.W.mg_of X G a10
  have g11 := PySem.W.mg_of X G a11
  have g12 := PySem.W.mg_of X G a12
  have y1 := PySem.W.mg_none_of X G z1
  have y2 := PySem.W.mg_none_of X G z2
  have y3 := PySem.W.mg_none_of X G z3
  have y4 := PySem.W.mg_none_of X G z4
  have y5 := PySem.W.mg_none_of X G z5
  have y6 := PySem.W.mg_none_of X G z6
  have y7 := PySem.W.mg_none_of X G z7
  have y8 := PySem.W.mg_none_of X G z8
  have y9 := PySem.W.mg_none_of X G z9
  have y10 := PySem.W.mg_none_of X G z10
  have y11 := PySem.W.mg_none_of X G z11
  have y12 := PySem.W.mg_none_of X G z12
  have y13 := PySem.W.mg_none_of X G z13
  refine ⟨PySem.W.fnOf "law" "law" (defArgs sLaw) (defBody sLaw) (defScope sLaw) .none kV13 dc13 pm13 an13 cd13 ct13, fun s v => .of_eq rfl, fun base _ _ => ?_⟩
  have TI : FnOk l.prog w K mg base CX0 1 f1 _ ["stretches"] spTidy := ok_tidy F1 y1 y2
  have T : Fns l.prog w K mg base 2 := ⟨⟨f1, _, TI.mono (by decide), g1, k1, b1, kbn1 F1 fun _ _ _ _ _ _ _ => rfl⟩, ⟨f2, _, ok_joined F2 TI g1 k1 b1 y3, g2, k2, b2, kbn2 F2 fun _ _ _ _ _ _ _ _ => rfl⟩,
    ⟨f3, _, ok_met F3 y4 y2 y5, g3, k3, b3, kbn2 F3 fun _ _ _ _ _ _ _ _ => rfl⟩, ⟨f4, _, ok_less F4 (ok_met (k := 0) F3 y4 y2 y5) g3 k3 b3 (ok_gaps F5 y6) g5 k5 b5, g4, k4, b4, kbn2 F4 fun _ _ _ _ _ _ _ _ => rfl⟩,
    ⟨f8, _, ok_list F8 (ok_next (k := 0) F7) g7 k7 b7 y7 y8, g8, k8, b8⟩, ⟨f9, _, ok_has F9, g9, k9, b9⟩, ⟨f10, _, ok_times F10, g10, k10, b10⟩, ⟨f11, _, ok_ltidy F11 y10 y3 y11 y12 y4, g11, k11, b11⟩, y9, y13, y3⟩
  have T3 : Fns l.prog w K mg base 3 := T.mono (by decide)
  exact ok_law F13 (ok_right F12 T) g12 k12 b12 (ok_draws F6 y7) g6 k6 b6 T3
end Tg
open PySem PySem.W PyProof.Rows
set_option maxRecDepth 100000 in
set_option maxHeartbeats 0 in
theorem PySem.Challenge.cw_timegranary_k02_tidy_lists_holds : PySem.Challenge.rw_timegranary_k02_tidy_lists.Holds := by
  w_on; o_law; k_head; (case hw => w_witness2)
  k_fill
  refine Tg.walk_g (l := PySem.Challenge.rw_timegranary_k02_tidy_lists) (k := 4) (x := "_law_script") rfl rfl ⟨rfl, by decide, by decide⟩ (fun w h Y => PySem.W.kIn_of Y) ?F
  case F =>
    intro w mg fa h KX G hmg
    refine' Tg.all_mk KX G hmg ?a1 ?l1 ?c1 ?k1 ?a2 ?l2 ?c2 ?k2 ?a3 ?l3 ?c3 ?k3 ?a4 ?l4 ?c4 ?k4 ?a5 ?l5 ?c5 ?k5 ?a6 ?l6 ?c6 ?k6 ?a7 ?l7 ?c7 ?k7 ?a8 ?l8 ?c8 ?k8 ?a9 ?l9 ?c9 ?k9 ?a10 ?l10 ?c10 ?k10 ?a11 ?l11 ?c11 ?k11 ?a12 ?l12 ?c12 ?k12 ?a13 ?l13 ?c13 ?k13 ?z1 ?z2 ?z3 ?z4 ?z5 ?z6 ?z7 ?z8 ?z9 ?z10 ?z11 ?z12 ?z13
    (case a1 => k_is); (case l1 => k_is); (case c1 => k_is); (case k1 => k_is)
    (case a2 => k_is); (case l2 => k_is); (case c2 => k_is); (case k2 => k_is)
    (case a3 => k_is); (case l3 => k_is); (case c3 => k_is); (case k3 => k_is)
    (case a4 => k_is); (case l4 => k_is); (case c4 => k_is); (case k4 => k_is)
    (case a5 => k_is); (case l5 => k_is); (case c5 => k_is); (case k5 => k_is)
    (case a6 => k_is); (case l6 => k_is); (case c6 => k_is); (case k6 => k_is)
    (case a7 => k_is); (case l7 => k_is); (case c7 => k_is); (case k7 => k_is)
    (case a8 => k_is); (case l8 => k_is); (case c8 => k_is); (case k8 => k_is)
    (case a9 => k_is); (case l9 => k_is); (case c9 => k_is); (case k9 => k_is)
    (case a10 => k_is); (case l10 => k_is); (case c10 => k_is); (case k10 => k_is)
    (case a11 => k_is); (case l11 => k_is); (case c11 => k_is); (case k11 => k_is)
    (case a12 => k_is); (case l12 => k_is); (case c12 => k_is); (case k12 => k_is)
    (case a13 => k_is); (case l13 => k_is); (case c13 => k_is); (case k13 => k_is)
    (case z1 => k_is); (case z2 => k_is); (case z3 => k_is); (case z4 => k_is); (case z5 => k_is); (case z6 => k_is); (case z7 => k_is); (case z8 => k_is); (case z9 => k_is); (case z10 => k_is); (case z11 => k_is); (case z12 => k_is); (case z13 => k_is)

