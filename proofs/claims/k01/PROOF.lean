import PyProof.Rows.All
import Wide.All
import OpenK.AllK
import Wide.FinOn
import HandS.ForMost
import HandS.Conv
import HandS.Wide
import HandS.IsInst
import HandS.Defaults
import PySem.Challenge.RW_timegranary_k01_cells
set_option Elab.async false
set_option linter.all false
set_option maxRecDepth 100000
namespace Tg
open PySem PySem.Spec PyProof.Rows L2

/-! ### rules of my own: a call by keywords alone; list(range(a, b, c)) -/
section
variable {X : Cx} {CX : CXT} {k : Nat} {f : Addr} {fd : FuncData} {ps ks : List Str} {sp : Sp} {E : XK} {x : Str} {p pos : Pos} {kws : List Keyword} {tk : TA}
  {g : List Value → List Value → List Value} {gV : List V → List V → List V}
def tKw0 (n : Nat) (sp : Sp) (gV : List V → List V → List V) (E : XK) (tk : TA) : TE :=
  fun σ H Q => tk σ H fun zs H2 => zs.length = n ∧ sp (gV [] zs) H2 Q E
theorem pe_kw0 (F : FnOk X.prog X.w X.K X.mg X.base CX k f fd ps sp) (room : Room k X.A) (gl : Gl X x) (at_x : X.mg x = some (.ref f)) (kept : PySem.W.keepIn X.K (.ref f) = true) (binds : KBn X.K fd ps 0 ks g gV) (lets : Passes CX X E) (vals : PK X kws tk)
    (named : (backToKw pos (keywordEach kws X.env)).all (·.1.isSome) = true := by rfl) (names : (backToKw pos (keywordEach kws X.env)).filterMap (·.1) = ks := by rfl) (nodebug : (x == ("__debug__" : Str)) = false := by decide)
    (nostar : ((backTo pos (starEach [] X.env)).any (·.1) || (backToKw pos (keywordEach kws X.env)).any (·.1.isNone)) = false := by rfl) : PE X (.Call (.Name x p) [] kws pos) (tKw0 ks.length sp gV E tk) := by
  constructor
  intro pins s σ H Q I read
  refine wpAny_Call_Name_kw (ld_glob I gl at_x (PySem.W.callWith_KW0 (h₀ := X.base) I.ok.mod.kin kept named (thn (vals.run pos pins s σ H _ I read) fun ws s2 y => ?_) nostar) nodebug)
  obtain ⟨zs, H2, J, rel, many, h⟩ := y
  rw [names]
  exact ⟨J.kIn, run_fnN (us := []) (vs := []) F room binds lets J .nil rel rfl many h⟩
end

/-- two keywords, the second parameter's first -/
def sw2 {α : Type} : List α → List α
  | [y, x] => [x, y]
  | _ => []
/-- three keywords, the parameters' from the last on -/
def sw3 {α : Type} : List α → List α
  | [z, y, x] => [x, y, z]
  | _ => []
theorem sw2_rel : ∀ {zs : List V} {ws : List Value}, Vals zs ws → Vals (sw2 zs) (sw2 ws)
  | _, _, .nil => .nil
  | _, _, .cons _ .nil => .nil
  | _, _, .cons a (.cons b .nil) => .cons b (.cons a .nil)
  | _, _, .cons _ (.cons _ (.cons _ _)) => .nil
theorem sw3_rel : ∀ {zs : List V} {ws : List Value}, Vals zs ws → Vals (sw3 zs) (sw3 ws)
  | _, _, .nil => .nil
  | _, _, .cons _ .nil => .nil
  | _, _, .cons _ (.cons _ .nil) => .nil
  | _, _, .cons a (.cons b (.cons c .nil)) => .cons c (.cons b (.cons a .nil))
  | _, _, .cons _ (.cons _ (.cons _ (.cons _ _))) => .nil

section
variable {X : Cx} {a b c : Expr} {ta : TA}
def rg3 (a c : Int) (n : Nat) : List V := (List.range n).map fun i => V.int (a + (i : Nat) * c)
theorem rg3_length (a c : Int) (n : Nat) : (rg3 a c n).length = n := by
  simp [rg3]
def R3 (a b c : Int) (n : Nat) : Prop :=
  c ≠ 0 ∧ c.natAbs.log2 < 9000 ∧ Builtin.Range.small a b c = true ∧ Builtin.Range.rangeSize a b c = n ∧ n ≤ 2 ^ 24
def tLst3 (ta : TA) : TE := fun σ H Q => ta σ H fun vs H1 => ∃ (a b c : Int) (n : Nat), vs = [.int a, .int b, .int c] ∧ R3 a b c n ∧
  ∀ q, H1 q = none → Q (.ref q) (upd H1 q (.lst (rg3 a c n)))
theorem pe_lst3 {p p2 pos pos2 : Pos} (calm : X.calm = true) (gl : Gl X "list") (nl : X.mg "list" = none) (gr : Gl X "range") (nr : X.mg "range" = none) (args : PA X [a, b, c] ta)
    (one : starEach [a, b, c] X.env = (false, eval a X.env) :: starEach [b, c] X.env := by rfl) (nostar : (backTo pos2 (starEach [b, c] X.env)).any (·.1) = false := by rfl)
    (whole : starEach [.Call (.Name "range" p2) [a, b, c] [] pos2] X.env = (false, eval (.Call (.Name "range" p2) [a, b, c] [] pos2) X.env) :: starEach [] X.env := by rfl) :
    PE X (.Call (.Name "list" p) [.Call (.Name "range" p2) [a, b, c] [] pos2] [] pos) (tLst3 ta) := by
  constructor
  intro pins s σ H Q I read
  refine Call_ (ld_blt I gl nl boot_list (PyProof.Rows.callWith_type1 (args_cons (Call_ (ld_blt I gr nr boot_range (PyProof.Rows.callWith_type1 (thn (args.run pos2 pins s σ H _ I read) fun us s1 y => ?_) one nostar))) whole) whole))
  obtain ⟨zs, H1, J, rel, i, j, k, n, e, ⟨c0, c1, c2, c3, c4⟩, h⟩ := y
  subst e
  match us, rel with
  | [_, _, _], .cons ⟨t, ei⟩ (.cons ⟨u, ej⟩ (.cons ⟨v, ek⟩ .nil)) =>
    subst ei
    subst ej
    subst ek
    refine call_range_3 c0 (args_nil ?_) (.inl (PyProof.noPylong_of_log2 c1))
    obtain ⟨hx, ehx⟩ : ∃ hx, hx = s1.heap.push { cls := .type "range", data := .fields #[.int i t, .int j u, .int k v] } := ⟨_, rfl⟩
    have J2 : Inv X pins σ H1 { s1 with heap := hx } := by
      rw [ehx]
      exact J.kept (t' := s1.toks) fun _ _ z => Heap.get?_push_of_some _ z
    rw [← ehx]
    refine call_list_range (s := { s1 with heap := hx }) (n := n) (J2.ok.hd calm) (by rw [ehx]; exact IsRange.new ..) c2 c3 c4 fun h' tk acc cc kp made items => ?_
    have len : acc.toList.length = n := Array.length_toList.trans items.1
    have vals : Vals (rg3 i k n) acc.toList := by
      have z := vals_of_get acc.toList (fun m : Nat => V.int (i + m * k)) fun m w hw => by
        obtain ⟨tw, ew⟩ := items.2 m w (by rw [← hw, Array.getElem?_toList])
        exact ⟨tw, ew⟩
      rw [len] at z
      exact z
    refine ⟨.ref hx.objs.size, upd H1 hx.objs.size (.lst (rg3 i k n)), J2.laid kp (Nat.le_refl _) (show ObjOk X.prog X.w _ _ _ (.lst (rg3 i k n)) from ⟨?_, acc.toList, cc, vals, ?_⟩), rfl, h _ (J2.hok.fresh (Nat.le_refl _))⟩
    · rw [rg3_length, sizeLine_eq]
      omega
    · rw [Array.toArray_toList]
      exact made
end

/-! ### lists of ints, compared -/
theorem dp_ints {K : PySem.W.Frag} {H : Hp} : ∀ ns : List Int, DpAll K H (ns.map V.int) (ns.map PyData.int)
  | [] => .nil
  | n :: r => .cons (.int n) (dp_ints r)
theorem lay_ints : ∀ ns : List Int, PyData.canLayAll0 (ns.map PyData.int) = true
  | [] => rfl
  | n :: r => by
    show (true && PyData.canLayAll0 (r.map PyData.int)) = true
    rw [lay_ints r]
    rfl
theorem depth_ints : ∀ ns : List Int, PyData.depthAll (ns.map PyData.int) = 0
  | [] => rfl
  | n :: r => by
    show max 0 (PyData.depthAll (r.map PyData.int)) = 0
    rw [depth_ints r]
    rfl
theorem shaped_ints (ns : List Int) : SeqAt.shaped (.list (ns.map PyData.int)) = true := by
  unfold SeqAt.shaped
  have h1 : PyData.canLay0 (.list (ns.map PyData.int)) = true := lay_ints ns
  have h2 : PyData.depth (.list (ns.map PyData.int)) = 1 := by
    show PyData.depthAll (ns.map PyData.int) + 1 = 1
    rw [depth_ints]
  rw [h1, h2]
  rfl
theorem eqv_ints : ∀ ns : List Int, PyData.eqvAll (ns.map PyData.int) (ns.map PyData.int) = true
  | [] => rfl
  | n :: r => by
    show ((n == n) && PyData.eqvAll (r.map PyData.int) (r.map PyData.int)) = true
    rw [eqv_ints r, beq_self_eq_true]
    rfl
theorem dp_lst {K : PySem.W.Frag} {H : Hp} {a : Addr} {ns : List Int} (h : SqL K H a (ns.map V.int)) : Dp K H (.ref a) (.list (ns.map PyData.int)) := .lst h (dp_ints ns)
end Tg

namespace Tg
open PySem PySem.Spec PyProof.Rows L2
/-! ### the text -/
def topS (i : Nat) : Stmt := PySem.Challenge.pw_timegranary_k01_cells.main.body.getD i (.Pass ⟨0, 0, 0, 0⟩)
abbrev sCellOf : Stmt := topS 1
abbrev sCells : Stmt := topS 2
abbrev sDraws : Stmt := topS 4
abbrev sNext : Stmt := topS 5
abbrev sTime : Stmt := topS 6
abbrev sLCells : Stmt := topS 7
abbrev sRight : Stmt := topS 8
abbrev sLaw : Stmt := topS 9
theorem scDraws : FnScope ["_law_cell", "_law_cut", "_law_k"] ["_law_cell"] (defScope sDraws) := ⟨rfl, rfl, rfl, by decide +kernel, rfl, by decide +kernel, by decide +kernel⟩
theorem scNext : FnScope ["_law_draws_here", "_law_k", "_law_number"] ["_law_draws_here"] (defScope sNext) := ⟨rfl, rfl, rfl, by decide +kernel, rfl, by decide +kernel, by decide +kernel⟩
section
variable {P : Program} {w : World} {K : PySem.W.Frag} {mg : Str → Option Value} {base : Heap}
/-! ### _law_draws -/
/-- the draws at p, of which at most n were taken -/
def Dr (H : Hp) (p : Addr) (n : Nat) : Prop := ∃ (a k : Int) (b : Bool), H p = some (.lst [.int a, .int k, .bl b]) ∧ 0 ≤ k ∧ k ≤ n
/-- all but p stands as it stood -/
def Kp (p : Addr) (H H' : Hp) : Prop := ∀ b o, b ≠ p → H b = some o → H' b = some o
theorem Kp.refl (p : Addr) (H : Hp) : Kp p H H := fun _ _ _ h => h
theorem Kp.trans {p : Addr} {H H1 H2 : Hp} (a : Kp p H H1) (b : Kp p H1 H2) : Kp p H H2 := fun c o hc h => b c o hc (a c o hc h)
theorem Kp.of {p : Addr} {H H' : Hp} (s : Same H H') : Kp p H H' := fun c o _ h => s c o h
theorem Kp.put {p : Addr} {H : Hp} {o : HO} : Kp p H (upd H p o) := fun c u hc h => by
  rw [upd_ne hc]
  exact h
theorem Dr.same {H H' : Hp} {p : Addr} {n : Nat} (s : Same H H') (d : Dr H p n) : Dr H' p n := by
  obtain ⟨a, k, b, h, r⟩ := d
  exact ⟨a, k, b, s _ _ h, r⟩
theorem Dr.ne {H : Hp} {p l : Addr} {n : Nat} (d : Dr H p n) (h : H l = none) : l ≠ p := fun z => by
  obtain ⟨_, _, _, z2, _⟩ := d
  rw [z, z2] at h
  cases h
theorem same_new {H : Hp} {p : Addr} {o : HO} (h : H p = none) : Same H (upd H p o) := fun b x e => by
  rw [upd_ne (ne_of_none e h)]
  exact e
def spDraws : Sp := fun vs H Q _ => ∃ c : Int, vs = [.int c] ∧ ∀ (p : Addr) (a : Int) (b : Bool), H p = none → Q (.ref p) (upd H p (.lst [.int a, .int 0, .bl b]))
theorem ok_draws {f : Addr} {fd : FuncData} {k : Nat} (F : Fun K "_law_draws" "_law_draws" sDraws f fd) (mr : mg "range" = none) : FnOk P w K mg base CX0 (k + 1) f fd ["_law_cell"] spDraws := by
  refine F.ok scDraws (fun vs H Q E h => ?_) (fun cdv A outer s H vs Q E hr h => ?_)
  · obtain ⟨c, rfl, _⟩ := h
    rfl
  · obtain ⟨c, rfl, q⟩ := h
    refine ⟨_, pss_cons (ps_set (i := 1) scDraws.nd rfl (.inl rfl) (pe_op op_pow pe_int pe_int))
      (pss_cons (ps_for PassesOwn.never rfl (pi_range1 (by rfl) mr (pa_cons pe_int pa_nil)) (pg_name (i := 2) scDraws.nd rfl (.inl rfl))
        (pss_one (ps_set (i := 1) scDraws.nd rfl (.inl rfl) (pe_op op_mulW (pv 1) (pv 1)))))
      (pss_one (ps_ret (pe_lst (pa_cons (pe_op op_mod (pv 0) (pv 1)) (pa_cons pe_int (pa_cons (pe_cmpR op_ge (pv 0) (pe_op op_pow pe_int pe_int) (nomark _)) pa_nil))))))), ?_⟩
    refine ⟨10, 60, rfl, rfl, ⟨by decide, by decide, by decide⟩, ?_⟩
    refine ⟨7, rfl, by decide, by decide, for_range (n := 7) (fun i σ H2 => ∃ (x : Int) (y : Option V), σ = [some (.int c), some (.int x), y] ∧ H2 = H ∧ 0 < x ∧ x.natAbs < 2 ^ (200 * 2 ^ i)) ?_ ?_ ?_⟩
    · exact ⟨_, none, rfl, rfl, by decide, by decide⟩
    · rintro i σ H2 hi ⟨x, y, rfl, rfl, hx, hb⟩
      refine ⟨_, rfl, _, rfl, x, x, rfl, rfl, ?_, x * x, _, rfl, rfl, Int.mul_pos hx hx, ?_⟩
      · have h7 : 2 ^ i ≤ 2 ^ 6 := Nat.pow_le_pow_right (by decide) (by omega)
        have h0 : 0 < 2 ^ i := Nat.pow_pos (by decide)
        exact wide_mul hb hb (by omega) (by omega) (by omega)
      · have e := wide_lt hb hb
        rw [show 200 * 2 ^ (i + 1) = 200 * 2 ^ i + 200 * 2 ^ i by rw [Nat.pow_succ]; omega]
        exact e
    · rintro σ H2 ⟨x, y, rfl, rfl, hx, _⟩
      refine ⟨_, rfl, _, rfl, c, x, rfl, rfl, hx, _, rfl, 10, 18, rfl, rfl, ⟨by decide, by decide, by decide⟩, c, _, rfl, rfl, ?_, fun p hp => ?_⟩
      · show 3 ≤ sizeLine
        decide
      · exact q p _ _ hp
/-! ### _law_next -/
def spNext : Sp := fun vs H Q _ => ∃ (p : Addr) (n : Nat), vs = [.ref p] ∧ Dr H p n ∧ n < 1000000 ∧
  ∀ (v : Int) (H' : Hp), Kp p H H' → Dr H' p (n + 1) → 0 ≤ v → v < 1000000000 → Q (.int v) H'
theorem ok_next {f : Addr} {fd : FuncData} {k : Nat} (F : Fun K "_law_next" "_law_next" sNext f fd) : FnOk P w K mg base CX0 (k + 1) f fd ["_law_draws_here"] spNext := by
  refine F.ok scNext (fun vs H Q E h => ?_) (fun cdv A outer s H vs Q E hr h => ?_)
  · obtain ⟨p, n, rfl, _⟩ := h
    rfl
  · obtain ⟨p, n, rfl, ⟨a, k, b, hp, k0, kn⟩, hn, q⟩ := h
    refine ⟨_, pss_cons (ps_asg (pe_op op_add (pe_ix ix_list (pv 0) pe_int (fun _ _ => rfl)) pe_int) (pg_sub (pv 0) pe_int set_list))
      (pss_cons (ps_set (i := 1) scNext.nd rfl (.inl rfl) (pe_ix ix_list (pv 0) pe_int (fun _ _ => rfl)))
      (pss_cons (ps_if (pt_val (pe_ix ix_list (pv 0) pe_int (fun _ _ => rfl)))
        (pss_cons (ps_set (i := 2) scNext.nd rfl (.inl rfl) (pe_op op_mod (pe_ix ix_list (pv 0) pe_int (fun _ _ => rfl)) (pe_op op_pow pe_int pe_int)))
        (pss_cons (ps_asg (pe_op op_fdiv (pe_ix ix_list (pv 0) pe_int (fun _ _ => rfl)) (pe_op op_pow pe_int pe_int)) (pg_sub (pv 0) pe_int set_list))
        (pss_one (ps_ret (pv 2))))) pss_nil)
      (pss_cons (ps_set (i := 2) scNext.nd rfl (.inl rfl) (pe_op op_mod (pe_op op_mul (pe_op op_add (pe_op op_add (pe_op op_mod (pe_ix ix_list (pv 0) pe_int (fun _ _ => rfl)) pe_int) (pe_op op_mul (pe_op op_mul (pv 1) (pv 1)) pe_int)) (pv 1)) pe_int) pe_int))
      (pss_cons (ps_set (i := 2) scNext.nd rfl (.inl rfl) (pe_op op_mod (pe_op op_mul (pv 2) (pv 2)) pe_int))
      (pss_one (ps_ret (pe_op op_fdiv (pe_op op_mod (pe_op op_mul (pv 2) (pe_op op_add (pv 2) pe_int)) pe_int) pe_int))))))), ?_⟩
    have h1 : (upd H p (.lst [.int a, .int (k + 1), .bl b])) p = some (.lst [.int a, .int (k + 1), .bl b]) := upd_same
    refine ⟨_, rfl, p, _, 1, .int k, rfl, rfl, SqL.of hp, rfl, k, 1, rfl, rfl, _, rfl, p, _, 1, 1, rfl, rfl, hp, rfl, ?_⟩
    refine ⟨_, rfl, p, _, 1, .int (k + 1), rfl, rfl, SqL.of h1, rfl, ?_⟩
    refine ⟨_, rfl, p, _, 2, .bl b, rfl, rfl, SqL.of h1, rfl, b, rfl, ?_⟩
    cases b with
    | true =>
      refine ⟨_, rfl, p, _, 0, .int a, rfl, rfl, SqL.of h1, rfl, 10, 6, rfl, rfl, ⟨by decide, by decide, by decide⟩, a, 1000000, rfl, rfl, (by show (0 : Int) < 1000000; decide), ?_⟩
      refine ⟨_, rfl, p, _, 0, .int a, rfl, rfl, SqL.of h1, rfl, 10, 6, rfl, rfl, ⟨by decide, by decide, by decide⟩, a, 1000000, rfl, rfl, ⟨by decide, by decide⟩, _, rfl, p, _, 0, 0, rfl, rfl, h1, rfl, ?_⟩
      refine ⟨_, rfl, ?_⟩
      rw [upd_upd]
      exact q _ _ Kp.put ⟨_, _, _, upd_same, by omega, by omega⟩ (Int.emod_nonneg _ (by decide)) (Int.lt_of_lt_of_le (Int.emod_lt_of_pos _ (by decide)) (by decide))
    | false =>
      refine ⟨_, rfl, p, _, 0, .int a, rfl, rfl, SqL.of h1, rfl, a, 1000003, rfl, rfl, (by show (0 : Int) < 1000003; decide), _, rfl, _, rfl, k + 1, k + 1, rfl, rfl, .inl ⟨by omega, by omega⟩, _, 7919, rfl, rfl, .inr ⟨by decide, by decide⟩,
        _, _, rfl, rfl, _, rfl, _, k + 1, rfl, rfl, _, 48271, rfl, rfl, .inr ⟨by decide, by decide⟩, _, 2147483629, rfl, rfl, (by show (0 : Int) < 2147483629; decide), ?_⟩
      obtain ⟨x, ex⟩ : ∃ x : Int, (a % 1000003 + (k + 1) * (k + 1) * 7919 + (k + 1)) * 48271 % 2147483629 = x := ⟨_, rfl⟩
      have x0 : 0 ≤ x := by
        rw [← ex]
        exact Int.emod_nonneg _ (by decide)
      have x1 : x < 2147483629 := by
        rw [← ex]
        exact Int.emod_lt_of_pos _ (by decide)
      refine ⟨_, rfl, _, rfl, x, x, congrArg V.int ex, congrArg V.int ex, .inl ⟨by omega, by omega⟩, _, 2147483587, rfl, rfl, (by show (0 : Int) < 2147483587; decide), ?_⟩
      obtain ⟨y, ey⟩ : ∃ y : Int, x * x % 2147483587 = y := ⟨_, rfl⟩
      have y0 : 0 ≤ y := by
        rw [← ey]
        exact Int.emod_nonneg _ (by decide)
      have y1 : y < 2147483587 := by
        rw [← ey]
        exact Int.emod_lt_of_pos _ (by decide)
      refine ⟨_, rfl, _, rfl, y, 2, congrArg V.int ey, rfl, y, _, congrArg V.int ey, rfl, .inl ⟨by omega, by omega⟩, _, 2147483579, rfl, rfl, (by show (0 : Int) < 2147483579; decide), _, 7, rfl, rfl, ⟨by decide, by decide⟩, ?_⟩
      have z0 : 0 ≤ y * (y + 2) % 2147483579 := Int.emod_nonneg _ (by decide)
      have z1 : y * (y + 2) % 2147483579 < 2147483579 := Int.emod_lt_of_pos _ (by decide)
      exact q _ _ Kp.put ⟨_, _, _, upd_same, by omega, by omega⟩ (by omega) (by omega)
end
end Tg

namespace Tg
open PySem PySem.Spec PyProof.Rows L2
theorem scCellOf : FnScope ["time", "width"] ["time", "width"] (defScope sCellOf) := ⟨rfl, rfl, rfl, by decide +kernel, rfl, by decide +kernel, by decide +kernel⟩
theorem scCells : FnScope ["start", "end", "width", "first"] ["start", "end", "width"] (defScope sCells) := ⟨rfl, rfl, rfl, by decide +kernel, rfl, by decide +kernel, by decide +kernel⟩
theorem scTime : FnScope ["_law_draws_here", "_law_pick"] ["_law_draws_here"] (defScope sTime) := ⟨rfl, rfl, rfl, by decide +kernel, rfl, by decide +kernel, by decide +kernel⟩
theorem scLCells : FnScope ["_law_a_start", "_law_a_end", "_law_a_width", "_law_told", "_law_at"] ["_law_a_start", "_law_a_end", "_law_a_width"] (defScope sLCells) := ⟨rfl, rfl, rfl, by decide +kernel, rfl, by decide +kernel, by decide +kernel⟩
/-! ### the mathematics -/
/-- the first start of a cell that isn't below s -/
def fst (s w : Int) : Int := s + w - 1 - (s + w - 1) % w
def cl (x w : Int) (n : Nat) : List Int := (List.range n).map fun i => x + (i : Nat) * w
theorem cl_length (x w : Int) (n : Nat) : (cl x w n).length = n := by
  simp [cl]
theorem rg3_cl (x w : Int) (n : Nat) : rg3 x w n = (cl x w n).map V.int := by
  unfold rg3 cl
  rw [List.map_map]
  rfl
theorem cl_succ (x w : Int) (n : Nat) : cl x w (n + 1) = cl x w n ++ [x + (n : Nat) * w] := by
  unfold cl
  rw [List.range_succ, List.map_append]
  rfl
/-- j starts of cells from x on end at e or ahead of it, one more doesn't -/
def Fits (x e w : Int) (j : Nat) : Prop := (j = 0 ∨ x + j * w ≤ e) ∧ e < x + j * w + w
theorem size_is {x e w : Int} {j : Nat} (hw : 0 < w) (h : Fits x e w j) : Builtin.Range.rangeSize x (e - w + 1) w = j := by
  obtain ⟨h1, h2⟩ := h
  unfold Builtin.Range.rangeSize
  rw [if_pos hw]
  cases j with
  | zero =>
    rw [if_neg (by
      have e0 : ((0 : Nat) : Int) * w = 0 := Int.zero_mul w
      omega)]
    rfl
  | succ m =>
    have em : ((m + 1 : Nat) : Int) * w = (m : Int) * w + w := by
      rw [Int.natCast_add, Int.add_mul]
      show (m : Int) * w + 1 * w = _
      rw [Int.one_mul]
    have m0 : 0 ≤ (m : Int) * w := Int.mul_nonneg (by omega) (by omega)
    have h1' : x + ((m : Int) * w + w) ≤ e := by
      rcases h1 with z | z
      · omega
      · rw [em] at z
        exact z
    rw [em] at h2
    rw [if_pos (by omega)]
    have d : (e - w + 1 - x - 1) / w = m := by
      refine Int.le_antisymm (Int.lt_add_one_iff.mp (Int.ediv_lt_of_lt_mul hw ?_)) (Int.le_ediv_of_mul_le hw ?_)
      · rw [Int.add_mul, Int.one_mul]
        omega
      · omega
    rw [d]
    omega
theorem fits_le {s x e w : Int} {j : Nat} (hw : 0 < w) (h : Fits x e w j) (hs : s ≤ x) (hb : e - s ≤ 60 * w) : j ≤ 60 := by
  rcases h.1 with z | z
  · omega
  · rcases Nat.lt_or_ge 60 j with g | g
    · exfalso
      have : (61 : Int) * w ≤ (j : Int) * w := Int.mul_le_mul_of_nonneg_right (by omega) (by omega)
      omega
    · exact g
theorem r3_is {x e w : Int} {j : Nat} (hw : 0 < w) (hw2 : w < 2 ^ 50) (hx : -(2 ^ 60) < x ∧ x < 2 ^ 60) (he : -(2 ^ 60) < e ∧ e < 2 ^ 60) (h : Fits x e w j) (hj : j ≤ 60) : R3 x (e - w + 1) w j := by
  have hs := size_is hw h
  refine ⟨by omega, ?_, ?_, hs, by omega⟩
  · have : w.natAbs < 2 ^ 50 := by omega
    exact Nat.lt_of_lt_of_le (PySem.Flt.log2_lt_of (by decide) this) (by decide)
  · unfold Builtin.Range.small
    rw [hs]
    simp only [Builtin.Range.rangeFitsLong, Bool.and_eq_true, Bool.or_eq_true, decide_eq_true_eq, beq_iff_eq, if_pos (show w > 0 from hw)]
    refine ⟨⟨⟨⟨⟨?_, ?_⟩, ?_, ?_⟩, ?_, ?_⟩, ?_, ?_⟩, .inr ⟨?_, ?_⟩⟩ <;> omega
theorem fst_is {s w : Int} (hw : 0 < w) : (s - s % w = fst s w ∧ s % w = 0) ∨ (s - s % w = fst s w - w ∧ s - s % w < s) := by
  have r0 := Int.emod_nonneg s (show w ≠ 0 by omega)
  have r1 := Int.emod_lt_of_pos s hw
  have ed := Int.emod_add_mul_ediv s w
  unfold fst
  rcases Int.lt_or_le 0 (s % w) with z | z
  · right
    have e : s + w - 1 = (s % w - 1) + w * (s / w + 1) := by
      rw [Int.mul_add, Int.mul_one]
      omega
    have e2 : (s + w - 1) % w = s % w - 1 := by
      rw [e, Int.add_mul_emod_self_left]
      exact Int.emod_eq_of_lt (by omega) (by omega)
    rw [e2]
    omega
  · left
    have e : s + w - 1 = (w - 1) + w * (s / w) := by omega
    have e2 : (s + w - 1) % w = w - 1 := by
      rw [e, Int.add_mul_emod_self_left]
      exact Int.emod_eq_of_lt (by omega) (by omega)
    rw [e2]
    omega
theorem fst_ge {s w : Int} (hw : 0 < w) : s ≤ fst s w ∧ fst s w < s + w := by
  have r0 := Int.emod_nonneg (s + w - 1) (show w ≠ 0 by omega)
  have r1 := Int.emod_lt_of_pos (s + w - 1) hw
  unfold fst
  omega
section
variable {P : Program} {w : World} {K : PySem.W.Frag} {mg : Str → Option Value} {base : Heap}
/-! ### cell_of -/
def spCellOf : Sp := fun vs H Q _ => ∃ t w : Int, vs = [.int t, .int w] ∧ 0 < w ∧ Q (.int (t - t % w)) H
theorem ok_cellOf {f : Addr} {fd : FuncData} {k : Nat} (F : Fun K "cell_of" "cell_of" sCellOf f fd) : FnOk P w K mg base CX0 (k + 1) f fd ["time", "width"] spCellOf := by
  refine F.ok scCellOf (fun vs H Q E h => ?_) (fun cdv A outer s H vs Q E hr h => ?_)
  · obtain ⟨t, w, rfl, _⟩ := h
    rfl
  · obtain ⟨t, w, rfl, hw, q⟩ := h
    refine ⟨_, pss_one (ps_ret (pe_op op_sub (pv 0) (pe_op op_mod (pv 0) (pv 1)))), ?_⟩
    exact ⟨_, rfl, _, rfl, _, rfl, t, w, rfl, rfl, hw, t, _, rfl, rfl, q⟩
/-! ### cells -/
def spCells : Sp := fun vs H Q _ => ∃ (s e w : Int) (j : Nat), vs = [.int s, .int e, .int w] ∧ (0 < w ∧ w < 2 ^ 50) ∧ (-(2 ^ 59) < s ∧ s < 2 ^ 59) ∧ (-(2 ^ 60) < e ∧ e < 2 ^ 60) ∧ Fits (fst s w) e w j ∧ j ≤ 60 ∧
  ∀ H' q, Same H H' → H q = none → H' q = some (.lst ((cl (fst s w) w j).map V.int)) → Q (.ref q) H'
theorem ok_cells {f g : Addr} {fd gd : FuncData} {k : Nat} (F : Fun K "cells" "cells" sCells f fd) (G : Fun K "cell_of" "cell_of" sCellOf g gd) (b : Binds K gd ["time", "width"] []) (mG : mg "cell_of" = some (.ref g))
    (ml : mg "list" = none) (mr : mg "range" = none) : FnOk P w K mg base CX0 (k + 2) f fd ["start", "end", "width"] spCells := by
  have GO : FnOk P w K mg base CX0 (k + 1) g gd ["time", "width"] spCellOf := ok_cellOf G
  refine F.ok scCells (fun vs H Q E h => ?_) (fun cdv A outer s H vs Q E hr h => ?_)
  · obtain ⟨s, e, w, j, rfl, _⟩ := h
    rfl
  · obtain ⟨s, e, w, j, rfl, ⟨hw, hw2⟩, hs, he, hf, hj, q⟩ := h
    refine ⟨_, pss_cons (ps_set (i := 3) scCells.nd rfl (.inl rfl) (pe_call GO hr (by rfl) mG G.kp b .nil pass0 (pa_cons (pe_op op_sub (pe_op op_add (pv 0) (pv 2)) pe_int) (pa_cons (pv 2) pa_nil))))
      (pss_one (ps_ret (pe_lst3 rfl (by rfl) ml (by rfl) mr (pa_cons (pv 3) (pa_cons (pe_op op_add (pe_op op_sub (pv 1) (pv 2)) pe_int) (pa_cons (pv 2) pa_nil)))))), ?_⟩
    refine ⟨_, rfl, _, rfl, s, w, rfl, rfl, _, 1, rfl, rfl, _, rfl, s + w - 1, w, rfl, hw, ?_⟩
    refine ⟨_, rfl, _, rfl, _, rfl, e, w, rfl, rfl, _, 1, rfl, rfl, _, rfl, fst s w, e - w + 1, w, j, rfl, ?_, fun p np => ?_⟩
    · have := fst_ge (s := s) hw
      exact r3_is hw hw2 ⟨by omega, by omega⟩ he hf hj
    · rw [rg3_cl]
      exact q _ p (same_new np) np upd_same
/-! ### _law_cells -/
def spLCells : Sp := fun vs H Q _ => ∃ (s e w : Int), vs = [.int s, .int e, .int w] ∧ 0 < w ∧ e - s ≤ 60 * w ∧
  ∀ (H' : Hp) (q : Addr) (j : Nat), Same H H' → H q = none → H' q = some (.lst ((cl (fst s w) w j).map V.int)) → Fits (fst s w) e w j → j ≤ 60 → Q (.ref q) H'
def mu (e : Int) (σ : List (Option V)) : Nat := match σ[4]? with
  | some (some (V.int x)) => (e - x).toNat
  | _ => 0
theorem ok_lcells {f : Addr} {fd : FuncData} {k : Nat} (F : Fun K "_law_cells" "_law_cells" sLCells f fd) : FnOk P w K mg base CX0 (k + 1) f fd ["_law_a_start", "_law_a_end", "_law_a_width"] spLCells := by
  refine F.ok scLCells (fun vs H Q E h => ?_) (fun cdv A outer s H vs Q E hr h => ?_)
  · obtain ⟨s, e, w, rfl, _⟩ := h
    rfl
  · obtain ⟨s, e, w, rfl, hw, hb, q⟩ := h
    have hg := fst_ge (s := s) hw
    refine ⟨_, pss_cons (ps_set (i := 3) scLCells.nd rfl (.inl rfl) (pe_lst pa_nil))
      (pss_cons (ps_set (i := 4) scLCells.nd rfl (.inl rfl) (pe_op op_sub (pv 0) (pe_op op_mod (pv 0) (pv 2))))
      (pss_cons (ps_while PassesOwn.never (pt_cmpR op_le (pe_op op_add (pv 4) (pv 2)) (pv 1) (nomark _))
        (pss_cons (ps_if (pt_cmpR op_ge (pv 4) (pv 0) (nomark _)) (pss_one (ps_expr (pe_bm PySem.F.plainAttrs_list PySem.F.slot_list_append PySem.F.type_list_append mt_append (pv 3) (pa_cons (pv 4) pa_nil)))) pss_nil)
        (pss_one (ps_set (i := 4) scLCells.nd rfl (.inl rfl) (pe_op op_add (pv 4) (pv 2))))))
      (pss_one (ps_ret (pv 3))))), ?_⟩
    refine ⟨Nat.zero_le _, fun t nt => ?_⟩
    refine ⟨_, rfl, _, rfl, _, rfl, s, w, rfl, rfl, hw, s, _, rfl, rfl, ?_⟩
    refine while_by (fun σ H2 => ∃ (at_ : Int) (j : Nat), σ = [some (.int s), some (.int e), some (.int w), some (.ref t), some (.int at_)] ∧ Same H H2 ∧ H2 t = some (.lst ((cl (fst s w) w j).map V.int)) ∧
      (j = 0 ∨ fst s w + j * w ≤ e) ∧ (at_ = fst s w + j * w ∨ (j = 0 ∧ at_ = fst s w - w ∧ at_ < s))) (fun σ _ => mu e σ) ?_ ?_ ?_
    · refine ⟨s - s % w, 0, rfl, same_new nt, ?_, .inl rfl, ?_⟩
      · rw [upd_same]
        rfl
      · rcases fst_is (s := s) hw with ⟨z, _⟩ | ⟨z, z2⟩
        · left
          rw [z]
          show fst s w = fst s w + 0 * w
          rw [Int.zero_mul, Int.add_zero]
        · exact .inr ⟨rfl, z, z2⟩
    · rintro σ H2 ⟨x, j, rfl, sm, ht, h1, h2⟩
      have j60 : x + w ≤ e → x = fst s w + j * w → j < 60 := fun z1 z2 => by
        rcases Nat.lt_or_ge j 60 with g | g
        · exact g
        · exfalso
          have : (60 : Int) * w ≤ (j : Int) * w := Int.mul_le_mul_of_nonneg_right (by omega) (by omega)
          omega
      refine ⟨_, rfl, _, rfl, x, w, rfl, rfl, _, rfl, _, e, rfl, rfl, _, rfl, ite2 (fun g => ?_) (fun g => ?_)⟩
      · have g1 : x + w ≤ e := of_decide_eq_true g
        refine ⟨_, rfl, _, rfl, x, s, rfl, rfl, _, rfl, ite2 (fun y => ?_) (fun y => ?_)⟩
        · have y1 : s ≤ x := of_decide_eq_true y
          have ex : x = fst s w + j * w := by
            rcases h2 with z | z
            · exact z
            · omega
          have jl := j60 g1 ex
          refine ⟨_, rfl, .inl ⟨rfl, _, SqL.of ht⟩, _, rfl, t, _, _, rfl, rfl, ht, ?_, ?_⟩
          · rw [List.length_map, cl_length]
            exact small1000 (by omega)
          · have ej : fst s w + ((j + 1 : Nat) : Int) * w = x + w := by
              rw [Int.natCast_add, Int.add_mul, ex]
              show fst s w + ((j : Int) * w + 1 * w) = _
              rw [Int.one_mul]
              omega
            refine ⟨_, rfl, _, rfl, x, w, rfl, rfl, ⟨x + w, j + 1, rfl, fun b o z => ?_, ?_, .inr ?_, .inl ?_⟩, ?_⟩
            · rw [upd_ne (ne_of_none z nt)]
              exact sm b o z
            · rw [upd_same, cl_succ, List.map_append, ex]
              rfl
            · omega
            · omega
            · show (e - (x + w)).toNat < (e - x).toNat
              omega
        · have y1 : ¬ s ≤ x := fun z => y (decide_eq_true z)
          have e2 : j = 0 ∧ x = fst s w - w ∧ x < s := by
            rcases h2 with z | z
            · exfalso
              have : 0 ≤ (j : Int) * w := Int.mul_nonneg (by omega) (by omega)
              omega
            · exact z
          refine ⟨_, rfl, _, rfl, x, w, rfl, rfl, ⟨x + w, j, rfl, sm, ht, h1, .inl ?_⟩, ?_⟩
          · rw [e2.1]
            show x + w = fst s w + 0 * w
            rw [Int.zero_mul]
            omega
          · show (e - (x + w)).toNat < (e - x).toNat
            omega
      · have g1 : ¬ x + w ≤ e := fun z => g (decide_eq_true z)
        have hf : Fits (fst s w) e w j := by
          refine ⟨h1, ?_⟩
          rcases h2 with z | ⟨z, z2, _⟩
          · omega
          · rw [z]
            show e < fst s w + 0 * w + w
            rw [Int.zero_mul]
            omega
        exact ⟨_, rfl, q H2 t j sm nt ht hf (fits_le hw hf hg.1 hb)⟩
    · rintro σ H2 Q1 Q2 hq ⟨v4, e4, v2, e2, i1, j1, r1, r2, v1, e1, i2, j2, r3, r4, k1, ek, qk⟩
      exact ⟨v4, e4, v2, e2, i1, j1, r1, r2, v1, e1, i2, j2, r3, r4, k1, ek, hq _ _ qk⟩
/-! ### _law_time -/
theorem atI_mem {xs : List Int} {i : Int} (h0 : 0 ≤ i) (h1 : i < xs.length) : ∃ v, v ∈ xs ∧ atI (xs.map V.int) i = some (.int v) := by
  have hn : i.toNat < xs.length := by omega
  obtain ⟨j, rfl⟩ : ∃ j : Nat, i = (j : Int) := ⟨i.toNat, by omega⟩
  have hj : j < xs.length := by omega
  refine ⟨xs[j], List.getElem_mem hj, atI_nat ?_⟩
  rw [List.getElem?_map, List.getElem?_eq_getElem hj]
  rfl
def spTime : Sp := fun vs H Q _ => ∃ (p : Addr) (n : Nat), vs = [.ref p] ∧ Dr H p n ∧ n < 1000000 ∧
  ∀ (v : Int) (H' : Hp), Kp p H H' → Dr H' p (n + 1) → -(2 ^ 50) < v → v < 2 ^ 50 → Q (.int v) H'
theorem ok_time {f g : Addr} {fd gd : FuncData} {k : Nat} (F : Fun K "_law_time" "_law_time" sTime f fd) (G : Fun K "_law_next" "_law_next" sNext g gd) (b : Binds K gd ["_law_draws_here"] []) (mG : mg "_law_next" = some (.ref g)) :
    FnOk P w K mg base CX0 (k + 2) f fd ["_law_draws_here"] spTime := by
  have GO : FnOk P w K mg base CX0 (k + 1) g gd ["_law_draws_here"] spNext := ok_next G
  refine F.ok scTime (fun vs H Q E h => ?_) (fun cdv A outer s H vs Q E hr h => ?_)
  · obtain ⟨p, n, rfl, _⟩ := h
    rfl
  · obtain ⟨p, n, rfl, hd, hn, q⟩ := h
    refine ⟨_, pss_cons (ps_set (i := 1) scTime.nd rfl (.inl rfl) (pe_call GO hr (by rfl) mG G.kp b .nil pass0 (pa_cons (pv 0) pa_nil)))
      (pss_one (ps_ret (pe_ix ix_list (pe_lst (pa_cons (pe_op op_mod (pe_op op_fdiv (pv 1) pe_int) pe_int) (pa_cons (pe_op op_sub pe_int (pe_op op_mod (pe_op op_fdiv (pv 1) pe_int) pe_int))
        (pa_cons (pe_op op_mul (pe_op op_fdiv (pv 1) pe_int) (pe_op op_pow pe_int pe_int)) (pa_cons (pe_op op_sub (pe_op op_sub pe_int (pe_op op_pow pe_int pe_int)) (pv 1)) pa_nil)))))
        (pe_op op_mod (pv 1) pe_int) (fun _ _ => rfl)))), ?_⟩
    refine ⟨_, rfl, p, n, rfl, hd, hn, fun x H1 k1 d1 x0 x1 => ?_⟩
    refine ⟨_, rfl, x, 4, rfl, rfl, ⟨by decide, by decide⟩, _, 100, rfl, rfl, (by show (0 : Int) < 100; decide),
      _, rfl, x, 4, rfl, rfl, ⟨by decide, by decide⟩, _, 5000, rfl, rfl, (by show (0 : Int) < 5000; decide), 0, _, rfl, rfl,
      _, rfl, x, 4, rfl, rfl, ⟨by decide, by decide⟩, 10, 6, rfl, rfl, ⟨by decide, by decide, by decide⟩, _, _, rfl, rfl, .inr ⟨by decide, by decide⟩,
      10, 14, rfl, rfl, ⟨by decide, by decide, by decide⟩, 0, _, rfl, rfl, _, rfl, _, x, rfl, rfl, (by show 4 ≤ sizeLine; decide), fun l nl => ?_⟩
    have m0 := Int.emod_nonneg x (show (4 : Int) ≠ 0 by decide)
    have m1 := Int.emod_lt_of_pos x (show (0 : Int) < 4 by decide)
    obtain ⟨v, hv, ev⟩ := atI_mem (xs := [x / 4 % 100, 0 - x / 4 % 5000, x / 4 * 10 ^ 6, 0 - 10 ^ 14 - x]) m0 m1
    refine ⟨_, rfl, x, 4, rfl, rfl, (by show (0 : Int) < 4; decide), l, _, x % 4, .int v, rfl, rfl, SqL.of upd_same, ev, ?_⟩
    refine q v _ (k1.trans (.of (same_new nl))) (d1.same (same_new nl)) ?_ ?_
    · simp only [List.mem_cons, List.not_mem_nil, or_false] at hv
      rcases hv with rfl | rfl | rfl | rfl <;> omega
    · simp only [List.mem_cons, List.not_mem_nil, or_false] at hv
      rcases hv with rfl | rfl | rfl | rfl <;> omega
end
end Tg

namespace Tg
open PySem PySem.Spec PyProof.Rows L2
theorem scRight : FnScope ["_law_draws_here", "_law_a_time", "_law_pick", "_law_a_width", "_law_told", "_law_due", "_law_ends", "_law_a_end", "_law_a_start", "_law_row", "_law_found"] ["_law_draws_here"] (defScope sRight) := ⟨rfl, rfl, rfl, by decide +kernel, rfl, by decide +kernel, by decide +kernel⟩
theorem scLaw : FnScope ["_law_script", "_law_drawn", "_law_draws_here"] ["_law_script"] (defScope sLaw) := ⟨rfl, rfl, rfl, by decide +kernel, rfl, by decide +kernel, by decide +kernel⟩
/-- what the calls in _law_right want of the defs around -/
structure Fns (P : Program) (w : World) (K : PySem.W.Frag) (mg : Str → Option Value) (base : Heap) (k : Nat) : Prop where
  dn : ∃ f fd, FnOk P w K mg base CX0 k f fd ["_law_draws_here"] spNext ∧ mg "_law_next" = some (.ref f) ∧ PySem.W.keepIn K (.ref f) = true ∧ Binds K fd ["_law_draws_here"] []
  dt : ∃ f fd, FnOk P w K mg base CX0 k f fd ["_law_draws_here"] spTime ∧ mg "_law_time" = some (.ref f) ∧ PySem.W.keepIn K (.ref f) = true ∧ Binds K fd ["_law_draws_here"] []
  dl : ∃ f fd, FnOk P w K mg base CX0 k f fd ["_law_a_start", "_law_a_end", "_law_a_width"] spLCells ∧ mg "_law_cells" = some (.ref f) ∧ PySem.W.keepIn K (.ref f) = true ∧ Binds K fd ["_law_a_start", "_law_a_end", "_law_a_width"] []
  dc : ∃ f fd, FnOk P w K mg base CX0 k f fd ["time", "width"] spCellOf ∧ mg "cell_of" = some (.ref f) ∧ PySem.W.keepIn K (.ref f) = true ∧ Binds K fd ["time", "width"] [] ∧ KBn K fd ["time", "width"] 0 ["width", "time"] (fun _ ws => sw2 ws) (fun _ zs => sw2 zs)
  ds : ∃ f fd, FnOk P w K mg base CX0 k f fd ["start", "end", "width"] spCells ∧ mg "cells" = some (.ref f) ∧ PySem.W.keepIn K (.ref f) = true ∧ Binds K fd ["start", "end", "width"] [] ∧ KBn K fd ["start", "end", "width"] 0 ["width", "end", "start"] (fun _ ws => sw3 ws) (fun _ zs => sw3 zs)
  mi : mg "isinstance" = none
  mI : mg "int" = none
  mB : mg "bool" = none
  mL : mg "list" = none
theorem if_f {A B : Prop} (h : B) : if false = true then A else B := by
  rw [if_neg (by decide)]
  exact h
section
variable {P : Program} {w : World} {K : PySem.W.Frag} {mg : Str → Option Value} {base : Heap}
def spRight : Sp := fun vs H Q _ => ∃ (p : Addr), vs = [.ref p] ∧ Dr H p 0 ∧ ∀ H', Kp p H H' → Q (.bl true) H'
theorem ne_ints {ns : List Int} : (!PyData.eqv (.list (ns.map PyData.int)) (.list (ns.map PyData.int))) = false := by
  have e : PyData.eqv (.list (ns.map PyData.int)) (.list (ns.map PyData.int)) = true := eqv_ints ns
  rw [e]
  rfl
theorem ok_right {f : Addr} {fd : FuncData} {k : Nat} (F : Fun K "_law_right" "_law_right" sRight f fd) (T : Fns P w K mg base k) : FnOk P w K mg base CX0 (k + 1) f fd ["_law_draws_here"] spRight := by
  obtain ⟨⟨fN, fdN, FN, gN, kN, bN⟩, ⟨fT, fdT, FT, gT, kT, bT⟩, ⟨fL, fdL, FL, gL, kL, bL⟩, ⟨fC, fdC, FC, gC, kC, bC, zC⟩, ⟨fS, fdS, FS, gS, kS, bS, zS⟩, mi, mI, mB, mL⟩ := T
  refine F.ok scRight (fun vs H Q E h => ?_) (fun cdv A outer s H vs Q E hr h => ?_)
  · obtain ⟨p, rfl, _⟩ := h
    rfl
  · obtain ⟨p, rfl, hd, q⟩ := h
    have hu := hr.units
    refine ⟨_, pss_cons (ps_set (i := 1) scRight.nd rfl (.inl rfl) (pe_call FT hr (by rfl) gT kT bT .nil pass0 (pa_cons (pv 0) pa_nil)))
      (pss_cons (ps_set (i := 2) scRight.nd rfl (.inl rfl) (pe_call FN hr (by rfl) gN kN bN .nil pass0 (pa_cons (pv 0) pa_nil)))
      (pss_cons (ps_set (i := 3) scRight.nd rfl (.inl rfl) (pe_op op_mul (pe_ix ix_list (pe_lst (pa_cons pe_int (pa_cons (pe_op op_add pe_int (pe_op op_mod (pe_op op_fdiv (pv 2) pe_int) pe_int)) (pa_cons pe_int (pa_cons (pe_op op_add pe_int (pe_op op_mod (pe_op op_fdiv (pv 2) pe_int) pe_int)) pa_nil)))))
          (pe_op op_mod (pv 2) pe_int) (fun _ _ => rfl))
          (pe_ix ix_list (pe_lst (pa_cons pe_int (pa_cons pe_int (pa_cons (pe_op op_pow pe_int pe_int) pa_nil)))) (pe_op op_mod (pe_call FN hr (by rfl) gN kN bN .nil pass0 (pa_cons (pv 0) pa_nil)) pe_int) (fun _ _ => rfl))))
      (pss_cons (ps_set (i := 4) scRight.nd rfl (.inl rfl) (pe_lst (pa_cons (pe_call FC hr (by rfl) gC kC bC .nil pass0 (pa_cons (pv 1) (pa_cons (pv 3) pa_nil)))
          (pa_cons (pe_kw0 FC hr (by rfl) gC kC zC pass0 (pk_cons (pv 3) (pk_cons (pv 1) pk_nil))) pa_nil))))
      (pss_cons (ps_set (i := 5) scRight.nd rfl (.inl rfl) (pe_op op_sub (pv 1) (pe_op op_mod (pv 1) (pv 3))))
      (pss_cons (ps_if (PW.pt (pw_or (pt_cmpR (op_neD hu) (pv 4) (pe_lst (pa_cons (pv 5) (pa_cons (pv 5) pa_nil))) (nomark _))
          (pw_or (pt_not (pt_val (pe_callB call_isi (by rfl) mi PyProof.Rows.boot_isinstance (pa_cons (pe_ix ix_list (pv 4) pe_int (fun _ _ => rfl)) (pa_cons (pe_bltn (v := .ty "int") (by rfl) mI PySem.Pv.boot_int rfl) pa_nil)))))
          (pw_or1 (pt_val (pe_callB call_isi (by rfl) mi PyProof.Rows.boot_isinstance (pa_cons (pe_ix ix_list (pv 4) pe_int (fun _ _ => rfl)) (pa_cons (pe_bltn (v := .ty "bool") (by rfl) mB PySem.Pv.boot_bool rfl) pa_nil))))))))
        (pss_one (ps_ret pe_bl)) pss_nil)
      (pss_cons (ps_set (i := 6) scRight.nd rfl (.inl rfl) (pe_lst (pa_cons pe_int (pa_cons pe_int (pa_cons (pv 3) (pa_cons (pe_op op_sub (pe_op op_mul (pv 3) pe_int) pe_int)
          (pa_cons (pe_op op_add (pe_op op_mul (pv 3) (pe_op op_mod (pe_call FN hr (by rfl) gN kN bN .nil pass0 (pa_cons (pv 0) pa_nil)) pe_int)) pe_int) (pa_cons (pe_op op_sub pe_int (pv 3)) pa_nil))))))))
      (pss_cons (ps_set (i := 7) scRight.nd rfl (.inl rfl) (pe_op op_add (pv 1) (pe_ix ix_list (pv 6) (pe_op op_mod (pe_call FN hr (by rfl) gN kN bN .nil pass0 (pa_cons (pv 0) pa_nil)) pe_int) (fun _ _ => rfl))))
      (pss_cons (ps_for PassesOwn.never rfl (pi_list (pe_lst (pa_cons (pv 1) (pa_cons (pv 5) pa_nil)))) (pg_name (i := 8) scRight.nd rfl (.inl rfl))
        (pss_cons (ps_set (i := 9) scRight.nd rfl (.inl rfl) (pe_call FL hr (by rfl) gL kL bL .nil pass0 (pa_cons (pv 8) (pa_cons (pv 7) (pa_cons (pv 3) pa_nil)))))
        (pss_cons (ps_set (i := 10) scRight.nd rfl (.inl rfl) (pe_call FS hr (by rfl) gS kS bS .nil pass0 (pa_cons (pv 8) (pa_cons (pv 7) (pa_cons (pv 3) pa_nil)))))
        (pss_cons (ps_if (PW.pt (pw_or (pt_not (pt_val (pe_callB call_isi (by rfl) mi PyProof.Rows.boot_isinstance (pa_cons (pv 10) (pa_cons (pe_bltn (v := .ty "list") (by rfl) mL boot_list rfl) pa_nil)))))
            (pw_or1 (pt_cmpR (op_neD hu) (pv 10) (pv 9) (nomark _)))))
          (pss_one (ps_ret pe_bl)) pss_nil)
        (pss_cons (ps_expr (pe_bm PySem.F.plainAttrs_list PySem.F.slot_list_append PySem.F.type_list_append mt_append (pv 10) (pa_cons pe_int pa_nil)))
        (pss_one (ps_if (pt_cmpR (op_neD hu) (pe_kw0 FS hr (by rfl) gS kS zS pass0 (pk_cons (pv 3) (pk_cons (pv 7) (pk_cons (pv 8) pk_nil)))) (pv 9) (nomark _))
          (pss_one (ps_ret pe_bl)) pss_nil)))))))
      (pss_one (ps_ret pe_bl)))))))))), ?_⟩
    -- a_time
    refine ⟨_, rfl, p, 0, rfl, hd, by decide, fun t H1 k1 d1 t0 t1 => ?_⟩
    -- pick
    refine ⟨_, rfl, p, 1, rfl, d1, by decide, fun x H2 k2 d2 x0 x1 => ?_⟩
    -- a_width
    refine ⟨_, rfl, x, 4, rfl, rfl, ⟨by decide, by decide⟩, _, 12, rfl, rfl, (by show (0 : Int) < 12; decide), 1, _, rfl, rfl,
      _, rfl, x, 4, rfl, rfl, ⟨by decide, by decide⟩, _, 5000, rfl, rfl, (by show (0 : Int) < 5000; decide), 1, _, rfl, rfl, (by show 4 ≤ sizeLine; decide), fun l1 n1 => ?_⟩
    obtain ⟨v, hv, ev⟩ := atI_mem (xs := [1, 1 + x / 4 % 12, 60, 1 + x / 4 % 5000]) (Int.emod_nonneg x (show (4 : Int) ≠ 0 by decide)) (Int.emod_lt_of_pos x (show (0 : Int) < 4 by decide))
    have v0 : 1 ≤ v ∧ v ≤ 5000 := by
      simp only [List.mem_cons, List.not_mem_nil, or_false] at hv
      rcases hv with rfl | rfl | rfl | rfl <;> omega
    have s3 : Same H2 (upd H2 l1 (.lst [.int 1, .int (1 + x / 4 % 12), .int 60, .int (1 + x / 4 % 5000)])) := same_new n1
    have d3 := d2.same s3
    have k3 := (k1.trans k2).trans (.of (p := p) s3)
    refine ⟨_, rfl, x, 4, rfl, rfl, (by show (0 : Int) < 4; decide), l1, _, x % 4, .int v, rfl, rfl, SqL.of upd_same, ev, ?_⟩
    refine ⟨10, 9, rfl, rfl, ⟨by decide, by decide, by decide⟩, (by show 3 ≤ sizeLine; decide), fun l2 n2 => ?_⟩
    have s4 := same_new (o := .lst [.int 1, .int 1, .int (10 ^ 9)]) n2
    have d4 := d3.same s4
    have k4 := k3.trans (.of (p := p) s4)
    refine ⟨_, rfl, p, 2, rfl, d4, by decide, fun y H5 k5 d5 y0 y1 => ?_⟩
    have m5 : H5 l2 = some (.lst ([1, 1, 10 ^ 9].map V.int)) := k5 l2 _ (d3.ne n2) upd_same
    have k6 := k4.trans k5
    obtain ⟨u, hu1, eu⟩ := atI_mem (xs := [1, 1, 10 ^ 9]) (Int.emod_nonneg y (show (3 : Int) ≠ 0 by decide)) (Int.emod_lt_of_pos y (show (0 : Int) < 3 by decide))
    have u0 : u = 1 ∨ u = 1000000000 := by
      simp only [List.mem_cons, List.not_mem_nil, or_false] at hu1
      rcases hu1 with rfl | rfl | rfl <;> omega
    refine ⟨y, 3, rfl, rfl, (by show (0 : Int) < 3; decide), l2, _, y % 3, .int u, rfl, rfl, SqL.of m5, eu, v, u, rfl, rfl, .inl ⟨by omega, by omega⟩, ?_⟩
    obtain ⟨wd, ew⟩ : ∃ wd : Int, v * u = wd := ⟨_, rfl⟩
    have w0 : 0 < wd ∧ wd ≤ 5000000000000 := by
      rcases u0 with rfl | rfl <;> omega
    have ewV : V.int (v * u) = V.int wd := congrArg V.int ew
    -- told
    refine ⟨_, rfl, _, rfl, t, wd, congrArg (fun z => [V.int t, z]) ewV, w0.1, ?_⟩
    refine ⟨_, rfl, _, rfl, rfl, t, wd, congrArg (fun z => [V.int t, z]) ewV, w0.1, (by show 2 ≤ sizeLine; decide), fun l6 n6 => ?_⟩
    have s6 := same_new (o := .lst ([t - t % wd, t - t % wd].map V.int)) n6
    have m6 : (upd H5 l6 (.lst ([t - t % wd, t - t % wd].map V.int))) l6 = some (.lst ([t - t % wd, t - t % wd].map V.int)) := upd_same
    -- due
    refine ⟨_, rfl, _, rfl, _, rfl, t, wd, rfl, ewV, w0.1, t, _, rfl, rfl, ?_⟩
    -- if told != [due, due] or ..
    refine ⟨_, rfl, _, rfl, _, rfl, (by show 2 ≤ sizeLine; decide), fun l7 n7 => ?_⟩
    have s7 := same_new (o := .lst ([t - t % wd, t - t % wd].map V.int)) n7
    have m7 := s7 _ _ m6
    have d7 := d5.same (s6.trans s7)
    have k7 := k6.trans (.of (p := p) (s6.trans s7))
    refine ⟨.list ([t - t % wd, t - t % wd].map PyData.int), .list ([t - t % wd, t - t % wd].map PyData.int), dp_lst (SqL.of m7), dp_lst (SqL.of upd_same), shaped_ints _, shaped_ints _, false, congrArg V.bl ne_ints, if_f ?_⟩
    refine ⟨_, rfl, l6, _, 0, .int (t - t % wd), rfl, rfl, SqL.of m7, rfl, .int (t - t % wd), .ty "int", .type "int", .type "int", true, rfl, .ty "int", .base (.int _), kit_ty (by decide +kernel), true, rfl, ?_⟩
    refine if_f ?_
    refine ⟨_, rfl, l6, _, 0, .int (t - t % wd), rfl, rfl, SqL.of m7, rfl, .int (t - t % wd), .ty "bool", .type "int", .type "bool", false, rfl, .ty "bool", .base (.int _), kit_ty (by decide +kernel), false, rfl, ?_⟩
    refine if_f ?_
    -- ends
    refine ⟨_, rfl, _, rfl, wd, 2, ewV, rfl, .inr ⟨by decide, by decide⟩, _, 1, rfl, rfl, _, rfl, _, rfl, p, 3, rfl, d7, by decide, fun y8 H8 k8 d8 y80 y81 => ?_⟩
    refine ⟨y8, 50, rfl, rfl, (by show (0 : Int) < 50; decide), wd, _, ewV, rfl, .inl ⟨by omega, by omega⟩, _, 3, rfl, rfl, _, rfl, 0, wd, rfl, ewV, (by show 6 ≤ sizeLine; decide), fun l9 n9 => ?_⟩
    have s9 := same_new (o := .lst [.int 0, .int 1, .int (v * u), .int (wd * 2 - 1), .int (wd * (y8 % 50) + 3), .int (0 - wd)]) n9
    have d9 := d8.same s9
    have k9 := (k7.trans k8).trans (.of (p := p) s9)
    -- a_end
    refine ⟨_, rfl, _, rfl, _, rfl, p, 4, rfl, d9, by decide, fun ya Ha ka da ya0 ya1 => ?_⟩
    have ma : Ha l9 = some (.lst ([0, 1, v * u, wd * 2 - 1, wd * (y8 % 50) + 3, 0 - wd].map V.int)) := ka l9 _ (d8.ne n9) upd_same
    rw [ew] at ma
    have kA := k9.trans ka
    obtain ⟨ed, hed, eed⟩ := atI_mem (xs := [0, 1, wd, wd * 2 - 1, wd * (y8 % 50) + 3, 0 - wd]) (Int.emod_nonneg ya (show (6 : Int) ≠ 0 by decide)) (Int.emod_lt_of_pos ya (show (0 : Int) < 6 by decide))
    have y5 := Int.emod_nonneg y8 (show (50 : Int) ≠ 0 by decide)
    have y6 := Int.emod_lt_of_pos y8 (show (0 : Int) < 50 by decide)
    have bm : wd * (y8 % 50) ≤ wd * 49 := Int.mul_le_mul_of_nonneg_left (by omega) (by omega)
    have bm0 : 0 ≤ wd * (y8 % 50) := Int.mul_nonneg (by omega) y5
    have be : ed ≤ 52 * wd ∧ -wd ≤ ed := by
      simp only [List.mem_cons, List.not_mem_nil, or_false] at hed
      rcases hed with rfl | rfl | rfl | rfl | rfl | rfl <;> omega
    refine ⟨ya, 6, rfl, rfl, (by show (0 : Int) < 6; decide), l9, _, ya % 6, .int ed, rfl, rfl, SqL.of ma, eed, t, ed, rfl, rfl, ?_⟩
    -- the loop
    refine ⟨_, rfl, _, rfl, (by show 2 ≤ sizeLine; decide), fun lb nb => ?_⟩
    have sb := same_new (o := .lst [.int t, .int (t - t % wd)]) nb
    have kb := kA.trans (.of (p := p) sb)
    obtain ⟨Hb, eb⟩ : ∃ Hb, Hb = upd Ha lb (.lst [.int t, .int (t - t % wd)]) := ⟨_, rfl⟩
    rw [← eb] at kb
    have mb : Hb lb = some (.lst [.int t, .int (t - t % wd)]) := by
      rw [eb]
      exact upd_same
    have r0 := Int.emod_nonneg t (show wd ≠ 0 by omega)
    have r1 := Int.emod_lt_of_pos t w0.1
    refine ⟨lb, rfl, ⟨_, SqL.of (eb ▸ mb)⟩, for_list (K := K) (a := lb) (xs := [.int t, .int (t - t % wd)]) (fun i σ Hc => ∃ z8 z9 z10 : Option V,
      σ = [some (.ref p), some (.int t), some (.int x), some (.int wd), some (.ref l6), some (.int (t - t % wd)), some (.ref l9), some (.int (t + ed)), z8, z9, z10] ∧ Same Hb Hc) ?_ ?_ ?_ ?_⟩
    · refine ⟨none, none, none, ?_, fun c o z => eb ▸ z⟩
      rw [← ewV]
      rfl
    · rintro i σ Hc _ ⟨_, _, _, _, sc⟩
      exact SqL.of (sc _ _ mb)
    · rintro i xv σ Hc hx ⟨z8, z9, z10, rfl, sc⟩
      obtain ⟨sv, rfl, hs0, hs1⟩ : ∃ sv : Int, xv = .int sv ∧ t - wd < sv ∧ sv ≤ t := by
        match i, hx with
        | 0, hx => exact ⟨t, (Option.some.inj hx).symm, by omega, by omega⟩
        | 1, hx => exact ⟨t - t % wd, (Option.some.inj hx).symm, by omega, by omega⟩
        | n + 2, hx => cases hx
      -- row
      refine ⟨_, rfl, _, rfl, _, rfl, sv, t + ed, wd, rfl, w0.1, by omega, fun Hd ld j sd nd hld fj j60 => ?_⟩
      -- found
      refine ⟨_, rfl, _, rfl, _, rfl, sv, t + ed, wd, j, rfl, ⟨w0.1, by omega⟩, ⟨by omega, by omega⟩, ⟨by omega, by omega⟩, fj, j60, fun He le se ne me => ?_⟩
      have mr := se _ _ hld
      have ned : ld ≠ le := ne_of_none hld ne
      have sf := sc.trans (sd.trans se)
      have fre : Hb le = none := (sc.trans sd).free ne
      refine ⟨_, rfl, .ref le, .ty "list", .type "list", .type "list", true, rfl, .ty "list", .base (.lst me), kit_ty (by decide +kernel), true, rfl, ?_⟩
      refine if_f ?_
      refine ⟨_, rfl, _, rfl, .list ((cl (fst sv wd) wd j).map PyData.int), .list ((cl (fst sv wd) wd j).map PyData.int), dp_lst (SqL.of me), dp_lst (SqL.of mr), shaped_ints _, shaped_ints _, false, congrArg V.bl ne_ints, if_f ?_⟩
      -- found.append(0)
      refine ⟨_, rfl, .inl ⟨rfl, _, SqL.of me⟩, le, _, _, rfl, rfl, me, ?_, ?_⟩
      · rw [List.length_map, cl_length]
        exact small1000 (by omega)
      · have mg2 : (upd He le (.lst ((cl (fst sv wd) wd j).map V.int ++ [.int 0]))) ld = some (.lst ((cl (fst sv wd) wd j).map V.int)) := by
          rw [upd_ne ned]
          exact mr
        have sg : Same Hb (upd He le (.lst ((cl (fst sv wd) wd j).map V.int ++ [.int 0]))) := fun c o e => by
          rw [upd_ne (ne_of_none e fre)]
          exact sf c o e
        refine ⟨_, rfl, _, rfl, _, rfl, rfl, sv, t + ed, wd, j, rfl, ⟨w0.1, by omega⟩, ⟨by omega, by omega⟩, ⟨by omega, by omega⟩, fj, j60, fun Hg lh sh nh mh => ?_⟩
        refine ⟨_, rfl, .list ((cl (fst sv wd) wd j).map PyData.int), .list ((cl (fst sv wd) wd j).map PyData.int), dp_lst (SqL.of mh), dp_lst (SqL.of (sh _ _ mg2)), shaped_ints _, shaped_ints _, false, congrArg V.bl ne_ints, if_f ?_⟩
        exact ⟨_, _, _, rfl, sg.trans sh⟩
    · rintro σ Hc ⟨_, _, _, rfl, sc⟩
      exact q Hc (kb.trans (.of sc))
/-! ### the law -/
def spLaw (K : PySem.W.Frag) : Sp := fun vs H Q _ => ∃ (a : Addr) (ns : List Int), vs = [.ref a] ∧ SqL K H a (ns.map V.int) ∧ ns.length ≤ 63 ∧ ∀ H', Q (.bl true) H'
theorem ok_law {f fR fD : Addr} {fd fdR fdD : FuncData} {k : Nat} (F : Fun K "law" "law" sLaw f fd) (R : FnOk P w K mg base CX0 k fR fdR ["_law_draws_here"] spRight) (gR : mg "_law_right" = some (.ref fR)) (kR : PySem.W.keepIn K (.ref fR) = true) (bR : Binds K fdR ["_law_draws_here"] [])
    (D : FnOk P w K mg base CX0 k fD fdD ["_law_cell"] spDraws) (gD : mg "_law_draws" = some (.ref fD)) (kD : PySem.W.keepIn K (.ref fD) = true) (bD : Binds K fdD ["_law_cell"] []) : FnOk P w K mg base CX0 (k + 1) f fd ["_law_script"] (spLaw K) := by
  refine F.ok scLaw (fun vs H Q E h => ?_) (fun cdv A outer s H vs Q E hr h => ?_)
  · obtain ⟨a, ns, rfl, _⟩ := h
    rfl
  · obtain ⟨a, ns, rfl, hS, hlen, q⟩ := h
    refine ⟨_, pss_cons (ps_for PassesOwn.never rfl (pi_list (pe_op op_cat (pe_slice sl_list (pv 0) po_none (po_some pe_int)) (pe_lst (pa_cons pe_int pa_nil)))) (pg_name (i := 1) scLaw.nd rfl (.inl rfl))
        (pss_cons (ps_set (i := 2) scLaw.nd rfl (.inl rfl) (pe_call D hr (by rfl) gD kD bD .nil pass0 (pa_cons (pv 1) pa_nil)))
        (pss_one (ps_if (pt_not (pt_val (pe_call R hr (by rfl) gR kR bR .nil pass0 (pa_cons (pv 2) pa_nil)))) (pss_one (ps_ret pe_bl)) pss_nil))))
      (pss_one (ps_ret pe_bl)), ?_⟩
    refine ⟨_, rfl, 12, rfl, a, _, rfl, hS, fun l1 n1 => ?_⟩
    refine ⟨Nat.le_of_lt (small1000 (by show 1 ≤ 1000; decide)), fun l2 n2 => ?_⟩
    have e1 : ∃ ms : List Int, cutV (ns.map V.int) none (some 12) = ms.map V.int ∧ ms.length ≤ 63 := by
      unfold cutV
      refine ⟨(ns.drop (HT.sIx (ns.map V.int).length 0 none)).take (HT.sIx (ns.map V.int).length (ns.map V.int).length (some 12) - HT.sIx (ns.map V.int).length 0 none), ?_, ?_⟩
      · rw [List.map_take, List.map_drop]
      · rw [List.length_take, List.length_drop]
        omega
    obtain ⟨ms, em, lm⟩ := e1
    have m1 : (upd (upd H l1 (.lst (cutV (ns.map V.int) none (some 12)))) l2 (.lst [.int 0])) l1 = some (.lst (ms.map V.int)) := by
      rw [upd_ne (ne_of_none upd_same n2), upd_same, em]
    refine ⟨l1, l2, _, _, rfl, rfl, m1, upd_same, ?_, fun l3 n3 => ?_⟩
    · rw [List.length_map]
      exact Nat.le_of_lt (small1000 (by show ms.length + 1 ≤ 1000; omega))
    · generalize upd (upd H l1 (.lst (cutV (ns.map V.int) none (some 12)))) l2 (.lst [.int 0]) = H2 at n3
      have m3 : (upd H2 l3 (.lst ((ms ++ [0]).map V.int))) l3 = some (.lst ((ms ++ [0]).map V.int)) := upd_same
      have e3 : (ms.map V.int ++ [V.int 0]) = (ms ++ [0]).map V.int := by
        rw [List.map_append]
        rfl
      rw [e3]
      revert m3
      generalize upd H2 l3 (.lst ((ms ++ [0]).map V.int)) = H3
      intro m3
      refine ⟨l3, rfl, ⟨_, SqL.of m3⟩, for_list (K := K) (a := l3) (xs := (ms ++ [0]).map V.int) (fun i σ Hc => ∃ z1 z2 : Option V, σ = [some (.ref a), z1, z2] ∧ Hc l3 = some (.lst ((ms ++ [0]).map V.int))) ⟨none, none, rfl, m3⟩ ?_ ?_ ?_⟩
      · rintro i σ Hc _ ⟨_, _, _, h⟩
        exact SqL.of h
      · rintro i xv σ Hc hx ⟨z1, z2, rfl, hc⟩
        obtain ⟨c, rfl⟩ : ∃ c : Int, xv = .int c := by
          rw [List.getElem?_map] at hx
          obtain ⟨c, _, e⟩ := Option.map_eq_some_iff.mp hx
          exact ⟨c, e.symm⟩
        refine ⟨_, rfl, c, rfl, fun p da db np => ?_⟩
        have np3 : l3 ≠ p := ne_of_none hc np
        refine ⟨_, rfl, p, rfl, ⟨da, 0, db, upd_same, by decide, by decide⟩, fun Hd kd => ?_⟩
        refine ⟨true, rfl, if_f ⟨_, _, rfl, kd _ _ np3 ?_⟩⟩
        rw [upd_ne np3]
        exact hc
      · rintro σ Hc ⟨_, _, rfl, _⟩
        exact q Hc
end
end Tg

namespace Tg
open PySem PySem.Spec PyProof.Rows L2
section
variable {K : PySem.W.Frag}
theorem kbn_cellOf {f : Addr} {fd : FuncData} (F : Fun K "cell_of" "cell_of" sCellOf f fd) : KBn K fd ["time", "width"] 0 ["width", "time"] (fun _ ws => sw2 ws) (fun _ zs => sw2 zs) := by
  obtain ⟨_, _, kV, doc, pm, an, cdv, ct, _, rfl, _, _⟩ := F.ex
  exact ⟨fun s us ws _ h0 h2 => match us, ws, h0, h2 with | [], [_, _], _, _ => .of_eq rfl, fun _ r => sw2_rel r⟩
theorem kbn_cells {f : Addr} {fd : FuncData} (F : Fun K "cells" "cells" sCells f fd) : KBn K fd ["start", "end", "width"] 0 ["width", "end", "start"] (fun _ ws => sw3 ws) (fun _ zs => sw3 zs) := by
  obtain ⟨_, _, kV, doc, pm, an, cdv, ct, _, rfl, _, _⟩ := F.ex
  exact ⟨fun s us ws _ h0 h2 => match us, ws, h0, h2 with | [], [_, _, _], _, _ => .of_eq rfl, fun _ r => sw3_rel r⟩
end
/-! ### what the top has written; the law's own head -/
theorem all_mk {l : PySem.W.OpenLaw} {w : World} {K : PySem.W.Frag} {h : Heap} {mg : Str → Option Value} {fa f1 f2 f3 f4 f5 f6 f7 f8 : Addr} (X : K.In h) (G : h.Ns mainGlobals mg) (hfa : mg "law" = some (.ref fa))
    {od1 an1 od2 an2 od3 an3 od4 an4 od5 an5 od6 an6 od7 an7 od8 an8 : Option Addr} {sl1 sl2 sl3 sl4 sl5 sl6 sl7 sl8 : Array (Option Value)} {oc1 kV1 dc1 pm1 cd1 ct1 oc2 kV2 dc2 pm2 cd2 ct2 oc3 kV3 dc3 pm3 cd3 ct3 oc4 kV4 dc4 pm4 cd4 ct4 oc5 kV5 dc5 pm5 cd5 ct5 oc6 kV6 dc6 pm6 cd6 ct6 oc7 kV7 dc7 pm7 cd7 ct7 oc8 kV8 dc8 pm8 cd8 ct8 : Value}
    (a1 : PySem.W.nsIn K mainGlobals "cell_of" = some (some (.ref f1))) (l1 : K.lookup f1 = some ⟨oc1, od1, .func (PySem.W.fnOf "cell_of" "cell_of" (defArgs sCellOf) (defBody sCellOf) (defScope sCellOf) .none kV1 dc1 pm1 an1 cd1 ct1), sl1⟩) (c1 : PySem.W.codeIn K cd1 "cell_of" = true) (k1 : PySem.W.keepIn K (.ref f1) = true)
    (a2 : PySem.W.nsIn K mainGlobals "cells" = some (some (.ref f2))) (l2 : K.lookup f2 = some ⟨oc2, od2, .func (PySem.W.fnOf "cells" "cells" (defArgs sCells) (defBody sCells) (defScope sCells) .none kV2 dc2 pm2 an2 cd2 ct2), sl2⟩) (c2 : PySem.W.codeIn K cd2 "cells" = true) (k2 : PySem.W.keepIn K (.ref f2) = true)
    (a3 : PySem.W.nsIn K mainGlobals "_law_draws" = some (some (.ref f3))) (l3 : K.lookup f3 = some ⟨oc3, od3, .func (PySem.W.fnOf "_law_draws" "_law_draws" (defArgs sDraws) (defBody sDraws) (defScope sDraws) .none kV3 dc3 pm3 an3 cd3 ct3), sl3⟩) (c3 : PySem.W.codeIn K cd3 "_law_draws" = true) (k3 : PySem.W.keepIn K (.ref f3) = true)
    (a4 : PySem.W.nsIn K mainGlobals "_law_next" = some (some (.ref f4))) (l4 : K.lookup f4 = some ⟨oc4, od4, .func (PySem.W.fnOf "_law_next" "_law_next" (defArgs sNext) (defBody sNext) (defScope sNext) .none kV4 dc4 pm4 an4 cd4 ct4), sl4⟩) (c4 : PySem.W.codeIn K cd4 "_law_next" = true) (k4 : PySem.W.keepIn K (.ref f4) = true)
    (a5 : PySem.W.nsIn K mainGlobals "_law_time" = some (some (.ref f5))) (l5 : K.lookup f5 = some ⟨oc5, od5, .func (PySem.W.fnOf "_law_time" "_law_time" (defArgs sTime) (defBody sTime) (defScope sTime) .none kV5 dc5 pm5 an5 cd5 ct5), sl5⟩) (c5 : PySem.W.codeIn K cd5 "_law_time" = true) (k5 : PySem.W.keepIn K (.ref f5) = true)
    (a6 : PySem.W.nsIn K mainGlobals "_law_cells" = some (some (.ref f6))) (l6 : K.lookup f6 = some ⟨oc6, od6, .func (PySem.W.fnOf "_law_cells" "_law_cells" (defArgs sLCells) (defBody sLCells) (defScope sLCells) .none kV6 dc6 pm6 an6 cd6 ct6), sl6⟩) (c6 : PySem.W.codeIn K cd6 "_law_cells" = true) (k6 : PySem.W.keepIn K (.ref f6) = true)
    (a7 : PySem.W.nsIn K mainGlobals "_law_right" = some (some (.ref f7))) (l7 : K.lookup f7 = some ⟨oc7, od7, .func (PySem.W.fnOf "_law_right" "_law_right" (defArgs sRight) (defBody sRight) (defScope sRight) .none kV7 dc7 pm7 an7 cd7 ct7), sl7⟩) (c7 : PySem.W.codeIn K cd7 "_law_right" = true) (k7 : PySem.W.keepIn K (.ref f7) = true)
    (a8 : PySem.W.nsIn K mainGlobals "law" = some (some (.ref f8))) (l8 : K.lookup f8 = some ⟨oc8, od8, .func (PySem.W.fnOf "law" "law" (defArgs sLaw) (defBody sLaw) (defScope sLaw) .none kV8 dc8 pm8 an8 cd8 ct8), sl8⟩) (c8 : PySem.W.codeIn K cd8 "law" = true) (k8 : PySem.W.keepIn K (.ref f8) = true)
    (z1 : PySem.W.nsIn K mainGlobals "range" = some none)
    (z2 : PySem.W.nsIn K mainGlobals "list" = some none)
    (z3 : PySem.W.nsIn K mainGlobals "isinstance" = some none)
    (z4 : PySem.W.nsIn K mainGlobals "int" = some none)
    (z5 : PySem.W.nsIn K mainGlobals "bool" = some none)
    : ∃ fd : FuncData, (∀ (s : Shared) (v : Value), BindsTo s fd ⟨[v], []⟩ [("_law_script", v)]) ∧ ∀ base : Heap, K.In base → base.Ns mainGlobals mg → FnOk l.prog w K mg base CX0 4 fa fd ["_law_script"] (spLaw K) := by
  have e := hfa.symm.trans (PySem.W.mg_of X G a8)
  cases e
  have F1 := fun_mk (st := sCellOf) l1 c1 k1
  have F2 := fun_mk (st := sCells) l2 c2 k2
  have F3 := fun_mk (st := sDraws) l3 c3 k3
  have F4 := fun_mk (st := sNext) l4 c4 k4
  have F5 := fun_mk (st := sTime) l5 c5 k5
  have F6 := fun_mk (st := sLCells) l6 c6 k6
  have F7 := fun_mk (st := sRight) l7 c7 k7
  have F8 := fun_mk (st := sLaw) l8 c8 k8
  have b1 := F1.binds (ps := ["time", "width"]) fun _ _ _ _ _ _ us hl => match us, hl with | [_, _], _ => rfl
  have b2 := F2.binds (ps := ["start", "end", "width"]) fun _ _ _ _ _ _ us hl => match us, hl with | [_, _, _], _ => rfl
  have b3 := F3.binds (ps := ["_law_cell"]) fun _ _ _ _ _ _ us hl => match us, hl with | [_], _ => rfl
  have b4 := F4.binds (ps := ["_law_draws_here"]) fun _ _ _ _ _ _ us hl => match us, hl with | [_], _ => rfl
  have b5 := F5.binds (ps := ["_law_draws_here"]) fun _ _ _ _ _ _ us hl => match us, hl with | [_], _ => rfl
  have b6 := F6.binds (ps := ["_law_a_start", "_law_a_end", "_law_a_width"]) fun _ _ _ _ _ _ us hl => match us, hl with | [_, _, _], _ => rfl
  have b7 := F7.binds (ps := ["_law_draws_here"]) fun _ _ _ _ _ _ us hl => match us, hl with | [_], _ => rfl
  have g1 := PySem.W.mg_of X G a1
  have g2 := PySem.W.mg_of X G a2
  have g3 := PySem.W.mg_of X G a3
  have g4 := PySem.W.mg_of X G a4
  have g5 := PySem.W.mg_of X G a5
  have g6 := PySem.W.mg_of X G a6
  have g7 := PySem.W.mg_of X G a7
  have y1 := PySem.W.mg_none_of X G z1
  have y2 := PySem.W.mg_none_of X G z2
  have y3 := PySem.W.mg_none_of X G z3
  have y4 := PySem.W.mg_none_of X G z4
  have y5 := PySem.W.mg_none_of X G z5
  refine ⟨PySem.W.fnOf "law" "law" (defArgs sLaw) (defBody sLaw) (defScope sLaw) .none kV8 dc8 pm8 an8 cd8 ct8, fun s v => .of_eq rfl, fun base _ _ => ?_⟩
  have q1 := kbn_cellOf F1
  have q2 := kbn_cells F2
  have T : Fns l.prog w K mg base 2 := ⟨⟨f4, _, ok_next F4, g4, k4, b4⟩, ⟨f5, _, ok_time F5 F4 b4 g4, g5, k5, b5⟩, ⟨f6, _, ok_lcells F6, g6, k6, b6⟩, ⟨f1, _, ok_cellOf F1, g1, k1, b1, q1⟩,
    ⟨f2, _, ok_cells F2 F1 b1 g1 y2 y1, g2, k2, b2, q2⟩, y3, y4, y5, y2⟩
  exact ok_law F8 (ok_right F7 T) g7 k7 b7 (ok_draws F3 y1) g3 k3 b3
end Tg
open PySem PySem.W PyProof.Rows
set_option maxRecDepth 100000 in
set_option maxHeartbeats 0 in
theorem PySem.Challenge.cw_timegranary_k01_cells_holds : PySem.Challenge.rw_timegranary_k01_cells.Holds := by
  w_on; o_law; k_head; (case hw => w_witness2)
  k_fill
  refine L2.walk_of (l := PySem.Challenge.rw_timegranary_k01_cells) (n := 63) (k := 4) (x := "_law_script") (CX := fun _ => L2.CX0) (sp := fun w => Tg.spLaw _) rfl (by decide) rfl ⟨rfl, by decide, by decide⟩ (fun w h Y => PySem.W.kIn_of Y) ?F (fun _ _ a ns hl _ hS => ⟨a, ns, rfl, hS, hl, fun _ => rfl⟩) (fun _ _ _ _ _ h => h)
  case F =>
    intro w mg fa h KX G hmg
    refine' Tg.all_mk KX G hmg ?a1 ?l1 ?c1 ?k1 ?a2 ?l2 ?c2 ?k2 ?a3 ?l3 ?c3 ?k3 ?a4 ?l4 ?c4 ?k4 ?a5 ?l5 ?c5 ?k5 ?a6 ?l6 ?c6 ?k6 ?a7 ?l7 ?c7 ?k7 ?a8 ?l8 ?c8 ?k8 ?z1 ?z2 ?z3 ?z4 ?z5
    (case a1 => k_is); (case l1 => k_is); (case c1 => k_is); (case k1 => k_is)
    (case a2 => k_is); (case l2 => k_is); (case c2 => k_is); (case k2 => k_is)
    (case a3 => k_is); (case l3 => k_is); (case c3 => k_is); (case k3 => k_is)
    (case a4 => k_is); (case l4 => k_is); (case c4 => k_is); (case k4 => k_is)
    (case a5 => k_is); (case l5 => k_is); (case c5 => k_is); (case k5 => k_is)
    (case a6 => k_is); (case l6 => k_is); (case c6 => k_is); (case k6 => k_is)
    (case a7 => k_is); (case l7 => k_is); (case c7 => k_is); (case k7 => k_is)
    (case a8 => k_is); (case l8 => k_is); (case c8 => k_is); (case k8 => k_is)
    (case z1 => k_is); (case z2 => k_is); (case z3 => k_is); (case z4 => k_is); (case z5 => k_is)

